import PyProof.Rows.All
import Wide.All
import OpenK.AllK
import Wide.FinOn
import Lean
import PyProof.EqAt
import PyProof.EqKinds
import PyProof.TupleCall
import PyProof.NeKinds
import KE.KTryMore
import KE.RegKTryMore
import KE.RegKIsAll
import PyProof.ExcBaseAll.ValueError
import PyProof.ExcBaseAll.Exception
import PyProof.ExcAttrAll.ValueError
import PySem.Challenge.RW_tilefall_k75_pieces_within_pieces
set_option Elab.async false
set_option linter.all false
set_option maxRecDepth 100000
def PySem.W.Fast.tw13124529561367234900:=0
def PySem.W.Fast.tw4871811181384600956:=0
def PySem.W.Fast.tw7472860071376078153:=0
def PySem.W.Fast.tw2174301070393783246:=0
def PySem.W.Fast.tw2614118042639664316:=0
def PySem.W.Fast.tw16164024074695285996:=0
def PySem.W.Fast.tw5665809024613299546:=0
def PySem.W.Fast.tw5121305140794283791:=0
def PySem.W.Fast.tw9157633169022330534:=0
def PySem.W.Fast.tw8684674421657585074:=0
def PySem.W.Fast.tw11397955464286266077:=0
def PySem.W.Fast.tw6009652851151019911:=0
def PySem.W.Fast.tw10736863821079149798:=0
def PySem.W.Fast.tw10002355609282067141:=0
def PySem.W.Fast.tw13830813238592967949:=0
def PySem.W.Fast.tw11471959495006340807:=0
def PySem.W.Fast.tw2628223823761915817:=0
def PySem.W.Fast.tw16836817940380322001:=0
def PySem.W.Fast.tw13137460758610963374:=0
def PySem.W.Fast.tw6994638769725226093:=0
def PySem.W.Fast.tw10620974499260389797:=0
def PySem.W.Fast.tw7346501910299197504:=0
def PySem.W.Fast.tw6747320159873755983:=0
def PySem.W.Fast.tw7170856098761928876:=0
namespace L2
open PySem PySem.Spec PyProof.Rows
noncomputable abbrev Key:=Sum Int Str
noncomputable def aPd:Key->Value->Bool
 | .inl k,v=>Value.isInt k v
 | .inr x,v=>Value.isStrOf x v
noncomputable def aS1 (w:World):Key->Int
 | .inl k=>hashInt k
 | .inr x=>hashStr w x
theorem aBn:∀ {k:Key} {v:Value},aPd k v=true->(∃ i t,k=Sum.inl i/\v=Value.int i t)∨(∃ x t,k=Sum.inr x/\v=Value.str x t)
 | .inl i,v,h=>by
  obtain ⟨t,e⟩:=Value.isInt_shape (k:=i) (v:=v) h
  exact .inl ⟨i,t,rfl,e⟩
 | .inr x,v,h=>by
  obtain ⟨t,e⟩:=Value.isStrOf_shape (x:=x) (v:=v) h
  exact .inr ⟨x,t,rfl,e⟩
theorem aRr (i:Int) (t:Tok):aPd (.inl i) (.int i t)=true:=by simp [aPd,Value.isInt]
theorem aDk (x:Str) (t:Tok):aPd (.inr x) (.str x t)=true:=by simp [aPd,Value.isStrOf]
theorem bBk (a b:Int):decide ((Sum.inl a:Key)=Sum.inl b)=(a==b):=by
 by_cases e:a=b
 ·subst e; simp
 ·have h:¬ (Sum.inl a:Key)=Sum.inl b:=fun q=>e (Sum.inl.inj q)
  rw [decide_eq_false h]
  exact (beq_eq_false_iff_ne.mpr e).symm
theorem bBh (a b:Str):decide ((Sum.inr a:Key)=Sum.inr b)=decide (a=b):=by
 by_cases e:a=b
 ·subst e; simp
 ·have h:¬ (Sum.inr a:Key)=Sum.inr b:=fun q=>e (Sum.inr.inj q)
  rw [decide_eq_false h,decide_eq_false e]
theorem bBj (a:Int) (b:Str):decide ((Sum.inl a:Key)=Sum.inr b)=false:=decide_eq_false (fun q=>nomatch q)
theorem bBi (a:Str) (b:Int):decide ((Sum.inr a:Key)=Sum.inl b)=false:=decide_eq_false (fun q=>nomatch q)
noncomputable def aBu (prog:Program) (w:World):PySem.KeyKind prog w Key where
 is:=aPd
 hash:=aS1 w
 inj:=fun v a b ha hb=>by
  rcases aBn ha with ⟨i,t,rfl,rfl⟩ | ⟨x,t,rfl,rfl⟩
  ·rcases aBn hb with ⟨j,u,rfl,e⟩ | ⟨y,u,rfl,e⟩
   ·injection e with e1 _; rw [e1]
   ·exact nomatch e
  ·rcases aBn hb with ⟨j,u,rfl,e⟩ | ⟨y,u,rfl,e⟩
   ·exact nomatch e
   ·injection e with e1 _; rw [e1]
 byValue:=fun k v h=>by
  rcases aBn h with ⟨i,t,rfl,rfl⟩ | ⟨x,t,rfl,rfl⟩ <;> rfl
 pyHash:=fun hv h=>by
  rcases aBn hv with ⟨i,t,rfl,rfl⟩ | ⟨x,t,rfl,rfl⟩
  ·exact wpAny_pyHash_int h
  ·exact wpAny_pyHash_str h
 eqBool:=fun hu hv h=>by
  rcases aBn hu with ⟨i,t,rfl,rfl⟩ | ⟨x,t,rfl,rfl⟩
  ·rcases aBn hv with ⟨j,u,rfl,rfl⟩ | ⟨y,u,rfl,rfl⟩
   ·rw [bBk] at h; exact wpAny_eqBool_int h
   ·rw [bBj] at h; exact SeqAt.EqAt.int_str i t y u _ _ _ _ h
  ·rcases aBn hv with ⟨j,u,rfl,rfl⟩ | ⟨y,u,rfl,rfl⟩
   ·rw [bBi] at h; exact SeqAt.EqAt.str_int x t j u _ _ _ _ h
   ·rw [bBh] at h; exact wpAny_eqBool_str h
 «strs»:=fun k x t v h=>by
  rcases aBn h with ⟨i,u,rfl,e⟩ | ⟨y,u,rfl,e⟩
  ·exact nomatch e
  ·injection e with e1 _
   subst e1
   cases v <;> rfl
theorem aMw (prog:Program) (w:World) (i:Int) (t:Tok):(aBu prog w).is (.inl i) (.int i t)=true:=aRr i t
theorem aMv (prog:Program) (w:World) (x:Str) (t:Tok):(aBu prog w).is (.inr x) (.str x t)=true:=aDk x t
end L2
namespace L2
open PySem PySem.Spec PyProof.Rows
inductive V where
 | non | bl (b:Bool) | int (i:Int) | str (x:Str) | byt (b:Array UInt8) | flt (b:UInt64) | ref (a:Addr) | ty (n:String)
 deriving DecidableEq
noncomputable def aB0:V->Value->Prop
 | .non,u=>u=Value.none
 | .bl b,u=>u=Value.bool b
 | .int i,u=>∃ t,u=Value.int i t
 | .str x,u=>∃ t,u=Value.str x t
 | .byt b,u=>∃ t,u=Value.bytes b t
 | .flt b,u=>∃ t,u=Value.float b t
 | .ref a,u=>u=Value.ref a
 | .ty n,u=>u=Value.type n
noncomputable abbrev aB5:List V->List Value->Prop:=Paired aB0
theorem aB5.length {xs:List V} {us:List Value} (r:aB5 xs us):xs.length=us.length:=Paired.length r
theorem aB5.get:∀ {xs:List V} {us:List Value} {i:Nat} {x:V},aB5 xs us->xs[i]?=some x->∃ u,us[i]?=some u/\aB0 x u
 | _,_,_,_,.nil,e=>by simp at e
 | _,_,0,_,.cons r _,e=>by simp at e; subst e; exact ⟨_,rfl,r⟩
 | _,_,i+1,x,.cons _ t,e=>by
  obtain ⟨u,h1,h2⟩:=aB5.get (i:=i) (x:=x) t (by simpa using e)
  exact ⟨u,by simpa using h1,h2⟩
theorem aB5.append:∀ {xs ys:List V} {us ws:List Value},aB5 xs us->aB5 ys ws->aB5 (xs++ys) (us++ws)
 | _,_,_,_,.nil,s=>s
 | _,_,_,_,.cons r t,s=>.cons r (aB5.append t s)
theorem aB5.take:∀ {xs:List V} {us:List Value} (n:Nat),aB5 xs us->aB5 (xs.take n) (us.take n)
 | _,_,0,_=>.nil
 | _,_,_+1,.nil=>.nil
 | _,_,n+1,.cons r t=>.cons r (aB5.take n t)
theorem aB5.drop:∀ {xs:List V} {us:List Value} (n:Nat),aB5 xs us->aB5 (xs.drop n) (us.drop n)
 | _,_,0,r=>r
 | _,_,_+1,.nil=>.nil
 | _,_,n+1,.cons _ t=>aB5.drop n t
noncomputable def aPi:Option V->Option Value->Prop
 | some v,some u=>aB0 v u
 | none,none=>True
 | _,_=>False
noncomputable def KV {κ:Type}:List (κ×V)->List (κ×Value)->Prop:=Paired fun (p:κ×V) (q:κ×Value)=>p.1=q.1/\aB0 p.2 q.2
noncomputable def kV:Key->V
 | .inl i=>.int i
 | .inr x=>.str x
inductive HO where
  | lst (xs:List V)
  | tup (xs:List V)
  | dK (kvs:List (Key×V)) | dT (kvs:List (List Key×V))
  | set (S:Int->Bool) (n:Nat)
  | ins (C dx:Addr) (fs:List (Str×V))
  | own (x:Addr)
  | xd (fs:List (Str×V))
  | met (f x:Addr)
  | rng (lo hi:Int)
  | frz (o:Obj) (u:HO)
  | tbl (ps:Array Value)
  | ext (φ:Heap->Prop)
noncomputable abbrev Hp:=Addr->Option HO
noncomputable def upd (H:Hp) (a:Addr) (o:HO):Hp:=fun b=>if b=a then some o else H b
theorem aAe {H:Hp} {a:Addr} {o:HO}:upd H a o a=some o:=by unfold upd; rw [if_pos rfl]
theorem aA1 {H:Hp} {a b:Addr} {o:HO} (h:b≠a):upd H a o b=H b:=by unfold upd; rw [if_neg h]
theorem aW5 {H:Hp} {a b:Addr} {o u:HO} (h:H a=some o) (h':H b=some u) (d:o≠u):a≠b:=by
 intro e; subst e; rw [h] at h'; exact d (Option.some.inj h')
theorem aAh {H:Hp} {a b:Addr} {o:HO} (h:H a=some o) (h':H b=none):a≠b:=by
 intro e; subst e; rw [h] at h'; cases h'
section
variable (P:Program) (w:World)
noncomputable def aB3 (H:Hp) (h:Heap) (a:Addr):HO->Prop
 | .lst xs=>xs.length<=sizeLine/\∃ (its:List Value) (n:Nat),aB5 xs its/\h.get? a=some { cls:=.type "list",data:=.seq its.toArray n }
 | .tup xs=>(xs.length<=sizeLine/\∃ o,h.get? a=some o/\o.dict=none)/\∃ its:List Value,aB5 xs its/\IsTup h a its.toArray
 | .dK kvs=>kvs.length<=sizeLine/\(a==sysModules)=false/\∃ vs,KV kvs vs/\h.DictOf (aBu P w) a vs
 | .dT kvs=>kvs.length<=sizeLine/\(a==sysModules)=false/\∃ xs:List (List Key×Addr×Value),
   Paired (fun (p:List Key×V) (q:List Key×Addr×Value)=>p.1=q.1/\H q.2.1=some (.tup (p.1.map kV))/\aB0 p.2 q.2.2) kvs xs /\
   ∃ o es ep,h.get? a=some o/\o.ExactDict/\o.data=.dict es ep/\es.toList=xs.map (entryOfKey (tupleKind (aBu P w)))/\(xs.map (·.1)).Nodup
 | .set S n=>h.SetOf (intKind P w) a S n
 | .ins C dx fs=>H dx=some (.own a)/\fs.length<=1000/\dx≠a/\h.get? a=some (PySem.W.instObj C dx) /\
   ∃ mA,h.Ns1 dx mA/\(∀ f,aPi (fs.lookup f) (mA f))/\PySem.Within mA (fs.map (·.1))
 | .own _=>∃ o,h.get? a=some o
 | .xd fs=>∃ mA,h.Ns1 a mA/\∀ f,aPi (fs.lookup f) (mA f)
 | .rng lo hi=>∃ t u v,h.get? a=some { cls:=.type "range",data:=.fields #[.int lo t,.int hi u,.int 1 v] }
 | .frz o u=>h.get? a=some o/\aB3 H h a u
 | .tbl ps=>h.get? a=some { cls:=.none,data:=.fields ps }
 | .met f x=>h.get? a=some (PySem.W.methodObj (.ref f) (.ref x))
 | .ext φ=>φ h/\(∃ o,h.get? a=some o)/\∀ h1 h2:Heap,φ h1->(∀ o,h1.get? a=some o->h2.get? a=some o)->φ h2
noncomputable def HOk (H:Hp) (h:Heap):Prop:=∀ a o,H a=some o->aB3 P w H h a o
end
section
variable {P:Program} {w:World} {H H':Hp} {h h':Heap} {a:Addr} {o:HO}
theorem aB3.lt (x:aB3 P w H h a o):a < h.objs.size:=by
 cases o with
 | lst xs=>obtain ⟨_,_,_,_,e⟩:=x; exact Heap.lt_size e
 | tup xs=>obtain ⟨_,_,_,p⟩:=x; exact p.lt
 | dK kvs=>obtain ⟨_,_,_,_,o,_,_,e,_⟩:=x; exact Heap.lt_size e
 | dT kvs=>obtain ⟨_,_,_,_,o,_,_,e,_⟩:=x; exact Heap.lt_size e
 | set S n=>obtain ⟨o,_,_,_,e,_⟩:=x; exact Heap.lt_size e
 | ins C dx fs=>obtain ⟨_,_,_,e,_⟩:=x; exact Heap.lt_size e
 | own y=>obtain ⟨_,e⟩:=x; exact Heap.lt_size e
 | xd fs=>obtain ⟨_,⟨_,_,_,e,_⟩,_⟩:=x; exact Heap.lt_size e
 | rng lo hi=>obtain ⟨_,_,_,e⟩:=x; exact Heap.lt_size e
 | frz ob u=>obtain ⟨e,_⟩:=x; exact Heap.lt_size e
 | tbl ps=>exact Heap.lt_size (show h.get? a=some _ from x)
 | met f y=>exact Heap.lt_size (show h.get? a=some _ from x)
 | ext φ=>obtain ⟨_,⟨_,e⟩,_⟩:=x; exact Heap.lt_size e
theorem Paired.mapP {α β:Type} {F G:α->β->Prop}:∀ {l₁:List α} {l₂:List β},Paired F l₁ l₂->(∀ a b,F a b->G a b)->Paired G l₁ l₂
 | _,_,.nil,_=>.nil
 | _,_,.cons r t,f=>.cons (f _ _ r) (Paired.mapP t f)
theorem aB3.stay (x:aB3 P w H h a o) (k:∀ b u,(b=a∨H b=some (.own a))->h.get? b=some u->h'.get? b=some u)
  (ho:∀ b,H b=some (.own a)->H' b=some (.own a)) (ht:∀ b xs,H b=some (.tup xs)->H' b=some (.tup xs)):aB3 P w H' h' a o:=by
 induction o with
 | lst xs=>obtain ⟨z,its,n,r,e⟩:=x; exact ⟨z,its,n,r,k _ _ (.inl rfl) e⟩
 | tup xs=>obtain ⟨⟨z,o1,e1,d1⟩,its,r,ob,e,c⟩:=x; exact ⟨⟨z,o1,k _ _ (.inl rfl) e1,d1⟩,its,r,ob,k _ _ (.inl rfl) e,c⟩
 | dK kvs=>obtain ⟨z,y,vs,r,ob,es,ep,e,c⟩:=x; exact ⟨z,y,vs,r,ob,es,ep,k _ _ (.inl rfl) e,c⟩
 | dT kvs =>
  obtain ⟨z,y,xs,r,ob,es,ep,e,c⟩:=x
  exact ⟨z,y,xs,Paired.mapP r fun p q z=>⟨z.1,ht _ _ z.2.1,z.2.2⟩,ob,es,ep,k _ _ (.inl rfl) e,c⟩
 | set S n=>obtain ⟨ob,es,ep,t,e,c⟩:=x; exact ⟨ob,es,ep,t,k _ _ (.inl rfl) e,c⟩
 | ins C dx fs =>
  obtain ⟨d,z,ne,e,mA,⟨od,es,ep,e2,c⟩,r⟩:=x
  exact ⟨ho _ d,z,ne,k _ _ (.inl rfl) e,mA,⟨od,es,ep,k _ _ (.inr d) e2,c⟩,r⟩
 | own y=>obtain ⟨ob,e⟩:=x; exact ⟨ob,k _ _ (.inl rfl) e⟩
 | xd fs=>obtain ⟨mA,⟨od,es,ep,e,c⟩,r⟩:=x; exact ⟨mA,⟨od,es,ep,k _ _ (.inl rfl) e,c⟩,r⟩
 | rng lo hi=>obtain ⟨t,u,v,e⟩:=x; exact ⟨t,u,v,k _ _ (.inl rfl) e⟩
 | frz ob u ih=>obtain ⟨e,q⟩:=x; exact ⟨k _ _ (.inl rfl) e,ih q⟩
 | tbl ps =>
  have e:h.get? a=some { cls:=.none,data:=.fields ps }:=x
  show h'.get? a=some { cls:=.none,data:=.fields ps }
  exact k a _ (.inl rfl) e
 | met f y =>
  have e:h.get? a=some (PySem.W.methodObj (.ref f) (.ref y)):=x
  show h'.get? a=some (PySem.W.methodObj (.ref f) (.ref y))
  exact k a _ (.inl rfl) e
 | ext φ=>obtain ⟨p,⟨o,e⟩,st⟩:=x; exact ⟨st _ _ p fun o q=>k _ _ (.inl rfl) q,⟨o,k _ _ (.inl rfl) e⟩,st⟩
theorem HOk.lt (x:HOk P w H h) (e:H a=some o):a < h.objs.size:=(x a o e).lt
theorem HOk.fresh (x:HOk P w H h) (e:h.objs.size<=a):H a=none:=by
 cases q:H a with
 | none=>rfl
 | some u=>exact absurd (Nat.lt_of_lt_of_le (x.lt q) e) (Nat.lt_irrefl _)
theorem HOk.kept (x:HOk P w H h) (k:∀ b u,h.get? b=some u->h'.get? b=some u):HOk P w H h':=fun a o e =>
 (x a o e).stay (fun b u _ q=>k b u q) (fun _ q=>q) fun _ _ q=>q
theorem HOk.laid (x:HOk P w H h) (k:∀ b u,h.get? b=some u->h'.get? b=some u) (hp:h.objs.size<=a) (new:aB3 P w (upd H a o) h' a o):HOk P w (upd H a o) h':=fun b u e=>by
 have hn:=x.fresh hp
 by_cases hb:b=a
 ·subst hb; rw [aAe] at e; cases e; exact new
 ·rw [aA1 hb] at e
  exact (x b u e).stay (fun c v _ q=>k c v q) (fun c q=>by rw [aA1 (aAh q hn)]; exact q) fun c xs q=>by rw [aA1 (aAh q hn)]; exact q
end
noncomputable def Rd (H:Hp) (a:Addr) (u:HO):Prop:=H a=some u∨∃ o,H a=some (.frz o u)
theorem Rd.ok {P:Program} {w:World} {H:Hp} {h:Heap} {a:Addr} {u:HO} (r:Rd H a u) (x:HOk P w H h):aB3 P w H h a u:=by
 rcases r with r | ⟨o,r⟩
 ·exact x a u r
 ·obtain ⟨_,q⟩:=x a _ r
  exact q
noncomputable def Mut:Option HO->Prop
 | some (.lst _)=>True
 | some (.dK _)=>True
 | some (.dT _)=>True
 | some (.set _ _)=>True
 | some (.ins _ _ _)=>True
 | some (.ext _)=>True
 | _=>False
section
variable {P:Program} {w:World} {H:Hp} {h h':Heap} {x e:Addr} {o':HO}
theorem HOk.write (ok:HOk P w H h) (mu:Mut (H x)) (he:e=x∨H e=some (.own x)) (k:∀ b u,b≠e->h.get? b=some u->h'.get? b=some u) (heo:∃ u,h'.get? e=some u)
  (new:aB3 P w (upd H x o') h' x o'):HOk P w (upd H x o') h':=fun b u q=>by
 have nown:∀ c y,H c=some (.own y)->c≠x:=fun c y r z=>by subst z; rw [r] at mu; exact mu
 have ntup:∀ c xs,H c=some (.tup xs)->c≠x:=fun c xs r z=>by subst z; rw [r] at mu; exact mu
 by_cases hb:b=x
 ·subst hb; rw [aAe] at q; cases q; exact new
 ·rw [aA1 hb] at q
  by_cases hbe:b=e
  ·have q':H b=some (.own x):=by
    rcases he with z | z
    ·exact absurd (hbe.trans z) hb
    ·rw [hbe]; exact z
   rw [q] at q'; cases q'
   obtain ⟨v,hv⟩:=heo
   exact ⟨v,by rw [hbe]; exact hv⟩
  ·refine (ok b u q).stay (fun c v hc r=>k c v ?_ r) (fun c r=>by rw [aA1 (nown c b r)]; exact r) fun c xs r=>by rw [aA1 (ntup c xs r)]; exact r
   rcases hc with rfl | hc
   ·exact hbe
   ·rintro rfl
    rcases he with z | z
    ·exact nown c b hc z
    ·rw [hc] at z; cases z; exact hb rfl
end
structure Un (fs ex:List Addr) (H H':Hp) (h h':Heap):Prop where
 keep:∀ b o,h.get? b=some o->H b=none->b∉fs->b∉ex->h'.get? b=some o
 slot:∀ b o,h.get? b=some o->H b=none->b∈fs->b∉ex->∃ sl,h'.get? b=some { o with slots:=sl }
 free:∀ b o,h.get? b=some o->H b=none->b∉ex->H' b=none
 there:∀ b o,h.get? b=some o->b∉ex->∃ o',h'.get? b=some o'
 tups:∀ b xs,H b=some (.tup xs)->H' b=some (.tup xs)
 frzs:∀ b o u,H b=some (.frz o u)->H' b=some (.frz o u)
 tbls:∀ b ps,H b=some (.tbl ps)->∃ more,H' b=some (.tbl (ps++more))
section
variable {fs fs' ex ex':List Addr} {H H1 H2:Hp} {h h1 h2 h':Heap} {a x e:Addr} {o:HO}
theorem Un.any (u:Un fs ex H H1 h h1) {b:Addr} {ob:Obj} (q:h.get? b=some ob) (n:H b=none) (hx:b∉ex):∃ sl,h1.get? b=some { ob with slots:=sl }:=by
 by_cases hb:b∈fs
 ·exact u.slot b ob q n hb hx
 ·exact ⟨ob.slots,u.keep b ob q n hb hx⟩
theorem Un.trans (a:Un fs ex H H1 h h1) (b:Un fs ex H1 H2 h1 h2):Un fs ex H H2 h h2 where
 keep:=fun c ob q n hc hx=>b.keep c ob (a.keep c ob q n hc hx) (a.free c ob q n hx) hc hx
 slot:=fun c ob q n hc hx=>by
  obtain ⟨sl,e1⟩:=a.slot c ob q n hc hx
  obtain ⟨sl',e2⟩:=b.slot c _ e1 (a.free c ob q n hx) hc hx
  exact ⟨sl',e2⟩
 free:=fun c ob q n hx=>by
  obtain ⟨o',e1⟩:=a.there c ob q hx
  exact b.free c o' e1 (a.free c ob q n hx) hx
 there:=fun c ob q hx=>by
  obtain ⟨o',e1⟩:=a.there c ob q hx
  exact b.there c o' e1 hx
 tups:=fun c xs q=>b.tups c xs (a.tups c xs q)
 frzs:=fun c ob xs q=>b.frzs c ob xs (a.frzs c ob xs q)
 tbls:=fun c ps q=>by
  obtain ⟨m1,e1⟩:=a.tbls c ps q
  obtain ⟨m2,e2⟩:=b.tbls c _ e1
  exact ⟨m1++m2,by rw [e2,Array.append_assoc]⟩
theorem Un.kept (k:∀ b u,h.get? b=some u->h'.get? b=some u):Un fs ex H H h h' :=
 ⟨fun b ob q _ _ _=>k b ob q,fun b ob q _ _ _=>⟨ob.slots,k b ob q⟩,fun _ _ _ n _=>n,fun b ob q _=>⟨ob,k b ob q⟩,fun _ _ q=>q,fun _ _ _ q=>q,fun _ ps q=>⟨#[],by rw [q]; simp⟩⟩
theorem Un.refl:Un fs ex H H h h:=Un.kept fun _ _ q=>q
theorem Un.laid (k:∀ b u,h.get? b=some u->h'.get? b=some u) (hp:h.objs.size<=a) (hn:H a=none):Un fs ex H (upd H a o) h h' where
 keep:=fun b u q _ _ _=>k b u q
 slot:=fun b u q _ _ _=>⟨u.slots,k b u q⟩
 free:=fun b u q n _=>by rw [aA1 (Nat.ne_of_lt (Nat.lt_of_lt_of_le (Heap.lt_size q) hp))]; exact n
 there:=fun b u q _=>⟨u,k b u q⟩
 tups:=fun b xs q=>by rw [aA1 (aAh q hn)]; exact q
 frzs:=fun b u xs q=>by rw [aA1 (aAh q hn)]; exact q
 tbls:=fun b ps q=>⟨#[],by rw [aA1 (aAh q hn),q]; simp⟩
theorem Un.write (mu:Mut (H x)) (he:e=x∨H e=some (.own x)) (k:∀ b u,b≠e->h.get? b=some u->h'.get? b=some u) (heo:∃ u,h'.get? e=some u):Un fs ex H (upd H x o) h h':=by
 have hx:∀ b,H b=none->b≠x:=fun b n z=>by subst z; rw [n] at mu; exact mu
 have hb:∀ b,H b=none->b≠e:=fun b n z=>by
  subst z
  rcases he with r | r
  ·exact hx b n r
  ·rw [n] at r; cases r
 have hm:∀ b u,H b=some u->¬ Mut (some u)->b≠x:=fun b u q nm z=>by subst z; rw [q] at mu; exact nm mu
 refine ⟨fun b u q n _ _=>k b u (hb b n) q,fun b u q n _ _=>⟨u.slots,k b u (hb b n) q⟩,fun b u q n _=>by rw [aA1 (hx b n)]; exact n,fun b u q _=>?_,
  fun b xs q=>by rw [aA1 (hm b _ q fun z=>z)]; exact q,fun b u xs q=>by rw [aA1 (hm b _ q fun z=>z)]; exact q,fun b ps q=>⟨#[],by rw [aA1 (hm b _ q fun z=>z),q]; simp⟩⟩
 by_cases hbe:b=e
 ·subst hbe; exact heo
 ·exact ⟨u,k b u hbe q⟩
end
noncomputable def trk (h:Heap) (H:Hp):List Addr:=(List.range h.objs.size).filter fun a=>(H a).isSome
noncomputable def aUa (h:Heap) (H:Hp):Heap:=PySem.W.hideAll h (trk h H)
theorem aRv (h:Heap) (H:Hp):(aUa h H).objs.size=h.objs.size:=PySem.W.hideAll_size _ _
theorem aT9 {h:Heap} {H:Hp} {b:Addr} {o:Obj} (e:h.get? b=some o) (n:H b=none):(aUa h H).get? b=some o :=
 PySem.W.hideAll_get _ e fun hm=>by
  have q:(H b).isSome=true:=(List.mem_filter.mp hm).2
  rw [n] at q; simp at q
theorem aW3 {h:Heap} {H:Hp} {b:Addr} {o:Obj} (e:(aUa h H).get? b=some o):h.get? b=some o/\H b=none:=by
 have e':h.get? b=some o:=PySem.W.of_hideAll (trk h H) e
 refine ⟨e',?_⟩
 cases q:H b with
 | none=>rfl
 | some x =>
  have hm:b∈trk h H:=List.mem_filter.mpr ⟨List.mem_range.mpr (Heap.lt_size e'),by simp [q]⟩
  have z:(aUa h H).get? b=none:=PySem.W.hideAll_none (trk h H) hm
  rw [z] at e; cases e
noncomputable def aX3 (g h:Heap) (L:Addr):List (Addr×Obj):=(List.range h.objs.size).filterMap fun a=>if a=L∨(g.get? a).isSome=true then none else (h.get? a).map fun o=>(a,o)
noncomputable def aIr (g h:Heap) (L d:Addr):List (Addr×Obj):=(aX3 g h L).filter fun p=>decide (p.1≠d)
end L2
namespace L2
open PySem PySem.Spec PyProof.Rows
structure Mod (K:PySem.W.Frag) (mg:Str->Option Value) (base:Heap):Prop where
 kin:K.In base
 glob:base.Ns mainGlobals mg
 blt:∃ mb,base.Ns builtinsNs mb/\∀ x:Str,x≠"__name__"->mb x=bootBuiltins x
 nolimit:base.NoLimit
set_option genInjectivity false in
set_option genSizeOfSpec false in
structure Cx where
 prog:Program
 w:World
 K:PySem.W.Frag
 mg:Str->Option Value
 base:Heap
 A:Around
 N:List Str
 s₀:Shared
 H₀:Hp
 env:Env
 outer:List Env
 stack:List Env
 ex:List Addr
 fn:Str->Bool
 calm:Bool
 pn:List (Addr×Obj)
 xe:Value->Shared->Prop
noncomputable def frs (l:List Env):List Addr:=l.filterMap (·.frame)
noncomputable abbrev Cx.fs (X:Cx):List Addr:=frs X.outer
noncomputable def Vis (sc:Scope) (x:Str):Prop:=sc.names.lookup x=some .local∨sc.names.lookup x=some .cell∨sc.names.lookup x=some .free
noncomputable def Loc (sc:Scope) (x:Str):Prop:=sc.names.lookup x=some .local∨sc.names.lookup x=some .cell
noncomputable def Look (env:Env) (h:Heap) (m:Str->Option Value) (x:Str) (u:Value):Prop :=
 (env.kindOf x=some .local/\m x=some u)∨((env.kindOf x=some .cell∨env.kindOf x=some .free)/\∃ c,env.cells.lookup x=some c/\h.IsCell c (some u))
structure Cx.Ok (X:Cx):Prop where
 mod:Mod X.K X.mg X.base
 kind:X.env.scope.kind=.function
 glob:X.env.globals=mainGlobals
 blt:X.env.builtins=builtinsNs
 above:X.s₀.heap.objs.size<=X.env.locals
 inj:∀ x y c,X.env.cells.lookup x=some c->X.env.cells.lookup y=some c->x=y
 has:∀ x,(X.env.kindOf x=some .cell∨X.env.kindOf x=some .free)->∃ c,X.env.cells.lookup x=some c
 cab:∀ x c,X.fn x=true->X.env.cells.lookup x=some c->X.s₀.heap.objs.size<=c
 hd:X.calm=true->X.A.handled=none
 frames:X.A.frames=some X.stack
 stk:X.stack=X.outer∨(X.stack=X.env::X.outer/\X.env.frame=some X.env.locals)
 exf:∀ b∈X.ex,b≠X.env.locals/\∀ x c,X.env.cells.lookup x=some c->c≠b
 bs:∀ b o,X.base.get? b=some o->X.s₀.heap.get? b=some o/\X.H₀ b=none
 bsz:X.base.objs.size<=X.s₀.heap.objs.size
 noex:∀ b o,X.base.get? b=some o->b∉X.ex
 exfs:∀ b∈X.ex,b∉X.fs
 funs:X.s₀.heap.FunFrames X.base X.outer
 frf:∀ b∈X.fs,X.H₀ b=none
structure Inv (X:Cx) (pins:List (Addr×Obj)) (σ:List (Option V)) (H:Hp) (s:Shared):Prop where
 ok:X.Ok
 os:s.os=X.s₀.os
 bare:AllBare s.gens
 base:Un X.fs X.ex X.H₀ H X.s₀.heap s.heap
 loc:∃ m,s.heap.Ns X.env.locals m/\∀ (i:Nat) (x:Str) (v:V),X.N[i]?=some x->σ[i]?=some (some v)->Vis X.env.scope x->∃ u,aB0 v u/\Look X.env s.heap m x u
 cell:∀ x c,X.env.cells.lookup x=some c->∃ v,s.heap.IsCell c v
 free:H X.env.locals=none
 freeC:∀ x c,X.env.cells.lookup x=some c->H c=none
 pin:∀ p∈X.pn++pins,s.heap.get? p.1=some p.2/\H p.1=none/\p.1≠X.env.locals/\p.1∉X.fs/\∀ v,p.2.data≠.cell v
 hok:HOk X.prog X.w H s.heap
 len:σ.length=X.N.length
section
variable {X:Cx} {pins:List (Addr×Obj)} {σ:List (Option V)} {H H':Hp} {s:Shared} {h':Heap}
theorem Cx.Ok.nofr (ok:X.Ok) {b:Addr} {o:Obj} (e:X.base.get? b=some o):b∉X.fs:=fun hb=>by
 have:=(ok.funs.mem hb).1
 rw [e] at this; cases this
theorem Inv.bs (I:Inv X pins σ H s):∀ b o,X.base.get? b=some o->s.heap.get? b=some o/\H b=none:=fun b o e =>
 ⟨I.base.keep b o (I.ok.bs b o e).1 (I.ok.bs b o e).2 (I.ok.nofr e) (I.ok.noex b o e),I.base.free b o (I.ok.bs b o e).1 (I.ok.bs b o e).2 (I.ok.noex b o e)⟩
theorem Inv.bk (I:Inv X pins σ H s):∀ b o,X.base.get? b=some o->s.heap.get? b=some o:=fun b o e=>(I.bs b o e).1
theorem Inv.mod (I:Inv X pins σ H s):Mod X.K X.mg X.base:=I.ok.mod
theorem Inv.kIn (I:Inv X pins σ H s):X.K.In s.heap:=I.ok.mod.kin.keeps I.bk
theorem Inv.lt (I:Inv X pins σ H s):X.env.locals < s.heap.objs.size:=let ⟨_,hn,_⟩:=I.loc; hn.lt
theorem Inv.sz (I:Inv X pins σ H s):X.s₀.heap.objs.size<=s.heap.objs.size:=Nat.le_trans I.ok.above (Nat.le_of_lt I.lt)
theorem Inv.nofs (I:Inv X pins σ H s) {a:Addr} (h:s.heap.objs.size<=a):a∉X.fs:=fun hb=>by
 obtain ⟨_,o,ho,_⟩:=I.ok.funs.mem hb
 exact absurd (Nat.lt_of_lt_of_le (Heap.lt_size ho) (Nat.le_trans I.sz h)) (Nat.lt_irrefl _)
theorem Inv.cne (I:Inv X pins σ H s):∀ x c,X.env.cells.lookup x=some c->c≠X.env.locals:=fun x c e z=>by
 obtain ⟨v,o,ho,hd⟩:=I.cell x c e
 obtain ⟨m,⟨o',es,ep,ho',hd',_⟩,_⟩:=I.loc
 rw [z,ho'] at ho; cases ho; rw [hd'] at hd; cases hd
theorem Inv.funs (I:Inv X pins σ H s):s.heap.FunFrames X.base X.outer:=by
 have all:∀ (l:List Env),(∀ b∈frs l,b∈X.fs)->X.s₀.heap.FunFrames X.base l->s.heap.FunFrames X.base l:=by
  intro l
  induction l with
  | nil=>intro _ _; trivial
  | cons env r ih =>
   intro hs hl
   obtain ⟨hk,⟨L,o,hf,hn,ho,hd⟩,hr⟩:=hl
   have hL:L∈X.fs:=hs L (by unfold frs; rw [List.filterMap_cons,hf]; exact List.mem_cons_self)
   obtain ⟨sl,e⟩:=I.base.slot L o ho (I.ok.frf L hL) hL fun z=>I.ok.exfs L z hL
   exact ⟨hk,⟨L,_,hf,hn,e,hd⟩,ih (fun b hb=>hs b (by unfold frs; rw [List.filterMap_cons,hf]; exact List.mem_cons_of_mem _ hb)) hr⟩
 exact all X.outer (fun _ hb=>hb) I.ok.funs
theorem Inv.stack (I:Inv X pins σ H s):s.heap.FunFrames X.base X.stack:=by
 rcases I.ok.stk with e | ⟨e,hf⟩
 ·rw [e]; exact I.funs
 ·rw [e]
  obtain ⟨m,hn,_⟩:=I.loc
  refine .cons (by rw [I.ok.kind]; decide) hf hn ?_ I.funs
  exact Heap.get?_none_of_le (Nat.le_trans I.ok.bsz I.ok.above)
theorem Inv.stkSub (I:Inv X pins σ H s):∀ b∈frs X.stack,b∈X.env.locals::X.fs:=fun b hb=>by
 rcases I.ok.stk with e | ⟨e,hf⟩
 ·rw [e] at hb; exact List.mem_cons_of_mem _ hb
 ·rw [e] at hb
  unfold frs at hb
  rw [List.filterMap_cons,hf] at hb
  exact hb
theorem Inv.stkFree (I:Inv X pins σ H s):∀ b∈frs X.stack,H b=none:=fun b hb=>by
 rcases List.mem_cons.mp (I.stkSub b hb) with e | hb
 ·rw [e]; exact I.free
 ·obtain ⟨_,o,ho,_⟩:=I.ok.funs.mem hb
  exact I.base.free b o ho (I.ok.frf b hb) fun z=>I.ok.exfs b z hb
theorem Inv.step {g':Array GenState} {t':Nat} {d':Drawn} {ch:List Addr} (I:Inv X pins σ H s)
  (hch:∀ b∈ch,(b∈X.ex∨X.s₀.heap.objs.size<=b)/\b≠X.env.locals/\(∀ x c,X.env.cells.lookup x=some c->c≠b)/\∀ p∈X.pn++pins,p.1≠b)
  (keep:∀ b o,b≠X.env.locals->b∉X.fs->b∉ch->s.heap.get? b=some o->H b=none->h'.get? b=some o)
  (slot:∀ b o,b≠X.env.locals->b∈X.fs->b∉ch->s.heap.get? b=some o->H b=none->∃ sl,h'.get? b=some { o with slots:=sl }) (free:∀ b o,b∉ch->s.heap.get? b=some o->H b=none->H' b=none)
  (there:∀ b o,b∉ch->s.heap.get? b=some o->∃ o',h'.get? b=some o')
  (tups:∀ b xs,H b=some (.tup xs)->H' b=some (.tup xs)) (frzs:∀ b o u,H b=some (.frz o u)->H' b=some (.frz o u)) (tbls:∀ b ps,H b=some (.tbl ps)->∃ more,H' b=some (.tbl (ps++more)))
  (ns:∀ m,s.heap.Ns X.env.locals m->h'.Ns X.env.locals m) (hok:HOk X.prog X.w H' h') (hg:AllBare g') :
  Inv X pins σ H' { s with heap:=h',gens:=g',drawn:=d',toks:=t' }:=by
 have neL:∀ b o,X.s₀.heap.get? b=some o->b≠X.env.locals:=fun b o e=>Nat.ne_of_lt (Nat.lt_of_lt_of_le (Heap.lt_size e) I.ok.above)
 have neC:∀ b o,X.s₀.heap.get? b=some o->b∉X.ex->b∉ch:=fun b o e hx hb=>by
  rcases (hch b hb).1 with z | z
  ·exact hx z
  ·exact absurd (Nat.lt_of_lt_of_le (Heap.lt_size e) z) (Nat.lt_irrefl _)
 have cellK:∀ x c,X.env.cells.lookup x=some c->∀ v,s.heap.IsCell c v->h'.IsCell c v:=fun x c e v ⟨o,ho,hd⟩=>by
  have nch:c∉ch:=fun z=>(hch c z).2.2.1 x c e rfl
  by_cases hc:c∈X.fs
  ·obtain ⟨sl,q⟩:=slot c o (I.cne x c e) hc nch ho (I.freeC x c e)
   exact ⟨_,q,hd⟩
  ·exact ⟨o,keep c o (I.cne x c e) hc nch ho (I.freeC x c e),hd⟩
 refine ⟨I.ok,I.os,hg,⟨fun b o e n hb hx=>?_,fun b o e n hb hx=>?_,fun b o e n hx=>?_,fun b o e hx=>?_,fun b xs e=>tups b xs (I.base.tups b xs e),fun b o xs e=>frzs b o xs (I.base.frzs b o xs e),fun b ps e=>?_⟩,?_,fun x c e=>?_,?_,fun x c e=>?_,fun p hp=>?_,hok,I.len⟩
 ·exact keep b o (neL b o e) hb (neC b o e hx) (I.base.keep b o e n hb hx) (I.base.free b o e n hx)
 ·obtain ⟨sl,e1⟩:=I.base.slot b o e n hb hx
  obtain ⟨sl',e2⟩:=slot b _ (neL b o e) hb (neC b o e hx) e1 (I.base.free b o e n hx)
  exact ⟨sl',e2⟩
 ·obtain ⟨o',e1⟩:=I.base.there b o e hx
  exact free b o' (neC b o e hx) e1 (I.base.free b o e n hx)
 ·obtain ⟨o',e1⟩:=I.base.there b o e hx
  exact there b o' (neC b o e hx) e1
 ·obtain ⟨m1,e1⟩:=I.base.tbls b ps e
  obtain ⟨m2,e2⟩:=tbls b _ e1
  exact ⟨m1++m2,by rw [e2,Array.append_assoc]⟩
 ·obtain ⟨m,hn,hl⟩:=I.loc
  refine ⟨m,ns m hn,fun i x v e1 e2 e3=>?_⟩
  obtain ⟨u,r,l⟩:=hl i x v e1 e2 e3
  refine ⟨u,r,?_⟩
  rcases l with l | ⟨k,c,e,z⟩
  ·exact .inl l
  ·exact .inr ⟨k,c,e,cellK x c e _ z⟩
 ·obtain ⟨v,z⟩:=I.cell x c e
  exact ⟨v,cellK x c e v z⟩
 ·obtain ⟨m,⟨o,_,_,ho,_⟩,_⟩:=I.loc
  exact free _ o (fun z=>(hch _ z).2.1 rfl) ho I.free
 ·obtain ⟨v,o,ho,hd⟩:=I.cell x c e
  exact free c o (fun z=>(hch c z).2.2.1 x c e rfl) ho (I.freeC x c e)
 ·obtain ⟨e,n,ne,nf,d⟩:=I.pin p hp
  have nch:p.1∉ch:=fun z=>(hch p.1 z).2.2.2 p hp rfl
  exact ⟨keep p.1 p.2 ne nf nch e n,free p.1 p.2 nch e n,ne,nf,d⟩
theorem Inv.un {t':Nat} (I:Inv X pins σ H s) (u:Un X.fs [] H H' s.heap h') (hok:HOk X.prog X.w H' h'):Inv X pins σ H' { s with heap:=h',toks:=t' }:=by
 obtain ⟨m,⟨o,es,ep,ho,r⟩,_⟩:=id I.loc
 obtain ⟨sl,hL⟩:=u.any ho I.free (by simp)
 exact I.step (g':=s.gens) (d':=s.drawn) (ch:=[]) (fun _ z=>nomatch z) (fun b o _ hb _ e n=>u.keep b o e n hb (by simp)) (fun b o _ hb _ e n=>u.slot b o e n hb (by simp)) (fun b o _ e n=>u.free b o e n (by simp)) (fun b o _ e=>u.there b o e (by simp)) u.tups u.frzs u.tbls (fun m' hm=>by
  obtain ⟨o',es',ep',ho',r'⟩:=hm
  rw [ho] at ho'; cases ho'
  exact ⟨_,es',ep',hL,r'⟩) hok I.bare
theorem Inv.call {g':Array GenState} {t':Nat} {d':Drawn} {ch:List Addr} (I:Inv X pins σ H s) (u:Un (frs X.stack) ch H H' s.heap h') (hok:HOk X.prog X.w H' h') (hg:AllBare g')
  (hch:∀ b∈ch,(b∈X.ex∨X.s₀.heap.objs.size<=b)/\b≠X.env.locals/\(∀ x c,X.env.cells.lookup x=some c->c≠b)/\∀ p∈X.pn++pins,p.1≠b) :
  Inv X pins σ H' { s with heap:=h',gens:=g',drawn:=d',toks:=t' }:=by
 obtain ⟨m,⟨o,es,ep,ho,r⟩,_⟩:=id I.loc
 obtain ⟨sl,hL⟩:=u.any ho I.free fun z=>(hch _ z).2.1 rfl
 exact I.step (ch:=ch) hch (fun b o hL hb hc e n=>u.keep b o e n (fun z=>(List.mem_cons.mp (I.stkSub b z)).elim hL hb) hc) (fun b o _ _ hc e n=>u.any e n hc) (fun b o hc e n=>u.free b o e n hc) (fun b o hc e=>u.there b o e hc) u.tups u.frzs u.tbls (fun m' hm=>by
  obtain ⟨o',es',ep',ho',r'⟩:=hm
  rw [ho] at ho'; cases ho'
  exact ⟨_,es',ep',hL,r'⟩) hok hg
theorem Inv.turned {t':Nat} {it:Addr} (I:Inv X pins σ H s) (k:∀ b o,b≠it->s.heap.get? b=some o->h'.get? b=some o) (hn:H it=none) (hL:it≠X.env.locals)
  (h1:it∈X.ex∨X.s₀.heap.objs.size<=it) (h2:∀ x c,X.env.cells.lookup x=some c->c≠it) (h3:∀ p∈X.pn++pins,p.1≠it):Inv X pins σ H { s with heap:=h',toks:=t' }:=by
 have nit:∀ b u,H b=some u->b≠it:=fun b u e z=>by rw [z,hn] at e; cases e
 refine I.step (g':=s.gens) (d':=s.drawn) (ch:=[it]) (fun b hb=>?_) (fun b o _ _ hc e _=>k b o (fun z=>hc (by simp [z])) e) (fun b o _ _ hc e _=>⟨o.slots,k b o (fun z=>hc (by simp [z])) e⟩) (fun _ _ _ _ n=>n)
  (fun b o hc e=>⟨o,k b o (fun z=>hc (by simp [z])) e⟩) (fun _ _ e=>e) (fun _ _ _ e=>e) (fun b ps e=>⟨#[],by rw [e]; simp⟩) (fun m hm=>?_) (fun b u e=>?_) I.bare
 ·have e:b=it:=by simpa using hb
  subst e
  exact ⟨h1,hL,h2,h3⟩
 ·obtain ⟨o,es,ep,ho,r⟩:=hm
  exact ⟨o,es,ep,k _ o (Ne.symm hL) ho,r⟩
 ·refine (I.hok b u e).stay (fun c v hc q=>k c v ?_ q) (fun _ q=>q) fun _ _ q=>q
  rcases hc with z | z
  ·rw [z]; exact nit b u e
  ·exact nit c _ z
theorem Inv.tok (I:Inv X pins σ H s) (t:Nat):Inv X pins σ H { s with toks:=t }:=I.un (h':=s.heap) (t':=t) Un.refl I.hok
theorem Inv.kept {t':Nat} (I:Inv X pins σ H s) (k:∀ b u,s.heap.get? b=some u->h'.get? b=some u):Inv X pins σ H { s with heap:=h',toks:=t' }:=I.un (Un.kept k) (I.hok.kept k)
theorem Inv.laid {a:Addr} {o:HO} {t':Nat} (I:Inv X pins σ H s) (k:∀ b u,s.heap.get? b=some u->h'.get? b=some u) (hp:s.heap.objs.size<=a) (new:aB3 X.prog X.w (upd H a o) h' a o) :
  Inv X pins σ (upd H a o) { s with heap:=h',toks:=t' }:=I.un (Un.laid k hp (I.hok.fresh hp)) (I.hok.laid k hp new)
theorem Inv.write {x e:Addr} {o:HO} {t':Nat} (I:Inv X pins σ H s) (mu:Mut (H x)) (he:e=x∨H e=some (.own x)) (k:∀ b u,b≠e->s.heap.get? b=some u->h'.get? b=some u) (heo:∃ u,h'.get? e=some u)
  (new:aB3 X.prog X.w (upd H x o) h' x o):Inv X pins σ (upd H x o) { s with heap:=h',toks:=t' }:=I.un (Un.write mu he k heo) (I.hok.write mu he k heo new)
theorem Inv.pins_of {pins':List (Addr×Obj)} (I:Inv X pins σ H s) (h:∀ p∈pins',s.heap.get? p.1=some p.2/\H p.1=none/\p.1≠X.env.locals/\p.1∉X.fs/\∀ v,p.2.data≠.cell v):Inv X pins' σ H s :=
 ⟨I.ok,I.os,I.bare,I.base,I.loc,I.cell,I.free,I.freeC,fun p hp=>(List.mem_append.mp hp).elim (fun z=>I.pin p (List.mem_append_left _ z)) (h p),I.hok,I.len⟩
theorem aJy {N:List Str} (hN:N.Nodup) {i j:Nat} {x:Str} (a:N[i]?=some x) (b:N[j]?=some x):i=j:=by
 obtain ⟨h1,e1⟩:=List.getElem?_eq_some_iff.mp a
 obtain ⟨h2,e2⟩:=List.getElem?_eq_some_iff.mp b
 exact (List.getElem_inj hN).mp (e1.trans e2.symm)
theorem aKl {M:Model} {A:Around} {E:Value->Shared->Prop} {i:Nat} {x:Str} {v:V} {u:Value} {Q:Unit->Shared->Prop} (I:Inv X pins σ H s) (hN:X.N.Nodup) (hi:X.N[i]?=some x) (hx:Loc X.env.scope x) (r:aB0 v u)
  (h:∀ s',Inv X pins (σ.set i (some v)) H s'->(∃ a,Heap.SameBut a s.heap s'.heap/\(a=X.env.locals∨X.env.cells.lookup x=some a))->Q () s') (hf:X.fn x=true∨X.env.scope.names.lookup x=some .local:=by first | exact .inl rfl | exact .inr rfl | assumption):wpAny M A (storeName X.env x u) Q E s:=by
 obtain ⟨m,hn,hl⟩:=id I.loc
 have hcls:(X.env.scope.kind==.class || (X.env.scope.kind==.module&&X.env.locals !=X.env.globals))=false:=by rw [I.ok.kind]; rfl
 have hiσ:i < σ.length:=by rw [I.len]; exact (List.getElem?_eq_some_iff.mp hi).1
 have cne:=I.cne
 have tracked:∀ {a:Addr} {h':Heap},(∃ o,s.heap.get? a=some o/\H a=none)->Heap.SameBut a s.heap h'->HOk X.prog X.w H h':=fun {a h'} ha hs b ob e=>by
  obtain ⟨_,_,hfree⟩:=ha
  refine (I.hok b ob e).stay (fun c w' hc q=>(hs.2 c ?_).trans q) (fun _ q=>q) fun _ _ q=>q
  rintro rfl
  rcases hc with rfl | hc
  ·rw [hfree] at e; cases e
  ·rw [hfree] at hc; cases hc
 rcases hx with hk | hk
 ·refine wpAny_storeName_local hk hn (fun h' hn' hs=>?_) hcls
  obtain ⟨oL,_,_,hoL,_⟩:=id hn
  refine h _ ⟨I.ok,I.os,I.bare,⟨fun b o e n hb hx=>?_,fun b o e n hb hx=>?_,I.base.free,fun b o e hx=>?_,I.base.tups,I.base.frzs,I.base.tbls⟩,⟨_,hn',fun j y v' e1 e2 e3=>?_⟩,fun y c e=>?_,I.free,I.freeC,fun p hp=>?_,tracked ⟨oL,hoL,I.free⟩ hs,by simpa using I.len⟩ ⟨_,hs,.inl rfl⟩
  ·exact (hs.2 b (Nat.ne_of_lt (Nat.lt_of_lt_of_le (Heap.lt_size e) I.ok.above))).trans (I.base.keep b o e n hb hx)
  ·obtain ⟨sl,e1⟩:=I.base.slot b o e n hb hx
   exact ⟨sl,(hs.2 b (Nat.ne_of_lt (Nat.lt_of_lt_of_le (Heap.lt_size e) I.ok.above))).trans e1⟩
  ·obtain ⟨o',e1⟩:=I.base.there b o e hx
   exact ⟨o',(hs.2 b (Nat.ne_of_lt (Nat.lt_of_lt_of_le (Heap.lt_size e) I.ok.above))).trans e1⟩
  ·by_cases hj:j=i
   ·subst hj
    rw [hi] at e1; cases e1
    rw [List.getElem?_set_self hiσ] at e2
    cases e2
    exact ⟨u,r,.inl ⟨hk,by simp⟩⟩
   ·rw [List.getElem?_set_ne (Ne.symm hj)] at e2
    obtain ⟨u',r',q⟩:=hl j y v' e1 e2 e3
    refine ⟨u',r',?_⟩
    rcases q with ⟨k,e⟩ | ⟨k,c,e,z⟩
    ·refine .inl ⟨k,?_⟩
     have:y≠x:=fun e=>hj (aJy hN e1 (e ▸ hi))
     simp [this,e]
    ·exact .inr ⟨k,c,e,z.sameBut hs (cne y c e)⟩
  ·obtain ⟨w',z⟩:=I.cell y c e
   exact ⟨w',z.sameBut hs (cne y c e)⟩
  ·obtain ⟨e,n,ne,nf,d⟩:=I.pin p hp
   exact ⟨(hs.2 p.1 ne).trans e,n,ne,nf,d⟩
 ·have hfn:X.fn x=true:=by
   rcases hf with z | z
   ·exact z
   ·rw [z] at hk; cases hk
  obtain ⟨c,hc⟩:=I.ok.has x (.inl hk)
  obtain ⟨w',z⟩:=I.cell x c hc
  refine wpAny_storeName_cell I.ok.kind hk hc z (fun h' hc' hs=>?_)
  obtain ⟨oc,hoc,hocd⟩:=id z
  refine h { s with heap:=h' } ⟨I.ok,I.os,I.bare,⟨fun b o e n hb hx=>?_,fun b o e n hb hx=>?_,I.base.free,fun b o e hx=>?_,I.base.tups,I.base.frzs,I.base.tbls⟩,⟨m,hn.sameBut hs (Ne.symm (cne x c hc)),fun j y v' e1 e2 e3=>?_⟩,fun y c' e=>?_,I.free,I.freeC,fun p hp=>?_,tracked ⟨oc,hoc,I.freeC x c hc⟩ hs,by simpa using I.len⟩ ⟨c,hs,.inr hc⟩
  ·exact (hs.2 b (Nat.ne_of_lt (Nat.lt_of_lt_of_le (Heap.lt_size e) (I.ok.cab x c hfn hc)))).trans (I.base.keep b o e n hb hx)
  ·obtain ⟨sl,e1⟩:=I.base.slot b o e n hb hx
   exact ⟨sl,(hs.2 b (Nat.ne_of_lt (Nat.lt_of_lt_of_le (Heap.lt_size e) (I.ok.cab x c hfn hc)))).trans e1⟩
  ·obtain ⟨o',e1⟩:=I.base.there b o e hx
   exact ⟨o',(hs.2 b (Nat.ne_of_lt (Nat.lt_of_lt_of_le (Heap.lt_size e) (I.ok.cab x c hfn hc)))).trans e1⟩
  ·by_cases hj:j=i
   ·subst hj
    rw [hi] at e1; cases e1
    rw [List.getElem?_set_self hiσ] at e2
    cases e2
    exact ⟨u,r,.inr ⟨.inl hk,c,hc,hc'⟩⟩
   ·rw [List.getElem?_set_ne (Ne.symm hj)] at e2
    obtain ⟨u',r',q⟩:=hl j y v' e1 e2 e3
    refine ⟨u',r',?_⟩
    rcases q with q | ⟨k,c',e,z'⟩
    ·exact .inl q
    ·refine .inr ⟨k,c',e,z'.sameBut hs ?_⟩
     rintro rfl
     exact hj (aJy hN e1 (I.ok.inj _ _ _ e hc ▸ hi))
  ·by_cases hcc:c'=c
   ·subst hcc; exact ⟨_,hc'⟩
   ·obtain ⟨w2,z2⟩:=I.cell y c' e
    exact ⟨w2,z2.sameBut hs hcc⟩
  ·obtain ⟨e,n,ne,nf,d⟩:=I.pin p hp
   refine ⟨(hs.2 p.1 ?_).trans e,n,ne,nf,d⟩
   intro q
   rw [q,hoc] at e
   have q':oc=p.2:=Option.some.inj e
   exact d w' (by rw [← q']; exact hocd)
theorem aD4 {M:Model} {A:Around} {E:Value->Shared->Prop} {i:Nat} {x:Str} {v:V} {u:Value} {Q:Unit->Shared->Prop} (I:Inv X pins σ H s) (hN:X.N.Nodup) (hi:X.N[i]?=some x) (hx:Loc X.env.scope x) (r:aB0 v u)
  (h:∀ s',Inv X pins (σ.set i (some v)) H s'->Q () s') (hf:X.fn x=true∨X.env.scope.names.lookup x=some .local:=by first | exact .inl rfl | exact .inr rfl | assumption):wpAny M A (storeName X.env x u) Q E s :=
 aKl I hN hi hx r (fun s' I' _=>h s' I') hf
theorem Inv.call' {s':Shared} {ch:List Addr} (I:Inv X pins σ H s) (ho:s'.os=s.os) (u:Un (frs X.stack) ch H H' s.heap s'.heap) (hok:HOk X.prog X.w H' s'.heap) (hg:AllBare s'.gens)
  (hch:∀ b∈ch,(b∈X.ex∨X.s₀.heap.objs.size<=b)/\b≠X.env.locals/\(∀ x c,X.env.cells.lookup x=some c->c≠b)/\∀ p∈X.pn++pins,p.1≠b):Inv X pins σ H' s':=by
 obtain ⟨h',g',d',t',o'⟩:=s'
 have e:o'=s.os:=ho
 subst e
 exact I.call (g':=g') (t':=t') (d':=d') u hok hg hch
end
noncomputable abbrev XK:=Value->Option Addr->Hp->Prop
noncomputable abbrev St:=List (Option V)
noncomputable abbrev VK:=V->Hp->Prop
noncomputable abbrev TE:=St->Hp->VK->Prop
noncomputable abbrev TT:=St->Hp->(Bool->Hp->Prop)->Prop
noncomputable abbrev TA:=St->Hp->(List V->Hp->Prop)->Prop
structure aFy where
 nx:St->Hp->Prop
 rt:VK
 bk:St->Hp->Prop:=fun _ _=>False
 ct:St->Hp->Prop:=fun _ _=>False
noncomputable abbrev TS:=aFy->St->Hp->Prop
noncomputable def EP (X:Cx) (pins:List (Addr×Obj)) (σ:St) (Q:VK) (u:Value) (s':Shared):Prop:=∃ v H',Inv X pins σ H' s'/\aB0 v u/\Q v H'
noncomputable def TP (X:Cx) (pins:List (Addr×Obj)) (σ:St) (Q:Bool->Hp->Prop) (b:Bool) (s':Shared):Prop:=∃ H',Inv X pins σ H' s'/\Q b H'
noncomputable def AP (X:Cx) (pins:List (Addr×Obj)) (σ:St) (Q:List V->Hp->Prop) (us:List Value) (s':Shared):Prop:=∃ vs H',Inv X pins σ H' s'/\aB5 vs us/\Q vs H'
noncomputable def SP (X:Cx) (pins:List (Addr×Obj)) (D:aFy) (f:Flow) (s':Shared):Prop :=
 match f with
 | .next=>∃ σ' H',Inv X pins σ' H' s'/\D.nx σ' H'
 | .brk=>∃ σ' H',Inv X pins σ' H' s'/\D.bk σ' H'
 | .cont=>∃ σ' H',Inv X pins σ' H' s'/\D.ct σ' H'
 | .ret u=>∃ v σ' H',Inv X pins σ' H' s'/\aB0 v u/\D.rt v H'
noncomputable def PE (X:Cx) (e:Expr) (t:TE):Prop :=
 ∀ (pins:List (Addr×Obj)) (s:Shared) (σ:St) (H:Hp) (Q:VK),Inv X pins σ H s->t σ H Q->wpAny (model X.prog X.w) X.A (eval e X.env) (EP X pins σ Q) X.xe s
noncomputable def PT (X:Cx) (e:Expr) (t:TT):Prop :=
 ∀ (pins:List (Addr×Obj)) (s:Shared) (σ:St) (H:Hp) (Q:Bool->Hp->Prop),Inv X pins σ H s->t σ H Q->wpAny (model X.prog X.w) X.A (isTrue e X.env (eval e X.env)) (TP X pins σ Q) X.xe s
noncomputable def PW (X:Cx) (e:Expr) (t:TT):Prop :=
 ∀ (whole:Sem Value) (pins:List (Addr×Obj)) (s:Shared) (σ:St) (H:Hp) (Q:Bool->Hp->Prop),Inv X pins σ H s->t σ H Q->wpAny (model X.prog X.w) X.A (isTrue e X.env whole) (TP X pins σ Q) X.xe s
theorem PW.pt {X:Cx} {e:Expr} {t:TT} (h:PW X e t):PT X e t:=h _
noncomputable def PA (X:Cx) (es:List Expr) (t:TA):Prop :=
 ∀ (pos:Pos) (pins:List (Addr×Obj)) (s:Shared) (σ:St) (H:Hp) (Q:List V->Hp->Prop),Inv X pins σ H s->t σ H Q->wpAny (model X.prog X.w) X.A (spliced (backTo pos (starEach es X.env))) (AP X pins σ Q) X.xe s
noncomputable def PS (X:Cx) (st:Stmt) (t:TS):Prop :=
 ∀ (pins:List (Addr×Obj)) (s:Shared) (σ:St) (H:Hp) (D:aFy),Inv X pins σ H s->t D σ H->wpAny (model X.prog X.w) X.A (exec st X.env) (SP X pins D) X.xe s
noncomputable def PSs (X:Cx) (st:List Stmt) (t:TS):Prop :=
 ∀ (pins:List (Addr×Obj)) (s:Shared) (σ:St) (H:Hp) (D:aFy),Inv X pins σ H s->t D σ H->wpAny (model X.prog X.w) X.A (execs st X.env) (SP X pins D) X.xe s
theorem thn {α:Type} {t:Sem α} {Q Q':α->Shared->Prop} {M:Model} {A:Around} {E:Value->Shared->Prop} {s:Shared} (h:wpAny M A t Q E s) (hQ:∀ a s,Q a s->Q' a s):wpAny M A t Q' E s:=wpAny_mono h hQ fun _ _ x=>x
end L2
namespace L2
open PySem PySem.Spec PyProof.Rows
section
variable {X:Cx}
noncomputable def tVar (i:Nat):TE:=fun σ H Q=>∃ v,σ[i]?=some (some v)/\Q v H
noncomputable def tC (v:V):TE:=fun _ H Q=>Q v H
theorem bAu {i:Nat} {x:Str} {pos:Pos} (hN:X.N[i]?=some x) (hv:Vis X.env.scope x) (hd:(x==("__debug__":Str))=false:=by decide) (hcd:(x==("__classdict__":Str))=false:=by decide):PE X (.Name x pos) (tVar i):=by
 intro pins s σ H Q I h
 obtain ⟨v,e,h⟩:=h
 obtain ⟨m,hn,hl⟩:=I.loc
 obtain ⟨u,r,l⟩:=hl i x v hN e hv
 have fin:EP X pins σ Q u s:=⟨v,H,I,r,h⟩
 rcases l with ⟨hk,hm⟩ | ⟨hk,c,hc,hcell⟩
 ·exact wpAny_Name (wpAny_loadName_local I.ok.kind hk hn hm fin) hd
 ·rcases hk with hk | hk
  ·exact wpAny_Name (wpAny_loadName_cell I.ok.kind hk hc hcell fin) hd
  ·exact wpAny_Name (wpAny_loadName_free I.ok.kind hk hc hcell fin hcd) hd
theorem aAb {i j pos}:PE X (.Constant (.int i) j pos) (tC (.int i)):=fun _ _ _ H _ I h=>wpAny_Constant_int ⟨.int i,H,I.tok _,⟨_,rfl⟩,h⟩
theorem aOz {b j pos}:PE X (.Constant (.bool b) j pos) (tC (.bl b)):=fun _ _ _ H _ I h=>Constant_bool ⟨.bl b,H,I,rfl,h⟩
theorem aIv {j pos}:PE X (.Constant .none j pos) (tC .non):=fun _ _ _ H _ I h=>Constant_none ⟨.non,H,I,rfl,h⟩
theorem aAt {x j pos}:PE X (.Constant (.str x) j pos) (tC (.str x)):=fun _ _ _ H _ I h=>Calls.Constant_str ⟨.str x,H,I.tok _,⟨_,rfl⟩,h⟩
noncomputable def Gl (X:Cx) (x:Str):Prop:=X.env.kindOf x=some .globalImplicit
theorem aHv {E:Value->Shared->Prop} {pins:List (Addr×Obj)} {s:Shared} {σ:St} {H:Hp} {x:Str} {u:Value} {pos:Pos} {Q:Value->Shared->Prop} (I:Inv X pins σ H s) (hg:Gl X x) (hm:X.mg x=some u) (h:Q u s)
  (hd:(x==("__debug__":Str))=false:=by decide):wpAny (model X.prog X.w) X.A (eval (.Name x pos) X.env) Q E s :=
 Calls.Name_function_global I.ok.kind hg (Calls.loadGlobal_global (by rw [I.ok.glob]; exact I.mod.glob.keeps I.bk) hm h) hd
theorem aGh {E:Value->Shared->Prop} {pins:List (Addr×Obj)} {s:Shared} {σ:St} {H:Hp} {x:Str} {u:Value} {pos:Pos} {Q:Value->Shared->Prop} (I:Inv X pins σ H s) (hg:Gl X x) (hm:X.mg x=none) (hv:bootBuiltins x=some u) (h:Q u s)
  (hn:x≠"__name__":=by decide) (hd:(x==("__debug__":Str))=false:=by decide):wpAny (model X.prog X.w) X.A (eval (.Name x pos) X.env) Q E s:=by
 obtain ⟨mb,h1,h2⟩:=I.mod.blt
 exact Calls.Name_function_global I.ok.kind hg (Calls.loadGlobal_builtin (by rw [I.ok.glob]; exact I.mod.glob.keeps I.bk) hm (by rw [I.ok.blt]; exact h1.keeps I.bk) ((h2 x hn).trans hv) h) hd
theorem aCe {x:Str} {v:V} {u:Value} {pos:Pos} (hg:Gl X x) (hm:X.mg x=some u) (r:aB0 v u) (hd:(x==("__debug__":Str))=false:=by decide):PE X (.Name x pos) (tC v) :=
 fun _ _ _ H _ I h=>aHv I hg hm ⟨v,H,I,r,h⟩ hd
theorem aEg {x:Str} {v:V} {u:Value} {pos:Pos} (hg:Gl X x) (hm:X.mg x=none) (hv:bootBuiltins x=some u) (r:aB0 v u) (hn:x≠"__name__":=by decide) (hd:(x==("__debug__":Str))=false:=by decide):PE X (.Name x pos) (tC v) :=
 fun _ _ _ H _ I h=>aGh I hg hm hv ⟨v,H,I,r,h⟩ hn hd
variable {a b:Expr} {ta tb:TE} {pos:Pos}
noncomputable def PC (X:Cx) (op:CmpOp) (a b:Expr) (t:TE):Prop :=
 ∀ (pins:List (Addr×Obj)) (s:Shared) (σ:St) (H:Hp) (Q:VK),Inv X pins σ H s->t σ H Q ->
  wpAny (model X.prog X.w) X.A (eval a X.env) (fun v s₁=>wpAny (model X.prog X.w) X.A (eval b X.env) (fun u s₂=>wpAny (model X.prog X.w) X.A (compareOp op v u) (EP X pins σ Q) X.xe s₂) X.xe s₁) X.xe s
noncomputable def tB (t:TE):TT:=fun σ H Q=>t σ H fun x H1=>∃ c,x=.bl c/\Q c H1
theorem aVe {op:CmpOp} {t:TE} (h:PC X op a b t) (h1:behindInMarks op b=false:=by first | exact nobehind _ (by decide) (by decide) | rfl):PE X (.Compare a [op] [b] pos) t:=fun pins s σ H Q I hw=>wpAny_Compare1 (h pins s σ H Q I hw) h1
theorem bAp {op:CmpOp} {t:TE} (h:PC X op a b t) (h1:behindInMarks op b=false:=by first | exact nobehind _ (by decide) (by decide) | rfl):PT X (.Compare a [op] [b] pos) (tB t):=by
 intro pins s σ H Q I hw
 refine wpAny_isTrue_Compare1 (thn (h pins s σ H _ I hw) fun v s1 h1=>thn h1 fun u s2 h2=>thn h2 fun c s3 ⟨x,H1,I1,r1,q1⟩=>?_) h1
 obtain ⟨d,rfl,q⟩:=q1
 cases r1
 exact wpAny_truthy_bool ⟨H1,I1,q⟩
theorem aDo {e:Expr} {t:TE} (h:PE X e t) (he:∀ whole,isTrue e X.env whole=(do let v ← whole; standAt e.pos; holding [v] (truthy v)):=by intro _; rfl):PT X e (tB t):=by
 intro pins s σ H Q I hw
 refine isTrue_plain (thn (h pins s σ H _ I hw) fun v s1 ⟨x,H1,I1,r1,q1⟩=>?_) (he _)
 obtain ⟨d,rfl,q⟩:=q1
 cases r1
 exact wpAny_truthy_bool ⟨H1,I1,q⟩
variable {tA tB':TT} {aIr:List Expr}
noncomputable def tAnd (t u:TT):TT:=fun σ H Q=>t σ H fun c H1=>if c=true then u σ H1 Q else Q false H1
noncomputable def tOr (t u:TT):TT:=fun σ H Q=>t σ H fun c H1=>if c=true then Q true H1 else u σ H1 Q
noncomputable def tNot (t:TT):TT:=fun σ H Q=>t σ H fun c H1=>Q (!c) H1
theorem aQr (ha:PT X a tA):PW X (.BoolOp .And [a] pos) tA:=by
 intro wh pins s σ H Q I h
 refine isTrue_and (thn (ha pins s σ H Q I h) fun c s1 e=>?_)
 cases c with
 | true=>exact isTrue_and_nil e
 | false=>exact e
theorem aFm (ha:PT X a tA):PW X (.BoolOp .Or [a] pos) tA:=by
 intro wh pins s σ H Q I h
 refine isTrue_or (thn (ha pins s σ H Q I h) fun c s1 e=>?_)
 cases c with
 | false=>exact isTrue_or_nil e
 | true=>exact e
theorem aVb (ha:PT X a tA) (hb:PW X (.BoolOp .And (b::aIr) pos) tB'):PW X (.BoolOp .And (a::b::aIr) pos) (tAnd tA tB'):=by
 intro wh pins s σ H Q I h
 refine isTrue_and (thn (ha pins s σ H _ I h) fun c s1 ⟨H1,I1,q1⟩=>?_)
 cases c with
 | true=>exact hb wh pins s1 σ H1 Q I1 q1
 | false=>exact ⟨H1,I1,q1⟩
theorem aH7 (ha:PT X a tA) (hb:PW X (.BoolOp .Or (b::aIr) pos) tB'):PW X (.BoolOp .Or (a::b::aIr) pos) (tOr tA tB'):=by
 intro wh pins s σ H Q I h
 refine isTrue_or (thn (ha pins s σ H _ I h) fun c s1 ⟨H1,I1,q1⟩=>?_)
 cases c with
 | true=>exact ⟨H1,I1,q1⟩
 | false=>exact hb wh pins s1 σ H1 Q I1 q1
theorem aDp (ha:PT X a tA):PT X (.UnaryOp .Not a pos) (tNot tA):=by
 intro pins s σ H Q I h
 exact isTrue_not (ha pins s σ H (fun c H1=>Q (!c) H1) I h)
noncomputable def aYw (ta tb:TE):TE:=fun σ H Q=>ta σ H fun x H1=>∃ c,x=.bl c/\if c=true then tb σ H1 Q else Q (.bl false) H1
noncomputable def aYo (ta:TE):TE:=fun σ H Q=>ta σ H fun x H1=>∃ c,x=.bl c/\Q (.bl (!c)) H1
theorem aFn {op} {t:TE} (h:PE X a t):PE X (.BoolOp op [a] pos) t:=fun pins s σ H Q I hw=>BoolOp_one (h pins s σ H Q I hw)
theorem aEh (ha:PE X a ta) (hb:PE X (.BoolOp .And (b::aIr) pos) tb):PE X (.BoolOp .And (a::b::aIr) pos) (aYw ta tb):=by
 intro pins s σ H Q I h
 refine BoolOp_and (thn (ha pins s σ H _ I h) fun v s1 ⟨x,H1,I1,r1,q1⟩=>?_)
 obtain ⟨c,rfl,q1⟩:=q1
 cases r1
 refine wpAny_truthy_bool ?_
 cases c with
 | true=>exact hb pins s1 σ H1 Q I1 q1
 | false=>exact ⟨.bl false,H1,I1,rfl,q1⟩
theorem bAv (ha:PE X a ta):PE X (.UnaryOp .Not a pos) (aYo ta):=by
 intro pins s σ H Q I h
 refine UnaryOp_ (thn (ha pins s σ H _ I h) fun v s1 ⟨x,H1,I1,r1,q1⟩=>?_)
 obtain ⟨c,rfl,q1⟩:=q1
 cases r1
 exact not_of (wpAny_truthy_bool ⟨.bl (!c),H1,I1,rfl,q1⟩)
noncomputable def tIf (t:TT) (ta tb:TE):TE:=fun σ H Q=>t σ H fun c H1=>if c=true then ta σ H1 Q else tb σ H1 Q
theorem aTv {c:Expr} (hc:PT X c tA) (ha:PE X a ta) (hb:PE X b tb):PE X (.IfExp c a b pos) (tIf tA ta tb):=by
 intro pins s σ H Q I h
 refine wpAny_IfExp (thn (hc pins s σ H _ I h) fun d s1 ⟨H1,I1,q1⟩=>?_)
 cases d with
 | true=>exact ha pins s1 σ H1 Q I1 q1
 | false=>exact hb pins s1 σ H1 Q I1 q1
end
end L2
namespace L2
open PySem PySem.Spec PyProof.Rows
noncomputable def SqL (K:PySem.W.Frag) (H:Hp) (a:Addr) (xs:List V):Prop :=
 Rd H a (.lst xs) ∨
  ∃ (o:Obj) (its:Array Value) (n:Nat),K.lookup a=some o/\o.cls=.type "list"/\o.dict=none/\o.data=.seq its n/\its.size<=sizeLine/\aB5 xs its.toList
noncomputable def SqT (K:PySem.W.Frag) (H:Hp) (a:Addr) (xs:List V):Prop :=
 Rd H a (.tup xs) ∨
  ∃ (o:Obj) (its:Array Value) (n:Nat),K.lookup a=some o/\o.cls=.type "tuple"/\o.data=.seq its n/\its.size<=sizeLine/\aB5 xs its.toList
noncomputable def absV:Value->Option V
 | .none=>some .non
 | .bool b=>some (.bl b)
 | .int i _=>some (.int i)
 | .str x _=>some (.str x)
 | .bytes b _=>some (.byt b)
 | .float b _=>some (.flt b)
 | .ref a=>some (.ref a)
 | .type n=>some (.ty n)
 | _=>none
theorem aB0.abs {x:V} {u:Value} (r:aB0 x u):absV u=some x:=by
 cases x with
 | non=>cases r; rfl
 | bl _=>cases r; rfl
 | int _=>obtain ⟨t,rfl⟩:=r; rfl
 | str _=>obtain ⟨t,rfl⟩:=r; rfl
 | byt _=>obtain ⟨t,rfl⟩:=r; rfl
 | flt _=>obtain ⟨t,rfl⟩:=r; rfl
 | ref _=>cases r; rfl
 | ty _=>cases r; rfl
theorem aB0.inj {x y:V} {u:Value} (r:aB0 x u) (q:aB0 y u):x=y:=Option.some.inj (r.abs.symm.trans q.abs)
theorem aB5.inj:∀ {xs ys:List V} {us:List Value},aB5 xs us->aB5 ys us->xs=ys
 | _,_,_,.nil,.nil=>rfl
 | _,_,_,.cons r t,.cons r' t'=>by rw [r.inj r',aB5.inj t t']
section
variable {X:Cx} {pins:List (Addr×Obj)} {σ:St} {H:Hp} {s:Shared} {a:Addr} {xs ys:List V}
theorem SqL.of {K:PySem.W.Frag} (h:H a=some (.lst xs)):SqL K H a xs:=.inl (.inl h)
theorem SqT.of {K:PySem.W.Frag} (h:H a=some (.tup xs)):SqT K H a xs:=.inl (.inl h)
theorem Inv.list (I:Inv X pins σ H s) (h:SqL X.K H a xs):∃ its:List Value,aB5 xs its/\PlainL s.heap a its.toArray/\xs.length<=sizeLine:=by
 rcases h with h | ⟨o,its,n,hk,hc,hd,hs,hz,r⟩
 ·obtain ⟨z,its,n,r,e⟩:=h.ok I.hok
  exact ⟨its,r,⟨_,n,e,rfl,rfl,rfl⟩,z⟩
 ·refine ⟨its.toList,r,⟨o,n,I.kIn a o hk,hc,hd,by simpa using hs⟩,?_⟩
  have e:=r.length
  simp only [Array.length_toList] at e
  omega
theorem Inv.tuple (I:Inv X pins σ H s) (h:SqT X.K H a xs):∃ its:List Value,aB5 xs its/\IsTup s.heap a its.toArray/\xs.length<=sizeLine:=by
 rcases h with h | ⟨o,its,n,hk,hc,hs,hz,r⟩
 ·obtain ⟨z,its,r,p⟩:=h.ok I.hok
  exact ⟨its,r,p,z.1⟩
 ·refine ⟨its.toList,r,⟨o,I.kIn a o hk,hc,n,by simpa using hs⟩,?_⟩
  have e:=r.length
  simp only [Array.length_toList] at e
  omega
theorem Inv.list_inj (I:Inv X pins σ H s) (h:SqL X.K H a xs) (h':SqL X.K H a ys):xs=ys:=by
 obtain ⟨its,r,⟨o,n,e,_,_,d⟩,_⟩:=I.list h
 obtain ⟨its',r',⟨o',n',e',_,_,d'⟩,_⟩:=I.list h'
 rw [e] at e'; cases e'
 rw [d] at d'
 injection d' with d1 _
 have:its=its':=by simpa using congrArg Array.toList d1
 subst this
 exact r.inj r'
theorem Inv.tuple_inj (I:Inv X pins σ H s) (h:SqT X.K H a xs) (h':SqT X.K H a ys):xs=ys:=by
 obtain ⟨its,r,⟨o,e,_,n,d⟩,_⟩:=I.tuple h
 obtain ⟨its',r',⟨o',e',_,n',d'⟩,_⟩:=I.tuple h'
 rw [e] at e'; cases e'
 rw [d] at d'
 injection d' with d1 _
 have:its=its':=by simpa using congrArg Array.toList d1
 subst this
 exact r.inj r'
end
noncomputable abbrev Cx.wish (X:Cx) (E:Value->Shared->Prop):Cx:={ X with xe:=E }
noncomputable abbrev Cx.nox (X:Cx):Cx:=X.wish fun _ _=>False
theorem Cx.Ok.wish {X:Cx} (ok:X.Ok) (E:Value->Shared->Prop):(X.wish E).Ok :=
 ⟨ok.mod,ok.kind,ok.glob,ok.blt,ok.above,ok.inj,ok.has,ok.cab,ok.hd,ok.frames,ok.stk,ok.exf,ok.bs,ok.bsz,ok.noex,ok.exfs,ok.funs,ok.frf⟩
theorem Cx.Ok.unwish {X:Cx} {E:Value->Shared->Prop} (ok:(X.wish E).Ok):X.Ok :=
 ⟨ok.mod,ok.kind,ok.glob,ok.blt,ok.above,ok.inj,ok.has,ok.cab,ok.hd,ok.frames,ok.stk,ok.exf,ok.bs,ok.bsz,ok.noex,ok.exfs,ok.funs,ok.frf⟩
section
variable {X:Cx} {pins:List (Addr×Obj)} {σ:St} {H:Hp} {s:Shared} {E:Value -> Shared -> Prop}
theorem Inv.wish (I:Inv X pins σ H s) (E:Value->Shared->Prop):Inv (X.wish E) pins σ H s:=⟨I.ok.wish E,I.os,I.bare,I.base,I.loc,I.cell,I.free,I.freeC,I.pin,I.hok,I.len⟩
theorem Inv.unwish (I:Inv (X.wish E) pins σ H s):Inv X pins σ H s:=⟨I.ok.unwish,I.os,I.bare,I.base,I.loc,I.cell,I.free,I.freeC,I.pin,I.hok,I.len⟩
theorem SP.unwish {D:aFy} {f:Flow} {s':Shared} (h:SP (X.wish E) pins D f s'):SP X pins D f s':=by
 cases f with
 | next=>obtain ⟨σ',H',I,q⟩:=h; exact ⟨σ',H',I.unwish,q⟩
 | brk=>obtain ⟨σ',H',I,q⟩:=h; exact ⟨σ',H',I.unwish,q⟩
 | cont=>obtain ⟨σ',H',I,q⟩:=h; exact ⟨σ',H',I.unwish,q⟩
 | ret u=>obtain ⟨v,σ',H',I,r,q⟩:=h; exact ⟨v,σ',H',I.unwish,r,q⟩
theorem PSs.nox {st:List Stmt} {t:TS} (h:PSs X.nox st t):PSs X st t:=fun pins s σ H D I hw =>
 wpAny_mono (h pins s σ H D (I.wish _) hw) (fun _ _ q=>q.unwish) fun _ _ z=>False.elim z
end
section
variable {X:Cx} {st:Stmt} {aIr:List Stmt} {t u:TS} {e:Expr} {te:TE} {pos:Pos}
noncomputable def aYp:TS:=fun D σ H=>D.nx σ H
noncomputable def tSeq (t u:TS):TS:=fun D σ H=>t { D with nx:=u D } σ H
theorem aA0:PSs X [] aYp:=fun _ _ σ H _ I h=>wpAny_execs_nil ⟨σ,H,I,h⟩
theorem aAc (h1:PS X st t) (h2:PSs X aIr u):PSs X (st::aIr) (tSeq t u):=by
 intro pins s σ H D I h
 refine wpAny_execs_cons (thn (h1 pins s σ H { D with nx:=u D } I h) fun f s1 q=>?_)
 cases f with
 | next =>
  obtain ⟨σ',H',I',q⟩:=q
  exact h2 pins s1 σ' H' D I' q
 | ret v=>exact q
 | brk=>exact q
 | cont=>exact q
theorem aAg (h1:PS X st t):PSs X [st] t:=by
 intro pins s σ H D I h
 refine wpAny_execs_cons (thn (h1 pins s σ H D I h) fun f s1 q=>?_)
 cases f with
 | next=>exact wpAny_execs_nil q
 | ret v=>exact q
 | brk=>exact q
 | cont=>exact q
theorem Inv.quiet {pins:List (Addr×Obj)} {σ:St} {H:Hp} {s:Shared} (I:Inv X pins σ H s):interactive X.env=false:=by simp [interactive,I.ok.kind]
noncomputable def aYt (te:TE):TS:=fun D σ H=>te σ H fun _ H1=>D.nx σ H1
theorem aB7 (he:PE X e te) (hs:swapsWith e none pos.line X.env=pure false:=by rfl):PS X (.Expr e pos) (aYt te):=by
 intro pins s σ H D I h
 exact wpAny_Expr_any (thn (he pins s σ H _ I h) fun v s1 ⟨x,H1,I1,r1,q1⟩=>⟨σ,H1,I1,q1⟩) I.quiet hs
noncomputable def tRet (te:TE):TS:=fun D σ H=>te σ H D.rt
theorem aAo (he:PE X e te):PS X (.Return (some e) pos) (tRet te):=by
 intro pins s σ H D I h
 exact wpAny_Return_some (thn (he pins s σ H _ I h) fun v s1 ⟨x,H1,I1,r1,q1⟩=>⟨x,σ,H1,I1,r1,q1⟩)
noncomputable def tIfS (c:TT) (t u:TS):TS:=fun D σ H=>c σ H fun b H1=>if b=true then t D σ H1 else u D σ H1
theorem aBc {c:Expr} {a b:List Stmt} {tc:TT} (hc:PT X c tc) (ha:PSs X a t) (hb:PSs X b u):PS X (.If c a b pos) (tIfS tc t u):=by
 intro pins s σ H D I h
 refine wpAny_If (thn (hc pins s σ H _ I h) fun d s1 ⟨H1,I1,q1⟩=>?_)
 cases d with
 | true=>exact ha pins s1 σ H1 D I1 q1
 | false=>exact hb pins s1 σ H1 D I1 q1
noncomputable def aYq:TS:=fun _ _ _=>False
theorem aA8:PS X st aYq:=fun _ _ _ _ _ _ h=>h.elim
end
noncomputable abbrev TG:=V->St->Hp->(St->Hp->Prop)->Prop
noncomputable abbrev TGs:=List V->St->Hp->(St->Hp->Prop)->Prop
noncomputable def PG (X:Cx) (target:Expr) (t:TG):Prop :=
 ∀ (pins:List (Addr×Obj)) (s:Shared) (σ:St) (H:Hp) (v:V) (u:Value) (Q:St->Hp->Prop),Inv X pins σ H s->aB0 v u->t v σ H Q ->
  wpAny (model X.prog X.w) X.A (assign target X.env u) (fun _ s'=>∃ σ' H',Inv X pins σ' H' s'/\Q σ' H') X.xe s
noncomputable def PGs (X:Cx) (ts:List Expr) (t:TGs):Prop :=
 ∀ (pins:List (Addr×Obj)) (s:Shared) (σ:St) (H:Hp) (vs:List V) (us:List Value) (Q:St->Hp->Prop),Inv X pins σ H s->aB5 vs us->t vs σ H Q ->
  wpAny (model X.prog X.w) X.A (assignInOrder ((assignEach ts X.env).map (·.2)) us) (fun _ s'=>∃ σ' H',Inv X pins σ' H' s'/\Q σ' H') X.xe s
noncomputable abbrev TIp:=V->V->Hp->VK->Prop
noncomputable def PIp (X:Cx) (op:Operator) (t:TIp):Prop :=
 ∀ (pins:List (Addr×Obj)) (s:Shared) (σ:St) (H:Hp) (x y:V) (v u:Value) (Q:VK),Inv X pins σ H s->aB0 x v->aB0 y u->t x y H Q ->
  wpAny (model X.prog X.w) X.A (inplaceOp op v u) (EP X pins σ Q) X.xe s
section
variable {X:Cx} {pos:Pos}
noncomputable def aGo (i:Nat):TG:=fun v σ H Q=>Q (σ.set i (some v)) H
theorem aA2 {i:Nat} {x:Str} (hN:X.N.Nodup) (hi:X.N[i]?=some x) (hx:Loc X.env.scope x) (hf:X.fn x=true∨X.env.scope.names.lookup x=some .local:=by first | exact .inl rfl | exact .inr rfl | assumption):PG X (.Name x pos) (aGo i):=by
 intro pins s σ H v u Q I r h
 exact wpAny_assign_Name (aD4 I hN hi hx r (fun s' I'=>⟨_,H,I',h⟩) hf)
noncomputable def gNil:TGs:=fun vs σ H Q=>vs=[]/\Q σ H
noncomputable def aRy (t:TG) (u:TGs):TGs:=fun vs σ H Q=>∃ v r,vs=v::r/\t v σ H fun σ' H'=>u r σ' H' Q
theorem aJq:PGs X [] gNil:=by
 intro pins s σ H vs us Q I r h
 obtain ⟨e,h⟩:=h
 subst e
 cases r
 exact assignInOrder_nil ⟨σ,H,I,h⟩
theorem aC0 {e:Expr} {es:List Expr} {t:TG} {u:TGs} (h1:PG X e t) (h2:PGs X es u)
  (hs:(assignEach (e::es) X.env).map (·.2)=assign e X.env::(assignEach es X.env).map (·.2):=by rfl):PGs X (e::es) (aRy t u):=by
 intro pins s σ H vs us Q I r h
 obtain ⟨v,vr,e1,h⟩:=h
 subst e1
 cases r with
 | cons r rr =>
  rw [hs]
  refine assignInOrder_cons (thn (h1 pins s σ H _ _ _ I r h) fun _ s1 ⟨σ1,H1,I1,q1⟩=>?_)
  exact h2 pins s1 σ1 H1 _ _ Q I1 rr q1
noncomputable def bBu (K:PySem.W.Frag) (n:Nat) (t:TGs):TG:=fun v σ H Q=>∃ a xs,v=.ref a/\SqT K H a xs/\xs.length=n/\t xs σ H Q
theorem aN1 {es:List Expr} {k:Nat} {t:TGs} {n:Nat} (hc:X.calm=true) (h:PGs X es t)
  (hn:(assignEach es X.env).length=n:=by rfl) (hst:(assignEach es X.env).findIdx? (·.1)=none:=by rfl):PG X (.Tuple es k pos) (bBu X.K n t):=by
 intro pins s σ H v u Q I r hw
 obtain ⟨a,xs,e1,hq,hl,hw⟩:=hw
 subst e1
 cases r
 obtain ⟨its,rv,ht,hz⟩:=I.tuple hq
 refine assign_Tuple_tuple (I.ok.hd hc) ht (by simp [hn,← hl,rv.length]) hst fun h' hx=>?_
 have I1:Inv X pins σ H { s with heap:=h' }:=I.kept (t':=s.toks) fun b o e=>hx b o (Nat.ne_of_lt (Heap.lt_size e)) e
 exact h pins _ σ H xs _ Q I1 (by simpa using rv) hw
noncomputable def tAsg (te:TE) (g:TG):TS:=fun D σ H=>te σ H fun x H1=>g x σ H1 D.nx
theorem bAs {tg e:Expr} {te:TE} {g:TG} (he:PE X e te) (hg:PG X tg g) (hs:swapsWithSole [tg] e pos.line X.env=pure false:=by rfl) (hw:swappedStores [tg] e X.env=pure none:=by rfl)
  (h1:(assignEach [tg] X.env).map (·.2)=[assign tg X.env]:=by rfl):PS X (.Assign [tg] e pos) (tAsg te g):=by
 intro pins s σ H D I h
 refine wpAny_Assign_stores (thn (he pins s σ H _ I h) fun v s1 ⟨x,H1,I1,r1,q1⟩=>?_) hs hw
 rw [h1]
 exact thn (hg pins s1 σ H1 x v _ I1 r1 q1) fun _ s2 q=>q
theorem aAs {i:Nat} {x:Str} {e:Expr} {te:TE} {pos':Pos} (hN:X.N.Nodup) (hi:X.N[i]?=some x) (hx:Loc X.env.scope x) (he:PE X e te) (hs:swapsWith e (some (.Name x pos')) pos.line X.env=pure false:=by rfl) (hf:X.fn x=true∨X.env.scope.names.lookup x=some .local:=by first | exact .inl rfl | exact .inr rfl | assumption) :
  PS X (.Assign [.Name x pos'] e pos) (tAsg te (aGo i)):=by
 intro pins s σ H D I h
 refine wpAny_Assign_Name (thn (he pins s σ H _ I h) fun v s1 ⟨y,H1,I1,r1,q1⟩=>?_) hs
 exact aD4 I1 hN hi hx r1 (fun s2 I2=>⟨_,H1,I2,q1⟩) hf
noncomputable def tPar (i j:Nat) (ta:TA):TS:=fun D σ H=>ta σ H fun vs H1=>∃ v w,vs=[v,w]/\D.nx ((σ.set i (some v)).set j (some w)) H1
theorem bAr {i j:Nat} {x y:Str} {a b:Expr} {ta:TA} {px py pt:Pos} {kt k2 pt2} (hc:X.calm=true) (hN:X.N.Nodup) (hi:X.N[i]?=some x) (hj:X.N[j]?=some y) (hij:i≠j)
  (hx:X.env.scope.names.lookup x=some .local) (hy:X.env.scope.names.lookup y=some .local) (ha:PA X [a,b] ta)
  (hw:swappedStores [.Tuple [.Name x px,.Name y py] kt pt] (.Tuple [a,b] k2 pt2) X.env=pure (some [x,y]))
  (hs:swapsWithSole [.Tuple [.Name x px,.Name y py] kt pt] (.Tuple [a,b] k2 pt2) pos.line X.env=pure false:=by rfl) :
  PS X (.Assign [.Tuple [.Name x px,.Name y py] kt pt] (.Tuple [a,b] k2 pt2) pos) (tPar i j ta):=by
 intro pins s σ H D I h
 rw [exec_Assign_arm]
 refine wpAny_bind (wpAny_standAt ?_)
 rw [hs]
 refine wpAny_bind (wpAny_pure ?_)
 rw [if_neg (by decide)]
 refine wpAny_bind (Tuple_ (thn (ha _ pins s σ H _ I h) fun us s1 ⟨vs,H1,I1,r1,q1⟩=>?_))
 obtain ⟨v,w,e1,q1⟩:=q1
 subst e1
 obtain ⟨u1,u2,rfl,rv,rw'⟩:∃ u1 u2,us=[u1,u2]/\aB0 v u1/\aB0 w u2:=by
  cases r1 with
  | cons p q =>
   cases q with
   | cons p' q' =>
    cases q'
    exact ⟨_,_,rfl,p,p'⟩
 refine wpAny_newObj_type ?_ (by show 2<=sizeLine; decide)
 have I2:Inv X pins σ H1 { s1 with heap:=s1.heap.push { cls:=.type "tuple",data:=.seq [u1,u2].toArray } }:=I1.kept (t':=s1.toks) fun b o e=>Heap.get?_push_of_some _ e
 rw [hw]
 refine wpAny_bind (wpAny_pure ?_)
 show wpAny (model X.prog X.w) X.A (do rule "assign.swapped-stores"; let items ← unpackItems (.ref s1.heap.objs.size) 2 none; assignInOrder [fun v=>bindName X.env y v,fun v=>bindName X.env x v] items.reverse; pure Flow.next) _ _ _
 refine wpAny_bind (wpAny_rule (wpAny_bind (unpackItems_tuple (items:=#[u1,u2]) (I.ok.hd hc) (IsTup.new s1.heap _) fun h' hx'=>?_)))
 have I3:=I2.kept (h':=h') (t':=s1.toks) fun b o e=>hx' b o (Nat.ne_of_lt (Heap.lt_size e)) e
 show wpAny _ _ (assignInOrder [fun v=>bindName X.env y v,fun v=>bindName X.env x v] [u2,u1] >>= fun _=>pure Flow.next) _ _ _
 refine wpAny_bind (assignInOrder_cons (wpAny_bindName (aD4 I3 hN hj (.inl hy) rw' (fun s2 I4=>?_) (.inr hy))))
 refine assignInOrder_cons (wpAny_bindName (aD4 I4 hN hi (.inl hx) rv (fun s3 I5=>assignInOrder_nil (wpAny_pure ?_)) (.inr hx)))
 rw [List.set_comm _ _ (Ne.symm hij)] at I5
 exact ⟨_,H1,I5,q1⟩
noncomputable def tAug (i:Nat) (te:TE) (ti:TIp):TS:=fun D σ H=>∃ x,σ[i]?=some (some x)/\te σ H fun y H1=>ti x y H1 fun z H2=>D.nx (σ.set i (some z)) H2
theorem aVc {i:Nat} {x:Str} {e:Expr} {te:TE} {op:Operator} {ti:TIp} {pos':Pos} (hN:X.N.Nodup) (hi:X.N[i]?=some x) (hx:Loc X.env.scope x) (he:PE X e te) (ho:PIp X op ti) (hf:X.fn x=true∨X.env.scope.names.lookup x=some .local:=by first | exact .inl rfl | exact .inr rfl | assumption) :
  PS X (.AugAssign (.Name x pos') op e pos) (tAug i te ti):=by
 intro pins s σ H D I h
 obtain ⟨v,e1,h⟩:=h
 obtain ⟨m,hn,hl⟩:=I.loc
 have vis:Vis X.env.scope x:=by rcases hx with k | k; exact .inl k; exact .inr (.inl k)
 obtain ⟨u,r,l⟩:=hl i x v hi e1 vis
 refine wpAny_AugAssign_Name ?_
 have go:wpAny (model X.prog X.w) X.A (eval e X.env) (fun w s₂=>wpAny (model X.prog X.w) X.A (inplaceOp op u w) (fun r s₃=>wpAny (model X.prog X.w) X.A (storeName X.env x r) (fun _=>SP X pins D .next) X.xe s₃) X.xe s₂) X.xe s:=by
  refine thn (he pins s σ H _ I h) fun w s1 ⟨y,H1,I1,r1,q1⟩=>?_
  refine thn (ho pins s1 σ H1 v y u w _ I1 r r1 q1) fun z s2 ⟨zv,H2,I2,r2,q2⟩=>?_
  exact aD4 I2 hN hi hx r2 (fun s3 I3=>⟨_,H2,I3,q2⟩) hf
 rcases l with ⟨hk,hm⟩ | ⟨hk,c,hc,hcell⟩
 ·exact wpAny_loadName_local I.ok.kind hk hn hm go
 ·rcases hk with hk | hk
  ·exact wpAny_loadName_cell I.ok.kind hk hc hcell go
  ·rcases hx with k | k
   ·have:X.env.scope.names.lookup x=some .free:=hk
    rw [k] at this; cases this
   ·have:X.env.scope.names.lookup x=some .free:=hk
    rw [k] at this; cases this
noncomputable def ipI (f:Int->Int->Int):TIp:=fun x y H Q=>∃ i j,x=.int i/\y=.int j/\Q (.int (f i j)) H
theorem aVf:PIp X .Add (ipI fun i j=>i+j):=by
 intro pins s σ H x y v u Q I r1 r2 h
 obtain ⟨i,j,e1,e2,q⟩:=h
 subst e1; subst e2
 obtain ⟨t,rfl⟩:=r1
 obtain ⟨t',rfl⟩:=r2
 exact iadd_int ⟨.int _,H,I.tok _,⟨_,rfl⟩,q⟩
end
section
variable {X:Cx} {pos:Pos}
noncomputable def aPv (c:TT) (tb:TS):TS:=fun D σ H=>∃ W:Nat->St->Hp->Prop,(∃ m,W m σ H)/\∀ m σ H,W m σ H ->
 c σ H fun b H1=>if b=true then ∃ N:St->Hp->Prop,(∀ σ' H',N σ' H'->∃ m',m' < m/\W m' σ' H')/\tb { D with nx:=N,ct:=N,bk:=D.nx } σ H1 else D.nx σ H1
theorem aJo {c:Expr} {body:List Stmt} {tc:TT} {tb:TS} (hp:PassesOwn (model X.prog X.w) X.A X.env X.xe) (hc:PT X c tc) (hb:PSs X body tb):PS X (.While c body [] pos) (aPv tc tb):=by
 intro pins s σ H D I h
 obtain ⟨W,⟨m0,w0⟩,turn⟩:=h
 refine wpAny_While (codeAny_whileLoop (fun n s'=>∃ σ' H',Inv X pins σ' H' s'/\W n σ' H') ?_ m0 ⟨σ,H,I,w0⟩)
 rintro n s1 ⟨σ1,H1,I1,w1⟩
 refine wpAny_passesOwn hp (thn (hc pins s1 σ1 H1 _ I1 (turn n σ1 H1 w1)) fun b s2 ⟨H2,I2,q2⟩=>?_)
 cases b with
 | true =>
  obtain ⟨N,hN,q2⟩:=q2
  rw [if_pos rfl]
  refine wpAny_passesOwn hp (thn (hb pins s2 σ1 H2 _ I2 q2) fun f s3 q3=>?_)
  cases f with
  | next =>
   obtain ⟨σ3,H3,I3,n3⟩:=q3
   obtain ⟨m',hm,w3⟩:=hN σ3 H3 n3
   exact ⟨m',hm,σ3,H3,I3,w3⟩
  | cont =>
   obtain ⟨σ3,H3,I3,n3⟩:=q3
   obtain ⟨m',hm,w3⟩:=hN σ3 H3 n3
   exact ⟨m',hm,σ3,H3,I3,w3⟩
  | brk=>exact q3
  | ret v=>exact q3
 | false =>
  rw [if_neg Bool.false_ne_true]
  exact wpAny_execs_nil ⟨σ1,H2,I2,q2⟩
end
structure It where
 go:Nat->Hp->Prop
 yld:Nat->Hp->V->Hp->Prop
 stop:Nat->Hp->Prop
noncomputable def aS0 (X:Cx) (pins:List (Addr×Obj)) (H:Hp) (b:Addr):Prop :=
 H b=none/\b≠X.env.locals/\b∉X.fs/\(b∈X.ex∨X.s₀.heap.objs.size<=b)/\(∀ x c,X.env.cells.lookup x=some c->c≠b)/\∀ p∈X.pn++pins,p.1≠b
theorem Inv.fpOk {X:Cx} {pins:List (Addr×Obj)} {σ:St} {H H':Hp} {s:Shared} {b:Addr} (I:Inv X pins σ H s) (hb:s.heap.objs.size<=b) (hn:H' b=none):aS0 X pins H' b:=by
 refine ⟨hn,Nat.ne_of_gt (Nat.lt_of_lt_of_le I.lt hb),I.nofs hb,.inr (Nat.le_trans I.sz hb),fun x c e z=>?_,fun p hp z=>?_⟩
 ·obtain ⟨v,q⟩:=I.cell x c e
  exact absurd (Nat.lt_of_lt_of_le q.lt (by rw [z]; exact hb)) (Nat.lt_irrefl _)
 ·exact absurd (Nat.lt_of_lt_of_le (Heap.lt_size (I.pin p hp).1) (by rw [z]; exact hb)) (Nat.lt_irrefl _)
structure aYf (P:Program) (w:World) (K:PySem.W.Frag) (tg:Expr) (J:It) (fp:List Addr) (it:Addr) (tn:Nat->Heap->Prop):Prop where
 mem:it∈fp
 obj:∀ i h,tn i h->∀ b∈fp,∃ o,h.get? b=some o/\∀ v,o.data≠.cell v
 keep:∀ i h h',tn i h->(∀ b∈fp,∀ o,h.get? b=some o->h'.get? b=some o)->tn i h'
 item:∀ (X:Cx),X.prog=P->X.w=w->X.K=K->X.calm=true->∀ (i:Nat) (pins:List (Addr×Obj)) (s:Shared) (σ:St) (H:Hp) (E:Value->Shared->Prop),Inv X pins σ H s->(∀ b∈fp,aS0 X pins H b)->tn i s.heap->J.go i H ->
  wpAny (model P w) X.A (pyNext (.ref it)) (fun r s1=>∃ u,r=some u /\
   wpAny (model P w) X.A (letOwnedTupleGo tg (.ref it) u) (fun _ s2=>∃ x H',Inv X pins σ H' s2/\aB0 x u/\J.yld i H x H'/\tn (i+1) s2.heap/\∀ b∈fp,H' b=none) E s1) E s
 done:∀ (X:Cx),X.prog=P->X.w=w->X.K=K->X.calm=true->∀ (i:Nat) (pins:List (Addr×Obj)) (s:Shared) (σ:St) (H:Hp) (E:Value->Shared->Prop),Inv X pins σ H s->(∀ b∈fp,aS0 X pins H b)->tn i s.heap->J.stop i H ->
  wpAny (model P w) X.A (pyNext (.ref it)) (fun r s1=>r=none/\Inv X pins σ H s1) E s
 self:∀ (A:Around) (i:Nat) (s:Shared) (Q:Value->Shared->Prop) (E:Value->Shared->Prop),tn i s.heap->Q (.ref it) s->wpAny (model P w) A (pyIter (.ref it)) Q E s
noncomputable abbrev TI:=St->Hp->(It->Hp->Prop)->Prop
noncomputable def PIE (X:Cx) (pins:List (Addr×Obj)) (σ:St) (tg:Expr) (R:It->Hp->Prop) (itv:Value) (s2:Shared):Prop :=
 ∃ (it:Addr) (fp:List Addr) (tn:Nat->Heap->Prop) (J:It) (H':Hp),itv=.ref it/\Inv X pins σ H' s2/\aYf X.prog X.w X.K tg J fp it tn/\tn 0 s2.heap/\(∀ b∈fp,aS0 X pins H' b)/\R J H'
noncomputable def PI (X:Cx) (tg iter:Expr) (wi:TI):Prop :=
 ∀ (pins:List (Addr×Obj)) (s:Shared) (σ:St) (H:Hp) (R:It->Hp->Prop),Inv X pins σ H s->wi σ H R ->
  wpAny (model X.prog X.w) X.A (eval iter X.env) (fun v s1=>wpAny (model X.prog X.w) X.A (pyIter v) (PIE X pins σ tg R) X.xe s1) X.xe s
theorem aUb {M:Model} {A:Around} {E:Value->Shared->Prop} {s:Shared} {tg:Expr} {it:Addr} {u:Value} {o:Obj} {n:String} {vs:Array Value} {Q:Unit->Shared->Prop} (ho:s.heap.get? it=some o) (hc:o.cls=.type n) (hd:o.data=.fields vs)
    (hn:["enumerate","zip","dict_itemiterator","dict_reverseitemiterator","odict_iterator","itertools.zip_longest","itertools.pairwise"].contains n=false) (hQ:Q () s):wpAny M A (letOwnedTupleGo tg (.ref it) u) Q E s:=by
  unfold letOwnedTupleGo
  cases tg <;> first
    | exact wpAny_pure hQ
    | (cases u <;> first
        | exact wpAny_pure hQ
        | (refine wpAny_bind (wpAny_load ho ?_)
           rw [hc,hd]
           show wpAny M A (if (["enumerate","zip","dict_itemiterator","dict_reverseitemiterator","odict_iterator","itertools.zip_longest","itertools.pairwise"].contains n&&vs[0]?==some (rawInt _))=true then _ else _) Q E s
           rw [if_neg (by intro h; rw [hn,Bool.false_and] at h; cases h)]
           exact wpAny_pure hQ))
noncomputable def Itl (K:PySem.W.Frag) (a:Addr):It :=
 ⟨fun i H=>∃ xs x,SqL K H a xs/\xs[i]?=some x,fun i H x H'=>H'=H/\∀ xs,SqL K H a xs->xs[i]?=some x,fun i H=>∃ xs,SqL K H a xs/\xs.length<=i⟩
noncomputable def Itt (K:PySem.W.Frag) (a:Addr):It :=
 ⟨fun i H=>∃ xs x,SqT K H a xs/\xs[i]?=some x,fun i H x H'=>H'=H/\∀ xs,SqT K H a xs->xs[i]?=some x,fun i H=>∃ xs,SqT K H a xs/\xs.length<=i⟩
noncomputable def Itr (lo:Int) (n:Nat):It:=⟨fun i _=>i < n,fun i H x H'=>H'=H/\x=.int (lo+i),fun i _=>n<=i⟩
theorem aPt {P:Program} {w:World} {K:PySem.W.Frag} {tg:Expr} (a it:Addr):aYf P w K tg (Itl K a) [it] it (fun i h=>h.IsListIter it a i) where
 mem:=by simp
 obj:=fun i h st b hb=>by
  have e:b=it:=by simpa using hb
  subst e
  obtain ⟨o,e,c,d⟩:=st
  exact ⟨o,e,fun v z=>by rw [d] at z; cases z⟩
 keep:=fun i h h' st k=>st.at fun o e=>k it (by simp) o e
 item:=by
  intro X hP hw hK hc i pins s σ H E I hf st hg
  subst hP hw hK
  obtain ⟨xs,x,hq,hx⟩:=hg
  obtain ⟨its,rv,p,hz⟩:=I.list hq
  obtain ⟨u,hu,ru⟩:=rv.get hx
  obtain ⟨f0,f1,f2,f3,f4,f5⟩:=hf it (by simp)
  refine wpAny_pyNext_list_item st p.isList (x:=u) (by simpa using hu) fun h' st' sb=>?_
  have I1:Inv X pins σ H { s with heap:=h' }:=I.turned (t':=s.toks) (fun b o hb e=>(sb.2 b hb).trans e) f0 f1 f3 f4 f5
  obtain ⟨o,e,c,d⟩:=id st'
  exact ⟨u,rfl,aUb (s:={ s with heap:=h' }) e c d (by decide) ⟨x,H,I1,ru,⟨rfl,fun ys hy=>by rw [I.list_inj hy hq]; exact hx⟩,st',fun b hb=>(hf b hb).1⟩⟩
 done:=by
  intro X hP hw hK hc i pins s σ H E I hf st hg
  subst hP hw hK
  obtain ⟨xs,hq,hx⟩:=hg
  obtain ⟨its,rv,p,hz⟩:=I.list hq
  obtain ⟨f0,f1,f2,f3,f4,f5⟩:=hf it (by simp)
  have hl:=rv.length
  exact wpAny_pyNext_list_end (I.ok.hd hc) st p.isList (by simp; omega) fun h' eb=>⟨rfl,I.turned (t':=s.toks) (fun b o hb e=>eb b o hb e) f0 f1 f3 f4 f5⟩
 self:=fun _ _ _ _ _ st h=>wpAny_pyIter_listiter st h
theorem aOl {P:Program} {w:World} {K:PySem.W.Frag} {tg:Expr} (a it:Addr):aYf P w K tg (Itt K a) [it] it (fun i h=>h.IsTupleIter it a i) where
 mem:=by simp
 obj:=fun i h st b hb=>by
  have e:b=it:=by simpa using hb
  subst e
  obtain ⟨o,e,c,d⟩:=st
  exact ⟨o,e,fun v z=>by rw [d] at z; cases z⟩
 keep:=fun i h h' st k=>st.at fun o e=>k it (by simp) o e
 item:=by
  intro X hP hw hK hc i pins s σ H E I hf st hg
  subst hP hw hK
  obtain ⟨xs,x,hq,hx⟩:=hg
  obtain ⟨its,rv,p,hz⟩:=I.tuple hq
  obtain ⟨u,hu,ru⟩:=rv.get hx
  obtain ⟨f0,f1,f2,f3,f4,f5⟩:=hf it (by simp)
  refine wpAny_pyNext_tuple_item st (show s.heap.IsTuple a its.toArray from p) (x:=u) (by simpa using hu) fun h' st' sb=>?_
  have I1:Inv X pins σ H { s with heap:=h' }:=I.turned (t':=s.toks) (fun b o hb e=>(sb.2 b hb).trans e) f0 f1 f3 f4 f5
  obtain ⟨o,e,c,d⟩:=id st'
  exact ⟨u,rfl,aUb (s:={ s with heap:=h' }) e c d (by decide) ⟨x,H,I1,ru,⟨rfl,fun ys hy=>by rw [I.tuple_inj hy hq]; exact hx⟩,st',fun b hb=>(hf b hb).1⟩⟩
 done:=by
  intro X hP hw hK hc i pins s σ H E I hf st hg
  subst hP hw hK
  obtain ⟨xs,hq,hx⟩:=hg
  obtain ⟨its,rv,p,hz⟩:=I.tuple hq
  obtain ⟨f0,f1,f2,f3,f4,f5⟩:=hf it (by simp)
  have hl:=rv.length
  exact wpAny_pyNext_tuple_end (I.ok.hd hc) st (show s.heap.IsTuple a its.toArray from p) (by simp; omega) fun h' eb=>⟨rfl,I.turned (t':=s.toks) (fun b o hb e=>eb b o hb e) f0 f1 f3 f4 f5⟩
 self:=fun _ _ _ _ _ st h=>wpAny_pyIter_tupleiter st h
theorem aOn {P:Program} {w:World} {K:PySem.W.Frag} {tg:Expr} (it:Addr) (lo:Int) (n:Nat):aYf P w K tg (Itr lo n) [it] it (fun i h=>IsRangeIter h it (lo+(i:Nat) * 1) ((n:Int) - (i:Nat)) 1) where
 mem:=by simp
 obj:=fun i h st b hb=>by
  have e:b=it:=by simpa using hb
  subst e
  exact ⟨_,st,fun v z=>by
   have z':Data.fields _=Data.cell v:=z
   cases z'⟩
 keep:=fun i h h' st k=>k it (by simp) _ st
 item:=by
  intro X hP hw hK hc i pins s σ H E I hf st hg
  subst hP hw hK
  obtain ⟨f0,f1,f2,f3,f4,f5⟩:=hf it (by simp)
  have W:=Walks.range (prog:=X.prog) (w:=X.w) (I.ok.hd hc) it lo 1 n
  refine W.item i s _ _ hg st fun v h' tk hv st' kk=>?_
  obtain ⟨t,rfl⟩:=hv
  have I1:Inv X pins σ H { s with heap:=h',toks:=tk }:=I.turned (fun b o hb e=>kk b o (by simpa using hb) e) f0 f1 f3 f4 f5
  refine ⟨_,rfl,aUb (s:={ s with heap:=h',toks:=tk }) (n:="range_iterator") st' rfl rfl (by decide) ⟨.int (lo+i),H,I1,⟨t,?_⟩,⟨rfl,rfl⟩,st',fun b hb=>(hf b hb).1⟩⟩
  rw [Int.mul_one]
 done:=by
  intro X hP hw hK hc i pins s σ H E I hf st hg
  subst hP hw hK
  obtain ⟨f0,f1,f2,f3,f4,f5⟩:=hf it (by simp)
  exact wpAny_pyNext_range_end (I.ok.hd hc) st (by have:n<=i:=hg; omega) fun h' eb=>⟨rfl,I.turned (t':=s.toks) (fun b o hb e=>eb b o hb e) f0 f1 f3 f4 f5⟩
 self:=fun _ _ _ _ _ st h=>wpAny_pyIter_rangeiter st h
end L2
namespace L2
open PySem PySem.Spec PyProof.Rows
section
variable {X:Cx} {tg:Expr}
noncomputable def bBs (K:PySem.W.Frag) (tl:TE):TI:=fun σ H R=>tl σ H fun x H1=>∃ a,x=.ref a/\(∃ xs,SqL K H1 a xs)/\R (Itl K a) H1
noncomputable def iTup (K:PySem.W.Frag) (tl:TE):TI:=fun σ H R=>tl σ H fun x H1=>∃ a,x=.ref a/\(∃ xs,SqT K H1 a xs)/\R (Itt K a) H1
theorem aCm {l:Expr} {tl:TE} (hl:PE X l tl):PI X tg l (bBs X.K tl):=by
 intro pins s σ H R I h
 refine thn (hl pins s σ H _ I h) fun v s1 ⟨x,H1,I1,r1,q1⟩=>?_
 obtain ⟨a,e,⟨xs,hq⟩,q⟩:=q1
 subst e
 cases r1
 obtain ⟨its,rv,p,hz⟩:=I1.list hq
 refine wpAny_pyIter_list p.isList ?_
 refine ⟨s1.heap.objs.size,[s1.heap.objs.size],_,_,H1,rfl,I1.kept (t':=s1.toks) fun b o e=>Heap.get?_push_of_some _ e,aPt a _,⟨_,Heap.get?_push_size _ rfl,rfl,rfl⟩,fun b hb=>?_,q⟩
 have e:b=s1.heap.objs.size:=by simpa using hb
 subst e
 exact I1.fpOk (Nat.le_refl _) (I1.hok.fresh (Nat.le_refl _))
theorem aNz {l:Expr} {tl:TE} (hl:PE X l tl):PI X tg l (iTup X.K tl):=by
 intro pins s σ H R I h
 refine thn (hl pins s σ H _ I h) fun v s1 ⟨x,H1,I1,r1,q1⟩=>?_
 obtain ⟨a,e,⟨xs,hq⟩,q⟩:=q1
 subst e
 cases r1
 obtain ⟨its,rv,p,hz⟩:=I1.tuple hq
 refine wpAny_pyIter_tuple (show s1.heap.IsTuple a its.toArray from p) ?_
 refine ⟨s1.heap.objs.size,[s1.heap.objs.size],_,_,H1,rfl,I1.kept (t':=s1.toks) fun b o e=>Heap.get?_push_of_some _ e,aOl a _,⟨_,Heap.get?_push_size _ rfl,rfl,rfl⟩,fun b hb=>?_,q⟩
 have e:b=s1.heap.objs.size:=by simpa using hb
 subst e
 exact I1.fpOk (Nat.le_refl _) (I1.hok.fresh (Nat.le_refl _))
theorem aNv {pins:List (Addr×Obj)} {σ:St} {H:Hp} {s:Shared} {R:It->Hp->Prop} {E:Value->Shared->Prop} {lo hi:Int} {t u v:Tok} {tk:Nat} (I:Inv X pins σ H s) (h1:-(2 ^ 62)<=lo) (h2:lo < 2 ^ 62) (h3:-(2 ^ 62)<=hi) (h4:hi < 2 ^ 62)
  (q:R (Itr lo (hi - lo).toNat) H):wpAny (model X.prog X.w) X.A (pyIter (.ref s.heap.objs.size)) (PIE X pins σ tg R) E { s with heap:=s.heap.push { cls:=.type "range",data:=.fields #[.int lo t,.int hi u,.int 1 v] },toks:=tk }:=by
 refine wpAny_pyIter_range (IsRange.new ..) (small_one h1 h2 h3 h4) ?_
 have I1:Inv X pins σ H { s with heap:=s.heap.push { cls:=.type "range",data:=.fields #[.int lo t,.int hi u,.int 1 v] },toks:=tk }:=I.kept fun b o e=>Heap.get?_push_of_some _ e
 refine ⟨(s.heap.push { cls:=.type "range",data:=.fields #[.int lo t,.int hi u,.int 1 v] }).objs.size,[(s.heap.push { cls:=.type "range",data:=.fields #[.int lo t,.int hi u,.int 1 v] }).objs.size],_,_,H,rfl,
  I1.kept (t':=tk) fun b o e=>Heap.get?_push_of_some _ e,aOn _ lo (hi - lo).toNat,?_,fun b hb=>?_,q⟩
 ·have e1:lo+((0:Nat):Int) * 1=lo:=by simp
  have e2:(((hi - lo).toNat:Nat):Int) - ((0:Nat):Int)=Builtin.Range.rangeSize lo hi 1:=by rw [rangeSize_one]; split <;> omega
  show IsRangeIter _ _ (lo+((0:Nat):Int) * 1) ((((hi - lo).toNat:Nat):Int) - ((0:Nat):Int)) 1
  rw [e1,e2]
  exact Heap.get?_push_size _ rfl
 ·have e:b=(s.heap.push { cls:=.type "range",data:=.fields #[.int lo t,.int hi u,.int 1 v] }).objs.size:=by simpa using hb
  subst e
  exact I1.fpOk (Nat.le_refl _) (I1.hok.fresh (Nat.le_refl _))
noncomputable def bBr (ta:TA):TI:=fun σ H R=>ta σ H fun vs H1=>∃ j:Int,vs=[.int j]/\-(2 ^ 62)<=j/\j < 2 ^ 62/\R (Itr 0 j.toNat) H1
noncomputable def bBq (ta:TA):TI:=fun σ H R=>ta σ H fun vs H1=>∃ i j:Int,vs=[.int i,.int j]/\(-(2 ^ 62)<=i/\i < 2 ^ 62/\-(2 ^ 62)<=j/\j < 2 ^ 62)/\R (Itr i (j - i).toNat) H1
theorem aHr {a:Expr} {ta:TA} {p pos:Pos} (hg:Gl X "range") (hm:X.mg "range"=none) (ha:PA X [a] ta) (hs:starEach [a] X.env=[(false,eval a X.env)]:=by rfl):PI X tg (.Call (.Name "range" p) [a] [] pos) (bBr ta):=by
 intro pins s σ H R I h
 refine Call_ (aGh I hg hm boot_range (PyProof.Rows.callWith_type1 (thn (ha pos pins s σ H _ I h) fun us s1 ⟨vs,H1,I1,r1,q1⟩=>?_) hs rfl))
 obtain ⟨j,e,q1,q2,q⟩:=q1
 subst e
 cases r1 with
 | cons r rr =>
  cases rr
  obtain ⟨t,rfl⟩:=r
  exact call_range_1 (aNv I1 (by omega) (by omega) q1 q2 (by simpa using q))
theorem aK6 {a b:Expr} {ta:TA} {p pos:Pos} (hg:Gl X "range") (hm:X.mg "range"=none) (ha:PA X [a,b] ta) (hs:starEach [a,b] X.env=[(false,eval a X.env),(false,eval b X.env)]:=by rfl) (hs2:starEach [b] X.env=[(false,eval b X.env)]:=by rfl) :
  PI X tg (.Call (.Name "range" p) [a,b] [] pos) (bBq ta):=by
 intro pins s σ H R I h
 refine Call_ (aGh I hg hm boot_range (PyProof.Rows.callWith_type1 (thn (ha pos pins s σ H _ I h) fun us s1 ⟨vs,H1,I1,r1,q1⟩=>?_) (by rw [hs,hs2]) (by rw [hs2]; rfl)))
 obtain ⟨i,j,e,⟨q1,q2,q3,q4⟩,q⟩:=q1
 subst e
 cases r1 with
 | cons r rr =>
  cases rr with
  | cons r' rr =>
   cases rr
   obtain ⟨t,rfl⟩:=r
   obtain ⟨t',rfl⟩:=r'
   exact call_range_2 (aNv I1 q1 q2 q3 q4 q)
noncomputable def tFor (wi:TI) (g:TG) (tb:TS):TS:=fun D σ H=>wi σ H fun J H1=>∃ W:Nat->Nat->St->Hp->Prop,(∃ m,W 0 m σ H1)/\∀ i m σ H,W i m σ H ->
 (J.stop i H/\D.nx σ H)∨(J.go i H/\∃ N:St->Hp->Prop,(∀ σ' H',N σ' H'->∃ m',m' < m/\W (i+1) m' σ' H')/\∀ x H',J.yld i H x H'->g x σ H' fun σ2 H2=>tb { D with nx:=N,ct:=N,bk:=D.nx } σ2 H2)
noncomputable def aHq (fp:List Addr) (h:Heap):List (Addr×Obj):=fp.filterMap fun b=>(h.get? b).map fun o=>(b,o)
theorem aEu {fp:List Addr} {h:Heap} {b:Addr} {o:Obj} (hb:b∈fp) (e:h.get? b=some o):(b,o)∈aHq fp h:=List.mem_filterMap.mpr ⟨b,hb,by rw [e]; rfl⟩
theorem aRf {fp:List Addr} {h:Heap} {p:Addr×Obj} (hp:p∈aHq fp h):p.1∈fp/\h.get? p.1=some p.2:=by
 obtain ⟨b,hb,e⟩:=List.mem_filterMap.mp hp
 cases q:h.get? b with
 | none=>rw [q] at e; cases e
 | some o =>
  rw [q] at e
  have e':(b,o)=p:=Option.some.inj e
  subst e'
  exact ⟨hb,q⟩
theorem Inv.pinned {pins:List (Addr×Obj)} {σ:St} {H:Hp} {s:Shared} {fp:List Addr} (I:Inv X pins σ H s) (hf:∀ b∈fp,aS0 X pins H b) (ho:∀ b∈fp,∃ o,s.heap.get? b=some o/\∀ v,o.data≠.cell v):Inv X (pins++aHq fp s.heap) σ H s :=
 I.pins_of fun p hp=>(List.mem_append.mp hp).elim (fun z=>I.pin p (List.mem_append_right _ z)) fun z=>by
  obtain ⟨hb,e⟩:=aRf z
  obtain ⟨f0,f1,f2,_⟩:=hf p.1 hb
  obtain ⟨o,e',d⟩:=ho p.1 hb
  rw [e] at e'; cases e'
  exact ⟨e,f0,f1,f2,d⟩
theorem Inv.unpinned {pins pl:List (Addr×Obj)} {σ:St} {H:Hp} {s:Shared} (I:Inv X (pins++pl) σ H s):Inv X pins σ H s:=I.pins_of fun p hp=>I.pin p (List.mem_append_right _ (List.mem_append_left _ hp))
theorem aDz {iter:Expr} {body:List Stmt} {wi:TI} {g:TG} {tb:TS} {pos:Pos} (hp:PassesOwn (model X.prog X.w) X.A X.env X.xe) (hc:X.calm=true) (hi:PI X tg iter wi) (hg:PG X tg g) (hb:PSs X body tb)
  (hs:∀ x,foldedSetIterable iter X.env x=pure x:=by intro _; rfl):PS X (.For tg iter body [] pos) (tFor wi g tb):=by
 intro pins s σ H D I h
 refine wpAny_For (thn (hi pins s σ H _ I h) fun v s1 h1=>thn h1 fun itv s2 h2=>?_) hs
 obtain ⟨it,fp,tn,J,H2,e,I2,T,st2,f2,W,⟨m0,w0⟩,turn⟩:=h2
 subst e
 -- what stays true of the iterator's objects through the loop
 have stat:∀ {H':Hp},(∀ b∈fp,H' b=none)->∀ b∈fp,aS0 X pins H' b:=fun hn b hb=>⟨hn b hb,(f2 b hb).2⟩
 refine codeAny_forLoop_any (fun n s'=>∃ i σ' H',Inv X pins σ' H' s'/\tn i s'.heap/\(∀ b∈fp,H' b=none)/\W i n σ' H') ?_ m0 ⟨0,σ,H2,I2,st2,fun b hb=>(f2 b hb).1,w0⟩
 rintro n s3 ⟨i,σ3,H3,I3,st3,fr3,w3⟩
 rcases turn i n σ3 H3 w3 with ⟨stop,qn⟩ | ⟨go,N,hN,step⟩
 ·refine wpAny_passesOwn hp (thn (T.done X rfl rfl rfl hc i pins s3 σ3 H3 X.xe I3 (stat fr3) st3 stop) fun r s4 ⟨hr,I4⟩=>?_)
  subst hr
  exact wpAny_execs_nil ⟨σ3,H3,I4,qn⟩
 ·refine wpAny_passesOwn hp (thn (T.item X rfl rfl rfl hc i pins s3 σ3 H3 X.xe I3 (stat fr3) st3 go) fun r s4 ⟨u,hr,h4⟩=>?_)
  subst hr
  refine wpAny_passesOwn hp (thn h4 fun _ s5 ⟨x,H5,I5,r5,y5,st5,fr5⟩=>?_)
  have I5':=I5.pinned (stat fr5) (T.obj _ _ st5)
  refine wpAny_passesOwn hp (thn (hg _ s5 σ3 H5 x u _ I5' r5 (step x H5 y5)) fun _ s6 ⟨σ6,H6,I6,q6⟩=>?_)
  refine wpAny_passesOwn hp (thn (hb _ s6 σ6 H6 _ I6 q6) fun f s7 q7=>?_)
  have again:∀ {σ7:St} {H7:Hp},Inv X (pins++aHq fp s5.heap) σ7 H7 s7->N σ7 H7->∃ m,m < n/\∃ i σ' H',Inv X pins σ' H' s7/\tn i s7.heap/\(∀ b∈fp,H' b=none)/\W i m σ' H':=fun {σ7 H7} I7 n7=>by
   obtain ⟨m',hm,w7⟩:=hN σ7 H7 n7
   refine ⟨m',hm,i+1,σ7,H7,I7.unpinned,T.keep _ _ _ st5 fun b hb o e=>(I7.pin (b,o) (List.mem_append_right _ (List.mem_append_right _ (aEu hb e)))).1,fun b hb=>?_,w7⟩
   obtain ⟨o,e,d⟩:=T.obj _ _ st5 b hb
   exact (I7.pin (b,o) (List.mem_append_right _ (List.mem_append_right _ (aEu hb e)))).2.1
  cases f with
  | next=>obtain ⟨σ7,H7,I7,n7⟩:=q7; exact again I7 n7
  | cont=>obtain ⟨σ7,H7,I7,n7⟩:=q7; exact again I7 n7
  | brk=>obtain ⟨σ7,H7,I7,q7⟩:=q7; exact ⟨σ7,H7,I7.unpinned,q7⟩
  | ret v=>obtain ⟨x7,σ7,H7,I7,r7,q7⟩:=q7; exact ⟨x7,σ7,H7,I7.unpinned,r7,q7⟩
end
theorem aUd {K:PySem.W.Frag} {a:Addr} {xs:List V} {g:TG} {tb:TS} {D:aFy} {σ:St} {H:Hp} (Pv:Nat->St->Hp->Prop) (h0:Pv 0 σ H) (hl:∀ i σ H,i<=xs.length->Pv i σ H->SqL K H a xs)
  (hs:∀ i x σ H,xs[i]?=some x->Pv i σ H->g x σ H fun σ2 H2=>tb { D with nx:=Pv (i+1),ct:=Pv (i+1),bk:=D.nx } σ2 H2) (hd:∀ σ H,Pv xs.length σ H->D.nx σ H) :
  ∃ W:Nat->Nat->St->Hp->Prop,(∃ m,W 0 m σ H)/\∀ i m σ H,W i m σ H ->
   ((Itl K a).stop i H/\D.nx σ H)∨((Itl K a).go i H/\∃ N:St->Hp->Prop,(∀ σ' H',N σ' H'->∃ m',m' < m/\W (i+1) m' σ' H')/\∀ x H',(Itl K a).yld i H x H'->g x σ H' fun σ2 H2=>tb { D with nx:=N,ct:=N,bk:=D.nx } σ2 H2):=by
 refine ⟨fun i m σ H=>m=xs.length - i/\i<=xs.length/\Pv i σ H,⟨xs.length,by simp,Nat.zero_le _,h0⟩,?_⟩
 rintro i m σ H ⟨rfl,hi,p⟩
 have q:=hl i σ H hi p
 by_cases hlt:i < xs.length
 ·refine .inr ⟨⟨xs,xs[i],q,by simp [hlt]⟩,Pv (i+1),fun σ' H' p'=>⟨xs.length - (i+1),by omega,rfl,hlt,p'⟩,fun x H' y=>?_⟩
  obtain ⟨e,y⟩:=y
  subst e
  exact hs i x σ _ (y xs q) p
 ·have e:i=xs.length:=by omega
  subst e
  exact .inl ⟨⟨xs,q,Nat.le_refl _⟩,hd σ H p⟩
theorem aXk {K:PySem.W.Frag} {a:Addr} {xs:List V} {g:TG} {tb:TS} {D:aFy} {σ:St} {H:Hp} (Pv:Nat->St->Hp->Prop) (h0:Pv 0 σ H) (hl:∀ i σ H,i<=xs.length->Pv i σ H->SqT K H a xs)
  (hs:∀ i x σ H,xs[i]?=some x->Pv i σ H->g x σ H fun σ2 H2=>tb { D with nx:=Pv (i+1),ct:=Pv (i+1),bk:=D.nx } σ2 H2) (hd:∀ σ H,Pv xs.length σ H->D.nx σ H) :
  ∃ W:Nat->Nat->St->Hp->Prop,(∃ m,W 0 m σ H)/\∀ i m σ H,W i m σ H ->
   ((Itt K a).stop i H/\D.nx σ H)∨((Itt K a).go i H/\∃ N:St->Hp->Prop,(∀ σ' H',N σ' H'->∃ m',m' < m/\W (i+1) m' σ' H')/\∀ x H',(Itt K a).yld i H x H'->g x σ H' fun σ2 H2=>tb { D with nx:=N,ct:=N,bk:=D.nx } σ2 H2):=by
 refine ⟨fun i m σ H=>m=xs.length - i/\i<=xs.length/\Pv i σ H,⟨xs.length,by simp,Nat.zero_le _,h0⟩,?_⟩
 rintro i m σ H ⟨rfl,hi,p⟩
 have q:=hl i σ H hi p
 by_cases hlt:i < xs.length
 ·refine .inr ⟨⟨xs,xs[i],q,by simp [hlt]⟩,Pv (i+1),fun σ' H' p'=>⟨xs.length - (i+1),by omega,rfl,hlt,p'⟩,fun x H' y=>?_⟩
  obtain ⟨e,y⟩:=y
  subst e
  exact hs i x σ _ (y xs q) p
 ·have e:i=xs.length:=by omega
  subst e
  exact .inl ⟨⟨xs,q,Nat.le_refl _⟩,hd σ H p⟩
theorem aR1 {lo:Int} {n:Nat} {g:TG} {tb:TS} {D:aFy} {σ:St} {H:Hp} (Pv:Nat->St->Hp->Prop) (h0:Pv 0 σ H)
  (hs:∀ i σ H,i < n->Pv i σ H->g (.int (lo+i)) σ H fun σ2 H2=>tb { D with nx:=Pv (i+1),ct:=Pv (i+1),bk:=D.nx } σ2 H2) (hd:∀ σ H,Pv n σ H->D.nx σ H) :
  ∃ W:Nat->Nat->St->Hp->Prop,(∃ m,W 0 m σ H)/\∀ i m σ H,W i m σ H ->
   ((Itr lo n).stop i H/\D.nx σ H)∨((Itr lo n).go i H/\∃ N:St->Hp->Prop,(∀ σ' H',N σ' H'->∃ m',m' < m/\W (i+1) m' σ' H')/\∀ x H',(Itr lo n).yld i H x H'->g x σ H' fun σ2 H2=>tb { D with nx:=N,ct:=N,bk:=D.nx } σ2 H2):=by
 refine ⟨fun i m σ H=>m=n - i/\i<=n/\Pv i σ H,⟨n,by simp,Nat.zero_le _,h0⟩,?_⟩
 rintro i m σ H ⟨rfl,hi,p⟩
 by_cases hlt:i < n
 ·refine .inr ⟨hlt,Pv (i+1),fun σ' H' p'=>⟨n - (i+1),by omega,rfl,hlt,p'⟩,fun x H' y=>?_⟩
  obtain ⟨e,y⟩:=y
  subst e y
  exact hs i σ _ hlt p
 ·have e:i=n:=by omega
  subst e
  exact .inl ⟨Nat.le_refl _,hd σ H p⟩
theorem aNd {c:TT} {tb:TS} {D:aFy} {σ:St} {H:Hp} (Pv:St->Hp->Prop) (μ:St->Hp->Nat) (h0:Pv σ H)
  (hs:∀ σ H,Pv σ H->c σ H fun b H1=>if b=true then tb { D with nx:=fun σ' H'=>Pv σ' H'/\μ σ' H' < μ σ H,ct:=fun σ' H'=>Pv σ' H'/\μ σ' H' < μ σ H,bk:=D.nx } σ H1 else D.nx σ H1)
  (mono:∀ σ H Q Q',(∀ b H1,Q b H1->Q' b H1)->c σ H Q->c σ H Q'):aPv c tb D σ H:=by
 refine ⟨fun m σ H=>m=μ σ H/\Pv σ H,⟨_,rfl,h0⟩,?_⟩
 rintro m σ H ⟨rfl,p⟩
 refine mono σ H _ _ (fun b H1 q=>?_) (hs σ H p)
 cases b with
 | true=>exact ⟨_,fun σ' H' ⟨p',l⟩=>⟨_,l,rfl,p'⟩,q⟩
 | false=>exact q
end L2
namespace L2
open PySem PySem.Spec PyProof.Rows
noncomputable abbrev R2:=V->V->Hp->VK->Prop
noncomputable def OpR (X:Cx) (f:Value->Value->Sem Value) (r:R2):Prop :=
 ∀ (pins:List (Addr×Obj)) (s:Shared) (σ:St) (H:Hp) (x y:V) (v u:Value) (Q:VK),Inv X pins σ H s->aB0 x v->aB0 y u->r x y H Q ->
  wpAny (model X.prog X.w) X.A (f v u) (EP X pins σ Q) X.xe s
noncomputable def UnR (X:Cx) (f:Value->Sem Value) (r:V->Hp->VK->Prop):Prop :=
 ∀ (pins:List (Addr×Obj)) (s:Shared) (σ:St) (H:Hp) (x:V) (v:Value) (Q:VK),Inv X pins σ H s->aB0 x v->r x H Q ->
  wpAny (model X.prog X.w) X.A (f v) (EP X pins σ Q) X.xe s
noncomputable def aDn (X:Cx) (f:Value) (r:List V->Hp->VK->Prop):Prop :=
 ∀ (pins:List (Addr×Obj)) (s:Shared) (σ:St) (H:Hp) (xs:List V) (us:List Value) (Q:VK),Inv X pins σ H s->aB5 xs us->r xs H Q ->
  wpAny (model X.prog X.w) X.A (call f us) (EP X pins σ Q) X.xe s
noncomputable def tOp (r:R2) (ta tb:TE):TE:=fun σ H Q=>ta σ H fun x H1=>tb σ H1 fun y H2=>r x y H2 Q
noncomputable def tUn (r:V->Hp->VK->Prop) (ta:TE):TE:=fun σ H Q=>ta σ H fun x H1=>r x H1 Q
noncomputable def rI (C:Int->Int->Prop) (g:Int->Int->V):R2:=fun x y H Q=>∃ i j,x=.int i/\y=.int j/\C i j/\Q (g i j) H
noncomputable def rI0 (g:Int->Int->V):R2:=fun x y H Q=>∃ i j,x=.int i/\y=.int j/\Q (g i j) H
noncomputable def rU (g:Int->V):V->Hp->VK->Prop:=fun x H Q=>∃ i,x=.int i/\Q (g i) H
section
variable {X:Cx} {a b c:Expr} {ta tb tc:TE} {pos:Pos}
theorem binT (ha:PE X a ta) (hb:PE X b tb) {pins:List (Addr×Obj)} {s:Shared} {σ:St} {H:Hp} {R:V->V->Hp->Prop} (I:Inv X pins σ H s)
  (h:ta σ H fun x H1=>tb σ H1 fun y H2=>R x y H2) {Q:Value->Shared->Prop} {f:Value->Value->Sem Value}
  (hf:∀ v u s2 x y H2,Inv X pins σ H2 s2->aB0 x v->aB0 y u->R x y H2->wpAny (model X.prog X.w) X.A (f v u) Q X.xe s2) :
  wpAny (model X.prog X.w) X.A (eval a X.env) (fun v s₁=>wpAny (model X.prog X.w) X.A (eval b X.env) (fun u s₂=>wpAny (model X.prog X.w) X.A (f v u) Q X.xe s₂) X.xe s₁) X.xe s:=by
 refine thn (ha pins s σ H _ I h) fun v s1 ⟨x,H1,I1,r1,q1⟩=>?_
 refine thn (hb pins s1 σ H1 _ I1 q1) fun u s2 ⟨y,H2,I2,r2,q2⟩=>?_
 exact hf v u s2 x y H2 I2 r1 r2 q2
theorem aAq {op:Operator} {r:R2} (ho:OpR X (binaryOp op) r) (ha:PE X a ta) (hb:PE X b tb):PE X (.BinOp a op b pos) (tOp r ta tb):=by
 intro pins s σ H Q I h
 exact wpAny_BinOp (binT ha hb I h fun v u s2 x y H2 I2 rx ry q=>ho pins s2 σ H2 x y v u Q I2 rx ry q)
theorem pe_un {op:UnaryOp} {r:V->Hp->VK->Prop} (ho:UnR X (unaryOp op) r) (ha:PE X a ta):PE X (.UnaryOp op a pos) (tUn r ta):=by
 intro pins s σ H Q I h
 exact UnaryOp_ (thn (ha pins s σ H _ I h) fun v s1 ⟨x,H1,I1,r1,q1⟩=>ho pins s1 σ H1 x v Q I1 r1 q1)
theorem opI {f:Value->Value->Sem Value} {C:Int->Int->Prop} {g:Int->Int->Int}
  (rule:∀ (i j:Int) (t u:Tok) (s:Shared) (Q:Value->Shared->Prop) (E:Value->Shared->Prop),C i j->Q (.int (g i j) s.toks) { s with toks:=s.toks+1 }->wpAny (model X.prog X.w) X.A (f (.int i t) (.int j u)) Q E s) :
  OpR X f (rI C fun i j=>.int (g i j)):=by
 intro pins s σ H x y v u Q I rx ry h
 obtain ⟨i,j,rfl,rfl,hc,q⟩:=h
 obtain ⟨t,rfl⟩:=rx
 obtain ⟨t',rfl⟩:=ry
 exact rule i j t t' s _ _ hc ⟨.int (g i j),H,I.tok _,⟨_,rfl⟩,q⟩
theorem opI0 {f:Value->Value->Sem Value} {g:Int->Int->Int}
  (rule:∀ (i j:Int) (t u:Tok) (s:Shared) (Q:Value->Shared->Prop) (E:Value->Shared->Prop),Q (.int (g i j) s.toks) { s with toks:=s.toks+1 }->wpAny (model X.prog X.w) X.A (f (.int i t) (.int j u)) Q E s) :
  OpR X f (rI0 fun i j=>.int (g i j)):=by
 intro pins s σ H x y v u Q I rx ry h
 obtain ⟨i,j,rfl,rfl,q⟩:=h
 obtain ⟨t,rfl⟩:=rx
 obtain ⟨t',rfl⟩:=ry
 exact rule i j t t' s _ _ ⟨.int (g i j),H,I.tok _,⟨_,rfl⟩,q⟩
theorem opB0 {f:Value->Value->Sem Value} {g:Int->Int->Bool}
  (rule:∀ (i j:Int) (t u:Tok) (s:Shared) (Q:Value->Shared->Prop) (E:Value->Shared->Prop),Q (.bool (g i j)) s->wpAny (model X.prog X.w) X.A (f (.int i t) (.int j u)) Q E s) :
  OpR X f (rI0 fun i j=>.bl (g i j)):=by
 intro pins s σ H x y v u Q I rx ry h
 obtain ⟨i,j,rfl,rfl,q⟩:=h
 obtain ⟨t,rfl⟩:=rx
 obtain ⟨t',rfl⟩:=ry
 exact rule i j t t' s _ _ ⟨.bl (g i j),H,I,rfl,q⟩
noncomputable def CPow (i j:Int):Prop:=0<=j/\j<=1000000/\i.natAbs < 2 ^ 64
noncomputable def CMul (i j:Int):Prop:=(-(2 ^ 64) < i/\i < 2 ^ 64)∨(-(2 ^ 64) < j/\j < 2 ^ 64)
theorem CMul.ok {i j:Int} (h:CMul i j):IntMulOk i j:=by
 rcases h with ⟨h1,h2⟩ | ⟨h1,h2⟩
 ·exact .of_left (intBits_le_64 h1 h2)
 ·exact .of_right (intBits_le_64 h1 h2)
theorem bA5:OpR X (binaryOp .Add) (rI0 fun i j=>.int (i+j)):=opI0 fun _ _ _ _ _ _ _ q=>add_int q
theorem aQ3:OpR X (binaryOp .Sub) (rI0 fun i j=>.int (i - j)):=opI0 fun _ _ _ _ _ _ _ q=>sub_int q
theorem aBl:OpR X (binaryOp .Mod) (rI (fun _ j=>0 < j) fun i j=>.int (i % j)):=opI fun i j _ _ _ _ _ hc q=>by
 have h1:(0:Int) < j:=hc
 exact mod_int' (by omega) (by rw [Int.fmod_eq_emod_of_nonneg i (by omega)]; exact q)
theorem aWt:OpR X (binaryOp .Mod) (rI (fun _ j=>j≠0) fun i j=>.int (i.fmod j)):=opI fun _ _ _ _ _ _ _ hc q=>mod_int' hc q
theorem aQ4:OpR X (binaryOp .Pow) (rI CPow fun i j=>.int (i ^ j.toNat)):=opI fun _ _ _ _ _ _ _ hc q=>pow_int_small hc.1 hc.2.1 hc.2.2 q
theorem unI {f:Value->Sem Value} {g:Int->Int}
  (rule:∀ (i:Int) (t:Tok) (s:Shared) (Q:Value->Shared->Prop) (E:Value->Shared->Prop),Q (.int (g i) s.toks) { s with toks:=s.toks+1 }->wpAny (model X.prog X.w) X.A (f (.int i t)) Q E s) :
  UnR X f (rU fun i=>.int (g i)):=by
 intro pins s σ H x v Q I rx h
 obtain ⟨i,rfl,q⟩:=h
 obtain ⟨t,rfl⟩:=rx
 exact rule i t s _ _ ⟨.int (g i),H,I.tok _,⟨_,rfl⟩,q⟩
theorem aYl:UnR X (unaryOp .USub) (rU fun i=>.int (-i)):=unI fun _ _ _ _ _ q=>neg_int q
end
noncomputable def scal:V->V->Bool
 | .non,.non=>true | .non,.int _=>true | .int _,.non=>true | .non,.bl _=>true | .bl _,.non=>true | .non,.str _=>true | .str _,.non=>true
 | .int _,.int _=>true | .bl _,.bl _=>true | .str _,.str _=>true | .byt _,.byt _=>true
 | .int _,.str _=>true | .str _,.int _=>true | .bl _,.str _=>true | .str _,.bl _=>true
 | _,_=>false
noncomputable def rEq:R2:=fun x y H Q=>scal x y=true/\Q (.bl (decide (x=y))) H
noncomputable def rNe:R2:=fun x y H Q=>scal x y=true/\Q (.bl (!decide (x=y))) H
theorem aKc {i j:Int}:decide (V.int i=V.int j)=(i==j):=by
 rw [Bool.eq_iff_iff]
 simp
theorem aSg {i j:Bool}:decide (V.bl i=V.bl j)=(i==j):=by
 rw [Bool.eq_iff_iff]
 simp
theorem aKb {i j:Str}:decide (V.str i=V.str j)=(i==j):=by
 rw [Bool.eq_iff_iff]
 simp
theorem aSf {i j:Array UInt8}:decide (V.byt i=V.byt j)=(i.toList==j.toList):=by
 rw [Bool.eq_iff_iff]
 cases i
 cases j
 simp
section
variable {X:Cx} {a b c:Expr} {ta tb tc:TE} {pos:Pos}
theorem aBb {pins:List (Addr×Obj)} {σ:St} {H:Hp} {s:Shared} {Q:VK} {k k':Bool} (I:Inv X pins σ H s) (q:Q (.bl k) H) (e:k=k'):EP X pins σ Q (.bool k') s:=by
 subst e
 exact ⟨.bl k,H,I,rfl,q⟩
theorem op_eq:OpR X (compareOp .Eq) rEq:=by
 intro pins s σ H x y v u Q I rx ry h
 obtain ⟨hs,q⟩:=h
 cases x with
 | non =>
  cases rx
  cases y with
  | non=>cases ry; exact PySem.EqNone.eq_none_none (aBb I q (by simp))
  | bl j=>cases ry; exact PySem.EqNone.eq_none_bool (aBb I q (by simp))
  | int j=>obtain ⟨t',rfl⟩:=ry; exact PySem.EqNone.eq_none_int (aBb I q (by simp))
  | str j=>obtain ⟨t',rfl⟩:=ry; exact PySem.EqNone.eq_none_str (aBb I q (by simp))
  | _=>exact absurd (show false=true from hs) Bool.false_ne_true
 | bl i =>
  cases rx
  cases y with
  | non=>cases ry; exact PySem.EqNone.eq_bool_none (aBb I q (by simp))
  | bl j=>cases ry; exact eq_bool (aBb I q aSg)
  | str j=>obtain ⟨t',rfl⟩:=ry; exact PySem.EqMixed.eq_bool_str (aBb I q (by simp))
  | _=>exact absurd (show false=true from hs) Bool.false_ne_true
 | int i =>
  obtain ⟨t,rfl⟩:=rx
  cases y with
  | non=>cases ry; exact PySem.EqNone.eq_int_none (aBb I q (by simp))
  | int j=>obtain ⟨t',rfl⟩:=ry; exact eq_int (aBb I q aKc)
  | str j=>obtain ⟨t',rfl⟩:=ry; exact PySem.EqMixed.eq_int_str (aBb I q (by simp))
  | _=>exact absurd (show false=true from hs) Bool.false_ne_true
 | str i =>
  obtain ⟨t,rfl⟩:=rx
  cases y with
  | non=>cases ry; exact PySem.EqNone.eq_str_none (aBb I q (by simp))
  | bl j=>cases ry; exact PySem.EqMixed.eq_str_bool (aBb I q (by simp))
  | int j=>obtain ⟨t',rfl⟩:=ry; exact PySem.EqMixed.eq_str_int (aBb I q (by simp))
  | str j=>obtain ⟨t',rfl⟩:=ry; exact eq_str (aBb I q aKb)
  | _=>exact absurd (show false=true from hs) Bool.false_ne_true
 | byt i =>
  obtain ⟨t,rfl⟩:=rx
  cases y with
  | byt j=>obtain ⟨t',rfl⟩:=ry; exact PySem.W.eq_bytes (aBb I q aSf)
  | _=>exact absurd (show false=true from hs) Bool.false_ne_true
 | _=>cases y <;> exact absurd (show false=true from hs) Bool.false_ne_true
theorem op_ne:OpR X (compareOp .NotEq) rNe:=by
 intro pins s σ H x y v u Q I rx ry h
 obtain ⟨hs,q⟩:=h
 cases x with
 | non =>
  cases rx
  cases y with
  | non=>cases ry; exact PySem.EqNone.ne_none_none (aBb I q (by simp))
  | bl j=>cases ry; exact PySem.EqNone.ne_none_bool (aBb I q (by simp))
  | int j=>obtain ⟨t',rfl⟩:=ry; exact PySem.EqNone.ne_none_int (aBb I q (by simp))
  | str j=>obtain ⟨t',rfl⟩:=ry; exact PySem.EqNone.ne_none_str (aBb I q (by simp))
  | _=>exact absurd (show false=true from hs) Bool.false_ne_true
 | bl i =>
  cases rx
  cases y with
  | non=>cases ry; exact PySem.EqNone.ne_bool_none (aBb I q (by simp))
  | bl j=>cases ry; exact ne_bool (aBb I q (congrArg not aSg))
  | str j=>obtain ⟨t',rfl⟩:=ry; exact PySem.EqMixed.ne_bool_str (aBb I q (by simp))
  | _=>exact absurd (show false=true from hs) Bool.false_ne_true
 | int i =>
  obtain ⟨t,rfl⟩:=rx
  cases y with
  | non=>cases ry; exact PySem.EqNone.ne_int_none (aBb I q (by simp))
  | int j=>obtain ⟨t',rfl⟩:=ry; exact ne_int (aBb I q (congrArg not aKc))
  | str j=>obtain ⟨t',rfl⟩:=ry; exact PySem.EqMixed.ne_int_str (aBb I q (by simp))
  | _=>exact absurd (show false=true from hs) Bool.false_ne_true
 | str i =>
  obtain ⟨t,rfl⟩:=rx
  cases y with
  | non=>cases ry; exact PySem.EqNone.ne_str_none (aBb I q (by simp))
  | bl j=>cases ry; exact PySem.EqMixed.ne_str_bool (aBb I q (by simp))
  | int j=>obtain ⟨t',rfl⟩:=ry; exact PySem.EqMixed.ne_str_int (aBb I q (by simp))
  | str j=>obtain ⟨t',rfl⟩:=ry; exact ne_str (aBb I q (congrArg not aKb))
  | _=>exact absurd (show false=true from hs) Bool.false_ne_true
 | byt i =>
  obtain ⟨t,rfl⟩:=rx
  cases y with
  | byt j=>obtain ⟨t',rfl⟩:=ry; exact PySem.W.ne_bytes (aBb I q (congrArg not aSf))
  | _=>exact absurd (show false=true from hs) Bool.false_ne_true
 | _=>cases y <;> exact absurd (show false=true from hs) Bool.false_ne_true
theorem aTz:OpR X (compareOp .Lt) (rI0 fun i j=>.bl (decide (i < j))):=opB0 fun _ _ _ _ _ _ _ q=>lt_int q
theorem aJt:OpR X (compareOp .LtE) (rI0 fun i j=>.bl (decide (i<=j))):=opB0 fun _ _ _ _ _ _ _ q=>le_int q
theorem aMl:OpR X (compareOp .Gt) (rI0 fun i j=>.bl (decide (j < i))):=opB0 fun _ _ _ _ _ _ _ q=>gt_int q
theorem aWv:OpR X (compareOp .GtE) (rI0 fun i j=>.bl (decide (j<=i))):=opB0 fun _ _ _ _ _ _ _ q=>ge_int q
theorem bA2:OpR X (compareOp .Is) (fun x y H Q=>y=.non/\Q (.bl (decide (x=.non))) H):=by
 intro pins s σ H x y v u Q I rx ry h
 obtain ⟨rfl,q⟩:=h
 cases ry
 refine is_none_gen (aBb I q ?_)
 cases x <;> first
  | (cases rx; rfl)
  | (obtain ⟨t,rfl⟩:=rx; rfl)
theorem aWr:OpR X (compareOp .IsNot) (fun x y H Q=>y=.non/\Q (.bl (!decide (x=.non))) H):=by
 intro pins s σ H x y v u Q I rx ry h
 obtain ⟨rfl,q⟩:=h
 cases ry
 refine isnot_none_gen (aBb I q ?_)
 cases x <;> first
  | (cases rx; rfl)
  | (obtain ⟨t,rfl⟩:=rx; rfl)
theorem OpR.or {f:Value->Value->Sem Value} {r r':R2} (h:OpR X f r) (h':OpR X f r'):OpR X f (fun x y H Q=>r x y H Q∨r' x y H Q):=by
 intro pins s σ H x y v u Q I rx ry q
 rcases q with q | q
 ·exact h pins s σ H x y v u Q I rx ry q
 ·exact h' pins s σ H x y v u Q I rx ry q
theorem aAw (b:Expr) {op:CmpOp} (h:op≠.In:=by decide) (h2:op≠.NotIn:=by decide):behindInMarks op b=false:=by
 have e1:(op==CmpOp.In)=false:=by cases op <;> first | rfl | exact absurd rfl h
 have e2:(op==CmpOp.NotIn)=false:=by cases op <;> first | rfl | exact absurd rfl h2
 cases b <;> simp [behindInMarks,e1,e2]
theorem aCf {op:CmpOp} {r:R2} (ho:OpR X (compareOp op) r) (ha:PE X a ta) (hb:PE X b tb) (hm:behindInMarks op b=false):PE X (.Compare a [op] [b] pos) (tOp r ta tb):=by
 intro pins s σ H Q I h
 exact wpAny_Compare1 (binT ha hb I h fun v u s2 x y H2 I2 rx ry q=>ho pins s2 σ H2 x y v u Q I2 rx ry q) hm
noncomputable def aVw (t:TE):TT:=fun σ H Q=>t σ H fun x H'=>∃ k,x=.bl k/\Q k H'
theorem aAr {op:CmpOp} {r:R2} (ho:OpR X (compareOp op) r) (ha:PE X a ta) (hb:PE X b tb) (hm:behindInMarks op b=false):PT X (.Compare a [op] [b] pos) (aVw (tOp r ta tb)):=by
 intro pins s σ H Q I h
 refine wpAny_isTrue_Compare1 (thn (ha pins s σ H _ I h) fun v s1 ⟨x,H1,I1,r1,q1⟩=>thn (hb pins s1 σ H1 _ I1 q1) fun u s2 ⟨y,H2,I2,r2,q2⟩ =>
  thn (ho pins s2 σ H2 x y v u _ I2 r1 r2 q2) fun c s3 ⟨z,H3,I3,r3,k,e,q3⟩=>?_) hm
 subst e
 cases r3
 exact wpAny_truthy_bool ⟨H3,I3,q3⟩
noncomputable def aPz (r r':R2) (ta tb tc:TE):TE:=fun σ H Q=>ta σ H fun x H1=>tb σ H1 fun y H2=>r x y H2 fun z H3=>∃ k,z=.bl k /\
 (if k=true then tc σ H3 fun w' H4=>r' y w' H4 Q else Q (.bl false) H3)
theorem aJs {op op':CmpOp} {r r':R2} (ho:OpR X (compareOp op) r) (ho':OpR X (compareOp op') r') (ha:PE X a ta) (hb:PE X b tb) (hc:PE X c tc)
  (hm:lastMarks [op,op'] [b,c]=false:=by with_unfolding_all rfl):PE X (.Compare a [op,op'] [b,c] pos) (aPz r r' ta tb tc):=by
 intro pins s σ H Q I h
 refine Compare_chain (thn (ha pins s σ H _ I h) fun v s1 ⟨x,H1,I1,r1,q1⟩=>chain_link (thn (hb pins s1 σ H1 _ I1 q1) fun u s2 ⟨y,H2,I2,r2,q2⟩ =>
  thn (ho pins s2 σ H2 x y v u _ I2 r1 r2 q2) fun d s3 ⟨z,H3,I3,r3,k,e,q3⟩=>?_)) hm
 subst e
 cases r3
 refine wpAny_truthy_bool ?_
 cases k with
 | false=>exact ite_ff ⟨.bl false,H3,I3,rfl,q3⟩
 | true=>exact ite_tt (chain_last (thn (hc pins s3 σ H3 _ I3 q3) fun w' s4 ⟨z',H4,I4,r4,q4⟩=>ho' pins s4 σ H4 y z' u w' Q I4 r2 r4 q4))
theorem aTr {op op':CmpOp} {r r':R2} (ho:OpR X (compareOp op) r) (ho':OpR X (compareOp op') r') (ha:PE X a ta) (hb:PE X b tb) (hc:PE X c tc)
  (hm:lastMarks [op,op'] [b,c]=false:=by with_unfolding_all rfl):PT X (.Compare a [op,op'] [b,c] pos) (aVw (aPz r r' ta tb tc)):=by
 intro pins s σ H Q I h
 refine isTrue_chain (thn (ha pins s σ H _ I h) fun v s1 ⟨x,H1,I1,r1,q1⟩=>test_link (thn (hb pins s1 σ H1 _ I1 q1) fun u s2 ⟨y,H2,I2,r2,q2⟩ =>
  thn (ho pins s2 σ H2 x y v u _ I2 r1 r2 q2) fun d s3 ⟨z,H3,I3,r3,k,e,q3⟩=>?_)) hm
 subst e
 cases r3
 refine wpAny_truthy_bool ?_
 cases k with
 | false =>
  obtain ⟨k',e',q'⟩:=q3
  cases e'
  exact ite_ff ⟨H3,I3,q'⟩
 | true =>
  refine ite_tt (test_last (thn (hc pins s3 σ H3 _ I3 q3) fun w' s4 ⟨z',H4,I4,r4,q4⟩=>thn (ho' pins s4 σ H4 y z' u w' _ I4 r2 r4 q4) fun d' s5 ⟨z2,H5,I5,r5,k2,e2,q5⟩=>?_))
  subst e2
  cases r5
  exact wpAny_truthy_bool ⟨H5,I5,q5⟩
theorem aN6:(sizeLine:Nat) < 2 ^ 63:=by rw [sizeLine_eq]; decide
theorem aO0:OpR X (binaryOp .Add) (fun x y H Q=>∃ i j,x=.str i/\y=.str j/\i.length+j.length<=sizeLine/\Q (.str (i++j)) H):=by
 intro pins s σ H x y v u Q I rx ry h
 obtain ⟨i,j,rfl,rfl,hz,q⟩:=h
 obtain ⟨t,rfl⟩:=rx
 obtain ⟨t',rfl⟩:=ry
 exact add_str (fun t' tk=>⟨.str (i++j),H,I.tok _,⟨_,rfl⟩,q⟩) hz
theorem aOk {x:V} {us:List Value} (r:aB5 [x] us):∃ u,us=[u]/\aB0 x u:=by
 cases r with
 | cons r1 r2=>cases r2; exact ⟨_,rfl,r1⟩
theorem vals2 {x y:V} {us:List Value} (r:aB5 [x,y] us):∃ u w',us=[u,w']/\aB0 x u/\aB0 y w':=by
 cases r with
 | cons r1 r2 =>
  cases r2 with
  | cons r3 r4=>cases r4; exact ⟨_,_,rfl,r1,r3⟩
theorem aUm:aDn X (.builtin "abs") (fun xs H Q=>∃ i,xs=[.int i]/\Q (.int (if i < 0 then -i else i)) H):=by
 intro pins s σ H xs us Q I r h
 obtain ⟨i,rfl,q⟩:=h
 obtain ⟨u,rfl,t,rfl⟩:=aOk r
 exact call_abs_int fun u tk=>⟨.int (if i < 0 then -i else i),H,I.tok _,⟨_,rfl⟩,q⟩
theorem aSr (hc:X.calm=true):aDn X (.builtin "max") (fun xs H Q=>∃ i j,xs=[.int i,.int j]/\Q (.int (if j > i then j else i)) H):=by
 intro pins s σ H xs us Q I r h
 obtain ⟨i,j,rfl,q⟩:=h
 obtain ⟨u,w',rfl,⟨t,rfl⟩,⟨t',rfl⟩⟩:=vals2 r
 refine max_two_ints (I.ok.hd hc) fun h' tk k=>⟨_,H,I.kept k,?_,q⟩
 by_cases hj:j > i
 ·rw [if_pos hj,if_pos hj]; exact ⟨_,rfl⟩
 ·rw [if_neg hj,if_neg hj]; exact ⟨_,rfl⟩
theorem aSs:aDn X (.type "int") (fun xs H Q=>(∃ i,xs=[.int i]/\Q (.int i) H)∨∃ k,xs=[.bl k]/\Q (.int (if k then 1 else 0)) H):=by
 intro pins s σ H xs us Q I r h
 rcases h with ⟨i,rfl,q⟩ | ⟨k,rfl,q⟩
 ·obtain ⟨u,rfl,t,rfl⟩:=aOk r
  exact call_int_int ⟨.int i,H,I,⟨_,rfl⟩,q⟩
 ·obtain ⟨u,rfl,r1⟩:=aOk r
  cases r1
  exact call_int_bool ⟨.int (if k then 1 else 0),H,I.tok _,⟨_,rfl⟩,q⟩
noncomputable def LenV (K:PySem.W.Frag) (x:V) (H:Hp) (n:Nat):Prop :=
 match x with
 | .str y=>y.length<=sizeLine/\n=y.length
 | .byt y=>y.size<=sizeLine/\n=y.size
 | .ref p=>(∃ xs,SqL K H p xs/\n=xs.length)∨∃ xs,SqT K H p xs/\n=xs.length
 | _=>False
theorem aUl:aDn X (.builtin "len") (fun xs H Q=>∃ x n,xs=[x]/\LenV X.K x H n/\Q (.int n) H):=by
 intro pins s σ H xs us Q I r h
 obtain ⟨x,n,rfl,e,q⟩:=h
 obtain ⟨u,rfl,rx⟩:=aOk r
 have hl:=aN6
 have hs:sizeLine=16777216:=sizeLine_eq
 cases x with
 | str y =>
  obtain ⟨t,rfl⟩:=rx
  obtain ⟨hy,e'⟩:y.length<=sizeLine/\n=y.length:=e
  subst e'
  exact len_str (by omega) ⟨.int _,H,I.tok _,⟨_,rfl⟩,q⟩
 | byt y =>
  obtain ⟨t,rfl⟩:=rx
  obtain ⟨hy,e'⟩:y.size<=sizeLine/\n=y.size:=e
  subst e'
  exact PySem.W.len_bytes (by omega) ⟨.int _,H,I.tok _,⟨_,rfl⟩,q⟩
 | ref p =>
  cases rx
  have e':(∃ xs,SqL X.K H p xs/\n=xs.length)∨∃ xs,SqT X.K H p xs/\n=xs.length:=e
  rcases e' with ⟨xs,hx,e'⟩ | ⟨xs,hx,e'⟩
  ·subst e'
   obtain ⟨its,r',pl,hz⟩:=I.list hx
   have hlen:=r'.length
   exact Calls.call_len_list pl.isList (by simp only [List.size_toArray]; omega) ⟨.int xs.length,H,I.tok _,⟨_,by simp only [List.size_toArray]; rw [hlen]⟩,q⟩
  ·subst e'
   obtain ⟨its,r',pl,hz⟩:=I.tuple hx
   have hlen:=r'.length
   exact len_tuple pl (by simp only [List.size_toArray]; omega) ⟨.int xs.length,H,I.tok _,⟨_,by simp only [List.size_toArray]; rw [hlen]⟩,q⟩
 | _=>exact (show False from e).elim
end
end L2
namespace L2
open PySem PySem.Spec PyProof.Rows
structure ObjM (h:Heap) (x dx C:Addr) (mA:Str->Option Value):Prop where
 obj:h.get? x=some (PySem.W.instObj C dx)
 ns:h.Ns1 dx mA
 ne:dx≠x
theorem aRo {h:Heap} {dx:Addr} {mA:Str->Option Value} (n:h.Ns1 dx mA):∃ od,h.get? dx=some od/\∀ name,PySem.W.lookIn name od=some (mA name):=by
 obtain ⟨o,es,ep,ho,hd,hk,_,hm⟩:=n
 refine ⟨o,ho,fun name=>?_⟩
 have e:=hm name
 unfold nsFind findBy at e
 rw [← Array.find?_toList] at e
 unfold PySem.W.lookIn
 rw [hd]
 dsimp only
 split
 ·rename_i y q
  rw [q] at e
  exact congrArg some e
 ·rename_i q
  rw [q] at e
  have a:es.toList.any (·.refKey)=false:=by
   rw [List.any_eq_false]
   intro y hy
   obtain ⟨z,t,hkey⟩:=hk y (Array.mem_toList_iff.mp hy)
   simp [DictEntry.refKey,hkey]
  have a':¬ es.toList.any (·.refKey)=true:=by rw [a]; exact Bool.false_ne_true
  rw [if_neg a']
  exact congrArg some e
theorem ObjM.look {h:Heap} {x dx C:Addr} {mA:Str->Option Value} (I:ObjM h x dx C mA):∃ od,PySem.W.InstAt h x (PySem.W.instObj C dx) C (some od)/\∀ name,PySem.W.lookIn name od=some (mA name) :=
 let ⟨od,ho,hl⟩:=aRo I.ns
 ⟨od,⟨I.obj,rfl,rfl,ho⟩,hl⟩
section
variable {prog:Program} {w:World} {A:Around} {E:Value -> Shared -> Prop} {s:Shared} {K:PySem.W.Frag} {x dx C f:Addr} {mA:Str -> Option Value} {name:Str} {v:Value}
end
theorem aPi.some_of {v:V} {o:Option Value} (r:aPi (some v) o):∃ u,o=some u/\aB0 v u:=by
 cases o with
 | none=>exact (show False from r).elim
 | some u=>exact ⟨u,rfl,r⟩
section
variable {P:Program} {w:World} {H H':Hp} {h h':Heap} {a C dx:Addr} {fs fs':List (Str×V)}
theorem aXi (hok:HOk P w H h) (e:H a=some (.ins C dx fs)):∃ mA,ObjM h a dx C mA/\(∀ f,aPi (fs.lookup f) (mA f))/\PySem.Within mA (fs.map (·.1))/\fs.length<=1000/\H dx=some (.own a):=by
 obtain ⟨d,z,ne,ob,mA,n,r,q⟩:=(show aB3 P w H h a (.ins C dx fs) from hok a _ e)
 exact ⟨mA,⟨ob,n,ne⟩,r,q,z,d⟩
end
structure Cls (K:PySem.W.Frag) (C:Addr):Prop where
 pg:PySem.W.plainGet K C Str.empty=true
 hd:PySem.W.hasDictIn K C=true
 po:PySem.W.plainOver K C=true
 sa:PySem.W.findIn K (.ref C) "__setattr__"=some (some (.builtin "object.__setattr__"))
theorem Cls.get {K:PySem.W.Frag} {C:Addr} (c:Cls K C) (f:Str):PySem.W.plainGet K C f=true:=c.pg
section
variable {X:Cx} {pins:List (Addr×Obj)} {σ:St} {H:Hp} {s:Shared} {a C dx:Addr} {fs:List (Str×V)} {f:Str} {v:V} {A:Around} {E:Value -> Shared -> Prop}
end
section
variable {X:Cx} {o e value:Expr} {f:Str} {pos pos' tpos:Pos} {ta tv:TE}
end
section
variable {X:Cx} {pins:List (Addr×Obj)} {σ:St} {H:Hp} {s:Shared} {A:Around} {E:Value -> Shared -> Prop} {Q:Value -> Shared -> Prop} {c:Value} {b:Bool}
inductive aG7 (K:PySem.W.Frag) (H:Hp):V->Value->Prop where
 | non:aG7 K H .non (.type "NoneType")
 | bl (x:Bool):aG7 K H (.bl x) (.type "bool")
 | int (i:Int):aG7 K H (.int i) (.type "int")
 | str (x:Str):aG7 K H (.str x) (.type "str")
 | flt (x:UInt64):aG7 K H (.flt x) (.type "float")
 | lst {a:Addr} {xs:List V} (e:H a=some (.lst xs)):aG7 K H (.ref a) (.type "list")
 | frz {a:Addr} {o:Obj} {xs:List V} (e:H a=some (.frz o (.lst xs))):aG7 K H (.ref a) (.type "list")
 | tup {a:Addr} {xs:List V} (e:H a=some (.tup xs)):aG7 K H (.ref a) (.type "tuple")
 | dK {a:Addr} {kvs:List (Key×V)} (e:H a=some (.dK kvs)):aG7 K H (.ref a) (.type "dict")
 | dT {a:Addr} {kvs:List (List Key×V)} (e:H a=some (.dT kvs)):aG7 K H (.ref a) (.type "dict")
 | ins {a C dx:Addr} {fs:List (Str×V)} (e:H a=some (.ins C dx fs)) (cl:Cls K C) (ha:PySem.W.findIn K (.ref C) "__class__"=some (some (.builtin "object.__class__")))
   (hn:PySem.W.specialIn K (.builtin "object.__class__") "__get__"=some (some (.builtin "getset_descriptor.__get__"))) (htk:PySem.W.takesIn K (.builtin "object.__class__")=some true)
   (hm:PySem.W.mroIn K C (.type "object")=some true):aG7 K H (.ref a) (.ref C)
theorem aRt {x:V} {u t:Value} (I:Inv X pins σ H s) (rx:aB0 x u) (ty:aG7 X.K H x t) (e:PySem.W.kitOne X.K t c=some b) (h:∀ tk,Q (.bool b) { s with toks:=tk }) :
  wpAny (model X.prog X.w) A (call (.builtin "isinstance") [u,c]) Q E s:=by
 cases ty with
 | non=>cases (show u=Value.none from rx); exact PySem.W.kia_one PySem.W.kitx_none I.kIn True.intro e (fun z=>nomatch z) h
 | bl y=>cases (show u=Value.bool y from rx); exact PySem.W.kia_one PySem.W.kitx_bool I.kIn True.intro e (fun z=>nomatch z) h
 | int i=>obtain ⟨t,q⟩:=(show ∃ t,u=Value.int i t from rx); cases q; exact PySem.W.kia_one PySem.W.kitx_int I.kIn True.intro e (fun z=>nomatch z) h
 | str y=>obtain ⟨t,q⟩:=(show ∃ t,u=Value.str y t from rx); cases q; exact PySem.W.kia_one PySem.W.kitx_str I.kIn True.intro e (fun z=>nomatch z) h
 | flt y=>obtain ⟨t,q⟩:=(show ∃ t,u=Value.float y t from rx); cases q; exact PySem.W.kia_one PySem.W.kitx_float I.kIn True.intro e (fun z=>nomatch z) h
 | @lst a xs ea =>
  cases (show u=Value.ref a from rx)
  obtain ⟨_,_,n,_,h1⟩:=(show aB3 X.prog X.w H s.heap a (.lst xs) from I.hok a _ ea)
  exact PySem.W.kia_one PySem.W.kitx_list I.kIn ⟨_,h1,rfl⟩ e (fun z=>nomatch z) h
 | @frz a ob xs ea =>
  cases (show u=Value.ref a from rx)
  obtain ⟨_,_,_,n,_,h1⟩:=(show aB3 X.prog X.w H s.heap a (.frz ob (.lst xs)) from I.hok a _ ea)
  exact PySem.W.kia_one PySem.W.kitx_list I.kIn ⟨_,h1,rfl⟩ e (fun z=>nomatch z) h
 | @tup a xs ea =>
  cases (show u=Value.ref a from rx)
  obtain ⟨_,_,_,p⟩:=(show aB3 X.prog X.w H s.heap a (.tup xs) from I.hok a _ ea)
  obtain ⟨o,h1,h2,_⟩:=p
  exact PySem.W.kia_one PySem.W.kitx_tuple I.kIn ⟨o,h1,h2⟩ e (fun z=>nomatch z) h
 | @dK a kvs ea =>
  cases (show u=Value.ref a from rx)
  obtain ⟨_,_,vs,_,p⟩:=(show aB3 X.prog X.w H s.heap a (.dK kvs) from I.hok a _ ea)
  obtain ⟨o,es,ep,h1,h2,_⟩:=p
  exact PySem.W.kia_one PySem.W.kitx_dict I.kIn ⟨o,h1,h2.1⟩ e (fun z=>nomatch z) h
 | @dT a kvs ea =>
  cases (show u=Value.ref a from rx)
  obtain ⟨_,_,xs,_,o,es,ep,h1,h2,_⟩:=(show aB3 X.prog X.w H s.heap a (.dT kvs) from I.hok a _ ea)
  exact PySem.W.kia_one PySem.W.kitx_dict I.kIn ⟨o,h1,h2.1⟩ e (fun z=>nomatch z) h
 | @ins a C dx fs ea cl ha hn htk hm =>
  cases (show u=Value.ref a from rx)
  obtain ⟨mA,O,_⟩:=aXi I.hok ea
  obtain ⟨od,J,_⟩:=O.look
  exact PySem.W.kia_one (PySem.W.kitx_own (cl.get _) cl.hd ha hn htk hm) I.kIn J e (fun z=>nomatch z) h
end
end L2
namespace L2
open PySem PySem.Spec PyProof.Rows
structure aGr (k:Nat) (A:Around):Prop where
 hd:A.handled=none
 dp:A.depth+3 * k+5 < recursionLimit
 un:A.units+16 * k+200 < cLine
theorem aGr.mono {j k:Nat} {A:Around} (r:aGr k A) (h:j<=k):aGr j A:=⟨r.hd,by have:=r.dp; omega,by have:=r.un; omega⟩
theorem aGr.deeper {k:Nat} {A:Around} (r:aGr (k+1) A) (env:Env):aGr k (A.deeper env) :=
 ⟨r.hd,by have:=r.dp; show A.depth+1+3 * k+5 < _; omega,by have:=r.un; show A.units+3+16 * k+200 < _; omega⟩
theorem aGr.depth {k:Nat} {A:Around} (r:aGr k A):A.depth < recursionLimit:=by have:=r.dp; omega
theorem aGr.units {k:Nat} {A:Around} (r:aGr k A):A.units+64 < cLine:=by have:=r.un; omega
noncomputable def tNil:TA:=fun _ H Q=>Q [] H
noncomputable def aYv (ta:TE) (tr:TA):TA:=fun σ H Q=>ta σ H fun x H1=>tr σ H1 fun xs H2=>Q (x::xs) H2
section
variable {X:Cx} {e:Expr} {es:List Expr} {te:TE} {t:TA} {pos:Pos}
theorem aAd:PA X [] tNil:=fun _ _ _ _ H Q I h=>Calls.spliced_nil ⟨[],H,I,.nil,h⟩
theorem aAa (ha:PE X e te) (hr:PA X es t) (hs:starEach (e::es) X.env=(false,eval e X.env)::starEach es X.env:=by rfl):PA X (e::es) (aYv te t):=by
 intro pos pins s σ H Q I h
 rw [hs]
 show wpAny _ _ (spliced ((false,eval e X.env)::backTo pos (starEach es X.env))) _ _ s
 refine Calls.spliced_cons (thn (ha pins s σ H _ I h) fun u s1 ⟨x,H1,I1,r1,q1⟩=>?_)
 exact thn (hr pos pins s1 σ H1 _ I1 q1) fun us s2 ⟨xs,H2,I2,r2,q2⟩=>⟨x::xs,H2,I2,.cons r1 r2,q2⟩
noncomputable def tTup (t:TA):TE:=fun σ H Q=>t σ H fun xs H1=>xs.length<=sizeLine/\∀ p,H1 p=none->Q (.ref p) (upd H1 p (.tup xs))
noncomputable def tLst (t:TA):TE:=fun σ H Q=>t σ H fun xs H1=>xs.length<=sizeLine/\∀ p,H1 p=none->Q (.ref p) (upd H1 p (.lst xs))
theorem aBp {x1} (h:PA X es t):PE X (.Tuple es x1 pos) (tTup t):=by
 intro pins s σ H Q I hq
 refine wpAny_Tuple_spliced (thn (h pos pins s σ H _ I hq) fun us s1 ⟨xs,H1,I1,r,z,q⟩=>⟨by rw [← r.length]; exact z,?_⟩)
 have hf:H1 s1.heap.objs.size=none:=I1.hok.fresh (Nat.le_refl _)
 refine ⟨.ref s1.heap.objs.size,upd H1 s1.heap.objs.size (.tup xs),I1.laid (t':=s1.toks) (fun b u e=>Heap.get?_push_of_some _ e) (Nat.le_refl _) ?_,rfl,q _ hf⟩
 exact ⟨⟨z,_,Heap.get?_push_size _ rfl,rfl⟩,us,r,⟨_,Heap.get?_push_size _ rfl,rfl,_,rfl⟩⟩
theorem aBw (h:PA X es t):PE X (.List es pos) (tLst t):=by
 intro pins s σ H Q I hq
 refine wpAny_List_spliced (thn (h pos pins s σ H _ I hq) fun us s1 ⟨xs,H1,I1,r,z,q⟩=>⟨by rw [← r.length]; exact z,?_⟩)
 have hf:H1 s1.heap.objs.size=none:=I1.hok.fresh (Nat.le_refl _)
 refine ⟨.ref s1.heap.objs.size,upd H1 s1.heap.objs.size (.lst xs),I1.laid (t':=s1.toks) (fun b u e=>Heap.get?_push_of_some _ e) (Nat.le_refl _) ?_,rfl,q _ hf⟩
 exact ⟨z,us,0,r,Heap.get?_push_size _ rfl⟩
end
noncomputable abbrev Sp:=List V->Hp->VK->XK->Prop
noncomputable abbrev CXT:=List Env->Hp->Shared->XK->Value->Shared->Prop
structure Env0 (P:Program) (w:World) (K:PySem.W.Frag) (mg:Str->Option Value) (base:Heap) (A:Around) (outer:List Env) (s:Shared) (H:Hp):Prop where
 frames:A.frames=some outer
 mod:Mod K mg base
 bs:∀ b o,base.get? b=some o->s.heap.get? b=some o/\H b=none
 bsz:base.objs.size<=s.heap.objs.size
 funs:s.heap.FunFrames base outer
 frf:∀ b∈frs outer,H b=none
 hok:HOk P w H s.heap
 bare:AllBare s.gens
noncomputable def CE (outer:List Env) (P:Program) (w:World) (H:Hp) (s:Shared) (Q:VK) (u:Value) (s':Shared):Prop :=
 ∃ v H',s'.os=s.os/\AllBare s'.gens/\Un (frs outer) [] H H' s.heap s'.heap/\HOk P w H' s'.heap/\aB0 v u/\Q v H'
noncomputable def CR (CX:CXT) (outer:List Env) (P:Program) (w:World) (H:Hp) (s:Shared) (Q:VK) (E:XK) (r:Result) (s':Shared):Prop :=
 match r with
 | .ok (.ret u)=>CE outer P w H s Q u s'
 | .ok _=>False
 | .error e=>CX outer H s E e s'
structure aNb (P:Program) (w:World) (K:PySem.W.Frag) (mg:Str->Option Value) (base:Heap) (CX:CXT) (k:Nat) (f:Addr) (fd:FuncData) (ps:List Str) (sp:Sp):Prop where
 len:∀ vs H Q E,sp vs H Q E->vs.length=ps.length
 run:∀ (A:Around) (outer:List Env) (s:Shared) (H:Hp) (args:Args) (us:List Value) (vs:List V) (Q:VK) (E:XK),aGr k A->Env0 P w K mg base A outer s H->BindsTo s fd args (ps.zip us)->aB5 vs us->sp vs H Q E ->
  codeAny (model P w) A (.call (.ref f) args) (CR CX outer P w H s Q E) s
theorem aNb.mono {P:Program} {w:World} {K:PySem.W.Frag} {mg:Str->Option Value} {base:Heap} {CX:CXT} {j k:Nat} {f:Addr} {fd:FuncData} {ps:List Str} {sp:Sp} (F:aNb P w K mg base CX j f fd ps sp) (h:j<=k) :
  aNb P w K mg base CX k f fd ps sp:=⟨F.len,fun A outer s H args us vs Q E hr=>F.run A outer s H args us vs Q E (hr.mono h)⟩
section
variable {X:Cx} {pins:List (Addr×Obj)} {σ:St} {H:Hp} {s s':Shared}
theorem Inv.env0 (I:Inv X pins σ H s):Env0 X.prog X.w X.K X.mg X.base X.A X.stack s H :=
 ⟨I.ok.frames,I.ok.mod,I.bs,Nat.le_trans I.ok.bsz I.sz,I.stack,I.stkFree,I.hok,I.bare⟩
theorem Inv.after {Q:VK} {u:Value} (I:Inv X pins σ H s) (h:CE X.stack X.prog X.w H s Q u s'):EP X pins σ Q u s':=by
 obtain ⟨v,H',os,bare,un,hok,r,q⟩:=h
 obtain ⟨hh,g,d,t,os'⟩:=s'
 obtain rfl:os'=s.os:=os
 exact ⟨v,H',I.call (h':=hh) (g':=g) (d':=d) (t':=t) (ch:=[]) un hok bare (fun b z=>absurd z (by simp)),r,q⟩
end
noncomputable def aTa (sp:Sp) (dvs:List V) (E:XK) (t:TA):TE:=fun σ H Q=>t σ H fun vs H1=>sp (vs++dvs) H1 Q E
noncomputable def aKi (K:PySem.W.Frag) (fd:FuncData) (ps:List Str) (ds:List Value):Prop :=
 ∀ (s:Shared) (us:List Value),K.In s.heap->(us++ds).length=ps.length->BindsTo s fd ⟨us,[]⟩ (ps.zip (us++ds))
theorem aKi.all {K:PySem.W.Frag} {fd:FuncData} {ps:List Str} (h:∀ us:List Value,us.length=ps.length->bindArgs fd ⟨us,[]⟩=pure (ps.zip us)):aKi K fd ps []:=fun s us _ hl=>by
 rw [List.append_nil] at hl ⊢
 exact .of_eq (h us hl)
noncomputable def aLx (CX:CXT) (X:Cx) (E:XK):Prop:=∀ (pins:List (Addr×Obj)) (σ:St) (H:Hp) (s:Shared) (e:Value) (s':Shared),Inv X pins σ H s->CX X.stack H s E e s'->X.xe e s'
section
variable {X:Cx} {CX:CXT} {k:Nat} {f C:Addr} {fd:FuncData} {ps:List Str} {sp:Sp} {dvs:List V} {ds:List Value} {E:XK} {x m:Str} {p pos apos:Pos} {e o:Expr} {es:List Expr} {ta:TE} {t:TA}
theorem aY5 {pins:List (Addr×Obj)} {σ:St} {H:Hp} {s:Shared} {Q:VK} {us:List Value} {vs:List V} (F:aNb X.prog X.w X.K X.mg X.base CX k f fd ps sp) (hr:aGr k X.A) (hb:aKi X.K fd ps ds) (hd:aB5 dvs ds) (hx:aLx CX X E)
  (I:Inv X pins σ H s) (r:aB5 vs us) (h:sp (vs++dvs) H Q E):wpAny (model X.prog X.w) X.A (call (.ref f) us) (EP X pins σ Q) X.xe s:=by
 have r2:aB5 (vs++dvs) (us++ds):=r.append hd
 have hl:(us++ds).length=ps.length:=by rw [← r2.length]; exact F.len _ _ _ _ h
 refine wpAny_call (codeAny_mono (F.run X.A X.stack s H ⟨us,[]⟩ (us++ds) (vs++dvs) Q E hr I.env0 (hb s us I.kIn hl) r2 h) fun r s' hq=>?_)
 cases r with
 | error e=>exact hx pins σ H s e s' I hq
 | ok fl =>
  cases fl with
  | ret u=>exact I.after hq
  | next=>exact False.elim hq
  | brk=>exact False.elim hq
  | cont=>exact False.elim hq
theorem aQz (F:aNb X.prog X.w X.K X.mg X.base CX k f fd ps sp) (hr:aGr k X.A) (hg:Gl X x) (hm:X.mg x=some (.ref f)) (hk:PySem.W.keepIn X.K (.ref f)=true) (hb:aKi X.K fd ps ds) (hd:aB5 dvs ds) (hx:aLx CX X E)
  (ha:PA X (e::es) t) (hdb:(x==("__debug__":Str))=false:=by decide) (he:starEach (e::es) X.env=(false,eval e X.env)::starEach es X.env:=by rfl) (hpl:(backTo pos (starEach es X.env)).any (·.1)=false:=by rfl) :
  PE X (.Call (.Name x p) (e::es) [] pos) (aTa sp dvs E t):=by
 intro pins s σ H Q I h
 refine wpAny_Call_Name_kw (aHv I hg hm ?_ hdb)
 refine PySem.W.callWith_K (h₀:=X.base) I.ok.mod.kin hk (thn (ha pos pins s σ H _ I h) fun us s1 ⟨vs,H1,I1,r,q⟩=>⟨I1.kIn,?_⟩) he hpl
 exact aY5 F hr hb hd hx I1 r q
end
section
variable {X:Cx} {CX:CXT} {k:Nat} {f C:Addr} {fd:FuncData} {ps ks:List Str} {sp:Sp} {E:XK} {x m:Str} {p pos apos kpos:Pos} {e o:Expr} {es:List Expr} {kws:List Keyword} {te ta:TE} {t tk:TA} {nm:Option Str}
variable {g:List Value -> List Value -> List Value} {gV:List V -> List V -> List V}
end
structure aAv (N P:List Str) (sc:Scope):Prop where
 kind:sc.kind=.function
 co:sc.isCoroutine=false
 gen:sc.isGenerator=false
 nd:N.Nodup
 pre:N.take P.length=P
 par:∀ x∈P,sc.names.lookup x=some .local∨sc.names.lookup x=some .cell
 nofree:∀ y∈sc.names,y.2≠.free
theorem aLs {kindOf:Str->Option NameKind} {x:Str}:∀ {binds:List (Str×Value)} {m:Str->Option Value},(∀ v,(x,v)∉binds)->bindL kindOf binds m x=m x
 | [],_,_=>rfl
 | (n,v)::r,m,h=>by
  unfold bindL
  rw [aLs fun w hw=>h w (List.mem_cons_of_mem _ hw)]
  split
  ·have:x≠n:=by rintro rfl; exact h v List.mem_cons_self
   simp [this]
  ·rfl
theorem aLu {kindOf:Str->Option NameKind} {x:Str}:∀ {binds:List (Str×Value)} {m:Str->Option Value},(∀ v,(x,v)∉binds)->bindC kindOf binds m x=m x
 | [],_,_=>rfl
 | (n,v)::r,m,h=>by
  unfold bindC
  rw [aLu fun w hw=>h w (List.mem_cons_of_mem _ hw)]
  split
  ·rfl
  ·have:x≠n:=by rintro rfl; exact h v List.mem_cons_self
   simp [this]
theorem aLt {kindOf:Str->Option NameKind} {x:Str} {v:Value}:∀ {P:List Str} {vs:List Value} {i:Nat} {m:Str->Option Value},P.Nodup->P[i]?=some x->vs[i]?=some v->kindOf x=some .local ->
  bindL kindOf (P.zip vs) m x=some v
 | [],_,_,_,_,h,_,_=>by simp at h
 | _::_,[],_,_,_,_,h,_=>by simp at h
 | p::P,w::vs,0,m,nd,h1,h2,hk=>by
  simp at h1 h2; subst h1; subst h2
  show bindL kindOf ((p,w)::P.zip vs) m p=_
  unfold bindL
  rw [aLs fun v hv=>(List.nodup_cons.mp nd).1 (List.of_mem_zip hv).1,if_pos hk]
  simp
 | p::P,w::vs,i+1,m,nd,h1,h2,hk=>by
  show bindL kindOf ((p,w)::P.zip vs) m x=_
  unfold bindL
  exact aLt (i:=i) (List.nodup_cons.mp nd).2 (by simpa using h1) (by simpa using h2) hk
theorem aLv {kindOf:Str->Option NameKind} {x:Str} {v:Value}:∀ {P:List Str} {vs:List Value} {i:Nat} {m:Str->Option Value},P.Nodup->P[i]?=some x->vs[i]?=some v->kindOf x≠some .local ->
  bindC kindOf (P.zip vs) m x=some v
 | [],_,_,_,_,h,_,_=>by simp at h
 | _::_,[],_,_,_,_,h,_=>by simp at h
 | p::P,w::vs,0,m,nd,h1,h2,hk=>by
  simp at h1 h2; subst h1; subst h2
  show bindC kindOf ((p,w)::P.zip vs) m p=_
  unfold bindC
  rw [aLu fun v hv=>(List.nodup_cons.mp nd).1 (List.of_mem_zip hv).1,if_neg hk]
  simp
 | p::P,w::vs,i+1,m,nd,h1,h2,hk=>by
  show bindC kindOf ((p,w)::P.zip vs) m x=_
  unfold bindC
  exact aLv (i:=i) (List.nodup_cons.mp nd).2 (by simpa using h1) (by simpa using h2) hk
noncomputable def aH4 (N:List Str) (vs:List V):St:=vs.map some++List.replicate (N.length - vs.length) none
noncomputable def aPl (CX:CXT) (P:Program) (w:World) (K:PySem.W.Frag) (mg:Str->Option Value) (base:Heap) (N:List Str) (qual:Str) (scope:Scope) (f:Addr) (cd:Value) (A:Around) (outer:List Env) (s:Shared) (H:Hp) (E:XK):Cx where
 prog:=P
 w:=w
 K:=K
 mg:=mg
 base:=base
 A:=A.deeper (envOfC qual scope s.heap.objs.size f cd)
 N:=N
 s₀:=s
 H₀:=H
 env:=envOfC qual scope s.heap.objs.size f cd
 outer:=outer
 stack:=envOfC qual scope s.heap.objs.size f cd::outer
 ex:=[]
 calm:=true
 fn:=fun _=>true
 pn:=[]
 xe:=fun e s'=>wpAny (model P w) (A.deeper (envOfC qual scope s.heap.objs.size f cd)) (leaving (envOfC qual scope s.heap.objs.size f cd) e) (fun _ s''=>CX outer H s E e s'') (fun e' s''=>CX outer H s E e' s'') s'
theorem aOg {sc:Scope} {n:Nat} {x:Str} (h:sc.names.lookup x=some .cell):∃ c,(cellsFrom n sc.names []).lookup x=some c:=by
 have q:=PySem.W.cellsFrom_some sc.names n [] (.inl h)
 exact Option.isSome_iff_exists.mp q
theorem aRu {CX:CXT} {P:Program} {w:World} {K:PySem.W.Frag} {mg:Str->Option Value} {base:Heap} {N ps:List Str} {qual:Str} {scope:Scope} {f:Addr} {cd:Value} {A:Around} {outer:List Env} {s s1:Shared} {H:Hp} {E:XK} {us:List Value} {vs:List V}
  (S:aAv N ps scope) (hd:A.handled=none) (e0:Env0 P w K mg base A outer s H) (hl:vs.length=ps.length) (r:aB5 vs us)
  (x:InCallC s s.heap.objs.size (bindL (envOfC qual scope s.heap.objs.size f cd).kindOf (ps.zip us) fun _=>none) (cellsFrom (s.heap.objs.size+1) scope.names []) (bindC (envOfC qual scope s.heap.objs.size f cd).kindOf (ps.zip us) fun _=>none) s1) :
  Inv (aPl CX P w K mg base N qual scope f cd A outer s H E) [] (aH4 N vs) H s1:=by
 have hpl:ps.length<=N.length:=by have:=congrArg List.length S.pre; rw [List.length_take] at this; omega
 obtain ⟨h1,tk,rfl,hk⟩:=x.done
 have noA:∀ b:Addr,b∉(aPl CX P w K mg base N qual scope f cd A outer s H E).ex:=fun b z=>absurd (show b∈([]:List Addr) from z) (by simp)
 refine ⟨⟨e0.mod,S.kind,rfl,rfl,Nat.le_refl _,fun y z c h1 h2=>?_,fun y hy=>?_,fun y c _ h=>?_,fun _=>hd,Around.frames_deeper e0.frames,.inr ⟨rfl,rfl⟩,fun b z=>absurd z (noA b),e0.bs,e0.bsz,fun b _ _=>noA b,fun b z=>absurd z (noA b),e0.funs,e0.frf⟩,
  rfl,e0.bare,Un.kept hk,⟨_,x.toInCall.ns,fun i y v h1 h2 h3=>?_⟩,fun y c h=>⟨_,x.cell y c h⟩,e0.hok.fresh (Nat.le_refl _),fun y c h=>?_,fun p hp=>absurd (show p∈([]:List (Addr×Obj)) from hp) (by simp),e0.hok.kept hk,?_⟩
 ·exact name_of_addr x.apart (PySem.mem_of_lookup h1) (PySem.mem_of_lookup h2)
 ·have hy:scope.names.lookup y=some .cell∨scope.names.lookup y=some .free:=hy
  rcases hy with hy | hy
  ·exact aOg hy
  ·exact absurd rfl (S.nofree _ (PySem.mem_of_lookup hy))
 ·exact Nat.le_of_lt (x.above y c (PySem.mem_of_lookup h))
 ·have hi:i < vs.length:=by
   unfold aH4 at h2
   by_cases hi:i < vs.length
   ·exact hi
   ·rw [List.getElem?_append_right (by simpa using hi)] at h2
    rw [List.getElem?_replicate] at h2
    split at h2 <;> cases h2
  have ha:vs[i]?=some v:=by
   unfold aH4 at h2
   rw [List.getElem?_append_left (by simpa using hi),List.getElem?_map] at h2
   cases e:vs[i]? with
   | none=>rw [e] at h2; cases h2
   | some a=>rw [e] at h2; cases h2; rfl
  obtain ⟨u,hu,rv⟩:=r.get ha
  have hp:ps[i]?=some y:=by
   rw [← S.pre,List.getElem?_take_of_lt (by omega)]; exact h1
  have ndP:ps.Nodup:=by rw [← S.pre]; exact S.nd.sublist (List.take_sublist _ _)
  refine ⟨u,rv,?_⟩
  rcases S.par y (List.mem_of_getElem? hp) with k | k
  ·exact .inl ⟨k,aLt ndP hp hu k⟩
  ·obtain ⟨c,e⟩:=aOg (n:=s.heap.objs.size+1) k
   refine .inr ⟨.inl k,c,e,?_⟩
   have q:=x.cell y c e
   rw [aLv ndP hp hu (by show scope.names.lookup y≠_; rw [k]; decide)] at q
   exact q
 ·exact e0.hok.fresh (Nat.le_of_lt (x.above y c (PySem.mem_of_lookup h)))
 ·unfold aH4
  show _=N.length
  rw [List.length_append,List.length_map,List.length_replicate]
  omega
theorem aXl {CX:CXT} {P:Program} {w:World} {K:PySem.W.Frag} {mg:Str->Option Value} {base:Heap} {k:Nat} {f:Addr} {name qual:Str} {params:Arguments} {body:List Stmt} {scope:Scope} {dV kV doc pm cdv ct oc:Value} {an od:Option Addr}
  {osl:Array (Option Value)} {N ps:List Str} {sp:Sp} (lk:K.lookup f=some ⟨oc,od,.func (PySem.W.fnOf name qual params body scope dV kV doc pm an cdv ct),osl⟩) (hcd:PySem.W.codeIn K cdv qual=true) (S:aAv N ps scope)
  (len:∀ vs H Q E,sp vs H Q E->vs.length=ps.length)
  (hbody:∀ (A:Around) (outer:List Env) (s:Shared) (H:Hp) (vs:List V) (Q:VK) (E:XK),aGr k (A.deeper (envOfC qual scope s.heap.objs.size f cdv))->sp vs H Q E ->
   ∃ t,PSs (aPl CX P w K mg base N qual scope f cdv A outer s H E) body t/\t { nx:=fun _ H'=>Q .non H',rt:=Q } (aH4 N vs) H) :
  aNb P w K mg base CX (k+1) f (PySem.W.fnOf name qual params body scope dV kV doc pm an cdv ct) ps sp:=by
 refine ⟨len,fun A outer s H args us vs Q E hr e0 hb r hsp=>?_⟩
 have hl:=len _ _ _ _ hsp
 have KX:K.In s.heap:=e0.mod.kin.keeps fun b o e=>(e0.bs b o e).1
 have lim:s.heap.NoLimit:=e0.mod.nolimit.keeps fun b o e=>(e0.bs b o e).1
 have hkind:∀ y∈ps.zip us,scope.names.lookup y.1=some .local∨(scope.names.lookup y.1=some .cell/\((cellsFrom (s.heap.objs.size+1) scope.names []).lookup y.1).isSome=true):=fun ⟨n,v⟩ hy=>by
  rcases S.par n (List.of_mem_zip hy).1 with q | q
  ·exact .inl q
  ·exact .inr ⟨q,PySem.W.cellsFrom_some _ _ _ (.inl q)⟩
 refine codeAny_call_function hr.depth (KX _ _ lk) rfl S.co S.gen rfl (PySem.W.codeRec_of KX hcd) (hb _ _ _ _ ?_)
 refine wpAny_newFunctionEnv_cells S.kind hkind fun env he s1 x=>?_
 subst he
 refine ⟨lim.keeps x.toInCall.keep,codeAny_func ?_⟩
 obtain ⟨t,ht,hq⟩:=hbody A outer s H vs Q E (hr.deeper _) hsp
 have I:Inv (aPl CX P w K mg base N qual scope f cdv A outer s H E) [] (aH4 N vs) H s1:=aRu S hr.hd e0 hl r x
 refine wpAny_mono (ht [] s1 (aH4 N vs) H _ I hq) (fun fl s' hs=>?_) fun e s' hs=>hs
 have fin:∀ {σ':St} {H':Hp} {v:V} {u:Value},Inv (aPl CX P w K mg base N qual scope f cdv A outer s H E) [] σ' H' s'->aB0 v u->Q v H'->CE outer P w H s Q u s' :=
  fun {σ' H' v u} J rv q=>⟨v,H',J.os,J.bare,J.base,J.hok,rv,q⟩
 cases fl with
 | ret u =>
  obtain ⟨v,σ',H',J,rv,q⟩:=hs
  exact fin J rv q
 | next =>
  obtain ⟨σ',H',J,q⟩:=hs
  exact fin (v:=V.non) (u:=Value.none) J rfl q
 | brk =>
  obtain ⟨_,_,_,q⟩:=hs
  exact False.elim q
 | cont =>
  obtain ⟨_,_,_,q⟩:=hs
  exact False.elim q
end L2
namespace L2
open PySem PySem.Spec PyProof.Rows
section
variable {X:Cx} {x:Str} {p pos:Pos} {e:Expr} {es:List Expr} {t:TA} {id T:String} {r:List V -> Hp -> VK -> Prop}
noncomputable def tCB (r:List V->Hp->VK->Prop) (t:TA):TE:=fun σ H Q=>t σ H fun vs H1=>r vs H1 Q
theorem aAl (hc:aDn X (.builtin id) r) (hg:Gl X x) (hm:X.mg x=none) (hv:bootBuiltins x=some (.builtin id)) (ha:PA X (e::es) t) (hn:x≠"__name__":=by decide) (hdb:(x==("__debug__":Str))=false:=by decide)
  (he:starEach (e::es) X.env=(false,eval e X.env)::starEach es X.env:=by rfl) (hpl:(backTo pos (starEach es X.env)).any (·.1)=false:=by rfl):PE X (.Call (.Name x p) (e::es) [] pos) (tCB r t):=by
 intro pins s σ H Q I h
 refine wpAny_Call_Name_kw (aGh I hg hm hv ?_ hn hdb)
 exact PyProof.Rows.callWith_builtin1 (thn (ha pos pins s σ H _ I h) fun us s1 ⟨vs,H1,I1,r1,q1⟩=>hc pins s1 σ H1 vs us Q I1 r1 q1) he hpl
theorem aBj (hc:aDn X (.type T) r) (hg:Gl X x) (hm:X.mg x=none) (hv:bootBuiltins x=some (.type T)) (ha:PA X (e::es) t) (hn:x≠"__name__":=by decide) (hdb:(x==("__debug__":Str))=false:=by decide)
  (he:starEach (e::es) X.env=(false,eval e X.env)::starEach es X.env:=by rfl) (hpl:(backTo pos (starEach es X.env)).any (·.1)=false:=by rfl):PE X (.Call (.Name x p) (e::es) [] pos) (tCB r t):=by
 intro pins s σ H Q I h
 refine wpAny_Call_Name_kw (aGh I hg hm hv ?_ hn hdb)
 exact PyProof.Rows.callWith_type1 (thn (ha pos pins s σ H _ I h) fun us s1 ⟨vs,H1,I1,r1,q1⟩=>hc pins s1 σ H1 vs us Q I1 r1 q1) he hpl
end
end L2
namespace HT
open PySem PyProof.Rows
section
open PySem.SeqAt
open PySem.AutoSeq1 (wpAny_loadPart')
open PySem.MeetsSeq PySem.MeetsSeq2 PySem.MeetsSeq3
end
section
variable {prog:Program} {w:World} {A:Around} {E:Value -> Shared -> Prop} {s:Shared}
theorem cat_tup {t b:Addr} {vs ws:List Value} {Q:Value->Shared->Prop} (ht:IsTup s.heap t vs.toArray) (hb:IsTup s.heap b ws.toArray) (hv:vs≠[])
  (h1:ws=[]->Q (.ref t) s) (h2:ws≠[]->Q (.ref s.heap.objs.size) { s with heap:=s.heap.push { cls:=.type "tuple",data:=.seq (vs++ws).toArray } })
  (hsz:vs.length+ws.length<=sizeLine):wpAny (model prog w) A (binaryOp .Add (.ref t) (.ref b)) Q E s:=by
 obtain ⟨⟨cls,dd,data,sl⟩,ho,hc,n,hd⟩:=id ht
 obtain ⟨⟨cls2,dd2,data2,sl2⟩,ho2,hc2,n2,hd2⟩:=id hb
 simp only at hc hd hc2 hd2
 subst hc hd hc2 hd2
 have e:vs.toArray++ws.toArray=(vs++ws).toArray:=by simp
 by_cases hw:ws=[]
 ·exact concat_meets ⟨_,ho,rfl⟩ ⟨_,ho2,rfl⟩ noFill_tuple_add seq_tuple_add PySem.F.slot_tuple_add PySem.F.entry_tuple_add (PySem.F.args_tuple_add_2 _ _)
   (tuple_addW1 t b vs.toArray ws.toArray n n2 dd dd2 sl sl2 (by simpa using hv) (by simp [hw])) ⟨ho,ho2,h1 hw⟩
 ·refine concat_meets ⟨_,ho,rfl⟩ ⟨_,ho2,rfl⟩ noFill_tuple_add seq_tuple_add PySem.F.slot_tuple_add PySem.F.entry_tuple_add (PySem.F.args_tuple_add_2 _ _)
   (tuple_addW2 t b vs.toArray ws.toArray n n2 dd dd2 sl sl2 (by simpa using hv) (by simpa using hw) (by rw [List.size_toArray,List.size_toArray]; exact hsz)) ⟨ho,ho2,?_⟩
  rw [e]
  exact h2 hw
noncomputable def sIx (n d:Nat):Option Int->Nat
 | none=>d
 | some v=>if v < 0 then (v+(n:Int)).toNat else min v.toNat n
theorem aY2 (n d:Nat) (hd:d<=n) (o:Option Int):sIx n d o<=n:=by
 cases o with
 | none=>exact hd
 | some v =>
  show (if v < 0 then (v+(n:Int)).toNat else min v.toNat n)<=n
  by_cases hv:v < 0
  ·rw [if_pos hv]; omega
  ·rw [if_neg hv]; exact Nat.min_le_right _ _
theorem aSm (v:Int) (n d:Nat):(if v < 0 then max (v+(n:Int)) 0 else min v (n:Int))=((sIx n d (some v):Nat):Int):=by
 show (if v < 0 then max (v+(n:Int)) 0 else min v (n:Int))=(((if v < 0 then (v+(n:Int)).toNat else min v.toNat n):Nat):Int)
 by_cases hv:v < 0
 ·simp only [if_pos hv]; omega
 ·simp only [if_neg hv]; omega
theorem aPg (lo hi:Option Int) (n:Nat):Builtin.Slice.sliceAdjust lo hi 1 (n:Int)=(((sIx n 0 lo:Nat):Int),((sIx n n hi:Nat):Int)):=by
 have h1:¬ ((1:Int) < 0):=by omega
 unfold Builtin.Slice.sliceAdjust
 simp only [h1,if_false]
 refine Prod.ext ?_ ?_
 ·cases lo with
  | none=>rfl
  | some v=>exact aSm v n 0
 ·cases hi with
  | none=>rfl
  | some v=>exact aSm v n n
theorem aOy (i j:Nat):Builtin.Slice.slicePlaces (i:Int) (j:Int) 1=j - i:=by
 unfold Builtin.Slice.slicePlaces
 have h1:(1:Int) > 0:=by omega
 simp only [h1,if_true,Int.ediv_one]
 split <;> omega
theorem aIk {v:Value} {o:Option Int} {Q:Option Int->Shared->Prop} (p:IsPart v o) (h:Q o s):wpAny (model prog w) A (Builtin.Slice.slicePartIndex v) Q E s:=by
 cases p with
 | none=>exact slicePart_none h
 | int i t=>exact slicePart_int h
theorem aGk {sl:Addr} {vl vu:Value} {lo hi:Option Int} {n:Nat} {Q:Int×Int×Nat->Shared->Prop} (hs:s.heap.IsSliceOf sl vl vu .none) (pl:IsPart vl lo) (pu:IsPart vu hi)
  (h:Q (((sIx n 0 lo:Nat):Int),1,sIx n n hi - sIx n 0 lo) s):wpAny (model prog w) A (Builtin.Slice.sliceApplied (.ref sl) (pure (n:Int))) Q E s:=by
 obtain ⟨os,hos,hcs,hds⟩:=id hs
 unfold Builtin.Slice.sliceApplied Builtin.Slice.sliceFields
 refine wpAny_bind (wpAny_bind (wpAny_field hos hds (x:=vl) rfl (wpAny_bind (wpAny_field hos hds (x:=vu) rfl (wpAny_bind (wpAny_field hos hds (x:=.none) rfl (wpAny_pure ?_)))))))
 refine wpAny_bind (slicePart_none ?_)
 show wpAny _ _ (if ((1:Int)==0)=true then _ else _) _ _ s
 rw [if_neg (by decide)]
 refine wpAny_bind (aIk pl (wpAny_bind (aIk pu (wpAny_bind (wpAny_pure ?_)))))
 show wpAny _ _ (match Builtin.Slice.sliceAdjust lo hi 1 (n:Int) with | (lo,hi)=>pure (lo,(1:Int),Builtin.Slice.slicePlaces lo hi 1)) _ _ s
 rw [aPg lo hi n]
 show wpAny _ _ (pure (((sIx n 0 lo:Nat):Int),(1:Int),Builtin.Slice.slicePlaces ((sIx n 0 lo:Nat):Int) ((sIx n n hi:Nat):Int) 1)) _ _ s
 rw [aOy]
 exact wpAny_pure h
theorem aTt (xs:Array Value) (i k:Nat):((List.range k).filterMap fun (m:Nat)=>xs[((i:Int)+(m:Int) * 1).toNat]?).toArray=((xs.toList.drop i).take k).toArray:=by
 have e:(fun (m:Nat)=>xs[((i:Int)+(m:Int) * 1).toNat]?)=fun m=>xs[i+m]?:=by
  funext m
  have:((i:Int)+(m:Int) * 1).toNat=i+m:=by omega
  rw [this]
 rw [e]
 have:=pick_run xs i k
 rw [List.filterMap_map] at this
 have e2:((fun x=>xs[x]?) ∘ fun x=>i+x)=fun m=>xs[i+m]?:=rfl
 rw [e2] at this
 rw [this]
theorem getItem_tuple_cut {t sl:Addr} {items:Array Value} {vl vu:Value} {lo hi:Option Int} {Q:Value->Shared->Prop} (ht:IsTup s.heap t items) (hs:s.heap.IsSliceOf sl vl vu .none) (pl:IsPart vl lo) (pu:IsPart vu hi)
  (hw:¬ (sIx items.size 0 lo=0/\sIx items.size items.size hi=items.size))
  (h:Q (.ref s.heap.objs.size) { s with heap:=s.heap.push { cls:=.type "tuple",data:=.seq ((items.toList.drop (sIx items.size 0 lo)).take (sIx items.size items.size hi - sIx items.size 0 lo)).toArray } })
  (hsz:items.size<=sizeLine):wpAny (model prog w) A (getItem (.ref t) (.ref sl)) Q E s:=by
 have htake:sizeOk (.seq ((items.toList.drop (sIx items.size 0 lo)).take (sIx items.size items.size hi - sIx items.size 0 lo)).toArray):=by
  show ((items.toList.drop (sIx items.size 0 lo)).take (sIx items.size items.size hi - sIx items.size 0 lo)).toArray.size<=sizeLine
  rw [List.size_toArray,List.length_take,List.length_drop,Array.length_toList]
  omega
 have hj:sIx items.size items.size hi<=items.size:=aY2 _ _ (Nat.le_refl _) hi
 obtain ⟨os,hos,hcs,hds⟩:=id hs
 have hTs:s.TypeIs (.ref sl) "slice":=⟨os,hos,hcs⟩
 unfold getItem
 try with_reducible refine wpAny_holding ?_
 first | refine wpAny_bind (wpAny_pure ?_) | skip
 refine wpAny_bind (wpAny_sequenceKey ht.typeIs (by decide) ?_)
 refine wpAny_bind (wpAny_callSpecial?_slot (name:=Str.ofString "__getitem__") ht.typeIs PyProof.Rows.slot_tuple_getitem
  (wpAny_call_entry PyProof.Rows.slot_tuple_getitem ht.typeIs entry_tuple_getitem ?_ (args_tuple_getitem _ _)))
 show wpAny _ _ (Builtin.Tuple.tupleItemsOf (.ref t) >>= _) _ _ s
 refine wpAny_bind (tupleItemsOf_ ht ?_)
 refine wpAny_bind (wpAny_typeOf hTs ?_)
 rw [if_pos (by decide)]
 refine wpAny_bind (aGk hs pl pu ?_)
 have hno:¬ ((((sIx items.size 0 lo:Nat):Int)==0&&(1:Int)==1&&(sIx items.size items.size hi - sIx items.size 0 lo)==items.size)=true):=by
  intro q
  rw [Bool.and_eq_true,Bool.and_eq_true] at q
  have q1:((sIx items.size 0 lo:Nat):Int)=0:=eq_of_beq q.1.1
  have q2:sIx items.size items.size hi - sIx items.size 0 lo=items.size:=eq_of_beq q.2
  exact hw ⟨by omega,by omega⟩
 show wpAny _ _ (if (((sIx items.size 0 lo:Nat):Int)==0&&(1:Int)==1&&(sIx items.size items.size hi - sIx items.size 0 lo)==items.size)=true then _ else _) _ _ s
 rw [if_neg hno,aTt]
 first
  | exact wpAny_bind (m:=Builtin.Tuple.tupleExact _) (wpAny_newObj_type (wpAny_pure ⟨_,rfl,wpAny_pure h⟩) htake)
  | exact wpAny_bind (m:=Builtin.Tuple.tupleExact _) (wpAny_newObj_type (wpAny_bind (wpAny_pure (wpAny_pure ⟨_,rfl,wpAny_pure h⟩))) htake)
  | exact wpAny_bind (wpAny_bind (m:=Builtin.Tuple.tupleExact _) (wpAny_newObj_type (wpAny_pure (wpAny_pure ⟨_,rfl,wpAny_pure h⟩)) htake))
  | exact wpAny_bind (wpAny_bind (m:=Builtin.Tuple.tupleExact _) (wpAny_newObj_type (wpAny_pure ⟨_,rfl,wpAny_pure h⟩) htake))
end
end HT
namespace L2
open PySem PySem.Spec PyProof.Rows
noncomputable abbrev TO:=St->Hp->(Option Int->Hp->Prop)->Prop
noncomputable def PO (X:Cx) (e:Option Expr) (t:TO):Prop :=
 ∀ (pins:List (Addr×Obj)) (s:Shared) (σ:St) (H:Hp) (Q:Option Int->Hp->Prop),Inv X pins σ H s->t σ H Q ->
  wpAny (model X.prog X.w) X.A (evalPart e X.env) (fun u s'=>∃ o H',Inv X pins σ H' s'/\IsPart u o/\Q o H') X.xe s
noncomputable def aPx:TO:=fun _ H Q=>Q none H
noncomputable def aYn (t:TE):TO:=fun σ H Q=>t σ H fun x H1=>∃ i,x=.int i/\Q (some i) H1
section
variable {X:Cx} {e:Expr} {te:TE} {lo hi:Option Expr} {tl th:TO} {pos p2:Pos}
theorem aCl:PO X none aPx:=by
 intro pins s σ H Q I h
 rw [evalPart_none]
 exact wpAny_pure ⟨none,H,I,.none,h⟩
theorem aBt (h:PE X e te):PO X (some e) (aYn te):=by
 intro pins s σ H Q I hw
 rw [evalPart_some]
 refine thn (h pins s σ H _ I hw) fun u s1 ⟨x,H1,I1,r1,q1⟩=>?_
 obtain ⟨i,rfl,q⟩:=q1
 obtain ⟨t,rfl⟩:=r1
 exact ⟨some i,H1,I1,.int i t,q⟩
noncomputable def SlR (X:Cx) (r:V->Option Int->Option Int->Hp->VK->Prop):Prop :=
 ∀ (pins:List (Addr×Obj)) (s:Shared) (σ:St) (H:Hp) (x:V) (v vl vu:Value) (lo hi:Option Int) (sl:Addr) (Q:VK),Inv X pins σ H s->aB0 x v->s.heap.IsSliceOf sl vl vu .none->IsPart vl lo->IsPart vu hi->r x lo hi H Q ->
  ∃ T id,typeLookup (.type T) "__getitem__"=pure (some (.builtin id))/\s.TypeIs v T/\wpAny (model X.prog X.w) X.A (getItem v (.ref sl)) (EP X pins σ Q) X.xe s
theorem SlR.or {r r':V->Option Int->Option Int->Hp->VK->Prop} (h:SlR X r) (h':SlR X r'):SlR X (fun x lo hi H Q=>r x lo hi H Q∨r' x lo hi H Q):=by
 intro pins s σ H x v vl vu lo hi sl Q I rx hs pl pu q
 rcases q with q | q
 ·exact h pins s σ H x v vl vu lo hi sl Q I rx hs pl pu q
 ·exact h' pins s σ H x v vl vu lo hi sl Q I rx hs pl pu q
noncomputable def tSl (r:V->Option Int->Option Int->Hp->VK->Prop) (te:TE) (tl th:TO):TE:=fun σ H Q=>te σ H fun x H1=>tl σ H1 fun l H2=>th σ H2 fun u H3=>r x l u H3 Q
theorem aBf {r:V->Option Int->Option Int->Hp->VK->Prop} (hr:SlR X r) (he:PE X e te) (hl:PO X lo tl) (hu:PO X hi th):PE X (.Subscript e (.Slice lo hi none p2) pos) (tSl r te tl th):=by
 intro pins s σ H Q I h
 refine Subscript_ (thn (he pins s σ H _ I h) fun v s1 ⟨x,H1,I1,r1,q1⟩=>?_)
 refine wpAny_Slice (thn (hl pins s1 σ H1 _ I1 q1) fun vl s2 ⟨l,H2,I2,pl,q2⟩=>thn (hu pins s2 σ H2 _ I2 q2) fun vu s3 ⟨u,H3,I3,pu,q3⟩=>?_)
 rw [evalPart_none]
 refine wpAny_pure ?_
 have I4:Inv X pins σ H3 { s3 with heap:=s3.heap.push { cls:=.type "slice",data:=.fields #[vl,vu,.none] } }:=I3.kept (t':=s3.toks) fun b ob q=>Heap.get?_push_of_some _ q
 obtain ⟨T,id,hT,ht,hg⟩:=hr pins { s3 with heap:=s3.heap.push { cls:=.type "slice",data:=.fields #[vl,vu,.none] } } σ H3 x v vl vu l u s3.heap.objs.size Q I4 r1 (Heap.IsSliceOf.new ..) pl pu q3
 show wpAny (model X.prog X.w) X.A (subscriptTail e (.Slice lo hi none p2) v (.ref s3.heap.objs.size)) (EP X pins σ Q) X.xe { s3 with heap:=s3.heap.push { cls:=.type "slice",data:=.fields #[vl,vu,.none] } }
 exact tail_any (ops:=[.ref s3.heap.objs.size,v]) ht hT hg (by with_unfolding_all rfl)
noncomputable def aGq (xs:List V) (lo hi:Option Int):List V:=(xs.drop (HT.sIx xs.length 0 lo)).take (HT.sIx xs.length xs.length hi - HT.sIx xs.length 0 lo)
theorem aHz (xs:List V) (lo hi:Option Int):(aGq xs lo hi).length<=xs.length:=by
 unfold aGq
 rw [List.length_take,List.length_drop]
 omega
noncomputable def rSlT (K:PySem.W.Frag):V->Option Int->Option Int->Hp->VK->Prop:=fun x lo hi H Q=>∃ a xs,x=.ref a/\SqT K H a xs /\
 ¬ (HT.sIx xs.length 0 lo=0/\HT.sIx xs.length xs.length hi=xs.length)/\∀ p,H p=none->Q (.ref p) (upd H p (.tup (aGq xs lo hi)))
theorem aYy:SlR X (rSlT X.K):=by
 intro pins s σ H x v vl vu lo hi sl Q I rx hs pl pu h
 obtain ⟨a,xs,rfl,hx,hw,q⟩:=h
 cases rx
 obtain ⟨its,r,ht,hz⟩:=I.tuple hx
 have hlen:its.toArray.size=xs.length:=by rw [List.size_toArray]; exact r.length.symm
 refine ⟨"tuple",_,PyProof.Rows.slot_tuple_getitem.lookup,ht.typeIs,?_⟩
 refine HT.getItem_tuple_cut ht hs pl pu (by rw [hlen]; exact hw) ?_ (by rw [hlen]; exact hz)
 rw [hlen]
 refine ⟨.ref s.heap.objs.size,_,I.laid (t':=s.toks) (o:=.tup (aGq xs lo hi)) (fun b ob q=>Heap.get?_push_of_some _ q) (Nat.le_refl _) ?_,rfl,q _ (I.hok.fresh (Nat.le_refl _))⟩
 exact ⟨⟨Nat.le_trans (aHz xs lo hi) hz,_,Heap.get?_push_size _ rfl,rfl⟩,_,(r.drop (HT.sIx xs.length 0 lo)).take (HT.sIx xs.length xs.length hi - HT.sIx xs.length 0 lo),IsTup.new _ _⟩
noncomputable def bAl (K:PySem.W.Frag):R2:=fun x y H Q=>∃ a b xs ys,x=.ref a/\y=.ref b/\SqT K H a xs/\SqT K H b ys/\xs≠[]/\xs.length+ys.length<=sizeLine /\
 (ys=[]->Q (.ref a) H)/\(ys≠[]->∀ p,H p=none->Q (.ref p) (upd H p (.tup (xs++ys))))
theorem aB5.nil_iff {xs:List V} {us:List Value} (r:aB5 xs us):us=[] ↔ xs=[]:=by
 cases r with
 | nil=>simp
 | cons _ _=>simp
theorem aWw:OpR X (binaryOp .Add) (bAl X.K):=by
 intro pins s σ H x y v u Q I rx ry h
 obtain ⟨a,b,xs,ys,rfl,rfl,ha,hb,hx,hz,q1,q2⟩:=h
 cases rx
 cases ry
 obtain ⟨its,r1,p1,_⟩:=I.tuple ha
 obtain ⟨its2,r2,p2,_⟩:=I.tuple hb
 refine HT.cat_tup p1 p2 (fun z=>hx (r1.nil_iff.mp z)) (fun z=>⟨.ref a,H,I,rfl,q1 (r2.nil_iff.mp z)⟩) (fun z=>?_) (by rw [← r1.length,← r2.length]; exact hz)
 refine ⟨.ref s.heap.objs.size,_,I.laid (t':=s.toks) (o:=.tup (xs++ys)) (fun b ob q=>Heap.get?_push_of_some _ q) (Nat.le_refl _) ?_,rfl,q2 (fun w=>z (r2.nil_iff.mpr w)) _ (I.hok.fresh (Nat.le_refl _))⟩
 exact ⟨⟨by rw [List.length_append]; exact hz,_,Heap.get?_push_size _ rfl,rfl⟩,_,r1.append r2,IsTup.new _ _⟩
end
end L2
namespace L2
open PySem PySem.Spec PyProof.Rows
noncomputable def ixN (n:Nat) (i:Int):Option Nat:=if 0<=i then (if i < n then some i.toNat else none) else if -(n:Int)<=i then some (i+n).toNat else none
noncomputable def atI {α:Type} (xs:List α) (i:Int):Option α:=(ixN xs.length i).bind fun j=>xs[j]?
theorem aXh {n:Nat} {i:Int} {j:Nat} (h:ixN n i=some j):seqIndex? i n=some j/\j < n/\-(n:Int)<=i/\i < n:=by
 unfold ixN at h
 by_cases h0:0<=i
 ·rw [if_pos h0] at h
  by_cases h1:i < n
  ·rw [if_pos h1] at h
   have e:i.toNat=j:=Option.some.inj h
   exact ⟨by rw [seqIndex_of h0 h1,e],by omega,by omega,h1⟩
  ·rw [if_neg h1] at h; cases h
 ·rw [if_neg h0] at h
  by_cases h1:-(n:Int)<=i
  ·rw [if_pos h1] at h
   have e:(i+n).toNat=j:=Option.some.inj h
   exact ⟨by rw [seqIndex_neg (by omega) h1,e],by omega,h1,by omega⟩
  ·rw [if_neg h1] at h; cases h
theorem aM9 {α:Type} {xs:List α} {i:Int} {v:α} (h:atI xs i=some v):∃ j,seqIndex? i xs.length=some j/\xs[j]?=some v/\j < xs.length/\-(xs.length:Int)<=i/\i < xs.length:=by
 unfold atI at h
 cases e:ixN xs.length i with
 | none=>rw [e] at h; cases h
 | some j =>
  rw [e] at h
  obtain ⟨h1,h2,h3,h4⟩:=aXh e
  exact ⟨j,h1,h,h2,h3,h4⟩
theorem aBv {α:Type} {xs:List α} {j:Nat} {v:α} (h:xs[j]?=some v):atI xs (j:Int)=some v:=by
 have hj:j < xs.length:=(List.getElem?_eq_some_iff.mp h).1
 have e:ixN xs.length (j:Int)=some j:=by
  unfold ixN
  rw [if_pos (by omega),if_pos (by omega)]; simp
 unfold atI; rw [e]; exact h
theorem aUn {α:Type} (xs:List α) (v:α):atI (xs++[v]) (-1)=some v:=by
 have hl:(xs++[v]).length=xs.length+1:=by simp
 have e:ixN (xs++[v]).length (-1)=some xs.length:=by
  unfold ixN
  rw [hl,if_neg (by decide),if_pos (by omega)]
  congr 1
  omega
 unfold atI
 rw [e]
 show (xs++[v])[xs.length]?=some v
 simp
noncomputable def aX7 (b:Expr):Prop:=∀ o i,subscripted b false o i=operate [o,i] (getItem o i)
noncomputable def IxR (X:Cx) (r:R2):Prop :=
 ∀ (value slice:Expr) (pins:List (Addr×Obj)) (s:Shared) (σ:St) (H:Hp) (x y:V) (v u:Value) (Q:VK),Inv X pins σ H s->aB0 x v->aB0 y u->r x y H Q ->
  subscripted slice false v u=operate [v,u] (getItem v u)->wpAny (model X.prog X.w) X.A (subscriptTail value slice v u) (EP X pins σ Q) X.xe s
noncomputable def MtR (X:Cx) (id:String) (r:V->List V->Hp->VK->Prop):Prop :=
 ∀ (pins:List (Addr×Obj)) (s:Shared) (σ:St) (H:Hp) (x:V) (xs:List V) (v:Value) (us:List Value) (Q:VK),Inv X pins σ H s->aB0 x v->aB5 xs us->r x xs H Q ->
  wpAny (model X.prog X.w) X.A (call (.builtin id) (v::us)) (EP X pins σ Q) X.xe s
section
variable {X:Cx} {a b:Expr} {ta tb:TE} {pos:Pos}
theorem IxR.or {r r':R2} (h:IxR X r) (h':IxR X r'):IxR X (fun x y H Q=>r x y H Q∨r' x y H Q):=by
 intro value slice pins s σ H x y v u Q I rx ry q hs
 rcases q with q | q
 ·exact h value slice pins s σ H x y v u Q I rx ry q hs
 ·exact h' value slice pins s σ H x y v u Q I rx ry q hs
theorem aAj {r:R2} (hr:IxR X r) (ha:PE X a ta) (hb:PE X b tb) (hs:aX7 b):PE X (.Subscript a b pos) (tOp r ta tb):=by
 intro pins s σ H Q I h
 exact Subscript_ (binT ha hb I h fun v u s2 x y H2 I2 rx ry q=>hr a b pins s2 σ H2 x y v u Q I2 rx ry q (hs _ _))
noncomputable def rIxL (K:PySem.W.Frag):R2:=fun x y H Q=>∃ p xs i v,x=.ref p/\y=.int i/\SqL K H p xs/\atI xs i=some v/\Q v H
noncomputable def rIxT (K:PySem.W.Frag):R2:=fun x y H Q=>∃ p xs i v,x=.ref p/\y=.int i/\SqT K H p xs/\atI xs i=some v/\Q v H
noncomputable def rIxS:R2:=fun x y H Q=>∃ z i c,x=.str z/\y=.int i/\z.length<=sizeLine/\atI z.cps.toList i=some c/\Q (.str ⟨#[c]⟩) H
theorem aXg:IxR X (rIxL X.K):=by
 intro value slice pins s σ H x y v u Q I rx ry h hs
 obtain ⟨p,xs,i,z,rfl,rfl,hq,he,q⟩:=h
 cases rx
 obtain ⟨t,rfl⟩:=ry
 obtain ⟨its,r,pl,hz⟩:=I.list hq
 obtain ⟨j,h1,h2,h3,h4,h5⟩:=aM9 he
 obtain ⟨w,ew,rw'⟩:=r.get h2
 have hl:=r.length
 have hn:=aN6
 have fin:EP X pins σ Q w s:=⟨z,H,I,rw',q⟩
 by_cases h0:0<=i
 ·have hj:i.toNat=j:=by
   rw [seqIndex_of h0 h5] at h1
   exact Option.some.inj h1
  exact item_listR pl.isList h0 (by omega) (by rw [hj]; simpa using ew) fin hs
 ·have hj:(i+(its.toArray.size:Int)).toNat=j:=by
   rw [seqIndex_neg (by omega) h4] at h1
   rw [List.size_toArray,← hl]
   exact Option.some.inj h1
  exact subscriptTail_builtinR (x:=w) pl.isList.typeIs slot_list_getitem.lookup
   (wpAny_getItem_list_neg (Q:=fun r s'=>r=w/\EP X pins σ Q r s') pl.isList (by omega) (by rw [List.size_toArray] <;> omega) (by omega) (by rw [hj]; simpa using ew) ⟨rfl,fin⟩) hs
theorem bBl:IxR X (rIxT X.K):=by
 intro value slice pins s σ H x y v u Q I rx ry h hs
 obtain ⟨p,xs,i,z,rfl,rfl,hq,he,q⟩:=h
 cases rx
 obtain ⟨t,rfl⟩:=ry
 obtain ⟨its,r,pl,hz⟩:=I.tuple hq
 obtain ⟨j,h1,h2,h3,h4,h5⟩:=aM9 he
 obtain ⟨w,ew,rw'⟩:=r.get h2
 have hl:=r.length
 have hn:=aN6
 have fin:EP X pins σ Q w s:=⟨z,H,I,rw',q⟩
 exact subscriptTail_builtinR (x:=w) pl.typeIs slot_tuple_getitem.lookup
  (getItem_tuple (j:=j) (Q:=fun r s'=>r=w/\EP X pins σ Q r s') pl (by omega) (by omega) (by rw [List.size_toArray,← hl]; exact h1) (by simpa using ew) ⟨rfl,fin⟩) hs
theorem bBm:IxR X rIxS:=by
 intro value slice pins s σ H x y v u Q I rx ry h hs
 obtain ⟨z,i,c,rfl,rfl,hz,he,q⟩:=h
 obtain ⟨t,rfl⟩:=rx
 obtain ⟨t',rfl⟩:=ry
 obtain ⟨j,h1,h2,h3,h4,h5⟩:=aM9 he
 have hl:z.cps.toList.length=z.length:=by simp [Str.length]
 rw [hl] at h1 h4 h5
 have hn:=aN6
 exact tail_any (typeIs_str s z t) slot_str_getitem.lookup (getItem_str (c:=c) (by
  have e1:decide (i < -(2 ^ 63:Int))=false:=decide_eq_false (by omega)
  have e2:decide (i ≥ 2 ^ 63)=false:=decide_eq_false (by omega)
  rw [e1,e2,Bool.or_false]) (by rw [h1]; simpa using h2) ⟨.str ⟨#[c]⟩,H,I.tok _,⟨_,rfl⟩,q⟩) hs
noncomputable def rIx (K:PySem.W.Frag):R2:=fun x y H Q=>rIxL K x y H Q∨rIxT K x y H Q∨rIxS x y H Q
theorem bBn:IxR X (rIx X.K):=aXg.or (bBl.or bBm)
theorem aKx (lo hi:Option Int) (n:Nat):(sliceBounds lo hi none n).1=((HT.sIx n 0 lo:Nat):Int)/\(sliceBounds lo hi none n).2.1=((HT.sIx n n hi:Nat):Int)/\(sliceBounds lo hi none n).2.2=1:=by
 refine ⟨?_,?_,rfl⟩
 ·cases lo with
  | none=>simp [sliceBounds,HT.sIx]
  | some i =>
   simp only [sliceBounds,HT.sIx,Option.getD_none,show (1:Int) > 0 by decide,if_true]
   by_cases h:i < 0
   ·simp only [h,if_true] <;> omega
   ·simp only [h,if_false] <;> omega
 ·cases hi with
  | none=>simp [sliceBounds,HT.sIx]
  | some i =>
   simp only [sliceBounds,HT.sIx,Option.getD_none,show (1:Int) > 0 by decide,if_true]
   by_cases h:i < 0
   ·simp only [h,if_true] <;> omega
   ·simp only [h,if_false] <;> omega
theorem aJd (its:List Value) (lo hi:Option Int):slicePick its.toArray lo hi none=((its.drop (HT.sIx its.length 0 lo)).take (HT.sIx its.length its.length hi - HT.sIx its.length 0 lo)).toArray:=by
 obtain ⟨h1,h2,h3⟩:=aKx lo hi its.toArray.size
 unfold slicePick
 rw [h1,h2,h3]
 simp only [sliceRange_one,pick_run,List.size_toArray] <;> rfl
noncomputable def rSlL (K:PySem.W.Frag):V->Option Int->Option Int->Hp->VK->Prop:=fun x lo hi H Q=>∃ a xs,x=.ref a/\SqL K H a xs/\∀ p,H p=none->Q (.ref p) (upd H p (.lst (aGq xs lo hi)))
theorem aV1:SlR X (rSlL X.K):=by
 intro pins s σ H x v vl vu lo hi sl Q I rx hs pl pu h
 obtain ⟨a,xs,rfl,hx,q⟩:=h
 cases rx
 obtain ⟨its,r,ht,hz⟩:=I.list hx
 have hlen:=r.length
 refine ⟨"list",_,slot_list_getitem.lookup,ht.isList.typeIs,?_⟩
 refine wpAny_getItem_list_slice ht.isList hs pl pu .none (by simp) ?_ (by rw [List.size_toArray] <;> omega)
 rw [aJd,← hlen]
 refine ⟨.ref s.heap.objs.size,_,I.laid (t':=s.toks) (o:=.lst (aGq xs lo hi)) (fun b ob q=>Heap.get?_push_of_some _ q) (Nat.le_refl _) ?_,rfl,q _ (I.hok.fresh (Nat.le_refl _))⟩
 exact ⟨Nat.le_trans (aHz xs lo hi) hz,_,0,(r.drop (HT.sIx xs.length 0 lo)).take (HT.sIx xs.length xs.length hi - HT.sIx xs.length 0 lo),Heap.get?_push_size _ rfl⟩
noncomputable def aGp:V->Bool
 | .non=>true
 | .bl _=>true
 | .int _=>true
 | .str _=>true
 | _=>false
noncomputable def eqV:V->V->Bool
 | .non,.non=>true
 | .bl a,.bl b=>a==b
 | .bl a,.int b=>(if a then 1 else 0)==b
 | .int a,.bl b=>a==(if b then 1 else 0)
 | .int a,.int b=>a==b
 | .str a,.str b=>a==b
 | _,_=>false
theorem bB0 {A:Around} {s:Shared} {y x:V} {u v:Value} (ry:aB0 y u) (rx:aB0 x v) (fy:aGp y=true) (fx:aGp x=true):SeqAt.EqAt A s u v (eqV y x):=by
 cases y with
 | non =>
  cases ry
  cases x with
  | non=>cases rx; exact SeqAt.EqAt.same _
  | bl b=>cases rx; exact SeqAt.EqAt.none_bool b
  | int b=>obtain ⟨t,rfl⟩:=rx; exact SeqAt.EqAt.none_int b t
  | str b=>obtain ⟨t,rfl⟩:=rx; exact SeqAt.EqAt.none_str b t
  | _=>exact absurd (show false=true from fx) Bool.false_ne_true
 | bl a =>
  cases ry
  cases x with
  | non=>cases rx; exact SeqAt.EqAt.bool_none a
  | bl b=>cases rx; exact SeqAt.EqAt.bool_bool a b
  | int b=>obtain ⟨t,rfl⟩:=rx; exact SeqAt.EqAt.bool_int a b t
  | str b=>obtain ⟨t,rfl⟩:=rx; exact SeqAt.EqAt.bool_str a b t
  | _=>exact absurd (show false=true from fx) Bool.false_ne_true
 | int a =>
  obtain ⟨t',rfl⟩:=ry
  cases x with
  | non=>cases rx; exact SeqAt.EqAt.int_none a t'
  | bl b=>cases rx; exact SeqAt.EqAt.int_bool a t' b
  | int b=>obtain ⟨t,rfl⟩:=rx; exact SeqAt.EqAt.int_int a t' b t
  | str b=>obtain ⟨t,rfl⟩:=rx; exact SeqAt.EqAt.int_str a t' b t
  | _=>exact absurd (show false=true from fx) Bool.false_ne_true
 | str a =>
  obtain ⟨t',rfl⟩:=ry
  cases x with
  | non=>cases rx; exact SeqAt.EqAt.str_none a t'
  | bl b=>cases rx; exact SeqAt.EqAt.str_bool a t' b
  | int b=>obtain ⟨t,rfl⟩:=rx; exact SeqAt.EqAt.str_int a t' b t
  | str b=>obtain ⟨t,rfl⟩:=rx; exact SeqAt.EqAt.str_str a t' b t
  | _=>exact absurd (show false=true from fx) Bool.false_ne_true
 | _=>exact absurd (show false=true from fy) Bool.false_ne_true
noncomputable def eqU (x:V) (u:Value):Bool:=match u with
 | .none=>eqV .non x
 | .bool b=>eqV (.bl b) x
 | .int i _=>eqV (.int i) x
 | .str z _=>eqV (.str z) x
 | _=>false
theorem aVi {x y:V} {u:Value} (r:aB0 y u) (f:aGp y=true):eqU x u=eqV y x:=by
 cases y with
 | non=>cases r; rfl
 | bl b=>cases r; rfl
 | int i=>obtain ⟨t,rfl⟩:=r; rfl
 | str z=>obtain ⟨t,rfl⟩:=r; rfl
 | _=>exact absurd (show false=true from f) Bool.false_ne_true
theorem aNa {x:V}:∀ {xs:List V} {us:List Value},aB5 xs us->xs.all aGp=true->us.any (eqU x)=xs.any fun y=>eqV y x
 | _,_,.nil,_=>rfl
 | y::xs,u::us,.cons r t,f=>by
  rw [List.all_cons,Bool.and_eq_true] at f
  rw [List.any_cons,List.any_cons,aVi r f.1,aNa t f.2]
theorem aJz {A:Around} {s:Shared} {x:V} {v:Value} (rx:aB0 x v) (fx:aGp x=true):∀ {xs:List V} {us:List Value},aB5 xs us->xs.all aGp=true->∀ u∈us,SeqAt.EqAt A s u v (eqU x u)
 | _,_,.nil,_=>fun u hu=>by cases hu
 | y::xs,u::us,.cons r t,f=>fun u' hu=>by
  rw [List.all_cons,Bool.and_eq_true] at f
  rcases List.mem_cons.mp hu with rfl | hu
  ·rw [aVi r f.1]; exact bB0 r rx f.1 fx
  ·exact aJz rx fx t f.2 u' hu
noncomputable def inV (x:V) (xs:List V):Bool:=xs.any fun y=>eqV y x
noncomputable def rIn (K:PySem.W.Frag) (neg:Bool):R2:=fun x y H Q=>∃ p xs,y=.ref p/\(SqL K H p xs∨SqT K H p xs)/\aGp x=true/\xs.all aGp=true/\Q (.bl (if neg then !inV x xs else inV x xs)) H
theorem aQ5:OpR X (compareOp .In) (rIn X.K false):=by
 intro pins s σ H x y v u Q I rx ry h
 obtain ⟨p,xs,rfl,hq,fx,fs,q⟩:=h
 cases ry
 rcases hq with hq | hq
 ·obtain ⟨its,r,pl,hz⟩:=I.list hq
  refine SeqAt.in_listAt (eqU x) pl.isList (fun w hw=>aJz rx fx r fs w (by simpa using hw)) ⟨.bl _,H,I,rfl,?_⟩
  rw [show its.toArray.any (eqU x)=its.any (eqU x) by simp,aNa r fs]
  exact q
 ·obtain ⟨its,r,pl,hz⟩:=I.tuple hq
  refine SeqAt.in_tupleAt (eqU x) pl (fun w hw=>aJz rx fx r fs w (by simpa using hw)) ⟨.bl _,H,I,rfl,?_⟩
  rw [show its.toArray.any (eqU x)=its.any (eqU x) by simp,aNa r fs]
  exact q
theorem aLo:aDn X (.type "list") (fun xs H Q=>∃ p ys,xs=[.ref p]/\(SqL X.K H p ys∨SqT X.K H p ys)/\∀ l,H l=none->Q (.ref l) (upd H l (.lst ys))):=by
 intro pins s σ H xs us Q I r h
 obtain ⟨p,ys,rfl,hq,q⟩:=h
 obtain ⟨u,rfl,rx⟩:=aOk r
 cases rx
 have fin:∀ (its:List Value),aB5 ys its->ys.length<=sizeLine->∀ (h':Heap) (c':Nat),(∀ b o',s.heap.get? b=some o'->h'.get? b=some o') ->
   h'.get? s.heap.objs.size=some { cls:=.type "list",dict:=none,data:=.seq its.toArray c',slots:=#[] }->EP X pins σ Q (.ref s.heap.objs.size) { s with heap:=h' }:=fun its r' hz h' c' kp e =>
  ⟨.ref s.heap.objs.size,_,I.laid (t':=s.toks) kp (Nat.le_refl _) (show aB3 X.prog X.w _ h' _ (.lst ys) from ⟨hz,its,c',r',e⟩),rfl,q _ (I.hok.fresh (Nat.le_refl _))⟩
 rcases hq with hq | hq
 ·obtain ⟨its,r',pl,hz⟩:=I.list hq
  have hlen:=r'.length
  obtain ⟨o,ho,hc,n,hd⟩:=pl.isList
  exact call_list_seq p (.inl rfl) ho hc hd (fun h' c' kp e=>fin its r' hz h' c' kp e) (by simp only [List.size_toArray] <;> omega)
 ·obtain ⟨its,r',pl,hz⟩:=I.tuple hq
  have hlen:=r'.length
  obtain ⟨o,ho,hc,n,hd⟩:=pl
  exact call_list_seq p (.inr rfl) ho hc hd (fun h' c' kp e=>fin its r' hz h' c' kp e) (by simp only [List.size_toArray] <;> omega)
theorem aC7:aDn X (.type "tuple") (fun xs H Q=>∃ p ys,xs=[.ref p]/\((SqL X.K H p ys/\∀ l,H l=none->Q (.ref l) (upd H l (.tup ys)))∨(SqT X.K H p ys/\Q (.ref p) H))):=by
 intro pins s σ H xs us Q I r h
 obtain ⟨p,ys,rfl,h⟩:=h
 obtain ⟨u,rfl,rx⟩:=aOk r
 cases rx
 rcases h with ⟨hq,q⟩ | ⟨hq,q⟩
 ·obtain ⟨its,r',pl,hz⟩:=I.list hq
  have hlen:=r'.length
  refine call_tuple_list pl.isList (fun h' kp=>?_) (by simp only [List.size_toArray] <;> omega)
  have I1:Inv X pins σ H { s with heap:=h' }:=I.kept (t':=s.toks) kp
  have I2:Inv X pins σ (upd H h'.objs.size (.tup ys)) { s with heap:=h'.push { cls:=.type "tuple",data:=.seq its.toArray } } :=
   I1.laid (t':=s.toks) (fun b o e=>Heap.get?_push_of_some _ e) (Nat.le_refl _) (show aB3 X.prog X.w _ _ _ (.tup ys) from ⟨⟨hz,_,Heap.get?_push_size _ rfl,rfl⟩,its,r',IsTup.new _ _⟩)
  exact ⟨.ref h'.objs.size,_,I2,rfl,q _ (I1.hok.fresh (Nat.le_refl _))⟩
 ·obtain ⟨its,r',pl,hz⟩:=I.tuple hq
  exact call_tuple_same pl ⟨.ref p,H,I,rfl,q⟩
noncomputable def tyV (K:PySem.W.Frag) (T:String) (x:V) (H:Hp):Prop:=match x with
 | .str _=>T="str"
 | .int _=>T="int"
 | .ref p=>(T="list"/\∃ xs,SqL K H p xs)∨(T="tuple"/\∃ o,K.lookup p=some o/\o.cls=.type "tuple"/\o.dict=none) ∨
   (T="dict"/\((∃ kvs,H p=some (.dK kvs))∨∃ kvs,H p=some (.dT kvs)))∨(T="set"/\∃ S n,H p=some (.set S n))
 | _=>False
theorem aYm {pins:List (Addr×Obj)} {σ:St} {H:Hp} {s:Shared} {T:String} {x:V} {v:Value} (I:Inv X pins σ H s) (r:aB0 x v) (ty:tyV X.K T x H) :
  s.TypeIs v T/\∀ a,v=.ref a->∃ ob,s.heap.get? a=some ob/\ob.dict=none:=by
 cases x with
 | str z =>
  obtain ⟨t,rfl⟩:=r
  cases (show T="str" from ty)
  exact ⟨typeIs_str s z t,fun _ e=>nomatch e⟩
 | int i =>
  obtain ⟨t,rfl⟩:=r
  cases (show T="int" from ty)
  exact ⟨typeIs_int s i t,fun _ e=>nomatch e⟩
 | ref p =>
  cases r
  rcases ty with ⟨rfl,xs,hq⟩ | ⟨rfl,o,hk,hc,hd⟩ | ⟨rfl,hk⟩ | ⟨rfl,S,n,hk⟩
  ·obtain ⟨its,_,pl,_⟩:=I.list hq
   refine ⟨pl.isList.typeIs,fun a e=>?_⟩
   cases e
   obtain ⟨o,n,e,c,hd,_⟩:=pl
   exact ⟨o,e,hd⟩
  ·refine ⟨⟨o,I.kIn p o hk,hc⟩,fun a e=>?_⟩
   cases e
   exact ⟨o,I.kIn _ o hk,hd⟩
  ·have z:∃ o,s.heap.get? p=some o/\o.ExactDict:=by
    rcases hk with ⟨kvs,hk⟩ | ⟨kvs,hk⟩
    ·obtain ⟨_,_,_,_,o,_,_,e,ex,_⟩:=I.hok p _ hk
     exact ⟨o,e,ex⟩
    ·obtain ⟨_,_,_,_,o,_,_,e,ex,_⟩:=I.hok p _ hk
     exact ⟨o,e,ex⟩
   obtain ⟨o,e,ex⟩:=z
   refine ⟨⟨o,e,ex.1⟩,fun a e2=>?_⟩
   cases e2
   exact ⟨o,e,ex.2.1⟩
  ·obtain ⟨o,_,_,_,e,ex,_⟩:=I.hok p _ hk
   refine ⟨⟨o,e,ex.1⟩,fun a e2=>?_⟩
   cases e2
   exact ⟨o,e,ex.2.1⟩
 | _=>exact False.elim ty
noncomputable def tBM (K:PySem.W.Frag) (T:String) (r:V->List V->Hp->VK->Prop) (to:TE) (t:TA):TE:=fun σ H Q=>to σ H fun x H1=>tyV K T x H1/\t σ H1 fun xs H2=>r x xs H2 Q
variable {o e:Expr} {es:List Expr} {to:TE} {t:TA} {name:Str} {apos cpos:Pos} {T id:String} {r:V -> List V -> Hp -> VK -> Prop}
theorem aEf (pa:PlainAttrs T) (slot:Slot T name id) (hty:typeOf (.builtin id)=pure (.type "method_descriptor")) (hm:MtR X id r) (ho:PE X o to) (ha:PA X (e::es) t)
  (hbase:attributeBase o name X.env (eval o X.env)=eval o X.env:=by rfl)
  (hfew:((backTo cpos (starEach (e::es) X.env)).all (fun x=>!x.1)&&(backToKw cpos (keywordEach [] X.env)).all (fun x=>x.1.isSome)
   && decide ((e::es).length+([]:List Keyword).length+(if ([]:List Keyword).isEmpty then 0 else 1) < 30))=true:=by rfl)
  (hline:(apos.endLine==cpos.line)=true:=by rfl) (hs:starEach (e::es) X.env=(false,eval e X.env)::starEach es X.env:=by rfl) (hplain:(backTo cpos (starEach es X.env)).any (·.1)=false:=by rfl) :
  PE X (.Call (.Attribute o name apos) (e::es) [] cpos) (tBM X.K T r to t):=by
 intro pins s σ H Q I h
 refine wpAny_Call_method_late hbase hfew hline rfl (thn (ho pins s σ H _ I h) fun v s1 ⟨x,H1,I1,r1,ty,q1⟩=>?_)
 obtain ⟨h1,h2⟩:=aYm I1 r1 ty
 refine ⟨T,id,pa,slot,hty,h1,h2,?_⟩
 have hA:=ha cpos pins s1 σ H1 _ I1 q1
 rw [hs] at hA ⊢
 refine Calls.callWith_builtin (by show (false || (backTo cpos (starEach es X.env)).any (·.1))=false; rw [hplain] <;> rfl) (Calls.evalArgs_plain ?_)
 exact thn hA fun us s2 ⟨vs,H2,I2,r2,q2⟩=>hm pins s2 σ H2 x vs v us Q I2 r1 r2 q2
/- xs.append(e),list.index on a module's tuple .. are MtR facts of 06m -/
end
end L2
namespace L2
open PySem PySem.Spec PyProof.Rows
noncomputable def MtM (X:Cx) (id:String) (r:V->List V->Hp->VK->Prop):Prop :=
 ∀ (pins:List (Addr×Obj)) (s:Shared) (σ:St) (H:Hp) (x:V) (xs:List V) (v:Value) (us:List Value) (Q:VK),Inv X pins σ H s->aB0 x v->aB5 xs us->r x xs H Q ->
  wpAny (model X.prog X.w) X.A (call (.builtin id) (v::us)) (EP X pins σ Q) X.xe s
theorem aB5.one:∀ {x:V} {us:List Value},aB5 [x] us->∃ u,us=[u]/\aB0 x u
 :=fun h=>by cases h with | cons r h=>cases h; exact ⟨_,rfl,r⟩
theorem aB5.two:∀ {x y:V} {us:List Value},aB5 [x,y] us->∃ u v,us=[u,v]/\aB0 x u/\aB0 y v
 :=fun h=>by cases h with | cons r h=>cases h with | cons q h=>cases h; exact ⟨_,_,rfl,r,q⟩
section
variable {X:Cx} {pins:List (Addr×Obj)} {σ:St} {H:Hp} {s:Shared} {l b:Addr} {xs ys zs:List V}
theorem Inv.lset {its its':List Value} {n:Nat} {f:Array Value->Array Value} {t':Nat} (I:Inv X pins σ H s) (hH:H l=some (.lst xs))
  (e:s.heap.get? l=some { cls:=.type "list",data:=.seq its.toArray n }) (hf:f its.toArray=its'.toArray) (hv:aB5 ys its') (hz:ys.length<=sizeLine) :
  Inv X pins σ (upd H l (.lst ys)) { s with heap:=s.heap.update l (Obj.mapSeq f),toks:=t' }:=by
 have q:=PySem.IsL.update e f
 rw [hf] at q
 refine I.write (x:=l) (e:=l) (by rw [hH]; exact trivial) (.inl rfl) (fun b' u hb hu=>(Heap.get?_update_other s.heap (Obj.mapSeq f) (Ne.symm hb)).trans hu) ⟨_,q⟩ ?_
 exact ⟨hz,its',_,hv,q⟩
theorem Inv.lnew {its:List Value} {t':Nat} (I:Inv X pins σ H s) (hv:aB5 ys its) (hz:ys.length<=sizeLine) :
  Inv X pins σ (upd H s.heap.objs.size (.lst ys)) { s with heap:=s.heap.push { cls:=.type "list",data:=.seq its.toArray },toks:=t' } :=
 I.laid (fun _ _ q=>Heap.get?_push_of_some _ q) (Nat.le_refl _) ⟨hz,its,0,hv,Heap.get?_push_size _ rfl⟩
theorem Inv.fresh (I:Inv X pins σ H s):H s.heap.objs.size=none:=I.hok.fresh (Nat.le_refl _)
theorem Inv.lstM (I:Inv X pins σ H s) (hH:H l=some (.lst xs)):xs.length<=sizeLine/\∃ (its:List Value) (n:Nat),aB5 xs its/\xs.length=its.length/\s.heap.get? l=some { cls:=.type "list",data:=.seq its.toArray n }:=by
 obtain ⟨z,its,n,r,e⟩:=I.hok l _ hH
 exact ⟨z,its,n,r,r.length,e⟩
theorem aT3 {n:Nat} (h:n<=sizeLine):Builtin.List.listTooLong n=false:=by
 unfold Builtin.List.listTooLong
 exact decide_eq_false (by omega)
end
section
variable {X:Cx}
noncomputable def aQq:V->List V->Hp->VK->Prop:=fun x vs H Q=>∃ l xs y,x=.ref l/\vs=[y]/\H l=some (.lst xs)/\xs.length < sizeLine/\Q .non (upd H l (.lst (xs++[y])))
theorem aDi:MtM X "list.append" aQq:=by
 intro pins s σ H x vs v us Q I rx rv h
 obtain ⟨l,xs,y,rfl,rfl,hH,hz,q⟩:=h
 cases rx
 obtain ⟨u,rfl,ru⟩:=rv.one
 obtain ⟨z,its,n,r,hl,e⟩:=I.lstM hH
 refine call_meets F.slot_list_append ⟨_,e,rfl⟩ F.entry_list_append (F.args_list_append_2 _ _) (PySem.list_append l its.toArray n u (by rw [List.size_toArray]; omega)) ⟨e,?_⟩
 refine ⟨.non,_,I.lset (its':=its++[u]) hH e (by simp) (r.append (.cons ru .nil)) ?_,rfl,q⟩
 rw [List.length_append,List.length_singleton]
 omega
noncomputable def aQp:V->List V->Hp->VK->Prop:=fun x vs H Q=>∃ l b xs zs,x=.ref l/\vs=[.ref b]/\H l=some (.lst xs)/\H b=some (.lst zs)/\xs.length+zs.length<=sizeLine/\Q .non (upd H l (.lst (xs++zs)))
theorem aRl:MtM X "list.extend" aQp:=by
 intro pins s σ H x vs v us Q I rx rv h
 obtain ⟨l,b,xs,zs,rfl,rfl,hH,hB,hz,q⟩:=h
 cases rx
 obtain ⟨u,rfl,ru⟩:=rv.one
 cases ru
 obtain ⟨z,its,n,r,hl,e⟩:=I.lstM hH
 obtain ⟨z2,its2,n2,r2,hl2,e2⟩:=I.lstM hB
 have hsz:its.toArray.size+its2.toArray.size<=sizeLine:=by rw [List.size_toArray,List.size_toArray]; omega
 have hlong:¬ (!its.toArray.isEmpty&&Builtin.List.listTooLong (its.toArray.size+its2.toArray.size))=true:=by
  rw [aT3 hsz,Bool.and_false]
  exact Bool.false_ne_true
 refine call_meets F.slot_list_extend ⟨_,e,rfl⟩ F.entry_list_extend (F.args_list_extend_2 _ _)
  (AutoSeq1.list_extend_list_list_0 l its.toArray n b its2.toArray n2 hlong (by rw [List.size_toArray]; omega) (by omega)) ⟨e,e2,?_⟩
 refine ⟨.non,_,I.lset (its':=its++its2) hH e (by simp) (r.append r2) ?_,rfl,q⟩
 rw [List.length_append]
 omega
noncomputable def rCat:R2:=fun x y H Q=>∃ l b xs zs,x=.ref l/\y=.ref b/\H l=some (.lst xs)/\H b=some (.lst zs)/\xs.length+zs.length<=sizeLine/\∀ p,H p=none->Q (.ref p) (upd H p (.lst (xs++zs)))
theorem bA4:OpR X (binaryOp .Add) rCat:=by
 intro pins s σ H x y v u Q I rx ry h
 obtain ⟨l,b,xs,zs,rfl,rfl,hH,hB,hz,q⟩:=h
 cases rx
 cases ry
 obtain ⟨z,its,n,r,hl,e⟩:=I.lstM hH
 obtain ⟨z2,its2,n2,r2,hl2,e2⟩:=I.lstM hB
 refine PySem.P.add_list e e2 ?_ (by rw [List.size_toArray,List.size_toArray]; omega)
 have ea:its.toArray++its2.toArray=(its++its2).toArray:=by simp
 rw [ea]
 exact ⟨.ref _,_,I.lnew (t':=s.toks) (r.append r2) (by rw [List.length_append]; omega),rfl,q _ I.fresh⟩
end
section
variable {prog:Program} {w:World} {A:Around} {E:Value -> Shared -> Prop} {s:Shared}
end
section
variable {X:Cx}
end
end L2
namespace Att
open PySem PySem.W PySem.Calls PyProof.Rows
theorem aHx {P:Params} {h:Heap}:∀ (ns:List Int) (vs:List Value),WellAll P h vs (ns.map WData.int)->IntsAre vs ns:=by
 intro ns
 induction ns with
 | nil =>
  intro vs w
  rw [List.map_nil] at w
  cases w
  exact .nil
 | cons n ns ih =>
  intro vs w
  rw [List.map_cons] at w
  cases w with
  | cons a b =>
   cases a
   exact .cons _ _ (ih _ b)
theorem aQd {l:OpenLaw} {n:Nat} (hn:l.most=some n) {P:Params} {h:Heap} {args:List WData} {vals:List Value}
  (hpre:l.row.toRowW.claim.pre args=true) (hwl:WellAll P h vals args) :
  ∃ a vs ns,vals=[Value.ref a]/\args=[WData.list (ns.map WData.int)]/\h.get? a=some { cls:=.type "list",data:=.seq vs.toArray }/\IntsAre vs ns/\ns.length<=n:=by
 have hsh:WShape.hasAll [] args [.list .int]=true:=(pre_splitW hpre).1
 have hc:l.pre.holds [] { args:=args }=true:=(pre_splitW hpre).2
 obtain ⟨d,r,rfl,h1,h2⟩:=hasAllW_cons hsh
 obtain rfl:=hasAllW_nil h2
 obtain ⟨xs,rfl,h3⟩:=hasW_list h1
 obtain ⟨ns,rfl⟩:=items_int h3
 have hlen:ns.length<=n:=by
  unfold OpenLaw.pre at hc
  have h4:(WTm.not (.lt (.lit (.int (n:Int))) (.len (.arg 0)))).holds [] { args:=[.list (ns.map .int)] }=true:=by
   have h4:=(holds_andW hc).1
   rw [hn] at h4
   exact h4
  have h5:=condW_of h4 (w_not (w_lt w_lit (w_len_list (w_arg rfl))))
  rw [List.length_map] at h5
  refine Nat.le_of_not_lt fun q=>?_
  have q':(n:Int) < ((ns.length:Nat):Int):=by omega
  first
   | (rw [decide_eq_true q'] at h5; exact absurd h5 (by decide))
   | (simp at h5; omega)
 cases hwl with
 | cons w1 w2 =>
  cases w2
  cases w1 with
  | list ho hall=>exact ⟨_,_,ns,rfl,rfl,ho,aHx ns _ hall,hlen⟩
theorem aQu (l:OpenLaw) (args:List WData):l.row.toRowW.claim.post args (.bool true) args=true :=
 postW_of (r:=l.row.toRowW) (X:=(true==true))
  (show WShape.has [] (.bool true) .bool=true by first | rfl | decide | simp [WShape.has,WShape.arms,WShape.armsAll])
  (show (WTm.eq .res (.lit (.bool true))).value [] { args:=args,res:=some (.bool true),after:=args }=some (.bool (true==true)) from w_eq_bool (w_res rfl) w_lit) rfl
theorem attach_call {l:OpenLaw} {n:Nat} {q:Program} {loose:List Str} {XP:(Str->Option Value)->Heap->Prop} {YP:World->Heap->Prop} {d:DefRec}
  (hn:l.most=some n) (hdf:d.params.defaults=[])
  (call:∀ (w:World) (s₀ s₁:Shared) (mg mb:Str->Option Value) (fa:Addr) (o:Obj) (pm cd doc:Value) (a:Addr) (vs:List Value) (ns:List Int),
   Ground q loose [] XP w s₀ mg mb s₁.heap->YP w s₁.heap ->
   s₁.heap.get? fa=some o->o.data=.func (docDef d.name d.params d.body d.scope pm cd doc)->s₁.heap.CodeRec cd d.name->mg d.name=some (.ref fa) ->
   s₁.heap.get? a=some { cls:=.type "list",data:=.seq vs.toArray }->IntsAre vs ns->ns.length<=n->s₁.gens=#[] ->
   codeAny (model l.prog w) callerA (.call (.ref fa) ⟨[.ref a],[]⟩) (fun r s'=>r=.ok (.ret (.bool true))/\OldK s₁.heap s'.heap/\s'.os=s₁.os/\AllBare s'.gens) s₁) :
  WalkO q loose XP YP l.row.toRowW d [] (fun f vs=>PySem.call f vs):=by
 intro w s₀ s₁ mg mb G Y fa o pm cd doc dV kV ho hd hcd hD hmg hg args vals as hpre hlay hrd hwl hlo
 obtain rfl:dV=.none:=Dflts.none hD hdf
 obtain rfl:kV=.none:=Dflts.noKw hD
 obtain ⟨a,vs,ns,rfl,rfl,hobj,hints,hlen⟩:=aQd hn hpre hwl
 refine enter_call (codeAny_mono (call w s₀ s₁ mg mb fa o pm cd doc a vs ns G Y ho (fd_plain hd) hcd hmg hobj hints hlen hg) fun r s' hq=>?_)
 obtain ⟨rfl,h2,h3,h4⟩:=hq
 exact ⟨.inl ⟨.bool true,.bool true,[],rfl,fun _=>rfl,.bool true,aQu l _,fun _=>⟨List.Pairwise.nil,fun _ hm=>(nomatch hm)⟩⟩,h2,h3,h4⟩
section
variable {prog:Program} {w:World} {A:Around} {E:Value -> Shared -> Prop} {s:Shared} {K:Frag}
end
end Att
namespace L2
open PySem PySem.Spec PyProof.Rows
theorem aKj:∀ {vs:List Value} {ns:List Int},IntsAre vs ns->aB5 (ns.map V.int) vs
 | _,_,.nil=>.nil
 | _,_,.cons n t h=>.cons ⟨t,rfl⟩ (aKj h)
noncomputable def Only (H:Hp):Prop:=∀ b,H b=none∨∃ o xs,H b=some (.frz o (.lst xs))
theorem aT5 {P:Program} {w:World} {K:PySem.W.Frag} {mg mb:Str->Option Value} {CX:CXT} {k:Nat} {fa a:Addr} {fd:FuncData} {x:Str} {sp:Sp} {s₁:Shared} {vs:List Value} {ns:List Int}
  (KX:K.In s₁.heap) (hns:s₁.heap.Ns mainGlobals mg) (hb:s₁.heap.Ns builtinsNs mb) (hbb:∀ x:Str,x≠"__name__"->mb x=bootBuiltins x) (hlim:s₁.heap.NoLimit) (hg:s₁.gens=#[])
  (ha:s₁.heap.get? a=some { cls:=.type "list",data:=.seq vs.toArray }) (hi:IntsAre vs ns) (hl:ns.length<=sizeLine) (hr:aGr k callerA)
  (F:∀ base:Heap,K.In base->base.Ns mainGlobals mg->aNb P w K mg base CX k fa fd [x] sp) (hbind:∀ (s:Shared) (u:Value),BindsTo s fd ⟨[u],[]⟩ [(x,u)])
  (hsp:∀ H:Hp,Only H->SqL K H a (ns.map V.int)->sp [.ref a] H (fun v _=>v=.bl true) fun _ _ _=>False)
  (hCX:∀ H e s',CX [] H s₁ (fun _ _ _=>False) e s'->False) :
  codeAny (model P w) callerA (.call (.ref fa) ⟨[.ref a],[]⟩) (fun r s'=>r=.ok (.ret (.bool true))/\OldK s₁.heap s'.heap/\s'.os=s₁.os/\AllBare s'.gens) s₁:=by
 have rv:=aKj hi
 have lenV:=hi.length
 -- from an abstract heap in which nothing but the script may be tracked
 have core:∀ H:Hp,Only H->SqL K H a (ns.map V.int)->HOk P w H s₁.heap->(∀ b,H b≠none->b=a)->(H a≠none->K.lookup a=none) ->
   codeAny (model P w) callerA (.call (.ref fa) ⟨[.ref a],[]⟩) (fun r s'=>r=.ok (.ret (.bool true))/\OldK s₁.heap s'.heap/\s'.os=s₁.os/\AllBare s'.gens) s₁:=by
  intro H hO hS hok hA hK
  have base_of:∀ {b:Addr} {o:Obj},s₁.heap.get? b=some o->H b=none->(aUa s₁.heap H).get? b=some o:=fun e n=>aT9 e n
  have noA:∀ {b:Addr} {o:Obj} {es:Array DictEntry} {ep:Nat},s₁.heap.get? b=some o->o.data=.dict es ep->H b=none:=fun {b o es ep} e d=>by
   cases q:H b with
   | none=>rfl
   | some u =>
    have e':b=a:=hA b (by rw [q]; simp)
    subst e'
    rw [ha] at e; cases e
    have d':Data.seq vs.toArray _=Data.dict es ep:=d
    cases d'
  have nsK:∀ {b:Addr} {m:Str->Option Value},s₁.heap.Ns b m->(aUa s₁.heap H).Ns b m:=fun {b m} ⟨o,es,ep,e,d,r⟩=>⟨o,es,ep,base_of e (noA e d),d,r⟩
  have hKb:K.In (aUa s₁.heap H):=fun b o e=>base_of (KX b o e) (by
   cases q:H b with
   | none=>rfl
   | some u =>
    have e':b=a:=hA b (by rw [q]; simp)
    subst e'
    rw [hK (by rw [q]; simp)] at e; cases e)
  have hM:Mod K mg (aUa s₁.heap H):=⟨hKb,nsK hns,⟨mb,nsK hb,hbb⟩,let ⟨mc,h1,h2⟩:=hlim; ⟨mc,nsK h1,h2⟩⟩
  have e0:Env0 P w K mg (aUa s₁.heap H) callerA [] s₁ H:=⟨rfl,hM,fun b o e=>aW3 e,Nat.le_of_eq (aRv _ _),trivial,fun b hb=>absurd (show b∈([]:List Addr) from hb) (by simp),hok,.of_eq hg⟩
  refine codeAny_mono ((F _ hKb (nsK hns)).run callerA [] s₁ H ⟨[.ref a],[]⟩ [.ref a] [.ref a] _ _ hr e0 (hbind s₁ (.ref a)) (.cons rfl .nil) (hsp H hO hS)) fun r s' h=>?_
  cases r with
  | error e=>exact (hCX H e s' h).elim
  | ok fl =>
   cases fl with
   | next=>exact False.elim h
   | brk=>exact False.elim h
   | cont=>exact False.elim h
   | ret u =>
    obtain ⟨v,H',os,bare,un,hok',r',q⟩:=h
    have q':v=.bl true:=q
    subst q'
    obtain rfl:u=Value.bool true:=r'
    refine ⟨rfl,OldK.of_keep fun b o e=>?_,os,bare⟩
    cases q:H b with
    | none=>exact un.keep b o e q (by intro z; exact absurd (show b∈([]:List Addr) from z) (by simp)) (by simp)
    | some u =>
     rcases hO b with z | ⟨ob,xs,z⟩
     ·rw [q] at z; cases z
     ·have z2:=un.frzs b ob _ z
      obtain ⟨e1,_⟩:=hok b _ z
      obtain ⟨e2,_⟩:=hok' b _ z2
      rw [e] at e1; cases e1
      exact e2
 cases hk:K.lookup a with
 | some o =>
  -- the script is one of the module's own objects
  have e:=KX a o hk
  rw [ha] at e
  cases e
  refine core (fun _=>none) (fun _=>.inl rfl) (.inr ⟨_,vs.toArray,_,hk,rfl,rfl,rfl,by rw [List.size_toArray,lenV]; exact hl,by simpa using rv⟩) (fun b u z=>by have z':(none:Option HO)=some u:=z; cases z') (fun b z=>absurd rfl z) fun z=>absurd rfl z
 | none =>
  refine core (fun b=>if b=a then some (.frz { cls:=.type "list",data:=.seq vs.toArray } (.lst (ns.map V.int))) else none) (fun b=>?_) (.inl (.inr ⟨{ cls:=.type "list",data:=.seq vs.toArray },if_pos rfl⟩)) (fun b u z=>?_) (fun b z=>?_) fun _=>hk
  ·by_cases hb:b=a
   ·exact .inr ⟨_,_,if_pos hb⟩
   ·exact .inl (if_neg hb)
  ·by_cases hb:b=a
   ·have z':=(if_pos hb).symm.trans z
    cases z'
    subst hb
    exact ⟨ha,by rw [List.length_map]; exact hl,vs,_,rv,ha⟩
   ·have z':=(if_neg hb).symm.trans z
    cases z'
  ·by_cases hb:b=a
   ·exact hb
   ·exact absurd (if_neg hb) z
end L2
namespace L2
open PySem PySem.Spec PyProof.Rows
theorem walk_of {l:PySem.W.OpenLaw} {n k:Nat} {q:Program} {loose:List Str} {XP:(Str->Option Value)->Heap->Prop} {YP:World->Heap->Prop} {d:DefRec} {K:Params->PySem.W.Frag} {CX:World->CXT} {sp:World->Sp} {x:Str}
  (hn:l.most=some n) (hn2:n<=sizeLine) (hdf:d.params.defaults=[]) (hr:aGr k callerA)
  (hY:∀ (w:World) (h:Heap),YP w h->(K w.params).In h)
  (F:∀ (w:World) (mg:Str->Option Value) (fa:Addr) (h:Heap),(K w.params).In h->h.Ns mainGlobals mg->mg d.name=some (.ref fa) ->
   ∃ fd:FuncData,(∀ (s:Shared) (u:Value),BindsTo s fd ⟨[u],[]⟩ [(x,u)]) /\
    ∀ base:Heap,(K w.params).In base->base.Ns mainGlobals mg->aNb l.prog w (K w.params) mg base (CX w) k fa fd [x] (sp w))
  (hsp:∀ (w:World) (H:Hp) (a:Addr) (ns:List Int),ns.length<=n->Only H->SqL (K w.params) H a (ns.map V.int)->sp w [.ref a] H (fun v _=>v=.bl true) fun _ _ _=>False)
  (hCX:∀ (w:World) (H:Hp) (s:Shared) (e:Value) (s':Shared),CX w [] H s (fun _ _ _=>False) e s'->False) :
  PySem.W.WalkO q loose XP YP l.row.toRowW d [] (fun f vs=>PySem.call f vs):=by
 refine Att.attach_call hn hdf fun w s₀ s₁ mg mb fa o pm cd doc a vs ns G Y ho hd hcd hmg hobj hints hlen hg=>?_
 have KX:=hY w _ Y
 obtain ⟨fd,hb,hF⟩:=F w mg fa _ KX G.T.g hmg
 exact aT5 KX G.T.g G.T.b G.T.builtins G.T.nolimit hg hobj hints (Nat.le_trans hlen hn2) hr hF hb (fun H hO hS=>hsp w H a ns hlen hO hS) fun H e s'=>hCX w H s₁ e s'
end L2
/- THE LAST THEOREM (shape; LID,My.* are yours):
   My.Adr: a structure of the addresses that your layer names (classes,functions); My.Txt K t: a structure (Prop) of the equations over K;
   My.txt_mk:{K} {implicit addresses ..} (e1:nsIn K mainGlobals "law"=some (some (.ref f))) (e2:K.lookup f=some ⟨oc,od,.func (fnOf "law" "law" params body scope dV kV doc pm an cdv ct),sl⟩) (e3:codeIn K cdv "law"=true) ..:∃ t,My.Txt K t
(the tactic k_is has no namespace: write k_is) -/
namespace L2
open PySem PySem.Spec PyProof.Rows
noncomputable def aAp (s:Stmt):Arguments:=match s with
 | .FunctionDef _ a _ _ _ _ _ _ _ _=>a
 | _=>{ posonlyargs:=[],args:=[],vararg:=none,kwonlyargs:=[],kw_defaults:=[],kwarg:=none,defaults:=[] }
noncomputable def aAm (s:Stmt):List Stmt:=match s with
 | .FunctionDef _ _ b _ _ _ _ _ _ _=>b
 | _=>[]
noncomputable def aAf (s:Stmt):Scope:=match s with
 | .FunctionDef _ _ _ _ _ _ sc _ _ _=>sc
 | _=>{ kind:=.function,names:=[],isGenerator:=false,isCoroutine:=false }
noncomputable abbrev CX0:CXT:=fun _ _ _ _ _ _=>False
noncomputable abbrev E0:XK:=fun _ _ _=>False
theorem pass0 {X:Cx}:aLx CX0 X E0:=fun _ _ _ _ _ _ _ h=>h.elim
structure Fun (K:PySem.W.Frag) (x qual:Str) (st:Stmt) (f:Addr) (fd:FuncData):Prop where
 ex:∃ (oc:Value) (od:Option Addr) (kV doc pm:Value) (an:Option Addr) (cdv ct:Value) (osl:Array (Option Value)),
  fd=PySem.W.fnOf x qual (aAp st) (aAm st) (aAf st) .none kV doc pm an cdv ct/\K.lookup f=some ⟨oc,od,.func fd,osl⟩/\PySem.W.codeIn K cdv qual=true
 kp:PySem.W.keepIn K (.ref f)=true
section
variable {P:Program} {w:World} {K:PySem.W.Frag} {mg:Str -> Option Value} {base:Heap}
theorem Fun.ok {x qual:Str} {st:Stmt} {f:Addr} {fd:FuncData} {N ps:List Str} {k:Nat} {sp:Sp} (F:Fun K x qual st f fd) (S:aAv N ps (aAf st)) (len:∀ vs H Q E,sp vs H Q E->vs.length=ps.length)
  (hbody:∀ (cdv:Value) (A:Around) (outer:List Env) (s:Shared) (H:Hp) (vs:List V) (Q:VK) (E:XK),aGr k (A.deeper (envOfC qual (aAf st) s.heap.objs.size f cdv))->sp vs H Q E ->
   ∃ t,PSs (aPl CX0 P w K mg base N qual (aAf st) f cdv A outer s H E).nox (aAm st) t/\t { nx:=fun _ H'=>Q .non H',rt:=Q } (aH4 N vs) H):aNb P w K mg base CX0 (k+1) f fd ps sp:=by
 obtain ⟨oc,od,kV,doc,pm,an,cdv,ct,osl,rfl,lk,hcd⟩:=F.ex
 refine aXl lk hcd S len fun A outer s H vs Q E hr hsp=>?_
 obtain ⟨t,h,q⟩:=hbody cdv A outer s H vs Q E hr hsp
 exact ⟨t,h.nox,q⟩
theorem bBv {x qual:Str} {st:Stmt} {f:Addr} {oc:Value} {od an:Option Addr} {osl:Array (Option Value)} {kV doc pm cdv ct:Value} (l:K.lookup f=some ⟨oc,od,.func (PySem.W.fnOf x qual (aAp st) (aAm st) (aAf st) .none kV doc pm an cdv ct),osl⟩)
  (c:PySem.W.codeIn K cdv qual=true) (k:PySem.W.keepIn K (.ref f)=true):Fun K x qual st f (PySem.W.fnOf x qual (aAp st) (aAm st) (aAf st) .none kV doc pm an cdv ct):=⟨⟨oc,od,kV,doc,pm,an,cdv,ct,osl,rfl,l,c⟩,k⟩
end
theorem aCj {n:Nat} (h:n<=1000):n < sizeLine:=Nat.lt_of_le_of_lt h (by decide)
section
variable {X:Cx}
theorem pv (i:Nat) {x:Str} {pos:Pos} (hN:X.N[i]?=some x:=by rfl) (hv:Vis X.env.scope x:=by first | exact Or.inl rfl | exact Or.inr (Or.inl rfl) | exact Or.inr (Or.inr rfl)) (hd:(x==("__debug__":Str))=false:=by decide)
  (hcd:(x==("__classdict__":Str))=false:=by decide):PE X (.Name x pos) (tVar i):=bAu hN hv hd hcd
end
theorem iteF {A B:Prop} (h:B):if false=true then A else B:=by
 rw [if_neg Bool.false_ne_true]
 exact h
theorem iteT {A B:Prop} (h:A):if true=true then A else B:=by
 rw [if_pos rfl]
 exact h
noncomputable def aAn (H H':Hp):Prop:=∀ b o,H b=some o->H' b=some o
theorem aAn.refl (H:Hp):aAn H H:=fun _ _ h=>h
theorem aAn.trans {H H1 H2:Hp} (a:aAn H H1) (b:aAn H1 H2):aAn H H2:=fun c o h=>b c o (a c o h)
theorem aAn.free {H H':Hp} (e:aAn H H') {l:Addr} (h:H' l=Option.none):H l=Option.none:=by
 cases q:H l with
 | none=>rfl
 | some o =>
  rw [e l o q] at h
  cases h
theorem aAn.seq {K:PySem.W.Frag} {H H':Hp} {a:Addr} {xs:List V} (e:aAn H H') (h:SqL K H a xs):SqL K H' a xs:=by
 rcases h with (h | ⟨o,h⟩) | h
 ·exact .inl (.inl (e _ _ h))
 ·exact .inl (.inr ⟨o,e _ _ h⟩)
 ·exact .inr h
end L2
namespace L2
open PySem PySem.Spec PyProof.Rows
section
variable {κ:Type} [DecidableEq κ]
noncomputable def aD2 (kvs:List (κ×V)) (k:κ):Option V:=(kvs.find? fun kv=>decide (kv.1=k)).map (·.2)
noncomputable def aD7 (kvs:List (κ×V)) (k:κ) (v:V):List (κ×V) :=
 if (kvs.any fun kv=>decide (kv.1=k))=true then kvs.map (fun kv=>if kv.1=k then (kv.1,v) else kv) else kvs++[(k,v)]
theorem aB9 {p:κ×V} {r:List (κ×V)} {k:κ} (e:p.1=k):aD2 (p::r) k=some p.2:=by simp [aD2,List.find?_cons,e]
theorem aCa {p:κ×V} {r:List (κ×V)} {k:κ} (e:¬ p.1=k):aD2 (p::r) k=aD2 r k:=by simp [aD2,List.find?_cons,e]
theorem aGv (k:κ):∀ kvs:List (κ×V),(kvs.any fun kv=>decide (kv.1=k))=(aD2 kvs k).isSome
 | []=>rfl
 | p::r=>by
  rw [List.any_cons]
  by_cases e:p.1=k
  ·simp only [aB9 e,decide_eq_true e,Bool.true_or,Option.isSome_some]
  ·rw [aCa e,decide_eq_false e,Bool.false_or]; exact aGv k r
theorem aNe (k j:κ) (y:V):∀ kvs:List (κ×V),aD2 (kvs.map fun kv=>if kv.1=k then (kv.1,y) else kv) j=(aD2 kvs j).map fun x=>if j=k then y else x
 | []=>rfl
 | p::r=>by
  have ih:=aNe k j y r
  rw [List.map_cons]
  by_cases h:p.1=k
  ·rw [if_pos h]
   by_cases e:p.1=j
   ·rw [aB9 (p:=(p.1,y)) e,aB9 e,Option.map_some,if_pos (e.symm.trans h)]
   ·rw [aCa (p:=(p.1,y)) e,aCa e,ih]
  ·rw [if_neg h]
   by_cases e:p.1=j
   ·rw [aB9 (p:=p) e,aB9 e,Option.map_some,if_neg (fun z=>h (e.trans z))]
   ·rw [aCa (p:=p) e,aCa e,ih]
theorem aKk (k j:κ) (y:V):∀ kvs:List (κ×V),aD2 kvs k=none->aD2 (kvs++[(k,y)]) j=if j=k then some y else aD2 kvs j
 | [],_=>by
  by_cases e:k=j
  ·rw [if_pos e.symm]; exact aB9 (p:=(k,y)) e
  ·rw [if_neg (fun z=>e z.symm)]; exact aCa (p:=(k,y)) e
 | p::r,hn=>by
  rw [List.cons_append]
  have hk:¬ p.1=k:=fun z=>by rw [aB9 z] at hn; cases hn
  rw [aCa hk] at hn
  have ih:=aKk k j y r hn
  by_cases e:p.1=j
  ·rw [aB9 e,aB9 e,if_neg (fun z=>hk (e.trans z))]
  ·rw [aCa e,aCa e,ih]
theorem aFa (kvs:List (κ×V)) (k j:κ) (y:V):aD2 (aD7 kvs k y) j=if j=k then some y else aD2 kvs j:=by
 unfold aD7
 by_cases a:(kvs.any fun kv=>decide (kv.1=k))=true
 ·rw [if_pos a,aNe]
  rw [aGv] at a
  by_cases e:j=k
  ·obtain ⟨x,hx⟩:=Option.isSome_iff_exists.mp a
   rw [if_pos e,e,hx,Option.map_some,if_pos rfl]
  ·rw [if_neg e]
   cases aD2 kvs j with
   | none=>rfl
   | some x=>rw [Option.map_some,if_neg e]
 ·rw [if_neg a]
  refine aKk k j y kvs ?_
  rw [aGv] at a
  cases q:aD2 kvs k with
  | none=>rfl
  | some x=>rw [q] at a; exact (a rfl).elim
theorem aE5 (kvs:List (κ×V)) (k:κ) (v:V):(aD7 kvs k v).length<=kvs.length+1:=by
 unfold aD7
 split
 ·rw [List.length_map]; omega
 ·rw [List.length_append,List.length_cons,List.length_nil]; omega
theorem aPi.isSome_eq {o:Option V} {u:Option Value} (r:aPi o u):o.isSome=u.isSome:=by
 cases o with
 | none=>cases u with
  | none=>rfl
  | some _=>exact (show False from r).elim
 | some _=>cases u with
  | none=>exact (show False from r).elim
  | some _=>rfl
theorem aPi.getD {o:Option V} {u:Option Value} {d:V} {d':Value} (r:aPi o u) (rd:aB0 d d'):aB0 (o.getD d) (u.getD d'):=by
 cases o with
 | none=>cases u with
  | none=>exact rd
  | some _=>exact (show False from r).elim
 | some _=>cases u with
  | none=>exact (show False from r).elim
  | some _=>exact r
theorem KV.val {kvs:List (κ×V)} {vs:List (κ×Value)} (r:KV kvs vs) (k:κ):aPi (aD2 kvs k) (valueAt vs k):=by
 unfold KV at r
 induction r with
 | nil=>exact True.intro
 | @cons p q ps qs h t ih =>
  obtain ⟨h1,h2⟩:=h
  by_cases e:p.1=k
  ·have e':q.1=k:=h1.symm.trans e
   have b:valueAt (q::qs) k=some q.2:=by simp [valueAt,List.find?_cons,e']
   rw [aB9 e,b]; exact h2
  ·have e':¬ q.1=k:=fun z=>e (h1.trans z)
   have b:valueAt (q::qs) k=valueAt qs k:=by simp [valueAt,List.find?_cons,e']
   rw [aCa e,b]; exact ih
theorem KV.any {kvs:List (κ×V)} {vs:List (κ×Value)} (r:KV kvs vs) (k:κ):(kvs.any fun kv=>decide (kv.1=k))=vs.any fun kv=>decide (kv.1=k):=by
 unfold KV at r
 induction r with
 | nil=>rfl
 | cons h t ih=>rw [List.any_cons,List.any_cons,ih,h.1]
theorem KV.repl {kvs:List (κ×V)} {vs:List (κ×Value)} (r:KV kvs vs) (k:κ) {y:V} {u:Value} (ry:aB0 y u) :
  KV (kvs.map fun kv=>if kv.1=k then (kv.1,y) else kv) (vs.map fun kv=>if kv.1=k then (kv.1,u) else kv):=by
 unfold KV at r ⊢
 induction r with
 | nil=>exact .nil
 | @cons p q ps qs h t ih =>
  rw [List.map_cons,List.map_cons]
  refine .cons ?_ ih
  obtain ⟨h1,h2⟩:=h
  by_cases e:p.1=k
  ·rw [if_pos e,if_pos (h1.symm.trans e)]; exact ⟨h1,ry⟩
  ·rw [if_neg e,if_neg (fun z=>e (h1.trans z))]; exact ⟨h1,h2⟩
theorem KV.put {kvs:List (κ×V)} {vs:List (κ×Value)} (r:KV kvs vs) (k:κ) {y:V} {u:Value} (ry:aB0 y u):KV (aD7 kvs k y) (stored vs k u):=by
 unfold aD7 stored
 rw [r.any k]
 by_cases e:(vs.any fun kv=>decide (kv.1=k))=true
 ·rw [if_pos e,if_pos e]; exact r.repl k ry
 ·rw [if_neg e,if_neg e]; exact Paired.snoc r ⟨rfl,ry⟩
theorem KV.length {kvs:List (κ×V)} {vs:List (κ×Value)} (r:KV kvs vs):kvs.length=vs.length:=Paired.length r
end
theorem aLh {P:Program} {w:World} {k:Key} {u:Value} (r:aB0 (kV k) u):(aBu P w).is k u=true:=by
 cases k with
 | inl i=>obtain ⟨t,e⟩:=(show ∃ t,u=Value.int i t from r); subst e; exact aMw P w i t
 | inr x=>obtain ⟨t,e⟩:=(show ∃ t,u=Value.str x t from r); subst e; exact aMv P w x t
theorem aLk {P:Program} {w:World}:∀ {ks:List Key} {us:List Value},aB5 (ks.map kV) us->ItemsAre (aBu P w) ks us
 | [],_,r=>by rw [List.map_nil] at r; cases r; exact .nil
 | k::ks,_,r=>by
  rw [List.map_cons] at r
  cases r with
  | cons h t=>exact .cons (aLh h) (aLk t)
noncomputable abbrev KT (H:Hp):List (List Key×V)->List (List Key×Addr×Value)->Prop:=Paired fun p q=>p.1=q.1/\H q.2.1=some (.tup (p.1.map kV))/\aB0 p.2 q.2.2
theorem KT.val {H:Hp} {kvs:List (List Key×V)} {xs:List (List Key×Addr×Value)} (r:KT H kvs xs) (k:List Key):aPi (aD2 kvs k) ((atKey xs k).map (·.2)):=by
 induction r with
 | nil=>exact True.intro
 | @cons p q ps qs h t ih =>
  obtain ⟨h1,_,h2⟩:=h
  by_cases e:p.1=k
  ·have e':q.1=k:=h1.symm.trans e
   have b:atKey (q::qs) k=some q.2:=by simp [atKey,List.find?_cons,e']
   rw [aB9 e,b]; exact h2
  ·have e':¬ q.1=k:=fun z=>e (h1.trans z)
   have b:atKey (q::qs) k=atKey qs k:=by simp [atKey,List.find?_cons,e']
   rw [aCa e,b]; exact ih
theorem KT.repl {H:Hp} {kvs:List (List Key×V)} {xs:List (List Key×Addr×Value)} (r:KT H kvs xs) (k:List Key) {y:V} {u:Value} (ry:aB0 y u) :
  KT H (kvs.map fun kv=>if kv.1=k then (kv.1,y) else kv) (xs.map (putAt k u)):=by
 induction r with
 | nil=>exact .nil
 | @cons p q ps qs h t ih =>
  rw [List.map_cons,List.map_cons]
  refine .cons ?_ ih
  obtain ⟨h1,h2,h3⟩:=h
  unfold putAt
  by_cases e:p.1=k
  ·rw [if_pos e,if_pos (h1.symm.trans e)]; exact ⟨h1,h2,ry⟩
  ·rw [if_neg e,if_neg (fun z=>e (h1.trans z))]; exact ⟨h1,h2,h3⟩
theorem KT.put {H:Hp} {kvs:List (List Key×V)} {xs:List (List Key×Addr×Value)} (r:KT H kvs xs) (k:List Key) {b:Addr} {y:V} {u:Value} (hb:H b=some (.tup (k.map kV))) (ry:aB0 y u) :
  KT H (aD7 kvs k y) (storedH xs k b u):=by
 have e:(kvs.any fun kv=>decide (kv.1=k))=(atKey xs k).isSome:=by
  rw [aGv,(r.val k).isSome_eq,Option.isSome_map]
 unfold aD7 storedH
 rw [e]
 by_cases q:(atKey xs k).isSome=true
 ·rw [if_pos q,if_pos q]; exact r.repl k ry
 ·rw [if_neg q,if_neg q]; exact Paired.snoc r ⟨rfl,hb,ry⟩
theorem KT.keeps {H H':Hp} {kvs:List (List Key×V)} {xs:List (List Key×Addr×Value)} (r:KT H kvs xs) (ht:∀ b ys,H b=some (.tup ys)->H' b=some (.tup ys)):KT H' kvs xs :=
 Paired.mapP r fun _ _ z=>⟨z.1,ht _ _ z.2.1,z.2.2⟩
section
variable {P:Program} {w:World} {H:Hp} {h:Heap} {a:Addr}
theorem aY9 {u:HO} (ok:HOk P w H h) (e:Rd H a u):aB3 P w H h a u:=e.ok ok
theorem aM6 {kvs:List (Key×V)} (ok:HOk P w H h) (e:Rd H a (.dK kvs)):kvs.length<=sizeLine/\(a==sysModules)=false/\∃ vs,KV kvs vs/\h.DictOf (aBu P w) a vs :=
 show aB3 P w H h a (.dK kvs) from aY9 ok e
theorem dk_of {kvs:List (Key×V)} (ok:HOk P w H h) (e:H a=some (.dK kvs)):kvs.length<=sizeLine/\(a==sysModules)=false/\∃ vs,KV kvs vs/\h.DictOf (aBu P w) a vs:=aM6 ok (.inl e)
theorem aIz {ks:List Key} (ok:HOk P w H h) (e:H a=some (.tup (ks.map kV))):(tupleKind (aBu P w)).is h ks a:=by
 obtain ⟨_,its,r,o,h1,h2,n,h3⟩:=(show aB3 P w H h a (.tup (ks.map kV)) from ok a _ e)
 exact ⟨o,its.toArray,n,h1,h2,h3,by simpa using aLk r⟩
theorem aM5 {kvs:List (List Key×V)} (ok:HOk P w H h) (e:Rd H a (.dT kvs)):kvs.length<=sizeLine/\(a==sysModules)=false /\
  ∃ xs,KT H kvs xs/\h.DictOfH (tupleKind (aBu P w)) a xs:=by
 obtain ⟨z,y,xs,r,o,es,ep,h1,h2,h3,h4,h5⟩:=(show aB3 P w H h a (.dT kvs) from aY9 ok e)
 refine ⟨z,y,xs,r,o,es,ep,h1,h2,h3,h4,fun x hx=>?_,h5⟩
 have all:∀ {l:List (List Key×V)} {m:List (List Key×Addr×Value)},KT H l m->∀ x∈m,(tupleKind (aBu P w)).is h x.1 x.2.1:=by
  intro l m q
  induction q with
  | nil=>intro x hx; exact nomatch hx
  | @cons p q ps qs hq t ih =>
   intro x hx
   rcases List.mem_cons.mp hx with e | hx
   ·subst e
    exact aIz ok (by rw [← hq.1]; exact hq.2.1)
   ·exact ih x hx
 exact all r x hx
theorem dt_of {kvs:List (List Key×V)} (ok:HOk P w H h) (e:H a=some (.dT kvs)):kvs.length<=sizeLine/\(a==sysModules)=false /\
  ∃ xs,KT H kvs xs/\h.DictOfH (tupleKind (aBu P w)) a xs:=aM5 ok (.inl e)
end
noncomputable def aPk (H:Hp) (a:Addr) (y:V) (r:Option V):Prop :=
 (∃ kvs k,Rd H a (.dK kvs)/\y=kV k/\r=aD2 kvs k)∨∃ kvs k b,Rd H a (.dT kvs)/\y=.ref b/\H b=some (.tup (k.map kV))/\r=aD2 kvs k
noncomputable def aYi (H:Hp) (a:Addr) (y v:V) (H':Hp):Prop :=
 (∃ kvs k,H a=some (.dK kvs)/\y=kV k/\kvs.length < sizeLine/\H'=upd H a (.dK (aD7 kvs k v))) ∨
 ∃ kvs k b,H a=some (.dT kvs)/\y=.ref b/\H b=some (.tup (k.map kV))/\kvs.length < sizeLine/\H'=upd H a (.dT (aD7 kvs k v))
theorem aYi.k {H:Hp} {a:Addr} {kvs:List (Key×V)} {k:Key} {v:V} (e:H a=some (.dK kvs)) (hl:kvs.length < sizeLine):aYi H a (kV k) v (upd H a (.dK (aD7 kvs k v))):=.inl ⟨kvs,k,e,rfl,hl,rfl⟩
section
variable {X:Cx} {pins:List (Addr×Obj)} {σ:St} {H:Hp} {s:Shared} {a:Addr} {y v:V} {u r:Value} {o:Option V} {A:Around} {E:Value -> Shared -> Prop}
theorem Inv.big (I:Inv X pins σ H s):sysModules < s.heap.objs.size:=by
 have h:mainGlobals < s.heap.objs.size:=(I.mod.glob.keeps I.bk).lt
 exact Nat.lt_trans (by decide) h
theorem aSj {Q:Value->Shared->Prop} (hu:A.units+1 < cLine) (I:Inv X pins σ H s) (g:aPk H a y (some v)) (ry:aB0 y u) (h:∀ w' s',Inv X pins σ H s'->aB0 v w'->Q w' s') :
  wpAny (model X.prog X.w) A (getItem (.ref a) u) Q E s:=by
 rcases g with ⟨kvs,k,e,ey,l⟩ | ⟨kvs,k,b,e,ey,eb,l⟩
 ·subst ey
  obtain ⟨z,hd,vs,rel,dd⟩:=aM6 I.hok e
  obtain ⟨w',hw,rw'⟩:=aPi.some_of (v:=v) (o:=valueAt vs k) (by rw [l]; exact rel.val k)
  exact wpAny_getItem_of (aLh ry) dd.mapOf hw (h w' _ (I.tok _) rw')
 ·subst ey
  cases (show u=Value.ref b from ry)
  obtain ⟨z,hd,xs,rel,dd⟩:=aM5 I.hok e
  obtain ⟨w',hw,rw'⟩:=aPi.some_of (v:=v) (o:=(atKey xs k).map (·.2)) (by rw [l]; exact rel.val k)
  obtain ⟨p,hp,hp2⟩:=Option.map_eq_some_iff.mp hw
  refine wpAny_getItem_heap (tupleKind_room_in1 hu) (aIz I.hok eb) dd hp ?_
  rw [hp2]
  exact h w' _ (I.tok _) rw'
theorem d_in {Q:Value->Shared->Prop} (hu:A.units+1 < cLine) (I:Inv X pins σ H s) (g:aPk H a y o) (ry:aB0 y u) (h:∀ s',Inv X pins σ H s'->Q (.bool o.isSome) s') :
  wpAny (model X.prog X.w) A (compareOp .In u (.ref a)) Q E s:=by
 rcases g with ⟨kvs,k,e,ey,l⟩ | ⟨kvs,k,b,e,ey,eb,l⟩
 ·subst ey
  obtain ⟨z,hd,vs,rel,dd⟩:=aM6 I.hok e
  refine wpAny_in_of (aLh ry) hd dd.mapOf ?_
  rw [← (rel.val k).isSome_eq,← l]
  exact h _ (I.tok _)
 ·subst ey
  cases (show u=Value.ref b from ry)
  obtain ⟨z,hd,xs,rel,dd⟩:=aM5 I.hok e
  refine wpAny_in_heap (tupleKind_room_in1 hu) (aIz I.hok eb) hd dd ?_
  have q:=(rel.val k).isSome_eq
  rw [Option.isSome_map] at q
  rw [← q,← l]
  exact h _ (I.tok _)
theorem aXw {Q:Value->Shared->Prop} (hu:A.units+1 < cLine) (I:Inv X pins σ H s) (g:aPk H a y o) (ry:aB0 y u) (h:∀ s',Inv X pins σ H s'->Q (.bool (!o.isSome)) s') :
  wpAny (model X.prog X.w) A (compareOp .NotIn u (.ref a)) Q E s:=by
 rcases g with ⟨kvs,k,e,ey,l⟩ | ⟨kvs,k,b,e,ey,eb,l⟩
 ·subst ey
  obtain ⟨z,hd,vs,rel,dd⟩:=aM6 I.hok e
  refine wpAny_notIn_of (aLh ry) hd dd.mapOf ?_
  rw [← (rel.val k).isSome_eq,← l]
  exact h _ (I.tok _)
 ·subst ey
  cases (show u=Value.ref b from ry)
  obtain ⟨z,hd,xs,rel,dd⟩:=aM5 I.hok e
  refine wpAny_notIn_heap (tupleKind_room_in1 hu) (aIz I.hok eb) hd dd ?_
  have q:=(rel.val k).isSome_eq
  rw [Option.isSome_map] at q
  rw [← q,← l]
  exact h _ (I.tok _)
theorem aSh {h':Heap} {t':Nat} {ob:HO} (I:Inv X pins σ H s) (mu:Mut (H a)) (hs:Heap.SameBut a s.heap h') (he:∃ q,h'.get? a=some q) (new:aB3 X.prog X.w (upd H a ob) h' a ob) :
  Inv X pins σ (upd H a ob) { s with heap:=h',toks:=t' } :=
 I.write (x:=a) (e:=a) mu (.inl rfl) (fun b q hb z=>(hs.2 b hb).trans z) he new
theorem aVj {P:Program} {w:World} {H':Hp} {h':Heap} {kvs:List (Key×V)} {vs:List (Key×Value)} (z:kvs.length<=sizeLine) (hd:(a==sysModules)=false) (rel:KV kvs vs) (dd:h'.DictOf (aBu P w) a vs) :
  aB3 P w H' h' a (.dK kvs):=⟨z,hd,vs,rel,dd⟩
theorem aSi {H':Hp} {Q:Unit->Shared->Prop} (hu:A.units+1 < cLine) (I:Inv X pins σ H s) (g:aYi H a y v H') (ry:aB0 y u) (rv:aB0 v r) (h:∀ s',Inv X pins σ H' s'->Q () s') :
  wpAny (model X.prog X.w) A (setItem (.ref a) u r) Q E s:=by
 rcases g with ⟨kvs,k,e,ey,l,eH⟩ | ⟨kvs,k,b,e,ey,eb,l,eH⟩
 ·subst ey eH
  obtain ⟨z,hd,vs,rel,dd⟩:=dk_of I.hok e
  have hz:vs.length<=sizeLine:=by rw [← rel.length]; exact z
  have hl:(aD7 kvs k v).length<=sizeLine:=by have:=aE5 kvs k v; omega
  refine wpAny_setItem_pairs (hsz:=hz) (aLh ry) dd fun h' dd' hs=>h _ ?_
  have he:∃ q,h'.get? a=some q:=let ⟨q,_,_,hq,_⟩:=dd'; ⟨q,hq⟩
  exact aSh I (by rw [e]; exact True.intro) hs he (aVj hl hd (rel.put k rv) dd')
 ·subst ey eH
  cases (show u=Value.ref b from ry)
  obtain ⟨z,hd,xs,rel,dd⟩:=dt_of I.hok e
  have hz:xs.length<=sizeLine:=by rw [← Paired.length rel]; exact z
  have hl:(aD7 kvs k v).length<=sizeLine:=by have:=aE5 kvs k v; omega
  refine wpAny_setItem_heap (hsz:=hz) (tupleKind_room_in1 hu) (aIz I.hok eb) dd fun h' dd' hs=>h _ ?_
  obtain ⟨q,es,ep,hq,h2,h3,h4,_,h5⟩:=dd'
  refine aSh I (by rw [e]; exact True.intro) hs ⟨q,hq⟩ ⟨hl,hd,_,(rel.put k eb rv).keeps fun c ys ec=>?_,q,es,ep,hq,h2,h3,h4,h5⟩
  rw [aA1 (aW5 ec e (fun z=>nomatch z))]
  exact ec
end
section
variable {X:Cx} {pins:List (Addr×Obj)} {σ:St} {H:Hp} {s:Shared} {a:Addr} {kvs:List (Key×V)} {k:Key} {u:Value} {A:Around} {E:Value -> Shared -> Prop}
end
noncomputable def NoSl (i:Expr):Prop:=∀ ov iv,subscripted i false ov iv=operate [ov,iv] (getItem ov iv)
theorem aVy {prog:Program} {w:World} {A:Around} {E:Value->Shared->Prop} {s:Shared} {env:Env} {value slice:Expr} {pos:Pos} {T id:String} {Q:Value->Shared->Prop}
  (hl:typeLookup (.type T) "__getitem__"=pure (some (.builtin id))) (hs:NoSl slice)
  (h:wpAny (model prog w) A (eval value env) (fun o s₁=>wpAny (model prog w) A (eval slice env) (fun i s₂=>s₂.TypeIs o T/\wpAny (model prog w) A (getItem o i) Q E s₂) E s₁) E s) :
  wpAny (model prog w) A (eval (.Subscript value slice pos) env) Q E s:=by
 refine Subscript_ (wpAny_mono h (fun o s₁ h₁=>wpAny_mono h₁ (fun i s₂ h₂=>?_) fun _ _ x=>x) fun _ _ x=>x)
 obtain ⟨hT,h₂⟩:=h₂
 unfold subscriptTail
 refine wpAny_bind ?_
 rw [getitemInPython_of_ne hT.not_modules]
 refine wpAny_bind (wpAny_specialOf hT hl ?_)
 have fin:wpAny (model prog w) A (subscripted slice false o i) (fun r s₃=>wpAny (model prog w) A (letTemporaryGo value o r >>= fun _=>pure r) Q E s₃) E s₂:=by
  rw [hs o i]
  exact wpAny_operating (wpAny_mono h₂ (fun r s₃ h₃=>wpAny_bind (wpAny_letTemporaryGo (wpAny_pure h₃))) fun _ _ x=>x)
 first
  | exact wpAny_pure (wpAny_bind fin)
  | exact wpAny_bind (wpAny_pure (wpAny_bind fin))
  | exact wpAny_bind fin
theorem aM7 {X:Cx} {pins:List (Addr×Obj)} {σ:St} {H:Hp} {s:Shared} {a:Addr} {y:V} {o:Option V} (I:Inv X pins σ H s) (g:aPk H a y o):s.TypeIs (.ref a) "dict":=by
 rcases g with ⟨kvs,k,e,_,_⟩ | ⟨kvs,k,b,e,_,_,_⟩
 ·obtain ⟨_,_,vs,_,dd⟩:=aM6 I.hok e
  exact dd.typeIs
 ·obtain ⟨_,_,xs,_,dd⟩:=aM5 I.hok e
  exact dd.typeIs
noncomputable def aYu (td ty:TE):TE:=fun σ H Q=>td σ H fun x H1=>ty σ H1 fun y H2=>∃ a v,x=.ref a/\aPk H2 a y (some v)/\Q v H2
noncomputable def tDIn (ty td:TE):TE:=fun σ H Q=>ty σ H fun y H1=>td σ H1 fun x H2=>∃ a o,x=.ref a/\aPk H2 a y o/\Q (.bl o.isSome) H2
noncomputable def aPy (ty td:TE):TE:=fun σ H Q=>ty σ H fun y H1=>td σ H1 fun x H2=>∃ a o,x=.ref a/\aPk H2 a y o/\Q (.bl (!o.isSome)) H2
noncomputable def aY3 (td ty tv:TE):TS:=fun D σ H=>tv σ H fun v H1=>td σ H1 fun x H2=>ty σ H2 fun y H3=>∃ a H4,x=.ref a/\aYi H3 a y v H4/\D.nx σ H4
section
variable {X:Cx} {o i e value:Expr} {pos pos' tpos:Pos} {td ty tv:TE}
theorem aJr (hu:X.A.units+1 < cLine) (ho:PE X o td) (hi:PE X i ty) (hs:NoSl i):PE X (.Subscript o i pos) (aYu td ty):=by
 intro pins s σ H Q I h
 refine aVy PySem.F.slot_dict_getitem.lookup hs (thn (ho pins s σ H _ I h) fun u s1 ⟨x,H1,I1,rx,q1⟩=>thn (hi pins s1 σ H1 _ I1 q1) fun iv s2 ⟨y,H2,I2,ry,a,v,ex,g,q2⟩=>?_)
 subst ex
 obtain rfl:u=Value.ref a:=rx
 exact ⟨aM7 I2 g,aSj hu I2 g ry fun w' s3 I3 rw'=>⟨v,H2,I3,rw',q2⟩⟩
theorem bAz (hu:X.A.units+1 < cLine) (hi:PE X i ty) (ho:PE X o td):PC X .In i o (tDIn ty td):=by
 intro pins s σ H Q I h
 refine thn (hi pins s σ H _ I h) fun iv s1 ⟨y,H1,I1,ry,q1⟩=>thn (ho pins s1 σ H1 _ I1 q1) fun u s2 ⟨x,H2,I2,rx,a,ov,ex,g,q2⟩=>?_
 subst ex
 obtain rfl:u=Value.ref a:=rx
 exact d_in hu I2 g ry fun s3 I3=>⟨.bl ov.isSome,H2,I3,rfl,q2⟩
theorem aQ1 (hu:X.A.units+1 < cLine) (hi:PE X i ty) (ho:PE X o td):PC X .NotIn i o (aPy ty td):=by
 intro pins s σ H Q I h
 refine thn (hi pins s σ H _ I h) fun iv s1 ⟨y,H1,I1,ry,q1⟩=>thn (ho pins s1 σ H1 _ I1 q1) fun u s2 ⟨x,H2,I2,rx,a,ov,ex,g,q2⟩=>?_
 subst ex
 obtain rfl:u=Value.ref a:=rx
 exact aXw hu I2 g ry fun s3 I3=>⟨.bl (!ov.isSome),H2,I3,rfl,q2⟩
theorem aJp (hu:X.A.units+1 < cLine) (ho:PE X o td) (hi:PE X i ty) (hv:PE X value tv) (hs:swapsWith value (some (.Subscript o i pos')) pos.line X.env=pure false) :
  PS X (.Assign [.Subscript o i pos'] value pos) (aY3 td ty tv):=by
 intro pins s σ H D I h
 refine wpAny_Assign_Subscript (thn (hv pins s σ H _ I h) fun r s1 ⟨v,H1,I1,rv,q1⟩=>thn (ho pins s1 σ H1 _ I1 q1) fun u s2 ⟨x,H2,I2,rx,q2⟩=>thn (hi pins s2 σ H2 _ I2 q2) fun iv s3 ⟨y,H3,I3,ry,a,H4,ex,g,q3⟩=>?_) hs
 subst ex
 obtain rfl:u=Value.ref a:=rx
 exact aSi hu I3 g ry rv fun s4 I4=>⟨σ,H4,I4,q3⟩
end
theorem aUh {P:Program} {w:World} {H:Hp} (h:Heap) (hb:sysModules < h.objs.size):aB3 P w H (h.push { cls:=.type "dict",data:=.dict #[] }) h.objs.size (.dK []) :=
 ⟨Nat.zero_le _,beq_eq_false_iff_ne.mpr (Ne.symm (Nat.ne_of_lt hb)),[],.nil,Heap.DictOf.new h⟩
noncomputable def aUw:TE:=fun _ H Q=>∀ p,H p=none->Q (.ref p) (upd H p (.dK []))
section
variable {X:Cx} {pos:Pos}
theorem aG1:PE X (.Dict [] [] pos) aUw:=fun pins s σ H Q I h =>
 wpAny_Dict_empty ⟨.ref s.heap.objs.size,_,I.laid (a:=s.heap.objs.size) (o:=.dK []) (t':=s.toks) (fun _ _ q=>Heap.get?_push_of_some _ q) (Nat.le_refl _) (aUh s.heap I.big),rfl,h _ (I.hok.fresh (Nat.le_refl _))⟩
end
noncomputable def aEy (kvs more:List (Key×V)):List (Key×V):=more.foldl (fun acc kv=>aD7 acc kv.1 kv.2) kvs
theorem aFr:∀ (more kvs:List (Key×V)),(aEy kvs more).length<=kvs.length+more.length
 | [],kvs=>by show kvs.length<=kvs.length+0; omega
 | p::r,kvs=>by
  have h1:=aFr r (aD7 kvs p.1 p.2)
  have h2:=aE5 kvs p.1 p.2
  show (aEy (aD7 kvs p.1 p.2) r).length<=_
  rw [List.length_cons]; omega
structure M2 (X:Cx) (o:Expr) (m:Str) (apos:Pos) (e f:Expr) (cpos:Pos):Prop where
 base:attributeBase o m X.env (eval o X.env)=eval o X.env
 few:((backTo cpos (starEach [e,f] X.env)).all (fun x=>!x.1)&&(backToKw cpos (keywordEach [] X.env)).all (fun x=>x.1.isSome)
  && decide (([e,f]:List Expr).length+([]:List Keyword).length+(if ([]:List Keyword).isEmpty then 0 else 1) < 30))=true
 line:(apos.endLine==cpos.line)=true
 trees:backTo cpos (starEach [e,f] X.env)=[(false,eval e X.env),(false,eval f X.env)]
noncomputable def IsD (H:Hp) (a:Addr):Prop:=(∃ kvs,Rd H a (.dK kvs))∨∃ kvs,Rd H a (.dT kvs)
theorem bBo {X:Cx} {pins:List (Addr×Obj)} {σ:St} {H:Hp} {s:Shared} {a:Addr} (I:Inv X pins σ H s) (d:IsD H a) :
  s.TypeIs (.ref a) "dict"/\(∀ b,Value.ref a=.ref b->∃ ob,s.heap.get? b=some ob/\ob.dict=none)/\(a==sysModules)=false:=by
 rcases d with ⟨kvs,e⟩ | ⟨kvs,e⟩
 ·obtain ⟨_,hd,vs,_,dd⟩:=aM6 I.hok e
  refine ⟨dd.typeIs,fun b q=>?_,hd⟩
  cases q
  obtain ⟨ob,_,_,h1,h2,_⟩:=dd
  exact ⟨ob,h1,h2.2.1⟩
 ·obtain ⟨_,hd,xs,_,dd⟩:=aM5 I.hok e
  refine ⟨dd.typeIs,fun b q=>?_,hd⟩
  cases q
  obtain ⟨ob,_,_,h1,h2,_⟩:=dd
  exact ⟨ob,h1,h2.2.1⟩
section
variable {X:Cx} {pins:List (Addr×Obj)} {σ:St} {H:Hp} {s:Shared} {a:Addr} {y d:V} {u r:Value} {o:Option V} {A:Around} {E:Value -> Shared -> Prop}
theorem bB6 {Q:Value->Shared->Prop} (hu:A.units+1 < cLine) (I:Inv X pins σ H s) (g:aPk H a y o) (ry:aB0 y u) (rd:aB0 d r) (h:∀ w' s',Inv X pins σ H s'->aB0 (o.getD d) w'->Q w' s') :
  wpAny (model X.prog X.w) A (call (.builtin "dict.get") [.ref a,u,r]) Q E s:=by
 rcases g with ⟨kvs,k,e,ey,l⟩ | ⟨kvs,k,b,e,ey,eb,l⟩
 ·subst ey
  obtain ⟨z,hd,vs,rel,dd⟩:=aM6 I.hok e
  refine call_meetsIn PySem.F.slot_dict_get dd.typeIs PySem.F.entry_dict_get (PySem.F.args_dict_get_3 _ _ _) (meets_dict_get_default (aBu X.prog X.w) a (aLh ry) hd r) ⟨_,dd.mapOf,h _ _ (I.tok _) ?_⟩
  rw [l]
  exact (rel.val k).getD rd
 ·subst ey
  cases (show u=Value.ref b from ry)
  obtain ⟨z,hd,xs,rel,dd⟩:=aM5 I.hok e
  refine call_meetsIn PySem.F.slot_dict_get dd.typeIs PySem.F.entry_dict_get (PySem.F.args_dict_get_3 _ _ _) (meetsH_dict_get_default (tupleKind (aBu X.prog X.w)) a b hd r) ⟨tupleKind_room_in1 hu,k,xs,aIz I.hok eb,dd,h _ _ (I.tok _) ?_⟩
  rw [l]
  exact (rel.val k).getD rd
end
noncomputable def aUx (td ty tx:TE):TE:=fun σ H Q=>td σ H fun x H1=>∃ a,x=.ref a/\IsD H1 a/\ty σ H1 fun y H2=>tx σ H2 fun z H3=>∃ o,aPk H3 a y o/\Q (o.getD z) H3
section
variable {X:Cx} {o e f:Expr} {apos cpos:Pos} {td ty tx:TE}
theorem aTw (hu:X.A.units+1 < cLine) (ho:PE X o td) (he:PE X e ty) (hf:PE X f tx) (m:M2 X o "get" apos e f cpos):PE X (.Call (.Attribute o "get" apos) [e,f] [] cpos) (aUx td ty tx):=by
 intro pins s σ H Q I h
 refine wpAny_Call_method m.base m.few m.line PySem.F.plainAttrs_dict PySem.F.slot_dict_get PySem.F.type_dict_get (thn (ho pins s σ H _ I h) fun u s1 ⟨x,H1,I1,rx,a,ex,d,q1⟩=>?_)
 subst ex
 obtain rfl:u=Value.ref a:=rx
 obtain ⟨t1,t2,_⟩:=bBo I1 d
 refine ⟨t1,t2,?_⟩
 rw [m.trees]
 refine Calls.callWith_builtin rfl (Calls.evalArgs_plain (Calls.spliced_cons (thn (he pins s1 σ H1 _ I1 q1) fun iv s2 ⟨y,H2,I2,ry,q2⟩ =>
  Calls.spliced_cons (thn (hf pins s2 σ H2 _ I2 q2) fun fv s3 ⟨z,H3,I3,rz,ov,g,q3⟩=>Calls.spliced_nil ?_))))
 exact bB6 hu I3 g ry rz fun w' s4 I4 rw'=>⟨_,H3,I4,rw',q3⟩
end
section
variable {X:Cx} {pins:List (Addr×Obj)} {σ:St} {H:Hp} {s:Shared} {a:Addr} {kvs:List (Key×V)} {A:Around} {E:Value -> Shared -> Prop}
end
section
variable {X:Cx} {pins:List (Addr×Obj)} {σ:St} {H:Hp} {s:Shared} {a:Addr} {y:V} {u:Value} {A:Around} {E:Value -> Shared -> Prop}
end
end L2
namespace L2
open PySem PySem.Spec PyProof.Rows
section
variable {κ:Type} [DecidableEq κ]
end
end L2
namespace L2
open PySem PySem.Spec PyProof.Rows
noncomputable def Sm (n:Nat) (x:Int):Prop:=x.natAbs < 2 ^ n
theorem Sm.mono {m n:Nat} {x:Int} (h:Sm m x) (l:m<=n):Sm n x:=Nat.lt_of_lt_of_le h (Nat.pow_le_pow_right (by decide) l)
theorem Sm.bits {n:Nat} {x:Int} (h:Sm n x):Builtin.Int.intBits x<=n:=by
  unfold Builtin.Int.intBits
  split
  . exact Nat.zero_le _
  . have hn:x.natAbs < 2 ^ n:=h
    rename_i hx
    have h0 : x.natAbs ≠ 0 := fun e => hx (by have : x = 0 := by omega
                                              rw [this]; rfl)
    have:x.natAbs.log2 < n:=(Nat.log2_lt h0).mpr hn
    omega
theorem Sm.mulOk {a b:Int} {m n:Nat} (ha:Sm m a) (hb:Sm n b) (h:m+n<=134217728):IntMulOk a b:=PyProof.Rows.mulOk_of_bits ha.bits hb.bits h
theorem Sm.log2 {n:Nat} {x:Int} (h:Sm n x):x.natAbs.log2 < n+1:=by
 have hn:x.natAbs < 2 ^ n:=h
 by_cases h0:x.natAbs=0
 ·rw [h0,Nat.log2_zero]; omega
 ·have:=(Nat.log2_lt h0).mpr hn
  omega
theorem Sm.of {n:Nat} {x:Int} (h1:-(2 ^ n:Nat) < x) (h2:x < (2 ^ n:Nat)):Sm n x:=by
 unfold Sm
 generalize 2 ^ n=k at *
 omega
theorem Sm.le {a b:Int} {n:Nat} (h:a.natAbs<=b.natAbs) (hb:Sm n b):Sm n a:=Nat.lt_of_le_of_lt h hb
section
variable {X:Cx}
noncomputable def aL0 (_ j:Int):Prop:=j≠0/\Sm 8000 j
theorem aBg:OpR X (binaryOp .FloorDiv) (rI aL0 fun i j=>.int (i.fdiv j)):=opI fun _ _ _ _ _ _ _ hc q=>floordiv_int hc.1 q (.inl (PyProof.noPylong_of_log2 (Nat.lt_trans hc.2.log2 (by decide))))
noncomputable def aEj (i j:Int):Prop:=CMul i j∨(Sm 60000000 i/\Sm 60000000 j)
theorem aEj.ok {i j:Int} (h:aEj i j):IntMulOk i j:=by
 rcases h with h | ⟨h1,h2⟩
 ·exact h.ok
 ·exact h1.mulOk h2 (by decide)
theorem aEj.l {i j:Int} (h1:-(2 ^ 64) < i) (h2:i < 2 ^ 64):aEj i j:=.inl (.inl ⟨h1,h2⟩)
theorem aEj.r {i j:Int} (h1:-(2 ^ 64) < j) (h2:j < 2 ^ 64):aEj i j:=.inl (.inr ⟨h1,h2⟩)
theorem aCx:OpR X (binaryOp .Mult) (rI aEj fun i j=>.int (i * j)):=opI fun _ _ _ _ _ _ _ hc q=>mul_int q hc.ok
noncomputable def bAi (K:PySem.W.Frag) (T:String):List V->Hp->VK->Prop:=fun xs H Q=>∃ x t b,xs=[x,.ty T]/\aG7 K H x t/\PySem.W.kitOne K t (.type T)=some b/\Q (.bl b) H
theorem aDl {T:String}:aDn X (.builtin "isinstance") (bAi X.K T):=by
 intro pins s σ H xs us Q I r h
 obtain ⟨x,t,b,rfl,ty,e,q⟩:=h
 obtain ⟨u,v,rfl,ru,rv⟩:=aB5.two r
 obtain rfl:v=Value.type T:=rv
 exact aRt I ru ty e fun tk=>⟨.bl b,H,I.tok tk,rfl,q⟩
end
section
variable {σ:St} {H H':Hp} {Q:VK} {D:aFy} {t u:TS} {te ta tb:TE} {v w x:V} {i j:Int} {b c:Bool} {X:Cx} {K:PySem.W.Frag}
theorem r_var {n:Nat} (h:σ[n]?=some (some v)) (k:Q v H):tVar n σ H Q:=⟨v,h,k⟩
theorem r_c (k:Q v H):tC v σ H Q:=k
theorem aZf (k:t ⟨u D,D.rt,D.bk,D.ct⟩ σ H):tSeq t u D σ H:=k
theorem r_nx {n r b' c'} (k:n σ H):aFy.nx ⟨n,r,b',c'⟩ σ H:=k
theorem r_rt {n r b' c'} (k:r v H):aFy.rt ⟨n,r,b',c'⟩ v H:=k
theorem aZn (k:D.nx σ H):aYp D σ H:=k
theorem r_asg {g:TG} (k:te σ H fun x H1=>g x σ H1 D.nx):tAsg te g D σ H:=k
theorem aWe {n:Nat} {R:St->Hp->Prop} (k:R (σ.set n (some v)) H):aGo n v σ H R:=k
theorem r_op {r:R2} (k:ta σ H fun x H1=>tb σ H1 fun y H2=>r x y H2 Q):tOp r ta tb σ H Q:=k
theorem r_un {r} (k:ta σ H fun x H1=>r x H1 Q):tUn r ta σ H Q:=k
theorem r_I0 {g} (k:Q (g i j) H):rI0 g (.int i) (.int j) H Q:=⟨i,j,rfl,rfl,k⟩
theorem r_I {C g} (c:C i j) (k:Q (g i j) H):rI C g (.int i) (.int j) H Q:=⟨i,j,rfl,rfl,c,k⟩
theorem r_U {g} (k:Q (g i) H):rU g (.int i) H Q:=⟨i,rfl,k⟩
noncomputable def bK (R:Bool->Hp->Prop):VK:=fun x H=>∃ k,x=.bl k/\R k H
theorem r_bK {R:Bool->Hp->Prop} (k:R b H):bK R (.bl b) H:=⟨b,rfl,k⟩
theorem aZc {R:Bool->Hp->Prop} (k:te σ H (bK R)):aVw te σ H R:=k
theorem r_tB {R:Bool->Hp->Prop} (k:te σ H (bK R)):tB te σ H R:=k
theorem r_ifS {tc:TT} (k:tc σ H fun b H1=>if b=true then t D σ H1 else u D σ H1):tIfS tc t u D σ H:=k
theorem r_if {tc:TT} (k:tc σ H fun b H1=>if b=true then ta σ H1 Q else tb σ H1 Q):tIf tc ta tb σ H Q:=k
theorem r_and {ca cb:TT} {R:Bool->Hp->Prop} (k:ca σ H fun c H1=>if c=true then cb σ H1 R else R false H1):tAnd ca cb σ H R:=k
theorem r_or {ca cb:TT} {R:Bool->Hp->Prop} (k:ca σ H fun c H1=>if c=true then R true H1 else cb σ H1 R):tOr ca cb σ H R:=k
theorem r_not {ca:TT} {R:Bool->Hp->Prop} (k:ca σ H fun c H1=>R (!c) H1):tNot ca σ H R:=k
noncomputable def andK (tb:TE) (σ:St) (Q:VK):VK:=fun x H1=>∃ c,x=.bl c/\if c=true then tb σ H1 Q else Q (.bl false) H1
noncomputable def notK (Q:VK):VK:=fun x H1=>∃ c,x=.bl c/\Q (.bl (!c)) H1
theorem bAc (k:ta σ H (andK tb σ Q)):aYw ta tb σ H Q:=k
theorem aZk (k:ta σ H (notK Q)):aYo ta σ H Q:=k
theorem bAd (k:if c=true then tb σ H Q else Q (.bl false) H):andK tb σ Q (.bl c) H:=⟨c,rfl,k⟩
theorem aZl (k:Q (.bl (!c)) H):notK Q (.bl c) H:=⟨c,rfl,k⟩
theorem r_ret (k:te σ H D.rt):tRet te D σ H:=k
theorem aZz (k:te σ H fun _ H1=>D.nx σ H1):aYt te D σ H:=k
theorem r_nil {R:List V->Hp->Prop} (k:R [] H):tNil σ H R:=k
theorem aZ3 {tr:TA} {R:List V->Hp->Prop} (k:ta σ H fun x H1=>tr σ H1 fun xs H2=>R (x::xs) H2):aYv ta tr σ H R:=k
noncomputable def tupK (Q:VK):List V->Hp->Prop:=fun xs H1=>xs.length<=sizeLine/\∀ p,H1 p=none->Q (.ref p) (upd H1 p (.tup xs))
noncomputable def lstK (Q:VK):List V->Hp->Prop:=fun xs H1=>xs.length<=sizeLine/\∀ p,H1 p=none->Q (.ref p) (upd H1 p (.lst xs))
theorem aHu {n:Nat} (h:n<=1000):n<=sizeLine:=Nat.le_of_lt (aCj h)
theorem r_tup {tr:TA} (k:tr σ H (tupK Q)):tTup tr σ H Q:=k
theorem r_lst {tr:TA} (k:tr σ H (lstK Q)):tLst tr σ H Q:=k
theorem aBi {xs:List V} (k:∀ p,H p=none->Q (.ref p) (upd H p (.tup xs))) (h:xs.length<=1000:=by exact Nat.le_of_ble_eq_true rfl):tupK Q xs H:=⟨aHu h,k⟩
theorem aBo {xs:List V} (k:∀ p,H p=none->Q (.ref p) (upd H p (.lst xs))) (h:xs.length<=1000:=by exact Nat.le_of_ble_eq_true rfl):lstK Q xs H:=⟨aHu h,k⟩
theorem aZ9 {sp:Sp} {E:XK} {tr:TA} (k:tr σ H fun vs H1=>sp vs H1 Q E):aTa sp [] E tr σ H Q:=by
 show tr σ H fun vs H1=>sp (vs++[]) H1 Q E
 have e:(fun (vs:List V) H1=>sp (vs++[]) H1 Q E)=fun vs H1=>sp vs H1 Q E:=by
  funext vs H1
  rw [List.append_nil]
 rw [e]; exact k
theorem r_CB {r} {tr:TA} (k:tr σ H fun vs H1=>r vs H1 Q):tCB r tr σ H Q:=k
theorem r_par {n m:Nat} {ta:TA} (k:ta σ H fun vs H1=>∃ v w,vs=[v,w]/\D.nx ((σ.set n (some v)).set m (some w)) H1):tPar n m ta D σ H:=k
theorem r_eqI (k:Q (.bl (decide (i=j))) H):rEq (.int i) (.int j) H Q:=⟨rfl,by rw [aKc,Bool.beq_eq_decide_eq]; exact k⟩
theorem r_neI (k:Q (.bl (!decide (i=j))) H):rNe (.int i) (.int j) H Q:=⟨rfl,by rw [aKc,Bool.beq_eq_decide_eq]; exact k⟩
theorem r_eqB (k:Q (.bl (b==c)) H):rEq (.bl b) (.bl c) H Q:=⟨rfl,by rw [aSg]; exact k⟩
theorem aZq {p:Addr} {xs:List V} (h:SqL K H p xs) (e:atI xs i=some v) (k:Q v H):rIxL K (.ref p) (.int i) H Q:=⟨p,xs,i,v,rfl,rfl,h,e,k⟩
theorem r_ixT {p:Addr} {xs:List V} (h:SqT K H p xs) (e:atI xs i=some v) (k:Q v H):rIxT K (.ref p) (.int i) H Q:=⟨p,xs,i,v,rfl,rfl,h,e,k⟩
noncomputable def aOw (K:PySem.W.Frag):R2:=fun x y H Q=>rIxL K x y H Q∨rIxT K x y H Q∨rIxS x y H Q
theorem aAk:IxR X (aOw X.K):=bBn
theorem aC3 {p:Addr} {xs:List V} (h:H p=some (.lst xs)) (e:atI xs i=some v) (k:Q v H):aOw K (.ref p) (.int i) H Q:=.inl (aZq (SqL.of h) e k)
theorem aOu {p:Addr} {xs:List V} (h:H p=some (.tup xs)) (e:atI xs i=some v) (k:Q v H):aOw K (.ref p) (.int i) H Q:=.inr (.inl (r_ixT (SqT.of h) e k))
theorem i_T {A B:Prop} (h:A):if true=true then A else B:=iteT h
theorem i_F {A B:Prop} (h:B):if false=true then A else B:=iteF h
theorem i_dT {p A B:Prop} [Decidable p] (hp:p) (h:A):if decide p=true then A else B:=by rw [decide_eq_true hp]; exact iteT h
theorem i_dF {p A B:Prop} [Decidable p] (hp:¬ p) (h:B):if decide p=true then A else B:=by rw [decide_eq_false hp]; exact iteF h
theorem i_d {p A B:Prop} [Decidable p] (h1:p->A) (h2:¬ p->B):if decide p=true then A else B:=by
 by_cases h:p
 ·exact i_dT h (h1 h)
 ·exact i_dF h (h2 h)
theorem bBp {A B:Prop} (h:if b=true then B else A):if (!b)=true then A else B:=by cases b <;> exact h
theorem i_bT {A B:Prop} (hb:b=true) (h:A):if b=true then A else B:=by rw [hb]; exact i_T h
theorem aYd {A B:Prop} (hb:b=false) (h:B):if b=true then A else B:=by rw [hb]; exact i_F h
end
noncomputable def Kp (p:Addr) (H H':Hp):Prop:=∀ b o,b≠p->H b=some o->H' b=some o
theorem Kp.refl (p:Addr) (H:Hp):Kp p H H:=fun _ _ _ h=>h
theorem Kp.trans {p:Addr} {H H1 H2:Hp} (a:Kp p H H1) (b:Kp p H1 H2):Kp p H H2:=fun c o n h=>b c o n (a c o n h)
theorem Kp.upd {p:Addr} {H:Hp} {o:HO}:Kp p H (upd H p o):=fun c u n h=>by rw [aA1 n]; exact h
theorem Kp.new {p q:Addr} {H:Hp} {o:HO} (hq:H q=none):Kp p H (L2.upd H q o):=fun c u n h=>by rw [aA1 (aAh h hq)]; exact h
theorem aAn.new {q:Addr} {H:Hp} {o:HO} (hq:H q=none):aAn H (upd H q o):=fun c u h=>by rw [aA1 (aAh h hq)]; exact h
theorem aAn.kp {p:Addr} {H H':Hp} (s:aAn H H'):Kp p H H':=fun c o _ h=>s c o h
theorem aAn.kpn {p:Addr} {H H2 H3:Hp} (h:H p=none) (a:aAn H H2) (k:Kp p H2 H3):aAn H H3:=fun c o e=>k c o (aAh e h) (a c o e)
noncomputable def Fr2 (H:Hp) (v:V) (a b:Int):Prop:=∃ q,v=.ref q/\H q=some (.tup [.int a,.int b])
noncomputable def St3 (H:Hp) (p:Addr) (n:Int):Prop:=∃ a b c:Int,H p=some (.lst [.int a,.int b,.int c])/\0<=a/\0<=b/\b<=n
structure Df (K:PySem.W.Frag) (mg:Str->Option Value) (x:Str) (st:Stmt) (ps:List Str):Prop where
 ex:∃ (f:Addr) (fd:FuncData),(∃ (oc:Value) (od:Option Addr) (dV kV doc pm:Value) (an:Option Addr) (cdv ct:Value) (osl:Array (Option Value)),
  fd=PySem.W.fnOf x x (aAp st) (aAm st) (aAf st) dV kV doc pm an cdv ct/\K.lookup f=some ⟨oc,od,.func fd,osl⟩/\PySem.W.codeIn K cdv x=true)/\PySem.W.keepIn K (.ref f)=true/\mg x=some (.ref f)/\aKi K fd ps []
structure Okf (P:Program) (w:World) (K:PySem.W.Frag) (mg:Str->Option Value) (base:Heap) (k:Nat) (x:Str) (ps:List Str) (sp:Sp):Prop where
 ex:∃ (f:Addr) (fd:FuncData),mg x=some (.ref f)/\PySem.W.keepIn K (.ref f)=true/\aKi K fd ps []/\aNb P w K mg base CX0 k f fd ps sp
theorem Okf.mono {P:Program} {w:World} {K:PySem.W.Frag} {mg:Str->Option Value} {base:Heap} {j k:Nat} {x:Str} {ps:List Str} {sp:Sp} (o:Okf P w K mg base j x ps sp) (h:j<=k):Okf P w K mg base k x ps sp :=
 let ⟨f,fd,a,b,c,d⟩:=o.ex; ⟨f,fd,a,b,c,d.mono h⟩
theorem Okf.of {P:Program} {w:World} {K:PySem.W.Frag} {mg:Str->Option Value} {base:Heap} {k:Nat} {x:Str} {st:Stmt} {N ps:List Str} {sp:Sp} (d:Df K mg x st ps) (S:aAv N ps (aAf st)) (len:∀ vs H Q E,sp vs H Q E->vs.length=ps.length)
  (hbody:∀ (f:Addr) (cdv:Value) (A:Around) (outer:List Env) (s:Shared) (H:Hp) (vs:List V) (Q:VK) (E:XK),aGr k (A.deeper (envOfC x (aAf st) s.heap.objs.size f cdv))->sp vs H Q E ->
   ∃ t,PSs (aPl CX0 P w K mg base N x (aAf st) f cdv A outer s H E).nox (aAm st) t/\t { nx:=fun _ H'=>Q .non H',rt:=Q } (aH4 N vs) H):Okf P w K mg base (k+1) x ps sp:=by
 obtain ⟨f,fd,⟨oc,od,dV,kV,doc,pm,an,cdv,ct,osl,rfl,lk,hcd⟩,kp,a,b⟩:=d.ex
 refine ⟨f,_,a,kp,b,aXl lk hcd S len fun A outer s H vs Q E hr hsp=>?_⟩
 obtain ⟨t,h,q⟩:=hbody f cdv A outer s H vs Q E hr hsp
 exact ⟨t,h.nox,q⟩
theorem aBk {K:PySem.W.Frag} {mg:Str->Option Value} {h:Heap} {x:Str} {st:Stmt} {ps:List Str} {f:Addr} {oc:Value} {od an:Option Addr} {osl:Array (Option Value)} {dV kV doc pm cdv ct:Value} (X:K.In h) (G:h.Ns mainGlobals mg)
  (a:PySem.W.nsIn K mainGlobals x=some (some (.ref f))) (l:K.lookup f=some ⟨oc,od,.func (PySem.W.fnOf x x (aAp st) (aAm st) (aAf st) dV kV doc pm an cdv ct),osl⟩)
  (c:PySem.W.codeIn K cdv x=true) (k:PySem.W.keepIn K (.ref f)=true)
  (b:∀ us:List Value,us.length=ps.length->bindArgs (PySem.W.fnOf x x (aAp st) (aAm st) (aAf st) dV kV doc pm an cdv ct) ⟨us,[]⟩=pure (ps.zip us)):Df K mg x st ps :=
 ⟨f,_,⟨oc,od,dV,kV,doc,pm,an,cdv,ct,osl,rfl,l,c⟩,k,PySem.W.mg_of X G a,.all b⟩
section
variable {X:Cx} {k:Nat} {x:Str} {ps:List Str} {dvs:List V} {sp:Sp} {p pos:Pos} {e:Expr} {es:List Expr} {t:TA}
end
section
variable {X:Cx} {k:Nat} {x:Str} {ps:List Str} {sp:Sp} {p pos:Pos} {e:Expr} {es:List Expr} {t:TA}
theorem aAi (o:Okf X.prog X.w X.K X.mg X.base k x ps sp) (hr:aGr k X.A) (hg:Gl X x) (ha:PA X (e::es) t) (hdb:(x==("__debug__":Str))=false:=by decide)
  (he:starEach (e::es) X.env=(false,eval e X.env)::starEach es X.env:=by rfl) (hpl:(backTo pos (starEach es X.env)).any (·.1)=false:=by rfl) :
  PE X (.Call (.Name x p) (e::es) [] pos) (aTa sp [] E0 t):=by
 obtain ⟨f,fd,a,b,c,d⟩:=o.ex
 exact aQz d hr hg a b c .nil pass0 ha hdb he hpl
end
section
variable {σ:St} {H:Hp} {Q:VK} {D:aFy} {v:V} {i j:Int} {K:PySem.W.Frag}
theorem r_ixs {p:Addr} {xs:List V} (h:SqL K H p xs) (e:atI xs i=some v) (k:Q v H):aOw K (.ref p) (.int i) H Q:=.inl (aZq h e k)
theorem r_mod (h:0 < j) (k:Q (.int (i % j)) H):rI (fun _ j=>0 < j) (fun i j=>.int (i % j)) (.int i) (.int j) H Q:=r_I h k
theorem aV8 (h:aEj i j) (k:Q (.int (i * j)) H):rI aEj (fun i j=>.int (i * j)) (.int i) (.int j) H Q:=r_I h k
theorem aL0.of (h0:0 < j) (h1:j < 2 ^ 64):aL0 i j:=⟨by omega,Sm.mono (m:=64) (Sm.of (by omega) (by omega)) (by decide)⟩
theorem aQm (h:aL0 i j) (k:Q (.int (i.fdiv j)) H):rI aL0 (fun i j=>.int (i.fdiv j)) (.int i) (.int j) H Q:=r_I h k
theorem aV6 (k:Q (.int 1000000000000000000) H):rI CPow (fun i j=>.int (i ^ j.toNat)) (.int 10) (.int 18) H Q:=r_I ⟨by decide,by decide,by decide⟩ k
theorem aZj {n m:Nat} {w:V} (k:D.nx ((σ.set n (some v)).set m (some w)) H):∃ v' w',[v,w]=[v',w']/\D.nx ((σ.set n (some v')).set m (some w')) H:=⟨v,w,rfl,k⟩
end
theorem aLq:bootBuiltins "int"=some (.type "int"):=by decide +kernel
theorem aX1:bootBuiltins "bool"=some (.type "bool"):=by decide +kernel
theorem aLp:bootBuiltins "str"=some (.type "str"):=by decide +kernel
theorem aSv:bootBuiltins "list"=some (.type "list"):=by decide +kernel
theorem aEw:bootBuiltins "tuple"=some (.type "tuple"):=by decide +kernel
theorem aX0:bootBuiltins "dict"=some (.type "dict"):=by decide +kernel
theorem bCc:bootBuiltins "set"=some (.type "set"):=by decide +kernel
theorem aLr:bootBuiltins "enumerate"=some (.type "enumerate"):=by decide +kernel
theorem bCb:bootBuiltins "zip"=some (.type "zip"):=by decide +kernel
theorem aB4:bootBuiltins "len"=some (.builtin "len"):=by decide +kernel
theorem aVn:bootBuiltins "abs"=some (.builtin "abs"):=by decide +kernel
theorem bCd:bootBuiltins "max"=some (.builtin "max"):=by decide +kernel
theorem aA5:bootBuiltins "isinstance"=some (.builtin "isinstance"):=by decide +kernel
theorem aI1:bootBuiltins "all"=some (.builtin "all"):=by decide +kernel
theorem aVm:bootBuiltins "sum"=some (.builtin "sum"):=by decide +kernel
structure Bl (mg:Str->Option Value):Prop where
 z_int:mg "int"=none
 z_bool:mg "bool"=none
 z_str:mg "str"=none
 z_list:mg "list"=none
 z_tuple:mg "tuple"=none
 z_dict:mg "dict"=none
 z_set:mg "set"=none
 z_range:mg "range"=none
 z_enumerate:mg "enumerate"=none
 z_zip:mg "zip"=none
 z_reversed:mg "reversed"=none
 z_len:mg "len"=none
 z_abs:mg "abs"=none
 z_max:mg "max"=none
 z_min:mg "min"=none
 z_isinstance:mg "isinstance"=none
 z_sorted:mg "sorted"=none
 z_all:mg "all"=none
 z_any:mg "any"=none
 z_sum:mg "sum"=none
section
variable {K:PySem.W.Frag} {H:Hp} {Q:VK}
theorem aJ5:PySem.W.kitOne K (.type "bool") (.type "bool")=some true:=by first | rfl | with_unfolding_all rfl | decide
theorem aLg:PySem.W.kitOne K (.type "bool") (.type "int")=some true:=by first | rfl | with_unfolding_all rfl | decide
theorem aLf:PySem.W.kitOne K (.type "int") (.type "bool")=some false:=by first | rfl | with_unfolding_all rfl | decide
theorem aM0:PySem.W.kitOne K (.type "int") (.type "int")=some true:=by first | rfl | with_unfolding_all rfl | decide
theorem aLe:PySem.W.kitOne K (.type "str") (.type "bool")=some false:=by first | rfl | with_unfolding_all rfl | decide
theorem aMz:PySem.W.kitOne K (.type "str") (.type "int")=some false:=by first | rfl | with_unfolding_all rfl | decide
theorem aHw:PySem.W.kitOne K (.type "str") (.type "str")=some true:=by first | rfl | with_unfolding_all rfl | decide
theorem aA7:PySem.W.kitOne K (.type "tuple") (.type "tuple")=some true:=by first | rfl | with_unfolding_all rfl | decide
theorem aFs:PySem.W.kitOne K (.type "list") (.type "list")=some true:=by first | rfl | with_unfolding_all rfl | decide
theorem aF8:PySem.W.kitOne K (.type "NoneType") (.type "bool")=some false:=by first | rfl | with_unfolding_all rfl | decide
theorem aGn:PySem.W.kitOne K (.type "NoneType") (.type "int")=some false:=by first | rfl | with_unfolding_all rfl | decide
theorem aCp {T:String} {x:V} {t:Value} {b:Bool} (ty:aG7 K H x t) (e:PySem.W.kitOne K t (.type T)=some b) (k:Q (.bl b) H):bAi K T [x,.ty T] H Q:=⟨x,t,b,rfl,ty,e,k⟩
end
section
variable {X:Cx} {K:PySem.W.Frag} {σ:St} {H:Hp} {Q:VK} {D:aFy} {i j:Int} {b:Bool}
noncomputable def rAbs:List V->Hp->VK->Prop:=fun xs H Q=>∃ i,xs=[.int i]/\Q (.int (if i < 0 then -i else i)) H
theorem bCa:aDn X (.builtin "abs") rAbs:=aUm
theorem r_abs (k:Q (.int (if i < 0 then -i else i)) H):rAbs [.int i] H Q:=⟨i,rfl,k⟩
noncomputable def bAg:List V->Hp->VK->Prop:=fun xs H Q=>∃ i j,xs=[.int i,.int j]/\Q (.int (if j > i then j else i)) H
theorem c_max (hc:X.calm=true):aDn X (.builtin "max") bAg:=aSr hc
theorem r_max (k:Q (.int (if j > i then j else i)) H):bAg [.int i,.int j] H Q:=⟨i,j,rfl,k⟩
noncomputable def aYc (K:PySem.W.Frag):List V->Hp->VK->Prop:=fun xs H Q=>∃ x n,xs=[x]/\LenV K x H n/\Q (.int n) H
theorem aDr:aDn X (.builtin "len") (aYc X.K):=aUl
theorem aU6 {p:Addr} {xs:List V} (h:SqL K H p xs) (k:Q (.int xs.length) H):aYc K [.ref p] H Q:=⟨_,_,rfl,.inl ⟨xs,h,rfl⟩,k⟩
theorem aU5 {p:Addr} {xs:List V} (h:H p=some (.lst xs)) (k:Q (.int xs.length) H):aYc K [.ref p] H Q:=aU6 (SqL.of h) k
theorem aZp {p:Addr} {xs:List V} (h:H p=some (.tup xs)) (k:Q (.int xs.length) H):aYc K [.ref p] H Q:=⟨_,_,rfl,.inr ⟨xs,SqT.of h,rfl⟩,k⟩
theorem aU4 {x:Str} (h:x.length<=sizeLine) (k:Q (.int x.length) H):aYc K [.str x] H Q:=⟨_,_,rfl,⟨h,rfl⟩,k⟩
noncomputable def bAj:List V->Hp->VK->Prop:=fun xs H Q=>(∃ i,xs=[.int i]/\Q (.int i) H)∨∃ k,xs=[.bl k]/\Q (.int (if k then 1 else 0)) H
theorem c_int:aDn X (.type "int") bAj:=aSs
theorem aZt (k:Q (.int (if b then 1 else 0)) H):bAj [.bl b] H Q:=.inr ⟨b,rfl,k⟩
noncomputable def bBx (g:TG) (tb:TS) (D:aFy) (σ:St):It->Hp->Prop:=fun J H1=>∃ W:Nat->Nat->St->Hp->Prop,(∃ m,W 0 m σ H1)/\∀ i m σ H,W i m σ H ->
 (J.stop i H/\D.nx σ H)∨(J.go i H/\∃ N:St->Hp->Prop,(∀ σ' H',N σ' H'->∃ m',m' < m/\W (i+1) m' σ' H')/\∀ x H',J.yld i H x H'->g x σ H' fun σ2 H2=>tb { D with nx:=N,ct:=N,bk:=D.nx } σ2 H2)
theorem r_for {wi:TI} {g:TG} {tb:TS} (k:wi σ H (bBx g tb D σ)):tFor wi g tb D σ H:=k
noncomputable def aY7 (R:It->Hp->Prop):List V->Hp->Prop:=fun vs H1=>∃ j:Int,vs=[.int j]/\-(2 ^ 62)<=j/\j < 2 ^ 62/\R (Itr 0 j.toNat) H1
noncomputable def aY6 (R:It->Hp->Prop):List V->Hp->Prop:=fun vs H1=>∃ i j:Int,vs=[.int i,.int j]/\(-(2 ^ 62)<=i/\i < 2 ^ 62/\-(2 ^ 62)<=j/\j < 2 ^ 62)/\R (Itr i (j - i).toNat) H1
theorem aZh {ta:TA} {R:It->Hp->Prop} (k:ta σ H (aY7 R)):bBr ta σ H R:=k
theorem aZg {ta:TA} {R:It->Hp->Prop} (k:ta σ H (aY6 R)):bBq ta σ H R:=k
theorem aQj {R:It->Hp->Prop} (h1:-(2 ^ 62)<=j) (h2:j < 2 ^ 62) (k:R (Itr 0 j.toNat) H):aY7 R [.int j] H:=⟨j,rfl,h1,h2,k⟩
theorem aQi {R:It->Hp->Prop} (h1:-(2 ^ 62)<=i) (h2:i < 2 ^ 62) (h3:-(2 ^ 62)<=j) (h4:j < 2 ^ 62) (k:R (Itr i (j - i).toNat) H):aY6 R [.int i,.int j] H:=⟨i,j,rfl,⟨h1,h2,h3,h4⟩,k⟩
theorem aNw {lo:Int} {n:Nat} {g:TG} {tb:TS} (Pv:Nat->St->Hp->Prop) (h0:Pv 0 σ H)
  (hs:∀ i σ H,i < n->Pv i σ H->g (.int (lo+i)) σ H fun σ2 H2=>tb ⟨Pv (i+1),D.rt,D.nx,Pv (i+1)⟩ σ2 H2) (hd:∀ σ H,Pv n σ H->D.nx σ H):bBx g tb D σ (Itr lo n) H:=aR1 Pv h0 hs hd
noncomputable def bBe (K:PySem.W.Frag) (R:It->Hp->Prop):VK:=fun x H1=>∃ a,x=.ref a/\(∃ xs,SqL K H1 a xs)/\R (Itl K a) H1
theorem aWa {tl:TE} {R:It->Hp->Prop} (k:tl σ H (bBe K R)):bBs K tl σ H R:=k
theorem aCk {a:Addr} {xs:List V} {R:It->Hp->Prop} (h:SqL K H a xs) (k:R (Itl K a) H):bBe K R (.ref a) H:=⟨a,rfl,⟨xs,h⟩,k⟩
theorem aK2 {a:Addr} {xs:List V} {g:TG} {tb:TS} (Pv:Nat->St->Hp->Prop) (h0:Pv 0 σ H) (hl:∀ i σ H,i<=xs.length->Pv i σ H->SqL K H a xs)
  (hs:∀ i x σ H,xs[i]?=some x->Pv i σ H->g x σ H fun σ2 H2=>tb ⟨Pv (i+1),D.rt,D.nx,Pv (i+1)⟩ σ2 H2) (hd:∀ σ H,Pv xs.length σ H->D.nx σ H):bBx g tb D σ (Itl K a) H:=aUd Pv h0 hl hs hd
end
end L2
namespace L2
open PySem
noncomputable def sg (t b:Int):Int:=if b < 0 then 0 - (Int.gcd t b:Int) else (Int.gcd t b:Int)
noncomputable def aJ2 (t b:Int):Int:=t.fdiv (sg t b)
noncomputable def aIx (t b:Int):Int:=b.fdiv (sg t b)
theorem aM3 {t b:Int} (h:b≠0):0 < Int.gcd t b:=Nat.pos_of_ne_zero fun e=>h (Int.gcd_eq_zero_iff.mp e).2
theorem aQb {t b:Int} (h:b≠0):sg t b≠0:=by
 have:=aM3 (t:=t) h
 unfold sg
 split <;> omega
theorem aTe (t b:Int):sg t b ∣ t:=by
 unfold sg
 split
 ·exact (Int.zero_sub _ ▸ Int.neg_dvd.mpr (Int.gcd_dvd_left ..))
 ·exact Int.gcd_dvd_left ..
theorem aTd (t b:Int):sg t b ∣ b:=by
 unfold sg
 split
 ·exact (Int.zero_sub _ ▸ Int.neg_dvd.mpr (Int.gcd_dvd_right ..))
 ·exact Int.gcd_dvd_right ..
theorem aR8 {a g:Int} (hg:g≠0) (h:g ∣ a):a.fdiv g * g=a:=by
 obtain ⟨c,rfl⟩:=h
 rw [Int.mul_fdiv_cancel_left _ hg,Int.mul_comm]
theorem aJ1 {t b:Int} (h:b≠0):aJ2 t b * sg t b=t:=aR8 (aQb h) (aTe t b)
theorem aG3 {t b:Int} (h:b≠0):aIx t b * sg t b=b:=aR8 (aQb h) (aTd t b)
theorem aKy (t b:Int):(sg t b).natAbs=Int.gcd t b:=by
 unfold sg
 split <;> omega
theorem aN5 {t b:Int} (h:b≠0):0 < aIx t b:=by
 have e:=aG3 (t:=t) h
 have hp:=aM3 (t:=t) h
 by_cases hb:b < 0
 ·have hs:sg t b < 0:=by unfold sg; rw [if_pos hb]; omega
  rcases Int.lt_or_le 0 (aIx t b) with q | q
  ·exact q
  ·have:0<=aIx t b * sg t b:=Int.mul_nonneg_of_nonpos_of_nonpos q (Int.le_of_lt hs)
   omega
 ·have hs:0 < sg t b:=by unfold sg; rw [if_neg hb]; omega
  rcases Int.lt_or_le 0 (aIx t b) with q | q
  ·exact q
  ·have:aIx t b * sg t b<=0:=Int.mul_nonpos_of_nonpos_of_nonneg q (Int.le_of_lt hs)
   omega
theorem aXb {t b:Int} (h:b≠0):Int.gcd (aJ2 t b) (aIx t b)=1:=by
 have e1:=aJ1 (t:=t) h
 have e2:=aG3 (t:=t) h
 have hp:=aM3 (t:=t) h
 have e:Int.gcd (aJ2 t b * sg t b) (aIx t b * sg t b)=Int.gcd (aJ2 t b) (aIx t b) * (sg t b).natAbs:=Int.gcd_mul_right ..
 rw [e1,e2,aKy] at e
 have:1 * Int.gcd t b=Int.gcd (aJ2 t b) (aIx t b) * Int.gcd t b:=by omega
 exact (Nat.eq_of_mul_eq_mul_right hp this).symm
theorem aRn {t b:Int} (h:b≠0):t * aIx t b=b * aJ2 t b:=by
 have e1:=aJ1 (t:=t) h
 have e2:=aG3 (t:=t) h
 calc t * aIx t b=(aJ2 t b * sg t b) * aIx t b:=by rw [e1]
  _=(aIx t b * sg t b) * aJ2 t b:=by rw [Int.mul_assoc,Int.mul_comm (sg t b),← Int.mul_assoc,Int.mul_comm (aJ2 t b),Int.mul_assoc,Int.mul_comm (aJ2 t b),← Int.mul_assoc]
  _=b * aJ2 t b:=by rw [e2]
theorem aD8 {a g c:Int} (hg:g≠0) (e:a * g=c):a.natAbs<=c.natAbs:=by
 rw [← e,Int.natAbs_mul]
 exact Nat.le_mul_of_pos_right _ (by omega)
theorem aXc {t b:Int} (h:b≠0):(aJ2 t b).natAbs<=t.natAbs:=aD8 (aQb h) (aJ1 h)
theorem aXd {t b:Int} (h:b≠0):(aIx t b).natAbs<=b.natAbs:=aD8 (aQb h) (aG3 h)
theorem aUc {one other:Int} (h:0 < other):Int.gcd other (one % other)=Int.gcd one other:=by
 have e:one % other=one - (one / other) * other:=by rw [Int.emod_def,Int.mul_comm]
 rw [e,Int.gcd_comm other,Int.gcd_sub_mul_right_left]
theorem aRx {one other:Int} (h:other≠0):Int.gcd other (one.fmod other)=Int.gcd one other:=by
 have e:one.fmod other=one - (one.fdiv other) * other:=by rw [Int.fmod_def,Int.mul_comm]
 rw [e,Int.gcd_comm other,Int.gcd_sub_mul_right_left]
theorem pick {ns:List Int} {i:Int} (h0:0<=i) (h1:i < ns.length):∃ z,z∈ns/\atI (ns.map V.int) i=some (.int z):=by
 have hk:i.toNat < ns.length:=by omega
 have ek:i=((i.toNat:Nat):Int):=by omega
 have q:atI (ns.map V.int) ((i.toNat:Nat):Int)=some (.int ns[i.toNat]):=aBv (by rw [List.getElem?_map,List.getElem?_eq_getElem hk] <;> rfl)
 rw [← ek] at q
 exact ⟨ns[i.toNat],List.getElem_mem hk,q⟩
theorem aR9 {a b:Int} (ha:0<=a) (hb:0 < b):0<=a.fdiv b:=by
 rw [Int.fdiv_eq_ediv_of_nonneg _ (Int.le_of_lt hb)]
 exact Int.ediv_nonneg ha (Int.le_of_lt hb)
theorem aZo {i j:Int} {H:Hp} {Q:VK} (h:j≠0) (k:Q (.int (i.fmod j)) H):rI (fun _ j=>j≠0) (fun i j=>.int (i.fmod j)) (.int i) (.int j) H Q:=r_I h k
theorem aXm {a b:Int} (h:b≠0):(a.fmod b).natAbs < b.natAbs:=by
 have e:=Int.fmod_eq_emod (a:=a) (b:=b)
 have h1:=Int.emod_nonneg a h
 have h2:=Int.emod_lt a h
 rw [e]
 by_cases hc:0<=b∨b ∣ a
 ·rw [if_pos hc]
  omega
 ·rw [if_neg hc]
  have h3:a % b≠0:=fun z=>hc (.inr (Int.dvd_of_emod_eq_zero z))
  omega
noncomputable def frV:V->V->Bool
 | .int a,.int b=>decide (1<=b)&&decide (Int.gcd a b=1)
 | _,_=>false
theorem aLc {t b:Int} (h:b≠0):aJ2 t b * b=t * aIx t b:=by rw [aRn h,Int.mul_comm]
end L2
namespace L2
open PySem PySem.Spec PyProof.Rows
inductive Dt where
 | non | bl (b:Bool) | int (i:Int) | str (x:Str) | tup (xs:List Dt) | lst (xs:List Dt)
mutual
noncomputable def Den (H:Hp):Dt->V->Prop
 | .non,v=>v=.non
 | .bl b,v=>v=.bl b
 | .int i,v=>v=.int i
 | .str x,v=>v=.str x
 | .tup ds,v=>∃ p vs,v=.ref p/\H p=some (.tup vs)/\aKh H ds vs
 | .lst ds,v=>∃ p vs,v=.ref p/\H p=some (.lst vs)/\aKh H ds vs
noncomputable def aKh (H:Hp):List Dt->List V->Prop
 | [],vs=>vs=[]
 | d::ds,vs=>∃ v r,vs=v::r/\Den H d v/\aKh H ds r
end
mutual
noncomputable def deq:Dt->Dt->Bool
 | .non,.non=>true
 | .bl a,.bl b=>a==b
 | .bl a,.int b=>(if a then 1 else 0)==b
 | .int a,.bl b=>a==(if b then 1 else 0)
 | .int a,.int b=>a==b
 | .str a,.str b=>a==b
 | .tup xs,.tup ys=>aOe xs ys
 | .lst xs,.lst ys=>aOe xs ys
 | _,_=>false
noncomputable def aOe:List Dt->List Dt->Bool
 | [],[]=>true
 | x::xs,y::ys=>deq x y&&aOe xs ys
 | _,_=>false
end
mutual
noncomputable def dep:Dt->Nat
 | .tup xs=>aH1 xs+1
 | .lst xs=>aH1 xs+1
 | _=>0
noncomputable def aH1:List Dt->Nat
 | []=>0
 | x::xs=>max (dep x) (aH1 xs)
end
theorem aKh.length {H:Hp}:∀ {ds:List Dt} {vs:List V},aKh H ds vs->ds.length=vs.length
 | [],vs,h=>by rw [show vs=[] from h]; rfl
 | d::ds,vs,h=>by
  obtain ⟨v,r,rfl,_,t⟩:=h
  rw [List.length_cons,List.length_cons,aKh.length t]
mutual
theorem Den.same_eq {H:Hp}:∀ (d e:Dt) {x:V},Den H d x->Den H e x->deq d e=true
 | .tup ds,.tup es,x,h1,h2=>by
  obtain ⟨p,vs,rfl,a,b⟩:=h1
  obtain ⟨q,ws,e1,c,d⟩:=h2
  cases e1
  rw [a] at c
  cases c
  exact aKh.same_eq ds es b d
 | .lst ds,.lst es,x,h1,h2=>by
  obtain ⟨p,vs,rfl,a,b⟩:=h1
  obtain ⟨q,ws,e1,c,d⟩:=h2
  cases e1
  rw [a] at c
  cases c
  exact aKh.same_eq ds es b d
 | .tup ds,.lst es,x,h1,h2=>by
  obtain ⟨p,vs,rfl,a,b⟩:=h1
  obtain ⟨q,ws,e1,c,d⟩:=h2
  cases e1
  rw [a] at c
  cases c
 | .lst ds,.tup es,x,h1,h2=>by
  obtain ⟨p,vs,rfl,a,b⟩:=h1
  obtain ⟨q,ws,e1,c,d⟩:=h2
  cases e1
  rw [a] at c
  cases c
 | .non,e,x,h1,h2=>by
  have h1:x=.non:=h1
  subst h1
  cases e <;> first | rfl | (have h2:V.non=_:=h2; cases h2) | (obtain ⟨_,_,z,_⟩:=h2; cases z)
 | .bl b,e,x,h1,h2=>by
  have h1:x=.bl b:=h1
  subst h1
  cases e <;> first | (have h2:V.bl b=_:=h2; cases h2; exact beq_self_eq_true b) | (have h2:V.bl b=_:=h2; cases h2; done) | (obtain ⟨_,_,z,_⟩:=h2; cases z)
 | .int b,e,x,h1,h2=>by
  have h1:x=.int b:=h1
  subst h1
  cases e <;> first | (have h2:V.int b=_:=h2; cases h2; exact beq_self_eq_true b) | (have h2:V.int b=_:=h2; cases h2; done) | (obtain ⟨_,_,z,_⟩:=h2; cases z)
 | .str b,e,x,h1,h2=>by
  have h1:x=.str b:=h1
  subst h1
  cases e <;> first | (have h2:V.str b=_:=h2; cases h2; exact beq_self_eq_true b) | (have h2:V.str b=_:=h2; cases h2; done) | (obtain ⟨_,_,z,_⟩:=h2; cases z)
 | .tup ds,.non,x,h1,h2=>by obtain ⟨p,vs,rfl,_⟩:=h1; have h2:V.ref p=_:=h2; cases h2
 | .tup ds,.bl _,x,h1,h2=>by obtain ⟨p,vs,rfl,_⟩:=h1; have h2:V.ref p=_:=h2; cases h2
 | .tup ds,.int _,x,h1,h2=>by obtain ⟨p,vs,rfl,_⟩:=h1; have h2:V.ref p=_:=h2; cases h2
 | .tup ds,.str _,x,h1,h2=>by obtain ⟨p,vs,rfl,_⟩:=h1; have h2:V.ref p=_:=h2; cases h2
 | .lst ds,.non,x,h1,h2=>by obtain ⟨p,vs,rfl,_⟩:=h1; have h2:V.ref p=_:=h2; cases h2
 | .lst ds,.bl _,x,h1,h2=>by obtain ⟨p,vs,rfl,_⟩:=h1; have h2:V.ref p=_:=h2; cases h2
 | .lst ds,.int _,x,h1,h2=>by obtain ⟨p,vs,rfl,_⟩:=h1; have h2:V.ref p=_:=h2; cases h2
 | .lst ds,.str _,x,h1,h2=>by obtain ⟨p,vs,rfl,_⟩:=h1; have h2:V.ref p=_:=h2; cases h2
theorem aKh.same_eq {H:Hp}:∀ (ds es:List Dt) {xs:List V},aKh H ds xs->aKh H es xs->aOe ds es=true
 | [],[],xs,_,_=>rfl
 | [],e::es,xs,h1,h2=>by
  have h1:xs=[]:=h1
  subst h1
  obtain ⟨_,_,z,_⟩:=h2
  cases z
 | d::ds,[],xs,h1,h2=>by
  have h2:xs=[]:=h2
  subst h2
  obtain ⟨_,_,z,_⟩:=h1
  cases z
 | d::ds,e::es,xs,h1,h2=>by
  obtain ⟨v,r,rfl,a,b⟩:=h1
  obtain ⟨v',r',z,a',b'⟩:=h2
  cases z
  show (deq d e&&aOe ds es)=true
  rw [Den.same_eq d e a a',aKh.same_eq ds es b b']
  rfl
end
noncomputable def nth (ds es:List Dt) (j:Nat):Bool:=match ds[j]?,es[j]? with
 | some d,some e=>deq d e
 | _,_=>false
theorem aC1:∀ (ds es:List Dt),((List.range (min ds.length es.length)).all (nth ds es)&&ds.length==es.length)=aOe ds es
 | [],[]=>rfl
 | [],e::es=>by show (_&&(0==es.length+1))=false; simp
 | d::ds,[]=>by show (_&&(ds.length+1==0))=false; simp
 | d::ds,e::es=>by
  have ih:=aC1 ds es
  show _=(deq d e&&aOe ds es)
  rw [← ih]
  have h1:min (d::ds).length (e::es).length=min ds.length es.length+1:=by simp only [List.length_cons]; omega
  rw [h1,List.range_succ_eq_map,List.all_cons,List.all_map]
  have h2:(nth (d::ds) (e::es)) ∘ Nat.succ=nth ds es:=by funext j; rfl
  rw [h2]
  have h3:nth (d::ds) (e::es) 0=deq d e:=rfl
  rw [h3]
  have h4:((d::ds).length==(e::es).length)=(ds.length==es.length):=by simp
  rw [h4,Bool.and_assoc]
section
variable {X:Cx} {pins:List (Addr×Obj)} {σ:St} {H:Hp} {s:Shared}
theorem aEc (I:Inv X pins σ H s) {p:Addr} {vs:List V} (h:H p=some (.tup vs)):∃ its:List Value,aB5 vs its/\s.heap.IsTuple p its.toArray:=by
 obtain ⟨_,its,r,q⟩:=(show aB3 X.prog X.w H s.heap p (.tup vs) from I.hok p _ h)
 exact ⟨its,r,q⟩
theorem aEi (I:Inv X pins σ H s) {p:Addr} {vs:List V} (h:H p=some (.lst vs)):∃ its:List Value,aB5 vs its/\s.heap.IsList p its.toArray:=by
 obtain ⟨_,its,n,r,q⟩:=(show aB3 X.prog X.w H s.heap p (.lst vs) from I.hok p _ h)
 exact ⟨its,r,_,q,rfl,_,rfl⟩
theorem aM1 {A:Around} {ds:List Dt} (h:A.units+dep (.tup ds) < cLine):A.in1.units+aH1 ds < cLine:=by
 have e:dep (.tup ds)=aH1 ds+1:=by simp [dep]
 show A.units+1+aH1 ds < cLine
 omega
theorem aM2 {A:Around} {ds:List Dt} (h:A.units+dep (.lst ds) < cLine):A.in1.units+aH1 ds < cLine:=by
 have e:dep (.lst ds)=aH1 ds+1:=by simp [dep]
 show A.units+1+aH1 ds < cLine
 omega
mutual
theorem bB1 (I:Inv X pins σ H s):∀ (d e:Dt) {x y:V} {u v:Value} {A:Around},Den H d x->Den H e y->aB0 x u->aB0 y v->A.units+dep d < cLine->SeqAt.EqAt A s u v (deq d e)
 | .tup ds,e,x,y,u,v,A,h1,h2,rx,ry,hu=>by
  obtain ⟨p,vs,rfl,a,b⟩:=h1
  cases rx
  obtain ⟨its,r,t⟩:=aEc I a
  have hu':A.units < cLine:=by omega
  cases e with
  | tup es =>
   obtain ⟨q,ws,rfl,a',b'⟩:=id h2
   cases ry
   by_cases hne:p=q
   ·subst hne
    have:=Den.same_eq (.tup ds) (.tup es) (x:=.ref p) ⟨p,vs,rfl,a,b⟩ h2
    rw [this]
    exact SeqAt.EqAt.same _
   ·obtain ⟨its',r',t'⟩:=aEc I a'
    have z:=SeqAt.RcAt.tuples (e:=nth ds es) t t' hu' (fun j g1 g2=>aHy I ds es b b' r r' (aM1 hu) j (by simpa using g1) (by simpa using g2))
    have l1:its.length=ds.length:=by rw [b.length,r.length]
    have l2:its'.length=es.length:=by rw [b'.length,r'.length]
    rw [List.size_toArray,List.size_toArray,l1,l2,aC1] at z
    exact SeqAt.EqAt.of_refs hne z
  | lst es =>
   obtain ⟨q,ws,rfl,a',b'⟩:=id h2
   cases ry
   obtain ⟨its',r',t'⟩:=aEi I a'
   exact SeqAt.EqAt.tuple_list t t' hu'
  | non=>cases (show y=.non from h2); cases ry; exact SeqAt.EqAt.tuple_none t hu'
  | bl b=>cases (show y=.bl b from h2); cases ry; exact SeqAt.EqAt.tuple_bool b t hu'
  | int b=>cases (show y=.int b from h2); obtain ⟨tk,rfl⟩:=ry; exact SeqAt.EqAt.tuple_int b tk t hu'
  | str b=>cases (show y=.str b from h2); obtain ⟨tk,rfl⟩:=ry; exact SeqAt.EqAt.tuple_str b tk t hu'
 | .lst ds,e,x,y,u,v,A,h1,h2,rx,ry,hu=>by
  obtain ⟨p,vs,rfl,a,b⟩:=h1
  cases rx
  obtain ⟨its,r,t⟩:=aEi I a
  have hu':A.units < cLine:=by omega
  cases e with
  | lst es =>
   obtain ⟨q,ws,rfl,a',b'⟩:=id h2
   cases ry
   by_cases hne:p=q
   ·subst hne
    have:=Den.same_eq (.lst ds) (.lst es) (x:=.ref p) ⟨p,vs,rfl,a,b⟩ h2
    rw [this]
    exact SeqAt.EqAt.same _
   ·obtain ⟨its',r',t'⟩:=aEi I a'
    have l1:its.length=ds.length:=by rw [b.length,r.length]
    have l2:its'.length=es.length:=by rw [b'.length,r'.length]
    by_cases hl:ds.length=es.length
    ·have z:=SeqAt.RcAt.lists (e:=nth ds es) t t' (by rw [List.size_toArray,List.size_toArray,l1,l2,hl]) hu' (fun j g1 g2=>aHy I ds es b b' r r' (aM2 hu) j (by simpa using g1) (by simpa using g2))
     have e1:=aC1 ds es
     rw [hl,Nat.min_self,beq_self_eq_true,Bool.and_true] at e1
     rw [List.size_toArray,l1,hl,e1] at z
     exact SeqAt.EqAt.of_refs hne z
    ·have z:=SeqAt.RcAt.lists_lengths t t' (by rw [List.size_toArray,List.size_toArray,l1,l2]; simpa using hl) hu'
     have e1:=aC1 ds es
     rw [show (ds.length==es.length)=false from by simpa using hl,Bool.and_false] at e1
     have e2:deq (.lst ds) (.lst es)=false:=by show aOe ds es=false; exact e1.symm
     rw [e2]
     exact SeqAt.EqAt.of_refs hne z
  | tup es =>
   obtain ⟨q,ws,rfl,a',b'⟩:=id h2
   cases ry
   obtain ⟨its',r',t'⟩:=aEc I a'
   exact SeqAt.EqAt.list_tuple t t' hu'
  | non=>cases (show y=.non from h2); cases ry; exact SeqAt.EqAt.list_none t hu'
  | bl b=>cases (show y=.bl b from h2); cases ry; exact SeqAt.EqAt.list_bool b t hu'
  | int b=>cases (show y=.int b from h2); obtain ⟨tk,rfl⟩:=ry; exact SeqAt.EqAt.list_int b tk t hu'
  | str b=>cases (show y=.str b from h2); obtain ⟨tk,rfl⟩:=ry; exact SeqAt.EqAt.list_str b tk t hu'
 | .non,e,x,y,u,v,A,h1,h2,rx,ry,hu=>by
  cases (show x=.non from h1); cases rx
  have hu':A.units < cLine:=by omega
  cases e with
  | tup es=>obtain ⟨q,ws,rfl,a',b'⟩:=id h2; cases ry; obtain ⟨its',r',t'⟩:=aEc I a'; exact SeqAt.EqAt.none_tuple t' hu'
  | lst es=>obtain ⟨q,ws,rfl,a',b'⟩:=id h2; cases ry; obtain ⟨its',r',t'⟩:=aEi I a'; exact SeqAt.EqAt.none_list t' hu'
  | non=>cases (show y=.non from h2); cases ry; exact SeqAt.EqAt.same _
  | bl b=>cases (show y=.bl b from h2); cases ry; exact SeqAt.EqAt.none_bool b
  | int b=>cases (show y=.int b from h2); obtain ⟨tk,rfl⟩:=ry; exact SeqAt.EqAt.none_int b tk
  | str b=>cases (show y=.str b from h2); obtain ⟨tk,rfl⟩:=ry; exact SeqAt.EqAt.none_str b tk
 | .bl c,e,x,y,u,v,A,h1,h2,rx,ry,hu=>by
  cases (show x=.bl c from h1); cases rx
  have hu':A.units < cLine:=by omega
  cases e with
  | tup es=>obtain ⟨q,ws,rfl,a',b'⟩:=id h2; cases ry; obtain ⟨its',r',t'⟩:=aEc I a'; exact SeqAt.EqAt.bool_tuple c t' hu'
  | lst es=>obtain ⟨q,ws,rfl,a',b'⟩:=id h2; cases ry; obtain ⟨its',r',t'⟩:=aEi I a'; exact SeqAt.EqAt.bool_list c t' hu'
  | non=>cases (show y=.non from h2); cases ry; exact SeqAt.EqAt.bool_none c
  | bl b=>cases (show y=.bl b from h2); cases ry; exact SeqAt.EqAt.bool_bool c b
  | int b=>cases (show y=.int b from h2); obtain ⟨tk,rfl⟩:=ry; exact SeqAt.EqAt.bool_int c b tk
  | str b=>cases (show y=.str b from h2); obtain ⟨tk,rfl⟩:=ry; exact SeqAt.EqAt.bool_str c b tk
 | .int c,e,x,y,u,v,A,h1,h2,rx,ry,hu=>by
  cases (show x=.int c from h1); obtain ⟨tc,rfl⟩:=rx
  have hu':A.units < cLine:=by omega
  cases e with
  | tup es=>obtain ⟨q,ws,rfl,a',b'⟩:=id h2; cases ry; obtain ⟨its',r',t'⟩:=aEc I a'; exact SeqAt.EqAt.int_tuple c tc t' hu'
  | lst es=>obtain ⟨q,ws,rfl,a',b'⟩:=id h2; cases ry; obtain ⟨its',r',t'⟩:=aEi I a'; exact SeqAt.EqAt.int_list c tc t' hu'
  | non=>cases (show y=.non from h2); cases ry; exact SeqAt.EqAt.int_none c tc
  | bl b=>cases (show y=.bl b from h2); cases ry; exact SeqAt.EqAt.int_bool c tc b
  | int b=>cases (show y=.int b from h2); obtain ⟨tk,rfl⟩:=ry; exact SeqAt.EqAt.int_int c tc b tk
  | str b=>cases (show y=.str b from h2); obtain ⟨tk,rfl⟩:=ry; exact SeqAt.EqAt.int_str c tc b tk
 | .str c,e,x,y,u,v,A,h1,h2,rx,ry,hu=>by
  cases (show x=.str c from h1); obtain ⟨tc,rfl⟩:=rx
  have hu':A.units < cLine:=by omega
  cases e with
  | tup es=>obtain ⟨q,ws,rfl,a',b'⟩:=id h2; cases ry; obtain ⟨its',r',t'⟩:=aEc I a'; exact SeqAt.EqAt.str_tuple c tc t' hu'
  | lst es=>obtain ⟨q,ws,rfl,a',b'⟩:=id h2; cases ry; obtain ⟨its',r',t'⟩:=aEi I a'; exact SeqAt.EqAt.str_list c tc t' hu'
  | non=>cases (show y=.non from h2); cases ry; exact SeqAt.EqAt.str_none c tc
  | bl b=>cases (show y=.bl b from h2); cases ry; exact SeqAt.EqAt.str_bool c tc b
  | int b=>cases (show y=.int b from h2); obtain ⟨tk,rfl⟩:=ry; exact SeqAt.EqAt.str_int c tc b tk
  | str b=>cases (show y=.str b from h2); obtain ⟨tk,rfl⟩:=ry; exact SeqAt.EqAt.str_str c tc b tk
theorem aHy (I:Inv X pins σ H s):∀ (ds es:List Dt) {xs ys:List V} {us vs:List Value} {A:Around},aKh H ds xs->aKh H es ys->aB5 xs us->aB5 ys vs->A.units+aH1 ds < cLine ->
  ∀ (j:Nat) (g1:j < us.length) (g2:j < vs.length),SeqAt.EqAt A s us[j] vs[j] (nth ds es j)
 | [],es,xs,ys,us,vs,A,h1,h2,r1,r2,hu=>fun j g1 g2=>by
  have h1:xs=[]:=h1
  subst h1
  cases r1
  exact absurd g1 (Nat.not_lt_zero _)
 | d::ds,[],xs,ys,us,vs,A,h1,h2,r1,r2,hu=>fun j g1 g2=>by
  have h2:ys=[]:=h2
  subst h2
  cases r2
  exact absurd g2 (Nat.not_lt_zero _)
 | d::ds,e::es,xs,ys,us,vs,A,h1,h2,r1,r2,hu=>fun j g1 g2=>by
  obtain ⟨x,xr,rfl,a,b⟩:=h1
  obtain ⟨y,yr,rfl,a',b'⟩:=h2
  cases r1 with
  | cons rx r1 =>
   cases r2 with
   | cons ry r2 =>
    have hd:aH1 (d::ds)=max (dep d) (aH1 ds):=by simp [aH1]
    cases j with
    | zero=>exact bB1 I d e a a' rx ry (by omega)
    | succ j=>exact aHy I ds es b b' r1 r2 (by omega) j (by simpa using g1) (by simpa using g2)
end
noncomputable def rEqD:R2:=fun x y H Q=>∃ d e,Den H d x/\Den H e y/\dep d<=60/\((∃ ds es,d=.tup ds/\e=.tup es)∨∃ ds es,d=.lst ds/\e=.lst es)/\Q (.bl (deq d e)) H
noncomputable def rNeD:R2:=fun x y H Q=>∃ d e,Den H d x/\Den H e y/\dep d<=60/\((∃ ds es,d=.tup ds/\e=.tup es)∨∃ ds es,d=.lst ds/\e=.lst es)/\Q (.bl (!deq d e)) H
theorem bA3 (hu:X.A.units+64 < cLine):OpR X (compareOp .Eq) rEqD:=by
 intro pins s σ H x y v u Q I rx ry h
 obtain ⟨d,e,h1,h2,hd,k,q⟩:=h
 rcases k with ⟨ds,es,rfl,rfl⟩ | ⟨ds,es,rfl,rfl⟩
 ·obtain ⟨p,vs,rfl,a,b⟩:=h1
  obtain ⟨p',ws,rfl,a',b'⟩:=h2
  cases rx
  cases ry
  obtain ⟨its,r,t⟩:=aEc I a
  obtain ⟨its',r',t'⟩:=aEc I a'
  have z:=SeqAt.RcAt.tuples (A:=X.A) (e:=nth ds es) t t' (by omega) (fun j g1 g2=>aHy I ds es b b' r r' (aM1 (by omega)) j (by simpa using g1) (by simpa using g2))
  have l1:its.length=ds.length:=by rw [b.length,r.length]
  have l2:its'.length=es.length:=by rw [b'.length,r'.length]
  rw [List.size_toArray,List.size_toArray,l1,l2,aC1] at z
  exact z _ _ _ _ ⟨.bl _,H,I,rfl,q⟩
 ·obtain ⟨p,vs,rfl,a,b⟩:=h1
  obtain ⟨p',ws,rfl,a',b'⟩:=h2
  cases rx
  cases ry
  obtain ⟨its,r,t⟩:=aEi I a
  obtain ⟨its',r',t'⟩:=aEi I a'
  have l1:its.length=ds.length:=by rw [b.length,r.length]
  have l2:its'.length=es.length:=by rw [b'.length,r'.length]
  by_cases hl:ds.length=es.length
  ·have z:=SeqAt.RcAt.lists (A:=X.A) (e:=nth ds es) t t' (by rw [List.size_toArray,List.size_toArray,l1,l2,hl]) (by omega) (fun j g1 g2=>aHy I ds es b b' r r' (aM2 (by omega)) j (by simpa using g1) (by simpa using g2))
   have e1:=aC1 ds es
   rw [hl,Nat.min_self,beq_self_eq_true,Bool.and_true] at e1
   rw [List.size_toArray,l1,hl,e1] at z
   exact z _ _ _ _ ⟨.bl _,H,I,rfl,q⟩
  ·have z:=SeqAt.RcAt.lists_lengths (A:=X.A) t t' (by rw [List.size_toArray,List.size_toArray,l1,l2]; simpa using hl) (by omega)
   have e1:=aC1 ds es
   rw [show (ds.length==es.length)=false from by simpa using hl,Bool.and_false] at e1
   have e2:deq (.lst ds) (.lst es)=false:=by show aOe ds es=false; exact e1.symm
   rw [e2] at q
   exact z _ _ _ _ ⟨.bl _,H,I,rfl,q⟩
theorem bA1 (hu:X.A.units+64 < cLine):OpR X (compareOp .NotEq) rNeD:=by
 intro pins s σ H x y v u Q I rx ry h
 obtain ⟨d,e,h1,h2,hd,k,q⟩:=h
 rcases k with ⟨ds,es,rfl,rfl⟩ | ⟨ds,es,rfl,rfl⟩
 ·obtain ⟨p,vs,rfl,a,b⟩:=h1
  obtain ⟨p',ws,rfl,a',b'⟩:=h2
  cases rx
  cases ry
  obtain ⟨its,r,t⟩:=aEc I a
  obtain ⟨its',r',t'⟩:=aEc I a'
  have z:=SeqAt.RcNeAt.tuples (A:=X.A) (e:=nth ds es) t t' (by omega) (fun j g1 g2=>aHy I ds es b b' r r' (aM1 (by omega)) j (by simpa using g1) (by simpa using g2))
  have l1:its.length=ds.length:=by rw [b.length,r.length]
  have l2:its'.length=es.length:=by rw [b'.length,r'.length]
  rw [List.size_toArray,List.size_toArray,l1,l2,aC1] at z
  exact z _ _ _ _ ⟨.bl _,H,I,rfl,q⟩
 ·obtain ⟨p,vs,rfl,a,b⟩:=h1
  obtain ⟨p',ws,rfl,a',b'⟩:=h2
  cases rx
  cases ry
  obtain ⟨its,r,t⟩:=aEi I a
  obtain ⟨its',r',t'⟩:=aEi I a'
  have l1:its.length=ds.length:=by rw [b.length,r.length]
  have l2:its'.length=es.length:=by rw [b'.length,r'.length]
  by_cases hl:ds.length=es.length
  ·have z:=SeqAt.RcNeAt.lists (A:=X.A) (e:=nth ds es) t t' (by rw [List.size_toArray,List.size_toArray,l1,l2,hl]) (by omega) (fun j g1 g2=>aHy I ds es b b' r r' (aM2 (by omega)) j (by simpa using g1) (by simpa using g2))
   have e1:=aC1 ds es
   rw [hl,Nat.min_self,beq_self_eq_true,Bool.and_true] at e1
   rw [List.size_toArray,l1,hl,e1] at z
   exact z _ _ _ _ ⟨.bl _,H,I,rfl,q⟩
  ·have z:=SeqAt.RcNeAt.lists_lengths (A:=X.A) t t' (by rw [List.size_toArray,List.size_toArray,l1,l2]; simpa using hl) (by omega)
   have e1:=aC1 ds es
   rw [show (ds.length==es.length)=false from by simpa using hl,Bool.and_false] at e1
   have e2:deq (.lst ds) (.lst es)=false:=by show aOe ds es=false; exact e1.symm
   rw [e2] at q
   exact z _ _ _ _ ⟨.bl _,H,I,rfl,q⟩
noncomputable def aVa:R2:=fun x y H Q=>rEq x y H Q∨rEqD x y H Q
noncomputable def aWl:R2:=fun x y H Q=>rNe x y H Q∨rNeD x y H Q
theorem aA9 (hu:X.A.units+64 < cLine):OpR X (compareOp .Eq) aVa:=op_eq.or (bA3 hu)
theorem aFo (hu:X.A.units+64 < cLine):OpR X (compareOp .NotEq) aWl:=op_ne.or (bA1 hu)
end
section
variable {H:Hp} {Q:VK} {i j:Int} {b c:Bool} {x y:Str} {u v:V}
theorem e_int (k:Q (.bl (decide (i=j))) H):aVa (.int i) (.int j) H Q:=.inl (r_eqI k)
theorem n_int (k:Q (.bl (!decide (i=j))) H):aWl (.int i) (.int j) H Q:=.inl (r_neI k)
theorem e_bl (k:Q (.bl (b==c)) H):aVa (.bl b) (.bl c) H Q:=.inl (r_eqB k)
theorem aXt (k:Q (.bl (x==y)) H):aVa (.str x) (.str y) H Q:=.inl ⟨rfl,by rw [aKb]; exact k⟩
theorem aW7 (k:Q (.bl (!(x==y))) H):aWl (.str x) (.str y) H Q:=.inl ⟨rfl,by rw [aKb]; exact k⟩
theorem aXu {ds es:List Dt} (h1:Den H (.lst ds) u) (h2:Den H (.lst es) v) (hd:aH1 ds<=50) (k:Q (.bl (aOe ds es)) H):aVa u v H Q :=
 .inr ⟨_,_,h1,h2,by simp [dep]; omega,.inr ⟨_,_,rfl,rfl⟩,k⟩
theorem bBc {ds es:List Dt} (h1:Den H (.lst ds) u) (h2:Den H (.lst es) v) (hd:aH1 ds<=50) (k:Q (.bl (!aOe ds es)) H):aWl u v H Q :=
 .inr ⟨_,_,h1,h2,by simp [dep]; omega,.inr ⟨_,_,rfl,rfl⟩,k⟩
theorem den2 {p:Addr} {a b:Int} (h:H p=some (.tup [.int a,.int b])):Den H (.tup [.int a,.int b]) (.ref p):=⟨p,_,rfl,h,_,_,rfl,rfl,_,_,rfl,rfl,rfl⟩
end
end L2
namespace L2
open PySem PySem.Spec PyProof.Rows
section
variable {X:Cx} {K:PySem.W.Frag} {H H':Hp} {Q:VK} {i j:Int} {σ:St}
noncomputable def bAn:R2:=fun x y H Q=>∃ i j,x=.str i/\y=.str j/\i.length+j.length<=sizeLine/\Q (.str (i++j)) H
theorem aWx:OpR X (binaryOp .Add) bAn:=aO0
noncomputable def aOx (K:PySem.W.Frag):R2:=fun x y H Q=>rI0 (fun i j=>.int (i+j)) x y H Q∨rCat x y H Q∨bAl K x y H Q∨bAn x y H Q
theorem aA3:OpR X (binaryOp .Add) (aOx X.K):=bA5.or (bA4.or (aWw.or aWx))
theorem a_int (k:Q (.int (i+j)) H):aOx K (.int i) (.int j) H Q:=.inl (r_I0 k)
theorem aSy {p q:Addr} {xs ys:List V} (h1:H p=some (.lst xs)) (h2:H q=some (.lst ys)) (hl:xs.length+ys.length<=1000) (k:∀ l,H l=none->Q (.ref l) (upd H l (.lst (xs++ys)))):aOx K (.ref p) (.ref q) H Q :=
 .inr (.inl ⟨p,q,xs,ys,rfl,rfl,h1,h2,aHu hl,k⟩)
theorem aX4 {p q:Addr} {xs ys:List V} (h1:H p=some (.tup xs)) (h2:H q=some (.tup ys)) (hl:xs.length+ys.length<=1000) (hx:xs≠[]) (hy:ys≠[]) (k:∀ l,H l=none->Q (.ref l) (upd H l (.tup (xs++ys)))):aOx K (.ref p) (.ref q) H Q :=
 .inr (.inr (.inl ⟨p,q,xs,ys,rfl,rfl,SqT.of h1,SqT.of h2,hx,aHu hl,fun e=>absurd e hy,fun _=>k⟩))
noncomputable def aQo (K:PySem.W.Frag):List V->Hp->VK->Prop:=fun xs H Q=>∃ p ys,xs=[.ref p]/\(SqL K H p ys∨SqT K H p ys)/\∀ l,H l=none->Q (.ref l) (upd H l (.lst ys))
theorem bB7:aDn X (.type "list") (aQo X.K):=aLo
theorem l_lst {p:Addr} {xs:List V} (h:H p=some (.lst xs)) (k:∀ l,H l=none->Q (.ref l) (upd H l (.lst xs))):aQo K [.ref p] H Q:=⟨p,xs,rfl,.inl (SqL.of h),k⟩
noncomputable def aYb (K:PySem.W.Frag):V->Option Int->Option Int->Hp->VK->Prop:=fun x lo hi H Q=>rSlL K x lo hi H Q∨rSlT K x lo hi H Q
theorem aDd:SlR X (aYb X.K):=aV1.or aYy
noncomputable def bA0 (R:Option Int->Hp->Prop):VK:=fun x H1=>∃ i,x=.int i/\R (some i) H1
theorem aZi {t:TE} {R:Option Int->Hp->Prop} (k:t σ H (bA0 R)):aYn t σ H R:=k
theorem aV7 {R:Option Int->Hp->Prop} (k:R (some i) H):bA0 R (.int i) H:=⟨i,rfl,k⟩
theorem aTk {R:Option Int->Hp->Prop} (k:R none H):aPx σ H R:=k
theorem r_sl {r:V->Option Int->Option Int->Hp->VK->Prop} {te:TE} {tl th:TO} (k:te σ H fun x H1=>tl σ H1 fun l H2=>th σ H2 fun u H3=>r x l u H3 Q):tSl r te tl th σ H Q:=k
theorem aJh {p:Addr} {xs:List V} {lo hi:Option Int} (h:H p=some (.lst xs)) (k:∀ l,H l=none->Q (.ref l) (upd H l (.lst (aGq xs lo hi)))):aYb K (.ref p) lo hi H Q:=.inl ⟨p,xs,rfl,SqL.of h,k⟩
theorem aV2 {p:Addr} {xs:List V} {lo hi:Option Int} (h:H p=some (.tup xs)) (hn:¬ (HT.sIx xs.length 0 lo=0/\HT.sIx xs.length xs.length hi=xs.length)) (k:∀ l,H l=none->Q (.ref l) (upd H l (.tup (aGq xs lo hi)))):aYb K (.ref p) lo hi H Q :=
 .inr ⟨p,xs,rfl,SqT.of h,hn,k⟩
theorem aFz {H:Hp} {q b:Addr} {o u:HO} (hq:H q=none) (h:H b=some u):upd H q o b=some u:=by rw [aA1 (aAh h hq)]; exact h
noncomputable def isI:V->Bool
 | .int _=>true
 | _=>false
theorem aR7 {v:V} (h:aGp v=true):∃ t b c,aG7 K H v t/\PySem.W.kitOne K t (.type "int")=some b/\PySem.W.kitOne K t (.type "bool")=some c/\(b&&!c)=isI v:=by
 cases v with
 | non=>exact ⟨_,_,_,.non,aGn,aF8,rfl⟩
 | bl b=>exact ⟨_,_,_,.bl b,aLg,aJ5,rfl⟩
 | int b=>exact ⟨_,_,_,.int b,aM0,aLf,rfl⟩
 | str b=>exact ⟨_,_,_,.str b,aMz,aLe,rfl⟩
 | _=>exact absurd (show false=true from h) Bool.false_ne_true
noncomputable def NT (K:PySem.W.Frag) (H:Hp) (x:V):Prop:=∃ t,aG7 K H x t/\PySem.W.kitOne K t (.type "tuple")=some false
noncomputable def Frq (K:PySem.W.Frag) (H:Hp) (x:V) (r:Bool):Prop :=
 (NT K H x/\r=false)∨(∃ p xs,x=.ref p/\H p=some (.tup xs)/\xs.length≠2/\r=false) ∨
  ∃ p v w,x=.ref p/\H p=some (.tup [v,w])/\aGp v=true/\aGp w=true/\(∀ a b,v=.int a->w=.int b->Sm 8000 a/\Sm 8000 b)/\r=frV v w
end
end L2
namespace L2
open PySem PySem.Spec PyProof.Rows
noncomputable def aA6 (X:Cx) (scope:Scope) (cl:List (Str×Addr)) (N:List Str) (C:Addr) (s0:Shared) (H0:Hp) (ex:List Addr):Cx :=
 { X with N:=N,s₀:=s0,H₀:=H0,env:=compEnvC scope cl C X.env,outer:=X.stack,stack:=X.stack,ex:=ex,fn:=fun _=>false,pn:=[],xe:=fun _ _=>False }
noncomputable def aBr (env:Env) (names:List Str):List (Str×Addr):=names.filterMap fun n=>(env.cells.lookup n).map fun c=>(n,c)
theorem aEv {env:Env}:∀ {names:List Str} {x:Str} {c:Addr},(aBr env names).lookup x=some c->env.cells.lookup x=some c
 | [],x,c,h=>by simp [aBr] at h
 | n::r,x,c,h=>by
  unfold aBr at h
  rw [List.filterMap_cons] at h
  cases e:env.cells.lookup n with
  | none =>
   rw [e] at h
   exact aEv (names:=r) h
  | some d =>
   rw [e] at h
   have h':List.lookup x ((n,d)::aBr env r)=some c:=h
   rw [List.lookup_cons] at h'
   by_cases hx:x=n
   ·subst hx
    rw [beq_self_eq_true] at h'
    cases h'
    exact e
   ·rw [beq_eq_false_iff_ne.mpr hx] at h'
    exact aEv (names:=r) h'
theorem aGb {env:Env}:∀ {names:List Str} {x:Str} {c:Addr},x∈names->env.cells.lookup x=some c->(aBr env names).lookup x=some c
 | [],x,c,h,_=>by cases h
 | n::r,x,c,h,e=>by
  unfold aBr
  rw [List.filterMap_cons]
  by_cases hx:x=n
  ·subst hx
   rw [e]
   show List.lookup x ((x,c)::_)=some c
   rw [List.lookup_cons,beq_self_eq_true]
  ·have hr:x∈r:=(List.mem_cons.mp h).resolve_left hx
   have ih:=aGb (env:=env) hr e
   cases e2:env.cells.lookup n with
   | none=>exact ih
   | some d =>
    show List.lookup x ((n,d)::aBr env r)=some c
    rw [List.lookup_cons,beq_eq_false_iff_ne.mpr hx]
    exact ih
noncomputable def aOh (σ:St) (is:List Nat):St:=is.map fun i=>(σ[i]?).join
noncomputable def aKe (te:TE) (tc:Option TT) (g:TG) (ts:St) (caps:St) (Q:VK):It->Hp->Prop:=fun J H1=>∀ acc,H1 acc=none ->
 ∃ W:Nat->Nat->List V->Hp->Prop,(∃ m,W 0 m [] (upd H1 acc (.lst [])))/\∀ i m ys H,W i m ys H ->
  H acc=some (.lst ys)/\((J.stop i H/\Q (.ref acc) H)∨(ys.length < sizeLine/\J.go i H/\∀ (us:St) x H',us.length=ts.length->J.yld i H x H'->g x (us++caps) H' fun σ2 H2 =>
   (∃ us2,us2.length=ts.length/\σ2=us2++caps) /\
   let made:=te σ2
   let next:=fun y H3=>H3 acc=some (.lst ys)/\∃ m',m' < m/\W (i+1) m' (ys++[y]) (upd H3 acc (.lst (ys++[y])))
   match tc with
   | none=>made H2 next
   | some c=>c σ2 H2 fun b H3=>if b=true then made H3 next else ∃ m',m' < m/\W (i+1) m' ys H3))
noncomputable def aVx (wi:TI) (te:TE) (tc:Option TT) (g:TG) (k:Nat) (is:List Nat):TE:=fun σ H Q=>wi σ H (aKe te tc g (List.replicate k none) (aOh σ is) Q)
section
variable {X:Cx} {scope:Scope} {N tn names:List Str} {is:List Nat} {elt iter tg:Expr} {ifs:List Expr} {pos:Pos} {wi:TI} {te:TE} {tc:Option TT} {g:TG}
structure aLz (X:Cx) (scope:Scope) (tn names:List Str) (is:List Nat):Prop where
 cls:(∀ x∈names,∃ c,X.env.cells.lookup x=some c)->closureFor scope X.env=pure (aBr X.env names)
 nocell:∀ y∈scope.names,y.2≠.cell
 kind:scope.kind=.function
 nms:∀ y∈scope.names,y.2=.local->scope.names.lookup y.1=some .local
 slots:∀ (j i:Nat) (x:Str),is[j]?=some i->names[j]?=some x->X.N[i]?=some x
 len:is.length=names.length
 outk:∀ x∈names,X.env.kindOf x=some .cell∨X.env.kindOf x=some .free
 ink:∀ x∈names,(relabel scope X.env).names.lookup x=some .cell∨(relabel scope X.env).names.lookup x=some .free
 free:∀ x,((relabel scope X.env).names.lookup x=some .cell∨(relabel scope X.env).names.lookup x=some .free)->x∈names
theorem aGa {env:Env}:∀ (l:List (Str×NameKind)) (acc:List (Str×Addr)),(∀ x∈(l.filter fun y=>y.2==.free).map (·.1),∃ c,env.cells.lookup x=some c) ->
  (forIn l acc fun (x:Str×NameKind) (cs:List (Str×Addr))=>(if (x.2==.free)=true then (do let a ← cellOf env x.1; pure (ForInStep.yield ((x.1,a)::cs))) else pure (ForInStep.yield cs)):Sem (List (Str×Addr)))
   = pure ((((l.filter fun y=>y.2==.free).map (·.1)).reverse.filterMap fun n=>(env.cells.lookup n).map fun c=>(n,c))++acc)
 | [],acc,_=>rfl
 | (n,k)::r,acc,h=>by
  rw [List.forIn_cons]
  by_cases hk:(k==NameKind.free)=true
  ·have hf:((n,k)::r).filter (fun y=>y.2==.free)=(n,k)::r.filter fun y=>y.2==.free:=by rw [List.filter_cons]; exact if_pos hk
   rw [hf] at h ⊢
   obtain ⟨c,e⟩:=h n (by simp)
   have e1:cellOf env n=pure c:=by unfold cellOf; rw [e]
   show (((if (k==NameKind.free)=true then (do let a ← cellOf env n; pure (ForInStep.yield ((n,a)::acc))) else pure (ForInStep.yield acc)):Sem _) >>= _)=_
   rw [if_pos hk,e1]
   have ih:=aGa r ((n,c)::acc) fun x hx=>h x (by simp at hx ⊢; exact .inr hx)
   have e2:(((n,k)::r.filter fun y=>y.2==.free).map (·.1)).reverse.filterMap (fun n=>(env.cells.lookup n).map fun c=>(n,c))=((r.filter fun y=>y.2==.free).map (·.1)).reverse.filterMap (fun n=>(env.cells.lookup n).map fun c=>(n,c))++[(n,c)]:=by
    rw [List.map_cons,List.reverse_cons,List.filterMap_append,List.filterMap_cons,e]
    rfl
   rw [e2,List.append_assoc]
   exact ih
  ·have hf:((n,k)::r).filter (fun y=>y.2==.free)=r.filter fun y=>y.2==.free:=by rw [List.filter_cons]; exact if_neg hk
   rw [hf] at h ⊢
   show (((if (k==NameKind.free)=true then (do let a ← cellOf env n; pure (ForInStep.yield ((n,a)::acc))) else pure (ForInStep.yield acc)):Sem _) >>= _)=_
   rw [if_neg hk]
   exact aGa r acc h
theorem aH0 {scope:Scope} {env:Env} {names:List Str} (hn:((scope.names.filter fun y=>y.2==.free).map (·.1)).reverse=names) (h:∀ x∈names,∃ c,env.cells.lookup x=some c) :
  closureFor scope env=pure (aBr env names):=by
 unfold closureFor aBr
 have q:=aGa (env:=env) scope.names [] fun x hx=>h x (by rw [← hn]; exact List.mem_reverse.mpr hx)
 rw [hn,List.append_nil] at q
 show (_ >>= fun r=>pure r)=_
 have q2:(forIn scope.names ([]:List (Str×Addr)) fun (x:Str×NameKind) (cs:List (Str×Addr))=>match x with
   | (name,kind)=>(if (kind==.free)=true then (do let a ← cellOf env name; pure (ForInStep.yield ((name,a)::cs))) else pure (ForInStep.yield cs)):Sem (List (Str×Addr)))=pure (names.filterMap fun n=>(env.cells.lookup n).map fun c=>(n,c)):=q
 first
  | exact (congrArg (fun z=>z >>= fun r=>pure r) q2)
  | simpa using q2
noncomputable def aTi (scope sc:Scope):Scope:={ scope with names:=scope.names.map fun (n,k)=>if (k==.free&&sc.kind==.function&&sc.names.lookup n==some .cell) then (n,.cell) else (n,k) }
theorem aCz {X:Cx} {scope sc:Scope} {N tn names:List Str} {is:List Nat} (hsc:X.env.scope=sc) (hN:X.N=N) (h1:((scope.names.filter fun y=>y.2==.free).map (·.1)).reverse=names) (h2:∀ y∈scope.names,y.2≠.cell) (h3:scope.kind=.function)
  (h4:∀ y∈scope.names,y.2=.local->scope.names.lookup y.1=some .local) (h5:(is.map fun i=>N[i]?)=names.map some) (h6:∀ x∈names,sc.names.lookup x=some .cell∨sc.names.lookup x=some .free)
  (h7:∀ x∈names,(aTi scope sc).names.lookup x=some .cell∨(aTi scope sc).names.lookup x=some .free) (h8:∀ y∈(aTi scope sc).names,(y.2=.cell∨y.2=.free)->y.1∈names):aLz X scope tn names is:=by
 subst hsc hN
 have hr:relabel scope X.env=aTi scope X.env.scope:=rfl
 refine ⟨aH0 h1,h2,h3,h4,fun j i x e1 e2=>?_,?_,h6,?_,fun x hx=>?_⟩
 ·have q:=congrArg (fun l=>l[j]?) h5
  simp only [List.getElem?_map,e1,e2,Option.map_some] at q
  exact Option.some.inj q
 ·have q:=congrArg List.length h5
  simpa using q
 ·rw [hr]; exact h7
 ·rw [hr] at hx
  have mem:∀ {l:List (Str×NameKind)} {k:NameKind},l.lookup x=some k->(x,k)∈l:=fun {l} {k}=>by
   induction l with
   | nil=>intro e; cases e
   | cons y r ih =>
    intro e
    obtain ⟨n,k'⟩:=y
    rw [List.lookup_cons] at e
    by_cases hx:x=n
    ·subst hx
     rw [beq_self_eq_true] at e
     cases e
     exact List.mem_cons_self
    ·rw [beq_eq_false_iff_ne.mpr hx] at e
     exact List.mem_cons_of_mem _ (ih e)
  rcases hx with hx | hx
  ·exact h8 _ (mem hx) (.inl rfl)
  ·exact h8 _ (mem hx) (.inr rfl)
theorem aXz {X:Cx} {scope:Scope} {tn names:List Str} {is:List Nat} (C:aLz X scope tn names is) {pins:List (Addr×Obj)} {σ:St} {H:Hp} {s:Shared} (I:Inv X pins σ H s) {acc:Addr} {fp:List Addr}
  {s3:Shared} {h1:Heap} {t4:Nat} (I3:Inv X pins σ (upd H acc (.lst [])) s3) (hf:∀ b∈fp,aS0 X pins H b) (hfl:∀ b∈fp,b < s3.heap.objs.size) (hacc:∀ b∈fp,b≠acc)
  (ns:h1.Ns s3.heap.objs.size fun _=>none) (kp:∀ b o,s3.heap.get? b=some o->h1.get? b=some o) :
  Inv (aA6 X scope (aBr X.env names) (tn++names) s3.heap.objs.size s3 (upd H acc (.lst [])) fp) [] (List.replicate tn.length none++aOh σ is) (upd H acc (.lst [])) { s3 with heap:=h1,toks:=t4 }:=by
 have ok:=I3.ok
 have hC:∀ x c,(aBr X.env names).lookup x=some c->X.env.cells.lookup x=some c:=fun x c h=>aEv h
 have cellLt:∀ x c,X.env.cells.lookup x=some c->c < s3.heap.objs.size:=fun x c e=>let ⟨v,z⟩:=I3.cell x c e; z.lt
 refine ⟨⟨ok.mod,?_,ok.glob,ok.blt,Nat.le_refl _,fun x y c a b=>ok.inj x y c (hC _ _ a) (hC _ _ b),fun x hx=>?_,fun _ _ z=>absurd z (by simp [aA6]),ok.hd,ok.frames,.inl rfl,fun b hb=>?_,fun b o e=>I3.bs b o e,Nat.le_trans ok.bsz I3.sz,fun b o e hb=>?_,fun b hb z=>?_,I3.stack,fun b hb=>I3.stkFree b hb⟩,
  rfl,I3.bare,Un.kept kp,⟨_,ns,fun i x v e1 e2 e3=>?_⟩,fun x c e=>?_,?_,fun x c e=>I3.freeC x c (hC _ _ e),fun p hp=>absurd hp (by simp [aA6]),I3.hok.kept kp,?_⟩
 ·show (relabel scope X.env).kind=.function
  exact C.kind
 ·have hm:=C.free x hx
  obtain ⟨c,e⟩:=ok.has x (C.outk x hm)
  exact ⟨c,aGb hm e⟩
 ·refine ⟨Nat.ne_of_lt (hfl b hb),fun x c e=>(hf b hb).2.2.2.2.1 x c (hC _ _ e)⟩
 ·rcases (hf b hb).2.2.2.1 with z | z
  ·exact ok.noex b o e z
  ·have:=Nat.lt_of_lt_of_le (Heap.lt_size e) ok.bsz
   omega
 ·have:=I3.stkSub b z
  rcases List.mem_cons.mp this with q | q
  ·exact (hf b hb).2.1 q
  ·exact (hf b hb).2.2.1 q
 ·by_cases hi:i < tn.length
  ·rw [List.getElem?_append_left (by rw [List.length_replicate]; exact hi),List.getElem?_replicate] at e2
   rw [if_pos hi] at e2
   cases e2
  ·have e1:(tn++names)[i]?=some x:=e1
   rw [List.getElem?_append_right (by omega)] at e1
   rw [List.getElem?_append_right (by rw [List.length_replicate]; omega),List.length_replicate] at e2
   generalize hj:i - tn.length=j at e1 e2
   unfold aOh at e2
   rw [List.getElem?_map] at e2
   cases e4:is[j]? with
   | none=>rw [e4] at e2; cases e2
   | some i0 =>
    rw [e4] at e2
    have e5:(σ[i0]?).join=some v:=Option.some.inj e2
    have e6:σ[i0]?=some (some v):=by
     cases q:σ[i0]? with
     | none=>rw [q] at e5; cases e5
     | some o=>rw [q] at e5; exact congrArg some e5
    have hx:x∈names:=List.mem_of_getElem? e1
    obtain ⟨m,hm,look⟩:=I3.loc
    have hv:Vis X.env.scope x:=by
     rcases C.outk x hx with q | q
     ·exact .inr (.inl q)
     ·exact .inr (.inr q)
    obtain ⟨u,ru,lk⟩:=look i0 x v (C.slots j i0 x e4 e1) e6 hv
    refine ⟨u,ru,.inr ⟨C.ink x hx,?_⟩⟩
    rcases lk with ⟨q,_⟩ | ⟨_,c,ec,z⟩
    ·rcases C.outk x hx with q' | q' <;> (rw [q] at q'; cases q')
    ·exact ⟨c,aGb hx ec,let ⟨o,a,b⟩:=z; ⟨o,kp _ _ a,b⟩⟩
 ·obtain ⟨v,o,a,b⟩:=I3.cell x c (hC _ _ e)
  exact ⟨v,o,kp _ _ a,b⟩
 ·exact I3.hok.fresh (Nat.le_refl _)
 ·show (List.replicate tn.length none++aOh σ is).length=(tn++names).length
  rw [List.length_append,List.length_append,List.length_replicate]
  unfold aOh
  rw [List.length_map,C.len]
theorem aLn {prog:Program} {w:World} {A:Around} {R:Result->Shared->Prop} {s:Shared} {elt target iter:Expr} {ifs:List Expr} {scope:Scope} {pos:Pos} {it acc:Value} {env:Env} (I:Nat->Shared->Prop)
  (turn:∀ n s,I n s->wpAny (model prog w) A (pyNext it) (fun r s₁=>match r with
   | none=>R (.ok .next) s₁
   | some v=>wpAny (model prog w) A (letOwnedTupleGo target it v) (fun _ s₁'=>wpAny (model prog w) A (assign target env v) (fun _ s₂ =>
     wpAny (model prog w) A (forIn ifs true fun c r=>if r=true then do let ok ← isTrue c env (eval c env); pure (ForInStep.yield ok) else pure (ForInStep.yield r)) (fun ok s₃ =>
      if ok=true then wpAny (model prog w) A (eval elt env) (fun x s₄ =>
       wpAny (model prog w) A (call (.builtin "list.append") [acc,x]) (fun _ s₅=>∃ m,m < n/\I m s₅) (fun _ _=>False) s₄) (fun _ _=>False) s₃
      else ∃ m,m < n/\I m s₃) (fun _ _=>False) s₂) (fun _ _=>False) s₁') (fun _ _=>False) s₁) (fun _ _=>False) s)
  (n:Nat) (h:I n s) :
  codeAny (model prog w) A (.compLoop (.ListComp elt [⟨target,iter,ifs,0⟩] scope pos) 0 it acc env) R s:=by
 refine codeAny_loop rfl I (fun n s hI=>?_) n h
 show wpAny _ A ((compTurn (.ListComp elt [⟨target,iter,ifs,0⟩] scope pos) 0 it acc env).onRaise (fun x=>do noteFrame x env; theTreesLotGoes x)) _ _ s
 refine wpAny_noted ?_
 rw [compTurn_list]
 refine wpAny_bind (wpAny_standAt (wpAny_bind (wpAny_mono (turn n s hI) (fun r s₁ h₁=>?_) fun _ _ h'=>h'.elim)))
 cases r with
 | none=>exact wpAny_pure h₁
 | some v =>
  refine wpAny_bind (wpAny_mono h₁ (fun _ s₁' h₁'=>?_) fun _ _ h'=>h'.elim)
  refine wpAny_bind (wpAny_mono h₁' (fun _ s₂ h₂=>wpAny_bind (wpAny_mono h₂ (fun ok s₃ h₃=>?_) fun _ _ h'=>h'.elim)) fun _ _ h'=>h'.elim)
  cases ok with
  | false=>exact wpAny_pure ⟨rfl,h₃⟩
  | true =>
   exact wpAny_bind (wpAny_bind (wpAny_mono h₃ (fun x s₄ h₄=>wpAny_bind (wpAny_mono h₄ (fun _ s₅ h₅=>wpAny_pure (wpAny_pure ⟨rfl,h₅⟩)) fun _ _ h'=>h'.elim)) fun _ _ h'=>h'.elim))
noncomputable def PTs (X':Cx) (ifs:List Expr) (tc:Option TT):Prop:=match ifs,tc with
 | [],none=>True
 | [c],some t=>PT X' c t
 | _,_=>False
theorem aCb {X':Cx}:PTs X' [] none:=trivial
theorem aWm {X':Cx} {c:Expr} {t:TT} (h:PT X' c t):PTs X' [c] (some t):=h
structure TurnG (ok:Cx->Prop) (P:Program) (w:World) (K:PySem.W.Frag) (tg:Expr) (J:It) (fp:List Addr) (it:Addr) (tn:Nat->Heap->Prop):Prop where
 mem:it∈fp
 obj:∀ i h,tn i h->∀ b∈fp,∃ o,h.get? b=some o/\∀ v,o.data≠.cell v
 keep:∀ i h h',tn i h->(∀ b∈fp,∀ o,h.get? b=some o->h'.get? b=some o)->tn i h'
 item:∀ (X:Cx),X.prog=P->X.w=w->X.K=K->ok X->∀ (i:Nat) (pins:List (Addr×Obj)) (s:Shared) (σ:St) (H:Hp) (E:Value->Shared->Prop),Inv X pins σ H s->(∀ b∈fp,aS0 X pins H b)->tn i s.heap->J.go i H ->
  wpAny (model P w) X.A (pyNext (.ref it)) (fun r s1=>∃ u,r=some u/\wpAny (model P w) X.A (letOwnedTupleGo tg (.ref it) u) (fun _ s2=>∃ x H',Inv X pins σ H' s2/\aB0 x u/\J.yld i H x H'/\tn (i+1) s2.heap/\∀ b∈fp,H' b=none) E s1) E s
 done:∀ (X:Cx),X.prog=P->X.w=w->X.K=K->ok X->∀ (i:Nat) (pins:List (Addr×Obj)) (s:Shared) (σ:St) (H:Hp) (E:Value->Shared->Prop),Inv X pins σ H s->(∀ b∈fp,aS0 X pins H b)->tn i s.heap->J.stop i H ->
  wpAny (model P w) X.A (pyNext (.ref it)) (fun r s1=>r=none/\Inv X pins σ H s1) E s
 self:∀ (A:Around) (i:Nat) (s:Shared) (Q:Value->Shared->Prop) (E:Value->Shared->Prop),tn i s.heap->Q (.ref it) s->wpAny (model P w) A (pyIter (.ref it)) Q E s
noncomputable def PIEG (ok:Cx->Prop) (X:Cx) (pins:List (Addr×Obj)) (σ:St) (tg:Expr) (R:It->Hp->Prop) (itv:Value) (s2:Shared):Prop :=
 ∃ (it:Addr) (fp:List Addr) (tn:Nat->Heap->Prop) (J:It) (H':Hp),itv=.ref it/\Inv X pins σ H' s2/\TurnG ok X.prog X.w X.K tg J fp it tn/\tn 0 s2.heap/\(∀ b∈fp,aS0 X pins H' b)/\R J H'
theorem bAt {X:Cx} {pins:List (Addr×Obj)} {σ:St} {tg:Expr} {R:It->Hp->Prop} {itv:Value} {s2:Shared} (h:PIE X pins σ tg R itv s2):PIEG (fun X=>X.calm=true) X pins σ tg R itv s2 :=
 let ⟨it,fp,tn,J,H',a,b,T,c,d,e⟩:=h; ⟨it,fp,tn,J,H',a,b,⟨T.mem,T.obj,T.keep,T.item,T.done,T.self⟩,c,d,e⟩
theorem aOf {X:Cx} {ok:Cx->Prop} {scope:Scope} {tn names:List Str} {is:List Nat} (ck:aLz X scope tn names is) (hc:∀ C s0 H0 ex,ok (aA6 X scope (aBr X.env names) (tn++names) C s0 H0 ex)) {elt tg iter:Expr} {ifs:List Expr} {pos:Pos} {te:TE} {tc:Option TT} {g:TG}
  (hg:∀ C s0 H0 ex,PG (aA6 X scope (aBr X.env names) (tn++names) C s0 H0 ex) tg g) (he:∀ C s0 H0 ex,PE (aA6 X scope (aBr X.env names) (tn++names) C s0 H0 ex) elt te)
  (ht:∀ C s0 H0 ex,PTs (aA6 X scope (aBr X.env names) (tn++names) C s0 H0 ex) ifs tc)
  {pins:List (Addr×Obj)} {σ:St} {Q:VK} {s2:Shared} {itv:Value} {E:Value->Shared->Prop} (h2:PIEG ok X pins σ tg (aKe te tc g (List.replicate tn.length none) (aOh σ is) Q) itv s2) {RR:Value->Addr->Result->Shared->Prop}
  (fin:∀ (acc C:Addr) (H':Hp) (s':Shared) (m:Str->Option Value),Inv X pins σ H' s'->s'.heap.Ns C m->H' C=none->C≠X.env.locals->(∀ x c,X.env.cells.lookup x=some c->c≠C)->(∀ p∈X.pn++pins,p.1≠C)->X.s₀.heap.objs.size<=C->Q (.ref acc) H' ->
   RR (.ref acc) C (.ok .next) s') :
  wpAny (model X.prog X.w) X.A (newList []) (fun acc s₃=>wpAny (model X.prog X.w) X.A (newFunctionEnv scope X.env.globals (aBr X.env names) [] X.env.qual none .none (some X.env)) (fun cenv s₄ =>
   codeAny (model X.prog X.w) X.A (.compStart (.ListComp elt [⟨tg,iter,ifs,0⟩] scope pos) 0 itv acc { cenv with scope:=relabel scope X.env }) (RR acc cenv.locals) s₄) E s₃) E s2:=by
 obtain ⟨it,fp,tnx,J,H2,rfl,I2,T,st2,f2,hK⟩:=h2
 have facc:H2 s2.heap.objs.size=none:=I2.hok.fresh (Nat.le_refl _)
 refine wpAny_newObj_type ?_ (by show 0<=sizeLine; decide)
 have fpl:∀ b∈fp,b < s2.heap.objs.size:=fun b hb=>let ⟨o,e,_⟩:=T.obj 0 _ st2 b hb; Heap.lt_size e
 generalize hs3:({ s2 with heap:=s2.heap.push { cls:=.type "list",data:=.seq ([]:List Value).toArray } }:Shared)=s3
 have hsz3:s3.heap.objs.size=s2.heap.objs.size+1:=by rw [← hs3]; exact Heap.size_push ..
 have keep23:∀ b o,s2.heap.get? b=some o->s3.heap.get? b=some o:=fun b o e=>by rw [← hs3]; exact Heap.get?_push_of_some _ e
 have I3:Inv X pins σ (upd H2 s2.heap.objs.size (.lst [])) s3:=by
  rw [← hs3]
  exact I2.laid (t':=s2.toks) (fun b u e=>Heap.get?_push_of_some _ e) (Nat.le_refl _) ⟨Nat.zero_le _,[],0,.nil,Heap.get?_push_size _ rfl⟩
 refine wpAny_newFunctionEnv ck.nocell (by intro y hy; simp at hy) (fun h1 ns sb=>?_) ck.kind
 have kp:∀ b o,s3.heap.get? b=some o->h1.get? b=some o:=fun b o e=>sb.extBut b o (Nat.ne_of_lt (Heap.lt_size e)) (Heap.get?_push_of_some _ e)
 have lt3:∀ b:Addr,b < s2.heap.objs.size->b < s3.heap.objs.size:=fun b hb=>Nat.lt_of_lt_of_le hb (by rw [hsz3]; exact Nat.le_succ _)
 have ns':h1.Ns s3.heap.objs.size fun _=>none:=ns
 have I4:=aXz (t4:=s3.toks+([]:List (Str×Value)).length) ck I2 I3 f2 (fun b hb=>lt3 b (fpl b hb)) (fun b hb=>Nat.ne_of_lt (fpl b hb)) ns' kp
 generalize hX':aA6 X scope (aBr X.env names) (tn++names) s3.heap.objs.size s3 (upd H2 s2.heap.objs.size (.lst [])) fp=X' at I4
 have hA:X'.A=X.A:=by rw [← hX']; rfl
 have hP:X'.prog=X.prog:=by rw [← hX']; rfl
 have hW:X'.w=X.w:=by rw [← hX']; rfl
 have hKK:X'.K=X.K:=by rw [← hX']; rfl
 have hcm:ok X':=by rw [← hX']; exact hc _ _ _ _
 have hfs:X'.fs=frs X.stack:=by rw [← hX']; rfl
 have hex:X'.ex=fp:=by rw [← hX']; rfl
 have hloc:X'.env.locals=s3.heap.objs.size:=by rw [← hX']; rfl
 have hs0:X'.s₀=s3:=by rw [← hX']; rfl
 have hH0:X'.H₀=upd H2 s2.heap.objs.size (.lst []):=by rw [← hX']; rfl
 have hxe:X'.xe=fun _ _=>False:=by rw [← hX']; rfl
 have henv:X'.env=compEnvC scope (aBr X.env names) s3.heap.objs.size X.env:=by rw [← hX']; rfl
 have hg':PG X' tg g:=by rw [← hX']; exact hg _ _ _ _
 have he':PE X' elt te:=by rw [← hX']; exact he _ _ _ _
 have ht':PTs X' ifs tc:=by rw [← hX']; exact ht _ _ _ _
 have cells':∀ x c,X'.env.cells.lookup x=some c->X.env.cells.lookup x=some c:=fun x c e=>by rw [henv] at e; exact aEv e
 obtain ⟨W,⟨m0,w0⟩,turn⟩:=hK _ facc
 have stat:∀ {H':Hp},(∀ b∈fp,H' b=none)->∀ b∈fp,aS0 X' [] H' b:=fun {H'} hn b hb=>by
  refine ⟨hn b hb,?_,?_,.inl (by rw [hex]; exact hb),fun x c e=>(f2 b hb).2.2.2.2.1 x c (cells' x c e),fun p hp=>?_⟩
  ·rw [hloc]; exact Nat.ne_of_lt (lt3 b (fpl b hb))
  ·rw [hfs]
   intro z
   rcases List.mem_cons.mp (I2.stkSub b z) with q | q
   ·exact (f2 b hb).2.1 q
   ·exact (f2 b hb).2.2.1 q
  ·rw [← hX'] at hp
   exact absurd hp (by simp [aA6])
 have loop:∀ s4:Shared,Inv X' [] (List.replicate tn.length none++aOh σ is) (upd H2 s2.heap.objs.size (.lst [])) s4->tnx 0 s4.heap ->
   codeAny (model X.prog X.w) X.A (.compLoop (.ListComp elt [⟨tg,iter,ifs,0⟩] scope pos) 0 (.ref it) (.ref s2.heap.objs.size) X'.env) (RR (.ref s2.heap.objs.size) s3.heap.objs.size) s4:=by
  intro s4 J4 st4
  refine aLn (fun n s'=>∃ i ys ts H',Inv X' [] (ts++aOh σ is) H' s'/\ts.length=tn.length/\tnx i s'.heap/\(∀ b∈fp,H' b=none)/\W i n ys H') ?_ m0
   ⟨0,[],_,_,J4,List.length_replicate ..,st4,fun b hb=>by rw [aA1 (Nat.ne_of_lt (fpl b hb))]; exact (f2 b hb).1,w0⟩
  rintro n s5 ⟨i,ys,ts,H5,I5,hts,st5,fr5,w5⟩
  obtain ⟨hacc5,hcase⟩:=turn i n ys H5 w5
  have hrun:∀ {α:Type} {m:Sem α} {Q':α->Shared->Prop} {s':Shared},wpAny (model X'.prog X'.w) X'.A m Q' (fun _ _=>False) s'->wpAny (model X.prog X.w) X.A m Q' (fun _ _=>False) s':=fun {α m Q' s'} z=>by
   rw [hP,hW,hA] at z; exact z
  rcases hcase with ⟨stop,qn⟩ | ⟨hlen,go,step⟩
  ·have z:=T.done X' hP hW hKK hcm i [] s5 _ H5 (fun _ _=>False) I5 (stat fr5) st5 stop
   rw [hA] at z
   refine thn z fun r s6 ⟨hr,I6⟩=>?_
   subst hr
   -- the frame around,behind the block
   have u23:Un (frs X.stack) fp H2 (upd H2 s2.heap.objs.size (.lst [])) s2.heap s3.heap:=Un.laid keep23 (Nat.le_refl _) facc
   have u36:Un (frs X.stack) fp (upd H2 s2.heap.objs.size (.lst [])) H5 s3.heap s6.heap:=by
    have b:=I6.base
    rw [hfs,hex,hs0,hH0] at b
    exact b
   have hos:s6.os=s2.os:=by
    have b:=I6.os
    rw [hs0,← hs3] at b
    exact b
   have IO:Inv X pins σ H5 s6:=I2.call' hos (u23.trans u36) (by have b:=I6.hok; rw [hP,hW] at b; exact b) I6.bare fun b hb=>by
    obtain ⟨_,f1,f2',f3,f4,f5⟩:=f2 b hb
    exact ⟨f3,f1,fun x c e=>f4 x c e,fun p hp=>f5 p hp⟩
   obtain ⟨m,hm,_⟩:=I6.loc
   rw [hloc] at hm
   have fC:H5 s3.heap.objs.size=none:=by have b:=I6.free; rw [hloc] at b; exact b
   refine fin _ _ H5 s6 m IO hm fC ?_ (fun x c e=>?_) (fun p hp=>?_) ?_ qn
   ·exact Nat.ne_of_gt (Nat.lt_of_lt_of_le I2.lt (by omega))
   ·obtain ⟨v,z⟩:=I2.cell x c e
    exact Nat.ne_of_lt (lt3 c z.lt)
   ·exact Nat.ne_of_lt (lt3 p.1 (Heap.lt_size (I2.pin p hp).1))
   ·exact Nat.le_trans I2.sz (by omega)
  ·have z:=T.item X' hP hW hKK hcm i [] s5 _ H5 (fun _ _=>False) I5 (stat fr5) st5 go
   rw [hA] at z
   refine thn z fun r s6 ⟨u,hr,h6⟩=>?_
   subst hr
   refine thn h6 fun _ s7 ⟨x,H7,I7,r7,y7,st7,fr7⟩=>?_
   have I7':=I7.pinned (stat fr7) (T.obj _ _ st7)
   have zg:=hg' _ s7 _ H7 x u _ I7' r7 (step ts x H7 (by rw [hts,List.length_replicate]) y7)
   rw [hxe] at zg
   refine thn (hrun zg) fun _ s8 ⟨σ8,H8,I8,⟨us2,hus,e8⟩,q8⟩=>?_
   subst e8
   rw [List.length_replicate] at hus
   have back:∀ {s9:Shared} {H9:Hp},Inv X' ([]++aHq fp s7.heap) (us2++aOh σ is) H9 s9->tnx (i+1) s9.heap/\∀ b∈fp,H9 b=none:=fun {s9 H9} I9=>by
    refine ⟨T.keep _ _ _ st7 fun b hb o e=>(I9.pin (b,o) (List.mem_append_right _ (List.mem_append_right _ (aEu hb e)))).1,fun b hb=>?_⟩
    obtain ⟨o,e,d⟩:=T.obj _ _ st7 b hb
    exact (I9.pin (b,o) (List.mem_append_right _ (List.mem_append_right _ (aEu hb e)))).2.1
   have made:∀ {s9:Shared} {H9:Hp},Inv X' ([]++aHq fp s7.heap) (us2++aOh σ is) H9 s9->te (us2++aOh σ is) H9 (fun y H3=>H3 s2.heap.objs.size=some (.lst ys)/\∃ m',m' < n/\W (i+1) m' (ys++[y]) (upd H3 s2.heap.objs.size (.lst (ys++[y])))) ->
     wpAny (model X.prog X.w) X.A (eval elt X'.env) (fun x s₄=>wpAny (model X.prog X.w) X.A (call (.builtin "list.append") [.ref s2.heap.objs.size,x]) (fun _ s₅=>∃ m,m < n/\∃ i ys ts H',Inv X' [] (ts++aOh σ is) H' s₅/\ts.length=tn.length/\tnx i s₅.heap/\(∀ b∈fp,H' b=none)/\W i m ys H') (fun _ _=>False) s₄) (fun _ _=>False) s9:=fun {s9 H9} I9 q9=>by
    have ze:=he' _ s9 _ H9 _ I9 q9
    rw [hxe] at ze
    refine thn (hrun ze) fun y s10 ⟨yv,H10,I10,ry,ha10,m',hm',w10⟩=>?_
    have za:=(aDi (X:=X')) ([]++aHq fp s7.heap) s10 (us2++aOh σ is) H10 (.ref s2.heap.objs.size) [yv] (.ref s2.heap.objs.size) [y] (fun v H'=>v=.non/\H'=upd H10 s2.heap.objs.size (.lst (ys++[yv]))) I10 rfl (.cons ry .nil)
     ⟨_,ys,yv,rfl,rfl,ha10,hlen,rfl,rfl⟩
    rw [hxe] at za
    refine thn (hrun za) fun _ s11 ⟨_,H11,I11,_,_,e11⟩=>?_
    subst e11
    obtain ⟨b1,b2⟩:=back I11
    exact ⟨m',hm',i+1,_,us2,_,I11.unpinned,hus,b1,b2,w10⟩
   cases ifs with
   | nil =>
    cases tc with
    | some t=>exact ht'.elim
    | none=>exact wpAny_tests_nil (by rw [if_pos rfl]; exact made I8 q8)
   | cons c0 aIr =>
    cases aIr with
    | cons _ _=>cases tc <;> exact ht'.elim
    | nil =>
     cases tc with
     | none=>exact ht'.elim
     | some t =>
      have zt:=(show PT X' c0 t from ht') _ s8 _ H8 _ I8 q8
      rw [hxe] at zt
      refine wpAny_tests_one (thn (hrun zt) fun ok s9 ⟨H9,I9,q9⟩=>?_)
      cases ok with
      | true=>rw [if_pos rfl]; rw [if_pos rfl] at q9; exact made I9 q9
      | false =>
       rw [if_neg Bool.false_ne_true]
       rw [if_neg Bool.false_ne_true] at q9
       obtain ⟨m',hm',w9⟩:=q9
       obtain ⟨b1,b2⟩:=back I9
       exact ⟨m',hm',i+1,_,us2,_,I9.unpinned,hus,b1,b2,w9⟩
 have st4:tnx 0 h1:=T.keep _ _ _ st2 fun b hb o e=>kp b o (keep23 b o e)
 have goal0:=loop _ I4 st4
 rw [henv] at goal0
 refine codeAny_compStart_list goal0 (T.self X.A 0 _ _ _ st4 goal0)
theorem aDh (ck:aLz X scope tn names is) (hc:X.calm=true) (hi:PI X tg iter wi)
  (hg:∀ C s0 H0 ex,PG (aA6 X scope (aBr X.env names) (tn++names) C s0 H0 ex) tg g) (he:∀ C s0 H0 ex,PE (aA6 X scope (aBr X.env names) (tn++names) C s0 H0 ex) elt te)
  (ht:∀ C s0 H0 ex,PTs (aA6 X scope (aBr X.env names) (tn++names) C s0 H0 ex) ifs tc) (hs:∀ x,foldedSetIterable iter X.env x=pure x:=by intro _; rfl) :
  PE X (.ListComp elt [⟨tg,iter,ifs,0⟩] scope pos) (aVx wi te tc g tn.length is):=by
 intro pins s σ H Q I h
 rw [eval_ListComp]
 refine wpAny_comprehension_free (use:=none) rfl hs (ck.cls fun x hx=>I.ok.has x (ck.outk x hx)) ck.kind ck.nms (thn (hi pins s σ H _ I h) fun v s1 h1=>thn h1 fun itv s2 h2=>?_)
 refine aOf (RR:=fun acc C=>compPost (model X.prog X.w) X.A X.xe none (EP X pins σ Q) acc C) (ok:=fun X=>X.calm=true) ck (fun _ _ _ _=>hc) hg he ht (bAt h2) fun acc C H' s' m I' hn hC hL hcl hpn hsz q=>?_
 refine ⟨m,hn,fun h' sb=>⟨.ref acc,H',?_,rfl,q⟩⟩
 exact I'.turned (t':=s'.toks) (fun b o hb e=>sb.extBut b o hb e) hC hL (.inr hsz) hcl hpn
theorem aQt {i:Nat} {x:Str} {pos' spos:Pos} (hN:X.N.Nodup) (hi':X.N[i]?=some x) (hx:Loc X.env.scope x) (ck:aLz X scope tn names is) (hc:X.calm=true) (hi:PI X tg iter wi)
  (hg:∀ C s0 H0 ex,PG (aA6 X scope (aBr X.env names) (tn++names) C s0 H0 ex) tg g) (he:∀ C s0 H0 ex,PE (aA6 X scope (aBr X.env names) (tn++names) C s0 H0 ex) elt te)
  (ht:∀ C s0 H0 ex,PTs (aA6 X scope (aBr X.env names) (tn++names) C s0 H0 ex) ifs tc) (hs:∀ x,foldedSetIterable iter X.env x=pure x:=by intro _; rfl)
  (hsw:swapsWith (.ListComp elt [⟨tg,iter,ifs,0⟩] scope pos) (some (.Name x pos')) spos.line X.env=pure true:=by rfl) (hf:X.fn x=true∨X.env.scope.names.lookup x=some .local:=by first | exact .inl rfl | exact .inr rfl | assumption) :
  PS X (.Assign [.Name x pos'] (.ListComp elt [⟨tg,iter,ifs,0⟩] scope pos) spos) (tAsg (aVx wi te tc g tn.length is) (aGo i)):=by
 intro pins s σ H D I h
 rw [exec_Assign_Name_used _ _ _ _ hsw]
 refine wpAny_bind (wpAny_standAt (wpAny_bind ?_))
 show wpAny _ X.A (do let _ ← comprehension (.ListComp elt [⟨tg,iter,ifs,0⟩] scope pos) scope X.env _ (newList []) false (eval iter X.env) (some (assign (.Name x pos') X.env))) _ _ s
 refine wpAny_bind (wpAny_mono (wpAny_comprehension_free (use:=some (assign (.Name x pos') X.env)) (Q:=fun _ s'=>SP X pins D .next s') rfl hs (ck.cls fun x hx=>I.ok.has x (ck.outk x hx)) ck.kind ck.nms
  (thn (hi pins s σ H _ I h) fun v s1 h1=>thn h1 fun itv s2 h2=>?_)) (fun _ s' hq=>wpAny_pure (wpAny_pure hq)) fun _ _ e=>e)
 refine aOf (RR:=fun acc C=>compPost (model X.prog X.w) X.A X.xe (some (assign (.Name x pos') X.env)) (fun _ s'=>SP X pins D .next s') acc C) (ok:=fun X=>X.calm=true) ck (fun _ _ _ _=>hc) hg he ht (bAt h2) fun acc C H' s' m I' hn hC hL hcl hpn hsz q=>?_
 show wpAny _ X.A (assign (.Name x pos') X.env (.ref acc)) _ _ s'
 refine wpAny_assign_Name (aKl I' hN hi' hx (v:=.ref acc) rfl (fun s'' I'' sb=>?_) hf)
 obtain ⟨a,sb,ha⟩:=sb
 have hne:C≠a:=by
  rcases ha with rfl | ha
  ·exact hL
  ·exact fun z=>hcl x a ha z.symm
 refine ⟨m,hn.sameBut sb hne,fun h' sb'=>⟨_,H',I''.turned (t':=s''.toks) (fun b o hb e=>sb'.extBut b o hb e) hC hL (.inr hsz) hcl hpn,q⟩⟩
end
section
variable {te:TE} {Q:VK} {H:Hp} {σ caps:St} {wi:TI} {tc:TT} {K:PySem.W.Frag}
theorem aZ4 {o:Option TT} {g:TG} {k:Nat} {is:List Nat} (h:wi σ H (aKe te o g (List.replicate k none) (aOh σ is) Q)):aVx wi te o g k is σ H Q:=h
theorem bBf {us:St} (h:us.length=1):∃ o,us=[o]:=by
 cases us with
 | nil=>cases h
 | cons o r =>
  cases r with
  | nil=>exact ⟨o,rfl⟩
  | cons _ _=>simp at h
noncomputable def cW (n:Nat) (acc:Addr) (Pv:Nat->List V->Hp->Prop):Nat->Nat->List V->Hp->Prop:=fun i m ys H1=>m=n - i/\i<=n/\ys.length=i/\H1 acc=some (.lst ys)/\Pv i ys H1
noncomputable def aPf (n:Nat) (acc:Addr) (Pv:Nat->List V->Hp->Prop) (ys:List V) (i:Nat):VK:=fun y H3=>H3 acc=some (.lst ys)/\∃ m',m' < n - i/\cW n acc Pv (i+1) m' (ys++[y]) (upd H3 acc (.lst (ys++[y])))
theorem aD9 {n:Nat} {acc:Addr} {Pv:Nat->List V->Hp->Prop} {ys:List V} {i:Nat} {y:V} {H3:Hp} (hlt:i < n) (hl:ys.length=i) (ha:H3 acc=some (.lst ys)) (p:Pv (i+1) (ys++[y]) (upd H3 acc (.lst (ys++[y])))):aPf n acc Pv ys i y H3 :=
 ⟨ha,n - (i+1),by omega,rfl,hlt,by rw [List.length_append,hl]; rfl,aAe,p⟩
theorem aWi {lo:Int} {n:Nat} (hn:n<=1000) (Pv:Addr->Nat->List V->Hp->Prop) (h0:∀ acc,H acc=none->Pv acc 0 [] (upd H acc (.lst [])))
  (hs:∀ acc i ys H1,H acc=none->i < n->ys.length=i->H1 acc=some (.lst ys)->Pv acc i ys H1->te (some (.int (lo+i))::caps) H1 (aPf n acc (Pv acc) ys i))
  (hd:∀ acc ys H1,H acc=none->H1 acc=some (.lst ys)->ys.length=n->Pv acc n ys H1->Q (.ref acc) H1):aKe te none (aGo 0) (List.replicate 1 none) caps Q (Itr lo n) H:=by
 intro acc hacc
 refine ⟨cW n acc (Pv acc),⟨n,by simp,Nat.zero_le _,rfl,aAe,h0 acc hacc⟩,?_⟩
 rintro i m ys H1 ⟨rfl,hi,hl,ha,p⟩
 refine ⟨ha,?_⟩
 by_cases hlt:i < n
 ·refine .inr ⟨aCj (by omega),hlt,fun us x H' hu y=>?_⟩
  obtain ⟨e,y⟩:=y
  subst e y
  obtain ⟨o,rfl⟩:=bBf hu
  exact ⟨⟨[some (.int (lo+i))],rfl,rfl⟩,hs acc i ys _ hacc hlt hl ha p⟩
 ·have e:i=n:=by omega
  subst e
  exact .inl ⟨Nat.le_refl _,hd acc ys H1 hacc ha hl p⟩
theorem aE3 {a:Addr} {xs:List V} (hn:xs.length<=1000) (Pv:Addr->Nat->List V->Hp->Prop) (h0:∀ acc,H acc=none->Pv acc 0 [] (upd H acc (.lst []))) (hl':∀ acc i ys H1,H acc=none->i<=xs.length->Pv acc i ys H1->SqL K H1 a xs)
  (hs:∀ acc i ys H1 x,H acc=none->xs[i]?=some x->ys.length=i->H1 acc=some (.lst ys)->Pv acc i ys H1->te (some x::caps) H1 (aPf xs.length acc (Pv acc) ys i))
  (hd:∀ acc ys H1,H acc=none->H1 acc=some (.lst ys)->ys.length=xs.length->Pv acc xs.length ys H1->Q (.ref acc) H1):aKe te none (aGo 0) (List.replicate 1 none) caps Q (Itl K a) H:=by
 intro acc hacc
 refine ⟨cW xs.length acc (Pv acc),⟨xs.length,by simp,Nat.zero_le _,rfl,aAe,h0 acc hacc⟩,?_⟩
 rintro i m ys H1 ⟨rfl,hi,hl,ha,p⟩
 have q:=hl' acc i ys H1 hacc hi p
 refine ⟨ha,?_⟩
 by_cases hlt:i < xs.length
 ·refine .inr ⟨aCj (by omega),⟨xs,xs[i],q,by simp [hlt]⟩,fun us x H' hu y=>?_⟩
  obtain ⟨e,y⟩:=y
  subst e
  obtain ⟨o,rfl⟩:=bBf hu
  exact ⟨⟨[some x],rfl,rfl⟩,hs acc i ys _ x hacc (y xs q) hl ha p⟩
 ·have e:i=xs.length:=by omega
  subst e
  exact .inl ⟨⟨xs,q,Nat.le_refl _⟩,hd acc ys H1 hacc ha hl p⟩
end
end L2
namespace L2
open PySem
section
variable {H:Hp} {Q:VK} {u v:V} {a b c d:Int} {m n:Nat} {K:PySem.W.Frag}
end
end L2
namespace L2
theorem aZa {t b f g:Int} (hb:b≠0) (hg:0 < g) (hc:Int.gcd f g=1) (e:f * b=t * g):(Rat.divInt t b).num=f/\((Rat.divInt t b).den:Int)=g:=by
 obtain ⟨n,rfl⟩:∃ n:Nat,g=n:=⟨g.toNat,by omega⟩
 have h1:Rat.divInt t b=Rat.divInt f n:=(Rat.divInt_eq_divInt_iff hb (by omega)).mpr e.symm
 have h2:Rat.divInt f n=Rat.mk' f n (by omega) hc:=Rat.num_divInt_den (Rat.mk' f n (by omega) hc)
 rw [h1,h2]
 exact ⟨rfl,rfl⟩
end L2
namespace L2
end L2
namespace L2
open PySem
noncomputable def Ris (xs:Array Nat):Prop:=xs.toList.Pairwise (· < ·)
theorem Ris.lt {xs:Array Nat} (h:Ris xs) {i j:Nat} (hij:i < j) (hj:j < xs.size):xs[i]'(Nat.lt_trans hij hj) < xs[j]:=by
 have:=List.pairwise_iff_getElem.mp h i j (by simpa using Nat.lt_trans hij hj) (by simpa using hj) hij
 simpa using this
theorem Ris.le {xs:Array Nat} (h:Ris xs) {i j:Nat} (hij:i<=j) (hj:j < xs.size):xs[i]'(Nat.lt_of_le_of_lt hij hj)<=xs[j]:=by
 rcases Nat.lt_or_eq_of_le hij with h1 | h1
 ·exact Nat.le_of_lt (h.lt h1 hj)
 ·subst h1
  exact Nat.le_refl _
noncomputable def aX5 (xs:Array Nat) (j r:Nat):Prop:=r<=xs.size/\(∀ k (hk:k < xs.size),k < r->xs[k] < j)/\∀ k (hk:k < xs.size),r<=k->j<=xs[k]
theorem aKg {xs:Array Nat} {j:Nat} (h:Ris xs):∀ (fuel lo hi:Nat),hi - lo<=fuel->lo<=hi->hi<=xs.size->(∀ k (hk:k < xs.size),k < lo->xs[k] < j)->(∀ k (hk:k < xs.size),hi<=k->j<=xs[k])->aX5 xs j (SetTable.below.go xs j fuel lo hi)
 | 0,lo,hi,hf,hl,hh,h1,h2=>by
  have:lo=hi:=by omega
  subst this
  unfold SetTable.below.go
  exact ⟨hh,h1,h2⟩
 | fuel+1,lo,hi,hf,hl,hh,h1,h2=>by
  unfold SetTable.below.go
  by_cases hlt:lo < hi
  ·rw [if_pos hlt]
   have hm:(lo+hi) / 2 < xs.size:=by omega
   have eg:xs.getD ((lo+hi) / 2) j=xs[(lo+hi) / 2]:=by simp [Array.getD,hm]
   show aX5 xs j (if xs.getD ((lo+hi) / 2) j < j then SetTable.below.go xs j fuel ((lo+hi) / 2+1) hi else SetTable.below.go xs j fuel lo ((lo+hi) / 2))
   rw [eg]
   by_cases c:xs[(lo+hi) / 2] < j
   ·rw [if_pos c]
    exact aKg h fuel ((lo+hi) / 2+1) hi (by omega) (by omega) hh (fun k hk hk'=>Nat.lt_of_le_of_lt (h.le (show k<=(lo+hi) / 2 by omega) hm) c) h2
   ·rw [if_neg c]
    exact aKg h fuel lo ((lo+hi) / 2) (by omega) (by omega) (by omega) h1 fun k hk hk'=>Nat.le_trans (Nat.le_of_not_lt c) (h.le hk' hk)
  ·rw [if_neg hlt]
   have:lo=hi:=by omega
   subst this
   exact ⟨hh,h1,h2⟩
theorem aM8 {xs:Array Nat} (j:Nat) (h:Ris xs):aX5 xs j (SetTable.below xs j) :=
 aKg h xs.size 0 xs.size (by omega) (Nat.zero_le _) (Nat.le_refl _) (fun _ _ z=>absurd z (Nat.not_lt_zero _)) fun k hk z=>absurd hk (Nat.not_lt.mpr z)
theorem aV3 {xs:Array Nat} {j:Nat} (h:Ris xs) (hn:xs[SetTable.below xs j]?≠some j):Ris (SetTable.insertAt xs (SetTable.below xs j) j):=by
 have st:=aM8 j h
 generalize SetTable.below xs j=p at st hn
 unfold Ris
 rw [SetTable.toList_insertAt]
 have h1:∀ a∈xs.toList.take p,a < j:=fun a ha=>by
  obtain ⟨k,hk,e⟩:=List.getElem_of_mem ha
  rw [List.length_take] at hk
  rw [List.getElem_take,Array.getElem_toList] at e
  rw [← e]
  exact st.2.1 k (by simp at hk; omega) (by omega)
 have h2:∀ a∈xs.toList.drop p,j < a:=fun a ha=>by
  obtain ⟨k,hk,e⟩:=List.getElem_of_mem ha
  rw [List.length_drop,Array.length_toList] at hk
  rw [List.getElem_drop,Array.getElem_toList] at e
  have hp:p < xs.size:=by omega
  have h0:=st.2.2 p hp (Nat.le_refl _)
  have h3:xs[p]≠j:=fun z=>hn (by rw [Array.getElem?_eq_getElem hp,z])
  have h4:=h.le (show p<=p+k by omega) (by omega)
  rw [← e]
  omega
 refine List.pairwise_append.mpr ⟨h.sublist (List.take_sublist ..),List.pairwise_cons.mpr ⟨h2,h.sublist (List.drop_sublist ..)⟩,fun a ha b hb=>?_⟩
 rcases List.mem_cons.mp hb with rfl | hb
 ·exact h1 a ha
 ·exact Nat.lt_trans (h1 a ha) (h2 b hb)
noncomputable def Tb (w:World) (t:SetTable) (_n:Nat):Prop:=t.led=!(w.params.followText "set-order")/\Ris t.place/\t.dummies=#[]
theorem aFl (n:Nat):Ris (Array.range n):=by
 unfold Ris
 rw [Array.toList_range]
 exact List.pairwise_lt_range
theorem aRw (j:Nat):SetTable.has #[] j=false:=by
 unfold SetTable.has
 simp
theorem aIu {t:SetTable} {f:Nat->Int} {h:Int} (ht:t.dummies=#[]):∀ (fuel:Nat) (p:SetTable.Probe) (j:Nat) (d:Option Nat),SetTable.probe.go t f h fuel p=some (.empty j d)->p.dummy=none->t.slot j=.empty/\d=none
 | 0,p,j,d,e,hd=>nomatch e
 | fuel+1,p,j,d,e,hd=>by
  have adv:(t.advance p).dummy=none:=by
   unfold SetTable.advance
   split
   ·exact hd
   ·exact hd
  unfold SetTable.probe.go at e
  cases hs:t.slot p.j with
  | empty =>
   rw [hs] at e
   have e:=Option.some.inj e
   injection e with e1 e2
   exact ⟨by rw [← e1]; exact hs,by rw [← e2]; exact hd⟩
  | dummy =>
   exfalso
   unfold SetTable.slot at hs
   dsimp only at hs
   rw [ht,aRw,if_neg Bool.false_ne_true] at hs
   split at hs <;> cases hs
  | live i =>
   rw [hs] at e
   dsimp only at e
   split at e
   ·exact nomatch Option.some.inj e
   ·exact aIu ht fuel _ j d e adv
theorem aQa {t:SetTable} {j:Nat} (h:t.slot j=.empty):t.place[SetTable.below t.place j]?≠some j:=fun e=>by
 unfold SetTable.slot at h
 dsimp only at h
 rw [e,if_pos (by simp)] at h
 cases h
theorem aRq {w:World} {t:SetTable} {n m:Nat} (es:Array (Int×Value)) (h:Int) (x:Value) (ht:Tb w t n):Tb w (layNew t es h x).2.1 m:=by
 obtain ⟨h1,h2,h3⟩:=ht
 unfold layNew
 split
 ·rename_i slot wd e
  dsimp only
  have hp:Tb w (t.put slot).1 m:=by
   have hs:t.place[SetTable.below t.place slot]?≠some slot:=by
    unfold SetTable.freeSlot at e
    split at e
    ·rename_i j d e'
     have:=aIu h3 _ _ _ _ e' rfl
     rw [this.2] at e
     have e:=Option.some.inj e
     have e1:j=slot:=congrArg Prod.fst e
     rw [← e1]
     exact aQa this.1
    ·cases e
   unfold SetTable.put
   refine ⟨h1,aV3 h2 hs,?_⟩
   show (if SetTable.has t.dummies slot then _ else t.dummies)=#[]
   rw [h3,aRw,if_neg Bool.false_ne_true]
  unfold SetTable.orStandIn
  split
  ·exact hp
  ·exact ⟨h1,aFl _,rfl⟩
 ·exact ⟨h1,aFl _,rfl⟩
theorem aTh {w:World} {t:SetTable} {n m:Nat} (es:Array (Int×Value)) (k:Nat) (ht:Tb w t n):Tb w (relayAll t es k).2.1 m:=by
 obtain ⟨h1,h2,h3⟩:=ht
 unfold relayAll
 split
 ·rename_i t' order e
  unfold SetTable.relaid SetTable.laid at e
  cases hc:SetTable.layClean (SetTable.sizeAbove k - 1) (Array.map (fun x=>x.fst) es) with
  | none =>
   rw [hc] at e
   exact nomatch e
  | some ow =>
  rw [hc] at e
  have e3:=congrArg Prod.fst (Option.some.inj e)
  dsimp only at e3
  subst e3
  dsimp only
  split
  ·refine ⟨h1,?_,rfl⟩
   unfold Ris
   dsimp only
   refine List.pairwise_map.mpr (List.pairwise_filterMap.mpr (List.pairwise_lt_range.imp fun {a b} hab x hx y hy=>?_))
   simp only [Option.map_eq_some_iff] at hx hy
   obtain ⟨_,_,rfl⟩:=hx
   obtain ⟨_,_,rfl⟩:=hy
   exact hab
  ·exact ⟨h1,aFl _,rfl⟩
 ·exact ⟨h1,aFl _,rfl⟩
section
variable {prog:Program} {w:World} {K:Type} [DecidableEq K] {knd:KeyKind prog w K} {A:Around} {E:Value -> Shared -> Prop} {s:Shared}
theorem aUp {a:Addr} {o:Obj} {es:Array (Int×Value)} {ep:Nat} {t:SetTable} {x:Value} {k:K} {Q:Bool->Shared->Prop} (hsc:x.scannable=true) (hkey:knd.is k x=true) (ho:s.heap.get? a=some o) (hex:o.ExactSet) (hd:o.data=.set es ep t)
  (hel:ElemsOf knd es.toList) (hb:es.size+1 < scanBound) (hf:t.fits es.size=true) (ht:Tb w t es.size)
  (h1:(∃ e∈es.toList,knd.is k e.2=true)->Q false s)
  (h2:(∀ e∈es.toList,knd.is k e.2=false)->∀ (h':Heap) (es':Array (Int×Value)) (t':SetTable) (ep':Nat),Heap.SameBut a s.heap h'->h'.get? a=some { o with data:=.set es' ep' t' }->List.Perm es'.toList (es.toList++[(knd.hash k,x)]) ->
   t'.fits es'.size=true->Tb w t' es'.size->Q true { s with heap:=h' }):wpAny (model prog w) A (setAddHashed a x (knd.hash k)) Q E s:=by
 unfold setAddHashed setAddHashedIn
 refine wpAny_holding (wpAny_bind (wpAny_setState_of ho hd hf ?_))
 dsimp only
 rw [byScan_of hsc (by omega) hel,if_pos rfl]
 unfold setAddByScan
 refine wpAny_bind (wpAny_bind (wpAny_rule (wpAny_bind (wpAny_setScan_of hkey ho hd hf hel ?_))))
 cases hr:List.findIdx? (fun e=>knd.is k e.2) es.toList with
 | some j =>
  obtain ⟨hj,hpj,_⟩:=List.findIdx?_eq_some_iff_getElem.mp hr
  exact wpAny_pure (wpAny_pure (h1 ⟨_,List.getElem_mem hj,hpj⟩))
 | none =>
  have hno:=List.findIdx?_eq_none_iff.mp hr
  have gw:∀ (b:Bool) {s₁:Shared} {Q':Unit->Shared->Prop},Q' () s₁->wpAny (model prog w) A (match b with | true=>rule "set.scan.the-table-gave-way" | false=>pure ()) Q' E s₁:=fun b _ _ hq=>by
   cases b
   ·exact wpAny_pure hq
   ·exact wpAny_rule hq
  dsimp only
  have p1:=layNew_perm t es (knd.hash k) x
  have f1:=layNew_fits t es (knd.hash k) x
  have l1:=fun m=>aRq (m:=m) es (knd.hash k) x ht
  generalize layNew t es (knd.hash k) x=L at p1 f1 l1 ⊢
  obtain ⟨es1,t1,wd,gave⟩:=L
  dsimp only at p1 f1 l1 ⊢
  rw [Array.toList_push] at p1
  have hz:es1.size=es.size+1:=by
   have:=p1.length_eq
   simpa using this
  refine wpAny_bind (gw _ ?_)
  have fin:∀ t2:SetTable,t2.fits es1.size=true->(∀ m,Tb w t2 m)->wpAny (model prog w) A (do
    storeSet a es1 t2
    if (!wd&&t2.tooFull)=true then do
      (match (relayAll t2 es1 (SetTable.grown es1.size)).2.2 with | true=>rule "set.scan.the-table-gave-way" | false=>pure ())
      storeSet a (relayAll t2 es1 (SetTable.grown es1.size)).1 (relayAll t2 es1 (SetTable.grown es1.size)).2.1
      pure (some true)
     else pure (some true)) (fun r s₁=>wpAny (model prog w) A (match r with | some added=>pure added | none=>setAddHashedIn a x (knd.hash k) 99999) Q E s₁) E s:=by
   intro t2 f2 l2
   refine wpAny_bind (wpAny_storeSet_of ho hd ?_ (fits_of_scanBound (by omega)))
   have g1:(s.heap.update a (Obj.putSet es1 t2)).get? a=some { o with data:=.set es1 (ep+1) t2 }:=by
    have z:=Heap.get?_update_self (Obj.putSet es1 t2) ho (by rw [putSet_of es1 t2 hd]; rfl)
    rw [putSet_of es1 t2 hd] at z
    exact z
   have sb1:=Heap.SameBut.update s.heap a (Obj.putSet es1 t2)
   split
   ·have p2:=relayAll_perm t2 es1 (SetTable.grown es1.size)
    have f3:=relayAll_fits t2 es1 (SetTable.grown es1.size)
    have l3:=fun m=>aTh (m:=m) es1 (SetTable.grown es1.size) (l2 0)
    generalize relayAll t2 es1 (SetTable.grown es1.size)=R at p2 f3 l3 ⊢
    obtain ⟨es2,t3,gave2⟩:=R
    dsimp only at p2 f3 l3 ⊢
    have hz2:es2.size=es1.size:=by
     have:=p2.length_eq
     simpa using this
    refine wpAny_bind (gw _ ?_)
    refine wpAny_bind (wpAny_storeSet_of g1 rfl ?_ (fits_of_scanBound (by omega)))
    have g2:((s.heap.update a (Obj.putSet es1 t2)).update a (Obj.putSet es2 t3)).get? a=some { o with data:=.set es2 (ep+1+1) t3 }:=by
     have z:=Heap.get?_update_self (Obj.putSet es2 t3) g1 (by rw [putSet_of es2 t3 rfl]; rfl)
     rw [putSet_of es2 t3 rfl] at z
     exact z
    exact wpAny_pure (wpAny_pure (h2 hno _ es2 t3 _ (sb1.trans (Heap.SameBut.update _ a _)) g2 (p2.trans p1) f3 (l3 _)))
   ·exact wpAny_pure (wpAny_pure (h2 hno _ es1 t2 _ sb1 g1 p1 f2 (l2 _)))
  split
  ·refine wpAny_bind ?_
   rw [hashByValue_scannable 8 hsc]
   refine wpAny_pure ?_
   cases plainKind x with
   | true =>
    rw [if_pos rfl]
    exact fin t1 f1 l1
   | false =>
    rw [if_neg Bool.false_ne_true]
    exact fin _ (SetTable.fits_plain_off f1) l1
  ·refine wpAny_bind (wpAny_pure ?_)
   rw [if_pos rfl]
   exact fin t1 f1 l1
end
end L2
namespace L2
open PySem
section
variable {prog:Program} {w:World} {A:Around} {E:Value -> Shared -> Prop} {s:Shared}
end
end L2
namespace L2
open PySem
noncomputable def aU0 (es:Array (Int×Value)) (ep:Nat) (t:SetTable):Obj:={ cls:=.type "set",dict:=none,data:=.set es ep t,slots:=#[] }
section
variable {prog:Program} {w:World} {A:Around} {E:Value -> Shared -> Prop} {s:Shared}
variable {a it:Addr} {es:Array (Int×Value)} {ep i n:Nat} {t:SetTable} {first:Value}
end
end L2
namespace L2
open PySem
section
variable {prog:Program} {w:World} {A:Around} {E:Value -> Shared -> Prop} {s:Shared} {a it:Addr} {es:Array (Int×Value)} {ep i n:Nat} {t:SetTable}
end
section
variable {prog:Program} {w:World} {A:Around} {E:Value -> Shared -> Prop} {s:Shared} {a it:Addr} {es:Array (Int×Value)} {ep i n:Nat} {t:SetTable}
end
end L2
namespace L2
open PySem
section
variable {prog:Program} {w:World} {A A₂:Around} {E:Value -> Shared -> Prop} {s:Shared} {a it:Addr} {es:Array (Int×Value)} {ep i n:Nat} {t:SetTable}
end
end L2
namespace L2
open PySem
section
variable {prog:Program} {w:World} {A A₂:Around} {E:Value -> Shared -> Prop} {s:Shared} {a it:Addr} {es:Array (Int×Value)} {ep i n:Nat} {t:SetTable}
end
end L2
namespace L2
open PySem
noncomputable def aPs (prog:Program) (w:World):KeyKind prog w Str where
 is:=Value.isStrOf
 hash:=hashStr w
 inj:=Value.isStrOf_inj
 byValue:=fun k v h=>by obtain ⟨t,rfl⟩:=Value.isStrOf_shape h; rfl
 pyHash:=fun hv h=>by obtain ⟨t,rfl⟩:=Value.isStrOf_shape hv; exact wpAny_pyHash_str h
 eqBool:=fun hu hv h=>by
  obtain ⟨t,rfl⟩:=Value.isStrOf_shape hu
  obtain ⟨u,rfl⟩:=Value.isStrOf_shape hv
  exact wpAny_eqBool_str h
 «strs»:=fun k x t v h=>by
  obtain ⟨u,e⟩:=Value.isStrOf_shape h
  cases e
  cases v <;> rfl
noncomputable def aYa:Value->Str
 | .str x _=>x
 | _=>⟨#[]⟩
noncomputable def aFx (w:World) (h:Heap) (a:Addr) (xs:List Str):Prop :=
 ∃ es ep t,h.get? a=some (aU0 es ep t)/\(∀ e∈es.toList,∃ y u,e=(hashStr w y,Value.str y u))/\es.toList.map (fun e=>aYa e.2)=xs/\xs.Nodup/\es.size < scanBound/\t.fits es.size=true/\Tb w t es.size
theorem aFx.at {w:World} {h h':Heap} {a:Addr} {xs:List Str} (x:aFx w h a xs) (e:∀ o,h.get? a=some o->h'.get? a=some o):aFx w h' a xs :=
 let ⟨es,ep,t,g,r⟩:=x; ⟨es,ep,t,e _ g,r⟩
section
variable {prog:Program} {w:World} {A:Around} {E:Value -> Shared -> Prop} {s:Shared} {a:Addr}
theorem bCf {xs:List Str} {y:Str} {tk:Tok} {Q:Bool->Shared->Prop} (hx:aFx w s.heap a xs) (hb:xs.length+1 < scanBound)
  (h1:y∈xs->Q false s) (h2:y∉xs->∀ h' xs',Heap.SameBut a s.heap h'->xs'.Perm (xs++[y])->aFx w h' a xs'->Q true { s with heap:=h' }):wpAny (model prog w) A (setAddHashed a (.str y tk) (hashStr w y)) Q E s:=by
 obtain ⟨es,ep,t,g,hel,hxs,hnd,hsz,hf,ht⟩:=hx
 have hl:xs.length=es.size:=by rw [← hxs]; simp
 have hE:ElemsOf (aPs prog w) es.toList:=fun e he=>by
  obtain ⟨z,u,rfl⟩:=hel e he
  exact ⟨⟨z,by show Value.isStrOf z (.str z u)=true; simp [Value.isStrOf],rfl⟩,rfl⟩
 have his:∀ e∈es.toList,((aPs prog w).is y e.2=true ↔ aYa e.2=y):=fun e he=>by
  obtain ⟨z,u,rfl⟩:=hel e he
  constructor
  ·intro q
   obtain ⟨u',q'⟩:=Value.isStrOf_shape (show Value.isStrOf y (.str z u)=true from q)
   cases q'
   rfl
  ·intro q
   have q:z=y:=q
   subst q
   show Value.isStrOf z (.str z u)=true
   simp [Value.isStrOf]
 refine aUp (knd:=aPs prog w) (k:=y) rfl (by show Value.isStrOf y (.str y tk)=true; simp [Value.isStrOf]) g ⟨rfl,rfl,rfl⟩ rfl hE (by omega) hf ht (fun ⟨e,he,q⟩=>h1 ?_) fun hno h' es' t' ep' sb g' hp hf' ht'=>h2 ?_ h' (es'.toList.map fun e=>aYa e.2) sb ?_ ⟨es',ep',t',g',?_,rfl,?_,?_,hf',ht'⟩
 ·rw [← hxs]
  exact List.mem_map.mpr ⟨e,he,(his e he).mp q⟩
 ·intro hm
  rw [← hxs] at hm
  obtain ⟨e,he,q⟩:=List.mem_map.mp hm
  have:=hno e he
  rw [(his e he).mpr q] at this
  cases this
 ·have q:=hp.map fun e=>aYa e.2
  rw [List.map_append,hxs] at q
  exact q
 ·intro e he
  rcases List.mem_append.mp (hp.mem_iff.mp he) with q | q
  ·exact hel e q
  ·rw [List.mem_singleton] at q
   exact ⟨y,tk,q⟩
 ·have q:=hp.map fun e=>aYa e.2
  rw [List.map_append,hxs] at q
  refine q.nodup_iff.mpr (List.nodup_append.mpr ⟨hnd,by simp,fun z hz z' hz'=>?_⟩)
  have hz':z'=y:=by simpa [aYa] using hz'
  subst hz'
  rintro rfl
  rw [← hxs] at hz
  obtain ⟨e,he,q⟩:=List.mem_map.mp hz
  have:=hno e he
  rw [(his e he).mpr q] at this
  cases this
 ·have:=hp.length_eq
  simp at this
  omega
end
section
variable {prog:Program} {w:World} {A:Around} {R:Result -> Shared -> Prop} {I:Addr} {fp wr:List Addr} {G:Array GenState -> Array GenState -> Prop} {n:Nat} {P:Nat -> Value -> Prop} {St:Nat -> Shared -> Prop}
theorem aFu:entryFor table "set.update.loop"=some Builtin.«set.update.loop»:=entryFor_of_tree (by kernel_rfl)
theorem aC5:plainId "set.update.loop"=true:=by decide +kernel
theorem aXn (W:WalksS prog w A.in1 I fp wr G n P St) (S:Addr) (hSf:S∉fp) (val:Nat->Str) (hval:∀ i v,P i v->∃ t,v=.str (val i) t) (hb:n+1 < scanBound) :
  ∀ (k i:Nat) (s:Shared) (xs:List Str),n - i=k->i<=n->St i s->aFx w s.heap S xs->xs.length<=i->(∀ z,z∈xs ↔ ∃ j,j < i/\val j=z) ->
   (∀ s' xs',Moved (S::wr) G s s'->aFx w s'.heap S xs'->(∀ z,z∈xs' ↔ ∃ j,j < n/\val j=z)->R (.ok (.ret .none)) s') ->
   codeAny (model prog w) A (.builtin "set.update.loop" ⟨[.ref S,.ref I],[]⟩) R s:=by
 have hSw:S∉wr:=fun h=>hSf (W.sub _ h)
 have sub:∀ b∈wr,b∈S::wr:=fun b hb=>List.mem_cons_of_mem _ hb
 intro k
 induction k with
 | zero =>
  intro i s xs hk hi hst hS hl hm hR
  have:i=n:=by omega
  subst this
  refine codeAny_builtin aFu ?_
  rw [Around.under_plainId aC5 _]
  show wpAny _ A.in1 (pyNext (.ref I) >>= _) _ _ s
  refine wpAny_bind (W.done s _ _ hst fun s' mv=>wpAny_pure (hR s' xs (mv.mono sub) (hS.at fun o e=>mv.heap S _ hSw e) hm))
 | succ k ih =>
  intro i s xs hk hi hst hS hl hm hR
  have hlt:i < n:=by omega
  refine codeAny_builtin aFu ?_
  rw [Around.under_plainId aC5 _]
  show wpAny _ A.in1 (pyNext (.ref I) >>= _) _ _ s
  refine wpAny_bind (W.item i s _ _ hlt hst fun v s' hP hst' mv=>?_)
  obtain ⟨tk,rfl⟩:=hval i v hP
  have hS':aFx w s'.heap S xs:=hS.at fun o e=>mv.heap S _ hSw e
  show wpAny _ A.in1 (holding [Value.str (val i) tk] (setAdd S (.str (val i) tk)) >>= _) _ _ s'
  refine wpAny_bind (wpAny_holding ?_)
  unfold setAdd
  refine wpAny_holding (wpAny_bind (wpAny_pyHash_str ?_))
  have go:∀ (s2:Shared) (xs2:List Str),Moved (S::wr) G s s2->St (i+1) s2->aFx w s2.heap S xs2->xs2.length<=i+1->(∀ z,z∈xs2 ↔ z∈xs∨z=val i)->codeAny (model prog w) A (.builtin "set.update.loop" ⟨[.ref S,.ref I],[]⟩) R s2:=fun s2 xs2 mv2 st2 t2 l2 m2=>by
   refine ih (i+1) s2 xs2 (by omega) (by omega) st2 t2 l2 (fun z=>?_) fun s3 xs3 mv3 t3 m3=>hR s3 xs3 (Moved.trans W.gtrans mv2 mv3) t3 m3
   rw [m2,hm]
   constructor
   ·rintro (⟨j,hj,e⟩ | rfl)
    ·exact ⟨j,by omega,e⟩
    ·exact ⟨i,by omega,rfl⟩
   ·rintro ⟨j,hj,e⟩
    by_cases q:j < i
    ·exact .inl ⟨j,q,e⟩
    ·have:j=i:=by omega
     subst this
     exact .inr e.symm
  refine bCf (s:={ s' with toks:=s'.toks+1 }) hS' (by omega) (fun hin=>?_) fun hout h' xs' sb hp ht=>?_
  ·refine wpAny_pure ⟨plainId_quiet aC5 _,go _ xs ((mv.mono sub).then_heap (Nat.le_succ _) fun b o _ e=>e) ?_ hS' (by omega) fun z=>⟨.inl,fun q=>q.elim id fun e=>e ▸ hin⟩⟩
   exact W.frame _ s' _ _ hst' (Nat.le_succ _) fun b _ o e=>e
  ·refine wpAny_pure ⟨plainId_quiet aC5 _,go _ xs' ((mv.mono sub).then_heap (Nat.le_succ _) fun b o hb e=>?_) ?_ ht ?_ fun z=>?_⟩
   ·rw [sb.2 b (fun q:b=S=>hb (by rw [q]; exact List.mem_cons_self))]; exact e
   ·exact W.frame _ s' _ _ hst' (Nat.le_succ _) fun b hb o e=>by rw [sb.2 b (fun q:b=S=>hSf (by rw [← q]; exact hb))]; exact e
   ·have:=hp.length_eq
    simp at this
    omega
   ·rw [hp.mem_iff]
    simp
end
end L2
namespace L2
open PySem
section
variable {prog:Program} {w:World} {A:Around} {E:Value -> Shared -> Prop} {s:Shared}
noncomputable abbrev aBq (w:World):Obj:=aU0 #[] 0 (.fresh 0 0 (!(w.params.followText "set-order")))
theorem aTf (a:Value) {Q₁:Value->Shared->Prop} (h:Q₁ (.ref s.heap.objs.size) { s with heap:=s.heap.push (aBq w) }) :
  codeAny (model prog w) A (.call (.builtin "set.__new__") ⟨[.type "set",a],[]⟩) (wants Q₁ E) s:=by
 refine codeAny_of_tree ?_
 show wpAny _ A.in1 (checkBuiltinCall "set.__new__" ⟨[.type "set",a],[]⟩ >>= fun _=>again (.builtin "set.__new__" ⟨[.type "set",a],[]⟩)) _ _ s
 refine wpAny_bind (wpAny_of_eq (F.newCall_set_1 a) (wpAny_pure ⟨plainId_quiet F.plain_set_new _,codeAny_builtin F.entry_set_new ?_⟩))
 rw [Around.under_plainId F.plain_set_new _]
 unfold Builtin.«set.__new__» Builtin.Frozenset.newClass
 have hsub:=sub_set_self
 obtain ⟨hp,g,d,tk,os⟩:=s
 dsimp only
 wp_walk
 refine wpAny_askSetting (wpAny_pure ?_)
 dsimp only
 simp only [newObj]
 exact wpAny_bind (wpAny_alloc (wpAny_pure (wpAny_pure h)))
theorem aPr {h:Heap} {a:Addr} (g:h.get? a=some (aBq w)):aFx w h a [] :=
 ⟨#[],0,_,g,fun e he=>by simp at he,rfl,List.nodup_nil,by decide,rfl,rfl,List.Pairwise.nil,rfl⟩
set_option maxRecDepth 100000 in
set_option maxHeartbeats 3200000 in
theorem aQc {l:Addr} {items:Array Value} {xs:List Str} {Q:Value->Shared->Prop} (hh:A.handled=none) (hl:s.heap.IsList l items) (hi:∀ (i:Nat) (v:Value),items[i]?=some v->∃ t,v=.str (xs.getD i ⟨#[]⟩) t) (hlen:items.size=xs.length) (hb:xs.length+1 < scanBound)
  (h:∀ h' tk ys,aFx w h' s.heap.objs.size ys->(∀ z,z∈ys ↔ z∈xs)->(∀ b o,b < s.heap.objs.size->s.heap.get? b=some o->h'.get? b=some o)->Q (.ref s.heap.objs.size) { s with heap:=h',toks:=tk }) :
  wpAny (model prog w) A (call (.type "set") [.ref l]) Q E s:=by
 obtain ⟨c,tl,hmro⟩:=F.called_set.mro
 have hmade:=F.called_set.made
 have hsub:=F.called_set.sub
 refine wpAny_call (codeAny_of_tree ?_)
 show wpAny _ _ (callAny (.type "set") _) _ _ _
 refine wpAny_pure ⟨Code.quiet_builtin _ (by decide +kernel),codeAny_builtin F.entry_type_call ?_⟩
 rw [Around.under_plain (weight_type_call_type "set" [.ref l] []) rfl]
 have h1:=F.called_set.notType
 have h2:=F.called_set.canCreate
 have hct:=F.typeCall_set_1 (.ref l)
 repeat (any_goals (first | assumption | wp_step))
 refine codeAny_mono (aTf (.ref l) (E:=E) (Q₁:=fun obj s₁=>obj=.ref s.heap.objs.size/\s₁={ s with heap:=s.heap.push (aBq w) }) ⟨rfl,rfl⟩) fun r s₁ hr=>?_
 cases r with
 | error e=>exact hr
 | ok fl =>
  cases fl with
  | ret obj =>
   obtain ⟨rfl,rfl⟩:=hr
   have hS:(s.heap.push (aBq w)).get? s.heap.objs.size=some (aBq w):=Heap.get?_push_size _ rfl
   have hT:Shared.TypeIs { s with heap:=s.heap.push (aBq w) } (.ref s.heap.objs.size) "set":=⟨_,hS,rfl⟩
   have hli:=F.called_set.init.lookup
   have hbi:=F.called_set.init.bind (.ref s.heap.objs.size)
   repeat (any_goals (first | assumption | wp_step))
   refine codeAny_mono (codeAny_call_builtin (R:=wants (fun r s₂=>r=.none/\∃ h' tk ys,s₂={ s with heap:=h',toks:=tk }/\aFx w h' s.heap.objs.size ys/\(∀ z,z∈ys ↔ z∈xs) /\
     (∀ b o,b < s.heap.objs.size->s.heap.get? b=some o->h'.get? b=some o)) E) F.called_set.init.plain F.entry_set_init (check_set_init_1 hT ?_)) fun r₂ s₂ hr₂=>?_
   ·obtain ⟨ol,hol,hcl,nl,hdl⟩:=hl
    obtain ⟨ocls,odict,odata,oslots⟩:=ol
    simp only at hcl hdl
    subst hcl; subst hdl
    have hol':(s.heap.push (aBq w)).get? l=some { cls:=.type "list",dict:=odict,data:=.seq items nl,slots:=oslots }:=Heap.get?_push_of_some _ hol
    have hsls:=F.sub_list_set
    have hslf:=F.sub_list_frozenset
    have hne:(Value.type "list"==Value.type "dict")=false:=by decide
    have hl1:(s.heap.push (aBq w)).IsList l items:=⟨_,hol',rfl,nl,rfl⟩
    unfold Builtin.«set.__init__» noKeywords Builtin.Frozenset.updateFrom
    generalize hPI:pyIter=PI
    wp_walk
    subst hPI
    refine wpAny_pyIter_list hl1 ?_
    refine wpAny_bind (wpAny_runValue ?_)
    have hlS:l < s.heap.objs.size:=Heap.lt_size hol
    have hh3:A.in1.in1.in1.handled=none:=by simp [hh]
    have zP:(s.heap.push (aBq w)).objs.size=s.heap.objs.size+1:=Heap.size_push ..
    have hneI:l≠(s.heap.push (aBq w)).objs.size:=by rw [zP]; exact Nat.ne_of_lt (Nat.lt_succ_of_lt hlS)
    have hSf:s.heap.objs.size∉[(s.heap.push (aBq w)).objs.size,l]:=by
     rw [zP]
     simp only [List.mem_cons,List.not_mem_nil,or_false,not_or]
     exact ⟨Nat.ne_of_lt (Nat.lt_succ_self _),Nat.ne_of_gt hlS⟩
    refine aXn ((Walks.list hh3 _ l hneI items).toS) s.heap.objs.size hSf (fun i=>xs.getD i ⟨#[]⟩) hi (by rw [hlen]; exact hb) (items.size - 0) 0 _ [] (by omega) (Nat.zero_le _)
     ⟨⟨_,Heap.get?_push_size _ rfl,rfl,rfl⟩,(hl1.push _)⟩ (aPr (Heap.get?_push_of_some _ hS)) (Nat.le_refl _) (fun z=>by simp) fun s' ys hm hS' hmem=>?_
    obtain ⟨h',g',d',tk',os'⟩:=s'
    have eg:g'=s.gens:=hm.gens
    have ed:d'=s.drawn:=hm.drawn
    have eo:os'=s.os:=hm.os
    subst eg ed eo
    refine wpAny_pure ?_
    refine wpAny_pure ⟨rfl,h',tk',ys,rfl,hS',fun z=>?_,fun b o hb e=>?_⟩
    ·rw [hmem,hlen]
     constructor
     ·rintro ⟨j,hj,rfl⟩
      have:xs.getD j ⟨#[]⟩=xs[j]:=by simp [List.getD,hj]
      rw [this]
      exact List.getElem_mem hj
     ·intro hz
      obtain ⟨j,hj,e⟩:=List.getElem_of_mem hz
      exact ⟨j,hj,by simp [List.getD,hj,e]⟩
    ·have hb1:b≠s.heap.objs.size:=Nat.ne_of_lt hb
     have hb2:b≠(s.heap.push (aBq w)).objs.size:=by rw [zP]; exact Nat.ne_of_lt (Nat.lt_succ_of_lt hb)
     exact hm.heap b o (by simp only [List.mem_cons,List.not_mem_nil,or_false,not_or]; exact ⟨hb1,hb2⟩) (Heap.get?_push_of_some _ (Heap.get?_push_of_some _ e))
   ·cases r₂ with
    | error e=>exact hr₂
    | ok fl₂ =>
     cases fl₂ with
     | ret r =>
      obtain ⟨rfl,h',tk,ys,rfl,q1,q2,q3⟩:=hr₂
      repeat (any_goals (first | assumption | wp_step))
      exact h _ _ _ q1 q2 q3
     | _=>exact hr₂.elim
  | _=>exact hr.elim
end
end L2
namespace L2
open PySem PyProof.Rows
section
variable {prog:Program} {w:World} {A:Around} {E:Value -> Shared -> Prop} {s:Shared}
end
end L2
namespace L2
open PySem PyProof.Rows
section
variable {prog:Program} {w:World} {K:Type} [DecidableEq K] {knd:KeyKind prog w K} {A A₂:Around} {E:Value -> Shared -> Prop} {s:Shared} {a it:Addr} {kvs:List (K×Value)} {ep:Nat}
end
end L2
namespace L2
open PySem PyProof.Rows
theorem aFv:entryFor table "dict.update.loop"=some Builtin.«dict.update.loop»:=entryFor_of_tree (by kernel_rfl)
theorem aC6:plainId "dict.update.loop"=true:=by decide +kernel
section
variable {prog:Program} {w:World} {A:Around} {E:Value -> Shared -> Prop} {s:Shared}
variable {K:Type} [DecidableEq K] {knd:KeyKind prog w K}
noncomputable def aJ4 (kvs:List (K×Value)) (ps:List (K×Value)):List (K×Value):=ps.foldl (fun m p=>stored m p.1 p.2) kvs
end
end L2
namespace L2
open PySem PyProof.Rows
section
variable {prog:Program} {w:World} {K:Type} [DecidableEq K] {knd:KeyKind prog w K} {A:Around} {E:Value -> Shared -> Prop} {s:Shared} {d:Addr} {kvs:List (K×Value)} {k:K} {key dflt:Value}
end
end L2
namespace L2
open PySem PyProof.Rows
end L2
namespace L2
open PySem PySem.Spec PyProof.Rows
noncomputable def melt (a:Addr) (H:Hp):Hp:=fun b=>if b=a then (match H a with | some (.frz _ u)=>some u | o=>o) else H b
section
variable {X:Cx} {pins:List (Addr×Obj)} {σ:St} {H:Hp} {s:Shared} {a:Addr}
end
section
variable {X:Cx} {tg:Expr}
variable {scope:Scope} {tn names:List Str} {is:List Nat} {elt iter:Expr} {ifs:List Expr} {pos:Pos} {tl te:TE} {tc:Option TT} {g:TG}
end
end L2
namespace L2
open PySem PySem.Spec PyProof.Rows
section
variable {X:Cx} {pins:List (Addr×Obj)} {σ:St} {H:Hp} {s:Shared} {tg:Expr}
noncomputable def Ite (K:PySem.W.Frag) (a:Addr):It :=
 ⟨fun i H=>∃ xs x,SqL K H a xs/\xs[i]?=some x,fun i H v H'=>∃ T x,v=.ref T/\H T=none/\H'=upd H T (.tup [.int i,x])/\∀ xs,SqL K H a xs->xs[i]?=some x,fun i H=>∃ xs,SqL K H a xs/\xs.length<=i⟩
theorem aPu {P:Program} {w:World} {K:PySem.W.Frag} {elts:List Expr} {k1:Nat} {tpos:Pos} (a e it:Addr) (hei:e≠it) :
  aYf P w K (.Tuple elts k1 tpos) (Ite K a) [e,it] e (fun i h=>(∃ old,IsEnum h e it i old)/\h.IsListIter it a i) where
 mem:=by simp
 obj:=fun i h st b hb=>by
  obtain ⟨⟨old,he⟩,o,e1,c,d⟩:=st
  rcases List.mem_cons.mp hb with rfl | hb
  ·exact ⟨_,he,fun v z=>nomatch z⟩
  ·have hb:b=it:=by simpa using hb
   subst hb
   exact ⟨o,e1,fun v z=>by rw [d] at z; cases z⟩
 keep:=fun i h h' ⟨⟨old,he⟩,st⟩ k=>⟨⟨old,k e (by simp) _ he⟩,st.at fun o q=>k it (by simp) o q⟩
 item:=by
  intro X hP hw hK hc i pins s σ H E I hf st hg
  subst hP hw hK
  obtain ⟨xs,x,hq,hx⟩:=hg
  obtain ⟨its,rv,p,hz⟩:=I.list hq
  obtain ⟨u,hu,ru⟩:=rv.get hx
  obtain ⟨⟨old,he⟩,hit⟩:=st
  obtain ⟨f0,f1,f2,f3,f4,f5⟩:=hf e (by simp)
  obtain ⟨g0,g1,g2,g3,g4,g5⟩:=hf it (by simp)
  refine wpAny_pyNext_enum_item he hit p.isList (by simpa using hu) hei fun h' ho hit' hT hsz hk=>?_
  refine ⟨_,rfl,wpAny_letOwnedTupleGo_enum (s:={ s with heap:=h',toks:=s.toks+1 }) ho fun h2 he2 sb=>?_⟩
  have hTn:H s.heap.objs.size=none:=I.hok.fresh (Nat.le_refl _)
  have hTe:s.heap.objs.size≠e:=Nat.ne_of_gt (Heap.lt_size he)
  have hTi:s.heap.objs.size≠it:=by obtain ⟨_,q,_⟩:=hit; exact Nat.ne_of_gt (Heap.lt_size q)
  have k2:∀ b o,b≠e->b≠it->s.heap.get? b=some o->h2.get? b=some o:=fun b o n1 n2 q=>(sb.2 b n1).trans (hk b o n1 n2 q)
  -- first the iterators turn,then the tuple is tracked
  have I1:Inv X pins σ H { s with heap:=h2,toks:=s.toks+1 }:=by
   refine I.step (g':=s.gens) (d':=s.drawn) (t':=s.toks+1) (ch:=[e,it]) (fun b hb=>?_) (fun b o _ _ hb q _=>k2 b o (fun z=>hb (by simp [z])) (fun z=>hb (by simp [z])) q) (fun b o _ _ hb q _=>⟨o.slots,k2 b o (fun z=>hb (by simp [z])) (fun z=>hb (by simp [z])) q⟩)
    (fun b o _ _ q=>q) (fun b o hb q=>⟨o,k2 b o (fun z=>hb (by simp [z])) (fun z=>hb (by simp [z])) q⟩) (fun _ _ q=>q) (fun _ _ _ q=>q) (fun _ ps q=>⟨#[],by simpa using q⟩) (fun m hm=>?_) ?_ I.bare
   ·rcases List.mem_cons.mp hb with rfl | hb
    ·exact ⟨f3,f1,f4,f5⟩
    ·have hb:b=it:=by simpa using hb
     subst hb
     exact ⟨g3,g1,g4,g5⟩
   ·obtain ⟨o,es,ep,q,r⟩:=hm
    exact ⟨o,es,ep,k2 _ _ (Ne.symm f1) (Ne.symm g1) q,r⟩
   ·intro b u q
    refine (I.hok b u q).stay (fun c v hc r=>k2 c v ?_ ?_ r) (fun _ q=>q) fun _ _ q=>q
    ·rintro rfl
     rcases hc with rfl | hc
     ·rw [f0] at q; cases q
     ·rw [f0] at hc; cases hc
    ·rintro rfl
     rcases hc with rfl | hc
     ·rw [g0] at q; cases q
     ·rw [g0] at hc; cases hc
  have hT2:h2.get? s.heap.objs.size=some { cls:=.type "tuple",data:=.seq #[.int i s.toks,u] }:=(sb.2 _ hTe).trans hT
  have I2:Inv X pins σ (upd H s.heap.objs.size (.tup [.int i,x])) { s with heap:=h2,toks:=s.toks+1 }:=by
   have nn:∀ {b:Addr},b < s.heap.objs.size->H b=none->upd H s.heap.objs.size (.tup [.int i,x]) b=none:=fun {b} hb e=>by rw [aA1 (Nat.ne_of_lt hb)]; exact e
   have old:∀ {b:Addr} {o:HO},H b=some o->upd H s.heap.objs.size (.tup [.int i,x]) b=some o:=fun {b o} e=>by rw [aA1 (aAh e hTn)]; exact e
   refine ⟨I1.ok,I1.os,I1.bare,⟨I1.base.keep,I1.base.slot,fun b o q n hx=>nn ?_ (I1.base.free b o q n hx),I1.base.there,fun b ys q=>old (I1.base.tups b ys q),fun b o v q=>old (I1.base.frzs b o v q),fun b ps q=>?_⟩,I1.loc,I1.cell,nn I.lt I1.free,fun y c q=>nn ?_ (I1.freeC y c q),fun p hp=>?_,fun b o q=>?_,I1.len⟩
   ·exact Nat.lt_of_lt_of_le (Heap.lt_size q) I.sz
   ·obtain ⟨more,z⟩:=I1.base.tbls b ps q
    exact ⟨more,old z⟩
   ·obtain ⟨v,z⟩:=I.cell y c q
    exact z.lt
   ·obtain ⟨z1,z2,z3⟩:=I1.pin p hp
    exact ⟨z1,nn (Heap.lt_size (I.pin p hp).1) z2,z3⟩
   ·by_cases hb:b=s.heap.objs.size
    ·subst hb
     rw [aAe] at q
     cases q
     exact ⟨⟨by rw [sizeLine_eq]; simp,_,hT2,rfl⟩,[.int i s.toks,u],.cons ⟨_,rfl⟩ (.cons ru .nil),_,hT2,rfl,_,rfl⟩
    ·rw [aA1 hb] at q
     exact (I1.hok b o q).stay (fun _ _ _ z=>z) (fun c z=>old z) fun c ys z=>old z
  exact ⟨.ref s.heap.objs.size,_,I2,rfl,⟨s.heap.objs.size,x,rfl,hTn,rfl,fun ys hy=>by rw [I.list_inj hy hq]; exact hx⟩,⟨⟨u,by simpa using he2⟩,hit'.at fun o q=>(sb.2 it (Ne.symm hei)).trans q⟩,fun b hb=>by
   rcases List.mem_cons.mp hb with rfl | hb
   ·rw [aA1 (Ne.symm hTe)]; exact f0
   ·have hb:b=it:=by simpa using hb
    subst hb
    rw [aA1 (Ne.symm hTi)]; exact g0⟩
 done:=by
  intro X hP hw hK hc i pins s σ H E I hf st hg
  subst hP hw hK
  obtain ⟨xs,hq,hx⟩:=hg
  obtain ⟨its,rv,p,hz⟩:=I.list hq
  obtain ⟨⟨old,he⟩,hit⟩:=st
  obtain ⟨g0,g1,g2,g3,g4,g5⟩:=hf it (by simp)
  have hl:=rv.length
  exact wpAny_pyNext_enum_end (I.ok.hd hc) he hit p.isList (by simp; omega) fun h' eb=>⟨rfl,I.turned (t':=s.toks) (fun b o hb e=>eb b o hb e) g0 g1 g3 g4 g5⟩
 self:=fun _ _ _ _ _ ⟨⟨_,he⟩,_⟩ h=>wpAny_pyIter_enum he h
noncomputable def bBt (K:PySem.W.Frag) (tl:TA):TI:=fun σ H R=>tl σ H fun vs H1=>∃ a,vs=[.ref a]/\(∃ xs,SqL K H1 a xs)/\R (Ite K a) H1
theorem aWn {l:Expr} {tl:TA} {elts:List Expr} {k1:Nat} {tpos p pos:Pos} (hg:Gl X "enumerate") (hm:X.mg "enumerate"=none) (ha:PA X [l] tl) (hs:starEach [l] X.env=[(false,eval l X.env)]:=by rfl) :
  PI X (.Tuple elts k1 tpos) (.Call (.Name "enumerate" p) [l] [] pos) (bBt X.K tl):=by
 intro pins s σ H R I h
 refine Call_ (aGh I hg hm aLr (PyProof.Rows.callWith_type1 (thn (ha pos pins s σ H _ I h) fun us s1 ⟨vs,H1,I1,r1,q1⟩=>?_) hs rfl))
 obtain ⟨a,e,⟨xs,hq⟩,q⟩:=q1
 subst e
 cases r1 with
 | cons r rr =>
  cases rr
  cases r
  obtain ⟨its,rv,p,hz⟩:=I1.list hq
  refine call_enumerate_list p.isList fun h' he hit hsz kp=>?_
  refine wpAny_pyIter_enum he ?_
  have I2:Inv X pins σ H1 { s1 with heap:=h' }:=I1.kept (t':=s1.toks) kp
  refine ⟨_,[s1.heap.objs.size+1,s1.heap.objs.size],_,_,H1,rfl,I2,aPu a _ _ (Nat.ne_of_gt (Nat.lt_succ_self _)),⟨⟨_,he⟩,hit⟩,fun b hb=>?_,q⟩
  rcases List.mem_cons.mp hb with rfl | hb
  ·exact I1.fpOk (Nat.le_succ _) (I1.hok.fresh (Nat.le_succ _))
  ·have hb:b=s1.heap.objs.size:=by simpa using hb
   subst hb
   exact I1.fpOk (Nat.le_refl _) (I1.hok.fresh (Nat.le_refl _))
noncomputable def SetS (w:World) (a:Addr) (xs:List Str):HO:=.ext fun h=>aFx w h a xs
theorem aEb:∀ {xs:List Str} {us:List Value},aB5 (xs.map V.str) us->StrsAre us xs
 | [],_,.nil=>.nil
 | x::xs,_,.cons r t=>by
  obtain ⟨tk,rfl⟩:=r
  exact .cons x tk (aEb t)
noncomputable def bAe (w:World):List V->Hp->VK->Prop:=fun vs H Q=>∃ (p:Addr) (xs:List Str),vs=[.ref p]/\H p=some (.lst (xs.map V.str))/\xs.length<=4000/\∀ (l:Addr) (ys:List Str),H l=none->ys.Nodup->(∀ z,z∈ys ↔ z∈xs)->Q (.ref l) (upd H l (SetS w l ys))
theorem aSq (hc:X.calm=true):aDn X (.type "set") (bAe X.w):=by
 intro pins s σ H vs us Q I r h
 obtain ⟨p,xs,rfl,hp,hl,q⟩:=h
 obtain ⟨u,rfl,ru⟩:=r.one
 cases ru
 obtain ⟨z,its,n,rv,hlen,e⟩:=I.lstM hp
 have hst:=aEb rv
 refine aQc (items:=its.toArray) (xs:=xs) (I.ok.hd hc) ⟨_,e,rfl,n,rfl⟩ (fun i v hv=>?_) (by rw [List.size_toArray,← hlen,List.length_map]) (by unfold scanBound; omega) fun h' tk ys ht hm kp=>?_
 ·have hv:its[i]?=some v:=by simpa using hv
  have hi:i < xs.length:=by
   have:=(List.getElem?_eq_some_iff.mp hv).1
   rw [← hlen,List.length_map] at this
   exact this
  obtain ⟨u,e1,r1⟩:=rv.get (i:=i) (x:=.str xs[i]) (by simp [hi])
  rw [hv] at e1
  cases e1
  obtain ⟨t,rfl⟩:=r1
  exact ⟨t,by simp [List.getD,hi]⟩
 ·have hnd:ys.Nodup:=by obtain ⟨_,_,_,_,_,_,nd,_⟩:=ht; exact nd
  have hex:∃ o,h'.get? s.heap.objs.size=some o:=by obtain ⟨es,ep,t,g,_⟩:=ht; exact ⟨_,g⟩
  refine ⟨.ref s.heap.objs.size,_,I.laid (o:=SetS X.w s.heap.objs.size ys) (fun b o e=>kp b o (Heap.lt_size e) e) (Nat.le_refl _) ⟨ht,hex,fun h1 h2 x k=>x.at k⟩,rfl,q _ ys (I.hok.fresh (Nat.le_refl _)) hnd hm⟩
theorem Paired.at {α β:Type} {F:α->β->Prop}:∀ {xs:List α} {ys:List β} {i:Nat} {x:α},Paired F xs ys->xs[i]?=some x->∃ y,ys[i]?=some y/\F x y
 | _,_,_,_,.nil,e=>by simp at e
 | _,_,0,_,.cons r _,e=>by simp at e; subst e; exact ⟨_,rfl,r⟩
 | _,_,i+1,x,.cons _ t,e=>by
  obtain ⟨y,h1,h2⟩:=Paired.at (i:=i) (x:=x) t (by simpa using e)
  exact ⟨y,by simpa using h1,h2⟩
theorem aIy:∀ {kvs:List (Key×V)} {ps:List (Key×Value)} {m:List (Key×V)} {n:List (Key×Value)},KV kvs ps->KV m n->KV (aEy m kvs) (aJ4 n ps)
 | _,_,_,_,.nil,r=>r
 | _,_,m,n,.cons (a:=p) (b:=q) ⟨e,rv⟩ t,r=>by
  show KV (aEy (aD7 m p.1 p.2) _) (aJ4 (stored n q.1 q.2) _)
  refine aIy t ?_
  rw [← e]
  exact r.put p.1 rv
end
end L2
namespace L2
open PySem PySem.Spec PyProof.Rows
section
variable {X:Cx}
noncomputable def rJoin:V->List V->Hp->VK->Prop:=fun x vs H Q=>∃ (z:Str) (l:Addr) (ys:List Str),x=.str z/\vs=[.ref l]/\H l=some (.lst (ys.map V.str))/\(ys.map (·.length)).sum+ys.length * z.length<=16777216/\Q (.str (Str.join z ys)) H
theorem aW8:MtR X "str.join" rJoin:=by
 intro pins s σ H x vs v us Q I rx rv h
 obtain ⟨z,l,ys,rfl,rfl,hl,hs,q⟩:=h
 obtain ⟨t,rfl⟩:=rx
 obtain ⟨u,rfl,ru⟩:=rv.one
 cases ru
 obtain ⟨_,its,n,r,_,e⟩:=I.lstM hl
 refine join_list ⟨_,e,rfl,n,rfl⟩ (by simpa using aEb r) hs fun t' k=>?_
 have e1:Txt.join z ys=Str.join z ys:=StrLaws.glued_eq_join z ys
 rw [e1]
 exact ⟨.str _,H,I.tok _,⟨_,rfl⟩,q⟩
noncomputable def rSlS:V->Option Int->Option Int->Hp->VK->Prop:=fun x lo hi H Q=>∃ z:Str,x=.str z/\z.length<=sizeLine/\Q (.str (Txt.slice z lo hi)) H
theorem aQ2 {v:Value} {lo:Option Int} (h:IsPart v lo):∃ l:Option (Int×Tok),l.map (·.1)=lo/\v=partValue l:=by
 cases h with
 | none=>exact ⟨none,rfl,rfl⟩
 | int i t=>exact ⟨some (i,t),rfl,rfl⟩
theorem aYz:SlR X rSlS:=by
 intro pins s σ H x v vl vu lo hi sl Q I rx hs pl pu h
 obtain ⟨z,rfl,hz,q⟩:=h
 obtain ⟨t,rfl⟩:=rx
 obtain ⟨l,e1,rfl⟩:=aQ2 pl
 obtain ⟨u,e2,rfl⟩:=aQ2 pu
 subst e1 e2
 refine ⟨"str",_,F.slot_str_getitem.lookup,typeIs_str _ _ _,wpAny_getItem_str_slice (l:=l) (u:=u) (st:=none) ?_ rfl (post_val_or_str ?_)⟩
 ·obtain ⟨o,a,b,c⟩:=hs
  exact ⟨o,a,b,c⟩
 ·exact ⟨Nat.le_trans (Txt.slice_le z _ _) hz,fun t' k=>⟨.str _,H,I.tok _,⟨_,rfl⟩,q⟩⟩
end
end L2
namespace L2
section
variable {α:Type} [DecidableEq α]
noncomputable abbrev aX6 (α:Type):=α×α×Rat
noncomputable abbrev EntD (α:Type):=Rat×Option (Nat×α)
noncomputable abbrev AL (α β:Type):=List (α×β)
noncomputable def aget {β:Type} (l:AL α β) (k:α):Option β:=(l.find? fun kv=>decide (kv.1=k)).map (·.2)
noncomputable def aput {β:Type} (l:AL α β) (k:α) (v:β):AL α β:=if (l.any fun kv=>decide (kv.1=k)) then l.map (fun kv=>if kv.1=k then (kv.1,v) else kv) else l++[(k,v)]
noncomputable def Jn (r:aX6 α) (q p:α):Prop:=(r.1=q/\r.2.1=p)∨(r.2.1=q/\r.1=p)
noncomputable def bCh (tk:Nat->Option Rat) (k:Nat) (t:Rat):Prop:=∀ u,tk k=some u->t<=u
variable (net:List (aX6 α)) (push:α -> Option Rat) (tk:Nat -> Option Rat)
inductive Arr:α->Rat->Prop
 | push {p t}:push p=some t->Arr p t
 | run {q s p k r}:Arr q s->net[k]?=some r->Jn r q p->bCh tk k (s+r.2.2)->Arr p (s+r.2.2)
structure Falls (m:α->Option Rat):Prop where
 arr:∀ p t,m p=some t->Arr net push tk p t
 le:∀ p t,Arr net push tk p t->∃ u,m p=some u/\u<=t
variable {net push tk}
end
end L2
namespace L2
section
variable {α:Type} [DecidableEq α] {net:List (aX6 α)} {push:α -> Option Rat} {tk:Nat -> Option Rat} {F:AL α (EntD α)}
end
end L2
namespace L2
section
variable {κ:Type} [DecidableEq κ]
noncomputable def lstep (m:AL κ Rat) (x:κ×Rat):AL κ Rat:=match aget m x.1 with
 | none=>aput m x.1 x.2
 | some r=>if x.2 < r then aput m x.1 x.2 else m
noncomputable def lst (l:List (κ×Rat)):AL κ Rat:=l.foldl lstep []
end
end L2
namespace L2
end L2
namespace L2
open PySem PySem.Spec PyProof.Rows
section
variable {X:Cx} {a b:Expr} {ta tb td ty tv:TE} {pos:Pos} {aIr:List Expr} {σ:St} {H H':Hp} {Q:VK} {D:aFy} {K:PySem.W.Frag} {w:World} {v x:V}
theorem aNx (k:∀ p,H p=none->Q (.ref p) (upd H p (.dK []))):aUw σ H Q:=k
noncomputable def dG (x y:V) (H:Hp) (Q:VK):Prop:=∃ a v,x=.ref a/\aPk H a y (some v)/\Q v H
theorem aZ2 (k:td σ H fun x H1=>ty σ H1 fun y H2=>dG x y H2 Q):aYu td ty σ H Q:=k
theorem aTn {p:Addr} {kvs:List (Key×V)} {s:Str} (h:Rd H p (.dK kvs)) (e:aD2 kvs (Sum.inr s)=some v) (k:Q v H):dG (.ref p) (.str s) H Q:=⟨p,v,rfl,.inl ⟨kvs,Sum.inr s,h,rfl,e.symm⟩,k⟩
noncomputable def dI (y x:V) (H:Hp) (Q:VK):Prop:=∃ a o,x=.ref a/\aPk H a y o/\Q (.bl o.isSome) H
noncomputable def dN (y x:V) (H:Hp) (Q:VK):Prop:=∃ a o,x=.ref a/\aPk H a y o/\Q (.bl (!o.isSome)) H
theorem r_din (k:ty σ H fun y H1=>td σ H1 fun x H2=>dI y x H2 Q):tDIn ty td σ H Q:=k
theorem aZ1 (k:ty σ H fun y H1=>td σ H1 fun x H2=>dN y x H2 Q):aPy ty td σ H Q:=k
theorem r_dIs {p:Addr} {kvs:List (Key×V)} {s:Str} (h:Rd H p (.dK kvs)) (k:Q (.bl (aD2 kvs (Sum.inr s)).isSome) H):dI (.str s) (.ref p) H Q:=⟨p,_,rfl,.inl ⟨kvs,Sum.inr s,h,rfl,rfl⟩,k⟩
theorem r_dNs {p:Addr} {kvs:List (Key×V)} {s:Str} (h:Rd H p (.dK kvs)) (k:Q (.bl (!(aD2 kvs (Sum.inr s)).isSome)) H):dN (.str s) (.ref p) H Q:=⟨p,_,rfl,.inl ⟨kvs,Sum.inr s,h,rfl,rfl⟩,k⟩
noncomputable def dP (D:aFy) (σ:St) (v x y:V) (H:Hp):Prop:=∃ a H4,x=.ref a/\aYi H a y v H4/\D.nx σ H4
theorem aZ0 (k:tv σ H fun v H1=>td σ H1 fun x H2=>ty σ H2 fun y H3=>dP D σ v x y H3):aY3 td ty tv D σ H:=k
theorem r_dPk {p:Addr} {kvs:List (Key×V)} {c:Key} (h:H p=some (.dK kvs)) (hl:kvs.length<=1000) (k:D.nx σ (upd H p (.dK (aD7 kvs c v)))):dP D σ v (.ref p) (kV c) H:=⟨p,_,rfl,aYi.k h (aCj hl),k⟩
theorem aTm {p:Addr} {kvs:List (Key×V)} {s:Str} (h:H p=some (.dK kvs)) (hl:kvs.length<=1000) (k:D.nx σ (upd H p (.dK (aD7 kvs (Sum.inr s) v)))):dP D σ v (.ref p) (.str s) H:=r_dPk (c:=Sum.inr s) h hl k
noncomputable def dG2 (ty tx:TE) (σ:St) (Q:VK) (x:V) (H1:Hp):Prop:=∃ a,x=.ref a/\IsD H1 a/\ty σ H1 fun y H2=>tx σ H2 fun z H3=>∃ o,aPk H3 a y o/\Q (o.getD z) H3
theorem aWg {tx:TE} (k:td σ H (dG2 ty tx σ Q)):aUx td ty tx σ H Q:=k
theorem aU8 {a:Addr} {xs:List V} {g:TG} {tb:TS} (Pv:Nat->St->Hp->Prop) (h0:Pv 0 σ H) (hl:∀ i σ H,i<=xs.length->Pv i σ H->SqL K H a xs)
  (hs:∀ i x T σ H,xs[i]?=some x->H T=none->Pv i σ H->g (.ref T) σ (upd H T (.tup [.int i,x])) fun σ2 H2=>tb ⟨Pv (i+1),D.rt,D.nx,Pv (i+1)⟩ σ2 H2) (hd:∀ σ H,Pv xs.length σ H->D.nx σ H):bBx g tb D σ (Ite K a) H:=by
 refine ⟨fun i m σ H=>m=xs.length - i/\i<=xs.length/\Pv i σ H,⟨_,rfl,Nat.zero_le _,h0⟩,?_⟩
 rintro i m σ H ⟨rfl,hi,p⟩
 have q:=hl i σ H hi p
 by_cases hlt:i < xs.length
 ·refine .inr ⟨⟨xs,xs[i],q,by simp [hlt]⟩,Pv (i+1),fun σ' H' q=>⟨xs.length - (i+1),by omega,rfl,hlt,q⟩,fun x H' y=>?_⟩
  obtain ⟨T,x',rfl,hT,rfl,e⟩:=y
  exact hs i x' T σ H (e xs q) hT p
 ·have:i=xs.length:=by omega
  subst this
  exact .inl ⟨⟨xs,q,Nat.le_refl _⟩,hd σ H p⟩
theorem aWb {tl:TA} {R:It->Hp->Prop} (k:tl σ H fun vs H1=>∃ a,vs=[.ref a]/\(∃ xs,SqL K H1 a xs)/\R (Ite K a) H1):bBt K tl σ H R:=k
theorem e_K {a:Addr} {xs:List V} {R:It->Hp->Prop} (h:H a=some (.lst xs)) (k:R (Ite K a) H):∃ a',[V.ref a]=[.ref a']/\(∃ xs,SqL K H a' xs)/\R (Ite K a') H:=⟨a,rfl,⟨xs,SqL.of h⟩,k⟩
theorem aWd {p:Addr} {x y:V} {t:TGs} {R:St->Hp->Prop} (h:H p=some (.tup [x,y])) (k:t [x,y] σ H R):bBu K 2 t (.ref p) σ H R:=⟨p,_,rfl,SqT.of h,rfl,k⟩
theorem aWc {p:Addr} {x y z:V} {t:TGs} {R:St->Hp->Prop} (h:H p=some (.tup [x,y,z])) (k:t [x,y,z] σ H R):bBu K 3 t (.ref p) σ H R:=⟨p,_,rfl,SqT.of h,rfl,k⟩
theorem aZx {R:St->Hp->Prop} (k:R σ H):gNil [] σ H R:=⟨rfl,k⟩
theorem aWf {t:TG} {u:TGs} {r:List V} {R:St->Hp->Prop} (k:t v σ H fun σ' H'=>u r σ' H' R):aRy t u (v::r) σ H R:=⟨v,r,rfl,k⟩
end
noncomputable def TK (H H':Hp):Prop:=∀ p xs,H p=some (.tup xs)->H' p=some (.tup xs)
theorem TK.refl (H:Hp):TK H H:=fun _ _ h=>h
theorem TK.trans {H H1 H2:Hp} (a:TK H H1) (b:TK H1 H2):TK H H2:=fun p xs h=>b p xs (a p xs h)
theorem aAn.tk {H H':Hp} (s:aAn H H'):TK H H':=fun p xs h=>s _ _ h
theorem TK.new {H:Hp} {q:Addr} {o:HO} (h:H q=none):TK H (upd H q o):=(aAn.new h).tk
theorem TK.lst {H:Hp} {q:Addr} {o:HO} {ys:List V} (h:H q=some (.lst ys)):TK H (upd H q o):=fun p xs e=>by rw [aA1 (aW5 e h (by intro z; cases z))]; exact e
theorem TK.dic {H:Hp} {q:Addr} {o:HO} {ys:List (Key×V)} (h:H q=some (.dK ys)):TK H (upd H q o):=fun p xs e=>by rw [aA1 (aW5 e h (by intro z; cases z))]; exact e
noncomputable def FrQ (H:Hp) (v:V) (q:Rat):Prop:=∃ p,v=.ref p/\H p=some (.tup [.int q.num,.int q.den])
theorem FrQ.tk {H H':Hp} {v:V} {q:Rat} (h:FrQ H v q) (t:TK H H'):FrQ H' v q:=let ⟨p,e,h⟩:=h; ⟨p,e,t _ _ h⟩
noncomputable def aCg (H:Hp) (v:V) (r:Key×Key×Rat):Prop:=∃ p u,v=.ref p/\H p=some (.tup [kV r.1,kV r.2.1,u])/\FrQ H u r.2.2
theorem aCg.tk {H H':Hp} {v:V} {r:Key×Key×Rat} (h:aCg H v r) (t:TK H H'):aCg H' v r:=let ⟨p,u,e,h,f⟩:=h; ⟨p,u,e,t _ _ h,f.tk t⟩
section
variable {α β:Type} {F G:α -> β -> Prop}
theorem Pd.imp:∀ {l:List α} {m:List β},Paired F l m->(∀ a b,F a b->G a b)->Paired G l m
 | _,_,.nil,_=>.nil
 | _,_,.cons r t,f=>.cons (f _ _ r) (Pd.imp t f)
theorem Pd.snoc:∀ {l:List α} {m:List β} {a:α} {b:β},Paired F l m->F a b->Paired F (l++[a]) (m++[b])
 | _,_,_,_,.nil,r=>.cons r .nil
 | _,_,_,_,.cons q t,r=>.cons q (Pd.snoc t r)
theorem Pd.get:∀ {l:List α} {m:List β} {i:Nat} {b:β},Paired F l m->m[i]?=some b->∃ a,l[i]?=some a/\F a b
 | _,_,_,_,.nil,e=>by simp at e
 | _,_,0,_,.cons r _,e=>by simp at e; subst e; exact ⟨_,rfl,r⟩
 | _,_,i+1,b,.cons _ t,e=>by
  obtain ⟨y,h1,h2⟩:=Pd.get (i:=i) (b:=b) t (by simpa using e)
  exact ⟨y,by simpa using h1,h2⟩
end
noncomputable def LQ {β:Type} (R:Hp->V->β->Prop) (H:Hp) (l:Addr) (ds:List β):Prop:=∃ vs,H l=some (.lst vs)/\Paired (R H) vs ds
section
variable {β:Type} {R:Hp -> V -> β -> Prop} {H H':Hp} {l d:Addr} {ds:List β} {m:List (Key×β)} {kvs:List (Key×V)}
theorem LQ.same (h:LQ R H l ds) (hR:∀ v b,R H v b->R H' v b) (s:aAn H H'):LQ R H' l ds:=let ⟨vs,a,b⟩:=h; ⟨vs,s _ _ a,Pd.imp b hR⟩
end
theorem i_sS {β:Type} {b:β} {A B:Prop} (k:A):if (some b).isSome=true then A else B:=k
theorem r_nxD {D:aFy} {σ:St} {H:Hp} (k:D.nx σ H):D.nx σ H:=k
theorem r_rtD {D:aFy} {v:V} {H:Hp} (k:D.rt v H):D.rt v H:=k
theorem aGr.u1 {k:Nat} {A:Around} (r:aGr k A):A.units+1 < cLine:=by have:=r.units; omega
section
variable {X:Cx} {σ:St} {H H':Hp} {Q:VK} {K:PySem.W.Frag} {v x y:V} {w:World}
noncomputable def rIsN:R2:=fun x y H Q=>y=.non/\Q (.bl (decide (x=.non))) H
noncomputable def bAf:R2:=fun x y H Q=>y=.non/\Q (.bl (!decide (x=.non))) H
theorem aWu:OpR X (compareOp .Is) rIsN:=bA2
theorem aTy:OpR X (compareOp .IsNot) bAf:=aWr
theorem aZr {p:Addr} (k:Q (.bl false) H):rIsN (.ref p) .non H Q:=⟨rfl,k⟩
theorem aZs (k:Q (.bl true) H):rIsN .non .non H Q:=⟨rfl,k⟩
theorem aZm {p:Addr} (k:Q (.bl true) H):bAf (.ref p) .non H Q:=⟨rfl,k⟩
noncomputable def bmK (K:PySem.W.Frag) (T:String) (r:V->List V->Hp->VK->Prop) (t:TA) (σ:St) (Q:VK):VK:=fun x H1=>tyV K T x H1/\t σ H1 fun xs H2=>r x xs H2 Q
theorem r_bm {T:String} {r:V->List V->Hp->VK->Prop} {to:TE} {t:TA} (k:to σ H (bmK K T r t σ Q)):tBM K T r to t σ H Q:=k
theorem r_bmL {r:V->List V->Hp->VK->Prop} {t:TA} {l:Addr} {xs:List V} (h:H l=some (.lst xs)) (k:t σ H fun vs H2=>r (.ref l) vs H2 Q):bmK K "list" r t σ Q (.ref l) H:=⟨.inl ⟨rfl,xs,SqL.of h⟩,k⟩
theorem r_bmS {r:V->List V->Hp->VK->Prop} {t:TA} {s:Str} (k:t σ H fun vs H2=>r (.str s) vs H2 Q):bmK K "str" r t σ Q (.str s) H:=⟨rfl,k⟩
theorem aOv {l:Addr} {xs:List V} (h:H l=some (.lst xs)) (hl:xs.length<=1000) (k:Q .non (upd H l (.lst (xs++[y])))):aQq (.ref l) [y] H Q:=⟨l,xs,y,rfl,rfl,h,aCj hl,k⟩
theorem r_ext {l b:Addr} {xs zs:List V} (h:H l=some (.lst xs)) (h2:H b=some (.lst zs)) (hl:xs.length+zs.length<=1000) (k:Q .non (upd H l (.lst (xs++zs)))):aQp (.ref l) [.ref b] H Q:=⟨l,b,xs,zs,rfl,rfl,h,h2,aHu hl,k⟩
end
end L2
namespace L2
open PySem PySem.Spec PyProof.Rows
theorem aRi {α:Type} [DecidableEq α]:∀ {l m:List α},l.Nodup->(∀ x∈l,x∈m)->l.length<=m.length
 | [],_,_,_=>Nat.zero_le _
 | a::l,m,nd,h=>by
  rw [List.nodup_cons] at nd
  have ha:=h a (by simp)
  have:=aRi (l:=l) (m:=m.erase a) nd.2 fun x hx=>by
   have hne:x≠a:=fun z=>nd.1 (by rw [← z]; exact hx)
   exact (List.mem_erase_of_ne hne).mpr (h x (by simp [hx]))
  have h2:=List.length_erase_of_mem ha
  have h3:0 < m.length:=List.length_pos_of_mem ha
  rw [List.length_cons]
  omega
theorem aQs {kvs:List (Key×V)} {k:Key} {v:V} (h:k∉kvs.map (·.1)):aD7 kvs k v=kvs++[(k,v)]:=by
 unfold aD7
 rw [if_neg]
 intro z
 obtain ⟨x,hx,e⟩:=List.any_eq_true.mp z
 exact h (List.mem_map.mpr ⟨x,hx,of_decide_eq_true e⟩)
theorem aLb:∀ {more kvs:List (Key×V)},((kvs++more).map (·.1)).Nodup->aEy kvs more=kvs++more
 | [],kvs,_=>by simp [aEy]
 | kv::r,kvs,nd=>by
  have h1:kv.1∉kvs.map (·.1):=by
   rw [List.map_append,List.nodup_append] at nd
   intro z
   exact nd.2.2 _ z kv.1 (by simp) rfl
  show aEy (aD7 kvs kv.1 kv.2) r=_
  rw [aQs h1,aLb (by simpa using nd)]
  simp
section
variable {te:TE} {Q:VK} {H:Hp} {caps:St}
end
theorem LQ.sm {β:Type} {R:Hp->V->β->Prop} {H H':Hp} {l:Addr} {ds:List β} (h:LQ R H l ds) (hR:∀ {H H' v b},R H v b->TK H H'->R H' v b) (s:aAn H H'):LQ R H' l ds:=h.same (fun v b q=>hR q s.tk) s
section
variable {σ:St} {H:Hp} {Q:VK} {K:PySem.W.Frag}
end
theorem aLj {X:Cx} {scope:Scope} {caps:List (Str×Addr)} {N:List Str} {C:Addr} {s0:Shared} {H0:Hp} {ex:List Addr}:IxR (aA6 X scope caps N C s0 H0 ex) (aOw X.K):=aAk
noncomputable abbrev aD3:=Str×Str×Rat
noncomputable def kn (n:List aD3):List (aX6 Key):=n.map fun r=>(Sum.inr r.1,Sum.inr r.2.1,r.2.2)
noncomputable def names (n:List aD3):List Str:=n.map (·.1)++n.map (·.2.1)
theorem aXf {n:List aD3} {i:Nat} {r:aX6 Key} (h:(kn n)[i]?=some r):∃ s,n[i]?=some s/\r=(Sum.inr s.1,Sum.inr s.2.1,s.2.2):=by
 unfold kn at h
 rw [List.getElem?_map] at h
 cases e:n[i]? with
 | none=>rw [e] at h; cases h
 | some s=>rw [e] at h; exact ⟨s,rfl,(Option.some.inj h).symm⟩
theorem aJ0 {t b:Int} (hb:b≠0):(Rat.divInt t b).num=aJ2 t b/\((Rat.divInt t b).den:Int)=aIx t b:=aZa hb (aN5 hb) (aXb hb) (aLc hb)
theorem FrQ.low {H:Hp} {t b:Int} {p:Addr} (hb:b≠0) (h:H p=some (.tup [.int (aJ2 t b),.int (aIx t b)])):FrQ H (.ref p) (Rat.divInt t b):=⟨p,rfl,by rw [h,(aJ0 hb).1,(aJ0 hb).2]⟩
theorem aXa {t b:Int} (ht:0 < t) (hb:0 < b):0 < Rat.divInt t b:=by
 rw [Rat.lt_iff,(aJ0 (t:=t) (b:=b) (by omega)).1]
 show (0:Int) * _ < aJ2 t b * 1
 rw [Int.zero_mul,Int.mul_one]
 have e:=aLc (t:=t) (b:=b) (by omega)
 have hp:=aN5 (t:=t) (b:=b) (by omega)
 have:0 < aJ2 t b * b:=by rw [e]; exact Int.mul_pos ht hp
 exact Int.pos_of_mul_pos_left this hb
noncomputable abbrev abc:Str:=Str.ofString "abcdefghijklmnopqrstuvwxyz"
theorem aSx:abc.length=26:=by decide +kernel
theorem aOi:∀ j:Nat,j < 26->atI abc.cps.toList (j:Int)=some (97+j):=by decide +kernel
section
variable {σ:St} {H:Hp} {Q:VK} {K:PySem.W.Frag}
theorem aQk {z:Str} {i:Int} {c:Nat} (hz:z.length<=100000) (e:atI z.cps.toList i=some c) (k:Q (.str ⟨#[c]⟩) H):aOw K (.str z) (.int i) H Q:=.inr (.inr ⟨z,i,c,rfl,rfl,by rw [sizeLine_eq]; omega,e,k⟩)
theorem aEx {a b:Str} (h:a.length+b.length<=100000) (k:Q (.str (a++b)) H):aOx K (.str a) (.str b) H Q:=.inr (.inr (.inr ⟨a,b,rfl,rfl,by rw [sizeLine_eq]; omega,k⟩))
end
theorem aCy (a b:Str):(a++b).length=a.length+b.length:=by
 show (a.cps++b.cps).size=_
 simp [Str.length]
noncomputable def dFr (q:Rat):Dt:=.tup [.int q.num,.int q.den]
noncomputable def aUj (r:aD3):Dt:=.tup [.str r.1,.str r.2.1,dFr r.2.2]
theorem bB5 {H:Hp} {v:V} {q:Rat} (h:FrQ H v q):Den H (dFr q) v:=let ⟨p,e,h⟩:=h; e ▸ den2 h
theorem aCo {H:Hp}:∀ {n:List aD3} {vs:List V},Paired (aCg H) vs (kn n)->aKh H (n.map aUj) vs
 | [],_,.nil=>rfl
 | r::n,_,.cons h t=>by
  obtain ⟨p,u,rfl,h1,h2⟩:=h
  exact ⟨_,_,rfl,⟨p,_,rfl,h1,_,_,rfl,rfl,_,_,rfl,rfl,_,_,rfl,bB5 h2,rfl⟩,aCo t⟩
theorem aFw:∀ n:List aD3,aH1 (n.map aUj)<=10
 | []=>by decide
 | r::n=>by
  have h1:=aFw n
  have h2:dep (aUj r)<=10:=Nat.le_of_ble_eq_true rfl
  show max _ _<=_
  omega
noncomputable abbrev sA:Str:=Str.ofString "a"
noncomputable abbrev sB:Str:=Str.ofString "b"
noncomputable def n0:List aD3:=[(sA,sB,Rat.divInt 1 2)]
end L2
namespace L2
open PySem PySem.Spec PySem.W PySem.Calls PyProof.Rows PySem.Builtin PySem.Builtin.ObjectAttr PySem.Builtin.Getset_descriptor
structure aPh (K:Frag) (C:Addr):Prop where
 ga:findIn K (.ref C) "__getattribute__"=some (some (.builtin "BaseException.__getattribute__"))
 gt:findIn K (.ref C) "__getattr__"=some none
 ca:findIn K (.ref C) "__class__"=some (some (.builtin "object.__class__"))
 ob:subIn K (.ref C) (.type "object")=some true
 be:subIn K (.ref C) (.type "BaseException")=some true
 ic:(clsIn K C).isSome=true
theorem aPh.obj {K:Frag} {C:Addr} (Z:aPh K C):∃ c d cd sl,K.lookup C=some ⟨c,d,.cls cd,sl⟩:=by
 have q:=Z.ic
 unfold clsIn at q
 split at q
 ·exact ⟨_,_,_,_,by assumption⟩
 ·cases q
noncomputable def aS4 (a C:Addr) (h:Heap):Prop:=∃ o,h.get? a=some o/\o.cls=.ref C
theorem aS4.ty {a C:Addr} {h:Heap} (M:Model) (p:aS4 a C h):Looks M h (typeOf (.ref a)) (.ref C):=by
 obtain ⟨o,h1,h2⟩:=p
 have q:=(Looks.ld (M:=M) (part:=some headPart) h1).andThen (f:=fun o=>pure o.cls) .now
 rw [h2] at q; exact q
section
variable {prog:Program} {w:World} {A:Around} {E:Value -> Shared -> Prop} {s:Shared} {K:Frag} {x C:Addr}
theorem aL3 {R:Result->Shared->Prop} {tp:Value} (Z:aPh K C) (X:K.In s.heap) (p:aS4 x C s.heap) (h:R (.ok (.ret (.ref C))) s) :
  codeAny (model prog w) A (.call (.builtin "getset_descriptor.__get__") ⟨[.builtin "object.__class__",.ref x,tp],[]⟩) R s:=by
 obtain ⟨h1,gs,dw,tn,so⟩:=s
 have L0:=p.ty (model prog w)
 have L1:=looks_subIn (M:=model prog w) X Z.ob
 refine codeAny_call_builtin (h:=KF.slot_gs.check _ _ _ _ _ _ _ _ KF.type_class (KF.args_gs _ _ _) ?_) KF.slot_gs.plain KF.entry_gs
 unfold Builtin.«getset_descriptor.__get__»; unfold descrGet; rw [dga_obj]; refine wpAny_bind (wpAny_pure ?_)
 unfold descrGetter descrCheckInstance; unfold descrNameAndClass isInstance; simp only [KF.owner_class]
 repeat lk
 refine ⟨Code.quiet_builtin _ (by decide +kernel),?_⟩; refine codeAny_builtin KF.entry_class ?_; unfold Builtin.«object.__class__»; unfold shownTypeOf
 repeat lk
 exact h
theorem aVt {nameV:Value} {Q:Unit->Shared->Prop} (Z:aPh K C) (X:K.In s.heap) (p:aS4 x C s.heap) (h:Q () s):wpAny (model prog w) A (checkBuiltinCall "BaseException.__getattribute__" ⟨[.ref x,nameV],[]⟩) Q E s:=by
 obtain ⟨h1,gs,dw,tn,so⟩:=s
 have q1:builtinKind "BaseException.__getattribute__"=some .slot:=by decide +kernel
 have q2:splitId "BaseException.__getattribute__"=some ("BaseException","__getattribute__"):=by decide +kernel
 have L0:=p.ty (model prog w)
 have L1:=looks_subIn (M:=model prog w) X Z.be
 have ha:=F.args_bexc_ga (.ref x) nameV
 simp only [checkBuiltinCall,q1,q2]
 refine wpAny_bind ?_
 ·unfold isInstance
  repeat (first | lk | wp_step)
  exact h
theorem aVs {tk:Tok} {Q:Fin->Shared->Prop} (Z:aPh K C) (X:K.In s.heap) (p:aS4 x C s.heap) (h:Q (.done (.ret (.ref C))) s) :
  wpAny (model prog w) A (Builtin.«object.__getattribute__» ⟨[.ref x,.str "__class__" tk],[]⟩) Q E s:=by
 obtain ⟨h1,gs,dw,tn,so⟩:=s
 have L0:=p.ty (model prog w)
 have L1:=looks_findIn (M:=model prog w) X Z.ca
 have q5:=F.typeOf_object_class; have q6:=F.slot_gs_get.lookup; have q7:=F.slot_gs_set.lookup
 obtain ⟨o,hx,hc⟩:=id p
 repeat (any_goals (first | assumption | (with_reducible refine wpAny_loadPart_at hx ?_; rw [hc]) | with_reducible refine L1.here ?_ | wp_step))
 refine aL3 Z X p ?_
 repeat any_goals (first | assumption | wp_step)
theorem aYk {tk:Tok} {R:Result->Shared->Prop} (Z:aPh K C) (X:K.In s.heap) (p:aS4 x C s.heap) (h:R (.ok (.ret (.ref C))) s) :
  codeAny (model prog w) A (.call (.builtin "BaseException.__getattribute__") ⟨[.ref x,.str "__class__" tk],[]⟩) R s :=
 codeAny_call_builtin F.attr_ValueError.ga.plain F.entry_bexc_ga (aVt Z X p (aVs Z X p h))
theorem x_by {tk:Tok} {Q:Value->Shared->Prop} (Z:aPh K C) (X:K.In s.heap) (p:aS4 x C s.heap) (h:Q (.ref C) s) :
  wpAny (model prog w) A (getAttrBy (.ref x) (.str "__class__" tk) false) Q E s:=by
 obtain ⟨h1,gs,dw,tn,so⟩:=s
 have L0:=p.ty (model prog w)
 have L1:=looks_findIn (M:=model prog w) X Z.ga
 have L2:=looks_findIn (M:=model prog w) X Z.gt
 have f3:=F.attr_ValueError.ga.bind (.ref x)
 have n2:(Value.builtin "BaseException.__getattribute__"==Value.builtin "object.__getattribute__")=false:=by decide +kernel
 have n1:(onTheHeap (Value.ref C)&&Value.builtin "BaseException.__getattribute__"==Value.builtin "object.__getattribute__")=false:=by rw [n2]; rfl
 have n0:(false&&onTheHeap (Value.builtin "BaseException.__getattribute__"))=false:=rfl
 obtain ⟨o,hx,hc⟩:=id p
 repeat (any_goals (first | assumption | (with_reducible refine wpAny_loadPart_at hx ?_; rw [hc]) | with_reducible refine L1.here ?_ | with_reducible refine L2.here ?_ | wp_step))
 refine aYk Z X p ?_
 repeat any_goals (first | assumption | wp_step)
theorem x_cls {Q:Option Value->Shared->Prop} (Z:aPh K C) (X:K.In s.heap) (p:aS4 x C s.heap) (h:Q (some (.ref C)) { s with toks:=s.toks+1 }):wpAny (model prog w) A (getAttr? (.ref x) "__class__") Q E s:=by
 obtain ⟨h1,gs,dw,tn,so⟩:=s
 unfold getAttr? getAttrBy?
 exact wpAny_bind (wpAny_mkText (wpAny_bind (wpAny_attempt (x_by (s:=⟨h1,gs,dw,tn+1,so⟩) Z X p (wpAny_pure h)))))
end
theorem aT6 {K:Frag} {a C:Addr} (Z:aPh K C):KitX K (.ref a) (.ref C) (aS4 a C) where
 ty:=fun M h _ p=>p.ty M
 it:=fun M h X _=>by
  obtain ⟨c,d,cd,sl,ho⟩:=Z.obj
  intro A' Q' E' s' k q
  unfold isType loadHead
  exact wpAny_bind (wpAny_loadPart (k C _ (X C _ ho)) (wpAny_pure q))
 ne:=fun h b _ _ _ _ X hb=>by
  obtain ⟨c,d,cd,sl,ho⟩:=Z.obj
  refine Bool.eq_false_iff.mpr ?_
  intro q
  obtain rfl:C=b:=Value.ref.inj (beq_iff_eq.mp q)
  rw [X C _ ho] at hb; cases hb
 ca:=fun X p k=>x_cls Z X p k
end L2
namespace L2
open PySem PySem.Spec PyProof.Rows
structure Kpt (fs xs:List Addr) (h h':Heap):Prop where
 keep:∀ b o,h.get? b=some o->b∉fs->b∉xs->h'.get? b=some o
 slot:∀ b o,h.get? b=some o->b∈fs->b∉xs->∃ sl,h'.get? b=some { o with slots:=sl }
section
variable {fs fs' xs xs':List Addr} {h h0 h1 h2 h':Heap} {H H':Hp} {P:Program} {w:World}
theorem Kpt.there (k:Kpt fs xs h h') {b:Addr} {o:Obj} (e:h.get? b=some o) (n:b∉xs):∃ sl,h'.get? b=some { o with slots:=sl }:=by
 by_cases hb:b∈fs
 ·exact k.slot b o e hb n
 ·exact ⟨o.slots,k.keep b o e hb n⟩
theorem Kpt.mv {L:Addr} (k:Kpt (L::fs) xs h h'):Kpt fs (L::xs) h h' where
 keep:=fun b o e n m=>k.keep b o e (fun z=>(List.mem_cons.mp z).elim (fun q=>m (q ▸ List.mem_cons_self)) n) fun z=>m (List.mem_cons_of_mem _ z)
 slot:=fun b o e n m=>k.slot b o e (List.mem_cons_of_mem _ n) fun z=>m (List.mem_cons_of_mem _ z)
theorem aB3.at {a:Addr} {o:HO} (x:aB3 P w H h a o):∃ ob,h.get? a=some ob:=by
 cases o with
 | lst xs=>obtain ⟨_,_,_,_,e⟩:=x; exact ⟨_,e⟩
 | tup xs=>obtain ⟨_,_,_,⟨o,e,_⟩⟩:=x; exact ⟨_,e⟩
 | dK kvs=>obtain ⟨_,_,_,_,o,_,_,e,_⟩:=x; exact ⟨_,e⟩
 | dT kvs=>obtain ⟨_,_,_,_,o,_,_,e,_⟩:=x; exact ⟨_,e⟩
 | set S n=>obtain ⟨o,_,_,_,e,_⟩:=x; exact ⟨_,e⟩
 | ins C dx fs=>obtain ⟨_,_,_,e,_⟩:=x; exact ⟨_,e⟩
 | own y=>obtain ⟨_,e⟩:=x; exact ⟨_,e⟩
 | xd fs=>obtain ⟨_,⟨_,_,_,e,_⟩,_⟩:=x; exact ⟨_,e⟩
 | rng lo hi=>obtain ⟨_,_,_,e⟩:=x; exact ⟨_,e⟩
 | frz ob u=>obtain ⟨e,_⟩:=x; exact ⟨_,e⟩
 | tbl ps=>exact ⟨_,(show h.get? a=some _ from x)⟩
 | met f y=>exact ⟨_,(show h.get? a=some _ from x)⟩
 | ext φ=>obtain ⟨_,⟨_,e⟩,_⟩:=x; exact ⟨_,e⟩
theorem HOk.none_of (x:HOk P w H h) {a:Addr} (e:h.get? a=none):H a=none:=by
 cases q:H a with
 | none=>rfl
 | some o =>
  obtain ⟨ob,z⟩:=(x a o q).at
  rw [e] at z; cases z
theorem HOk.kpt (ok:HOk P w H h) (k:Kpt fs xs h h') (hf:∀ b∈fs,H b=none) (hx:∀ b∈xs,H b=none):HOk P w H h':=fun a o e=>by
 have key:∀ b u,H b=some u->b∉fs/\b∉xs:=fun b u q=>⟨fun z=>(by rw [hf b z] at q; cases q),fun z=>(by rw [hx b z] at q; cases q)⟩
 refine (ok a o e).stay (fun b u hb q=>?_) (fun _ q=>q) fun _ _ q=>q
 rcases hb with rfl | hb
 ·exact k.keep b u q (key b o e).1 (key b o e).2
 ·exact k.keep b u q (key b _ hb).1 (key b _ hb).2
theorem HOk.track (ok:HOk P w H h) {a:Addr} {o:HO} (hn:H a=none) (new:aB3 P w (upd H a o) h a o):HOk P w (upd H a o) h:=fun b u q=>by
 by_cases hb:b=a
 ·subst hb; rw [aAe] at q; cases q; exact new
 ·rw [aA1 hb] at q
  exact (ok b u q).stay (fun _ _ _ z=>z) (fun c r=>by rw [aA1 (aAh r hn)]; exact r) fun c xs r=>by rw [aA1 (aAh r hn)]; exact r
theorem Un.kpt (u:Un fs [] H H' h0 h) (k:Kpt fs xs h h') (hx:∀ b∈xs,h0.get? b=none):Un fs [] H H' h0 h':=by
 have nx:∀ b o,h0.get? b=some o->b∉xs:=fun b o e z=>by rw [hx b z] at e; cases e
 refine ⟨fun b o e n hb he=>k.keep b o (u.keep b o e n hb he) hb (nx b o e),fun b o e n hb he=>?_,u.free,fun b o e he=>?_,u.tups,u.frzs,u.tbls⟩
 ·obtain ⟨sl,q⟩:=u.slot b o e n hb he
  obtain ⟨sl',q'⟩:=k.slot b _ q hb (nx b o e)
  exact ⟨sl',q'⟩
 ·obtain ⟨o',q⟩:=u.there b o e he
  obtain ⟨sl,q'⟩:=k.there q (nx b o e)
  exact ⟨_,q'⟩
theorem Un.track {ex:List Addr} {a:Addr} {o:HO} (u:Un fs ex H H' h h') (hn:H' a=none) (hh:h.get? a=none):Un fs ex H (upd H' a o) h h' where
 keep:=u.keep
 slot:=u.slot
 free:=fun b ob e n hx=>by rw [aA1 (fun z=>by rw [z,hh] at e; cases e)]; exact u.free b ob e n hx
 there:=u.there
 tups:=fun b xs q=>by rw [aA1 (aAh (u.tups b xs q) hn)]; exact u.tups b xs q
 frzs:=fun b ob xs q=>by rw [aA1 (aAh (u.frzs b ob xs q) hn)]; exact u.frzs b ob xs q
 tbls:=fun b ps q=>by
  obtain ⟨m,e⟩:=u.tbls b ps q
  exact ⟨m,by rw [aA1 (aAh e hn)]; exact e⟩
theorem Un.was (u:Un fs [] H H' h h') {a:Addr} (e:h'.get? a=none):h.get? a=none:=by
 cases q:h.get? a with
 | none=>rfl
 | some o =>
  obtain ⟨o',z⟩:=u.there a o q (by simp)
  rw [e] at z; cases z
end
noncomputable def aX9 (x T C:Addr) (fl:Value) (h:Heap):Prop:=∃ oe vs oT ts,h.get? x=some oe/\oe.cls=.ref C/\oe.data=.fields vs/\vs[1]?=some (.ref T)/\vs[2]?=some .none/\T≠x/\h.get? T=some oT/\oT.data=.fields ts/\ts[3]?=some fl
noncomputable abbrev Fly (x T C:Addr) (h:Heap):Prop:=aX9 x T C .none h
noncomputable def ExR (x C:Addr) (h:Heap):Prop:=∃ o vs,h.get? x=some o/\o.cls=.ref C/\o.data=.fields vs/\vs[2]?=some .none
theorem ExR.kitR {x C:Addr} {h:Heap} (f:ExR x C h):aS4 x C h:=by
 obtain ⟨oe,_,e,c,_⟩:=f
 exact ⟨oe,e,c⟩
theorem aX9.exR {x T C:Addr} {fl:Value} {h:Heap} (f:aX9 x T C fl h):ExR x C h:=by
 obtain ⟨oe,vs,_,_,e,c,d,_,z,_⟩:=f
 exact ⟨oe,vs,e,c,d,z⟩
theorem Kpt.refl {fs xs:List Addr} {h:Heap}:Kpt fs xs h h:=⟨fun _ _ e _ _=>e,fun _ o e _ _=>⟨o.slots,e⟩⟩
theorem Kpt.upd {fs xs:List Addr} {h h1:Heap} {a:Addr} (k:Kpt fs xs h h1) (f:Obj->Obj) (ha:a∈xs∨h.get? a=none):Kpt fs xs h (h1.update a f):=by
 have na:∀ b o,h.get? b=some o->b∉xs->a≠b:=fun b o e n z=>by
  rcases ha with q | q
  ·exact n (z ▸ q)
  ·rw [z,e] at q; cases q
 exact ⟨fun b o e n m=>(Heap.get?_update_other _ _ (na b o e m)).trans (k.keep b o e n m),fun b o e n m=>(k.slot b o e n m).imp fun sl q=>(Heap.get?_update_other _ _ (na b o e m)).trans q⟩
theorem Kpt.push {fs xs:List Addr} {h h1:Heap} (k:Kpt fs xs h h1) (o:Obj):Kpt fs xs h (h1.push o) :=
 ⟨fun b u e n m=>Heap.get?_push_of_some _ (k.keep b u e n m),fun b u e n m=>(k.slot b u e n m).imp fun sl q=>Heap.get?_push_of_some _ q⟩
section
variable {M:Model} {A:Around} {E:Value -> Shared -> Prop} {s:Shared} {base:Heap} {env:Env} {outer l:List Env} {L x T C:Addr} {Q:Unit -> Shared -> Prop}
noncomputable def aW4 (env:Env) (L x:Addr) (head:Value) (b:Bool):Sem Unit:=frameOf env >>= fun a=>entryPlaceOf L b >>= fun pl=>EntryCells.newEntry head a .none (rawInt L) .none pl >>= fun v=>setField (.ref x) 1 v
theorem aOd {oe:Obj} {vs:Array Value} {head:Value} {b:Bool} (hfr:A.frames=some (env::outer)) (hf:env.frame=some L) (hl:s.heap.FunFrames base (env::outer)) (he:s.heap.get? x=some oe) (hc:oe.cls=.ref C) (hd:oe.data=.fields vs)
  (h1:1 < vs.size) (h2:vs[2]?=some .none) (k:∀ h' T',aX9 x T' C (rawInt L) h'->s.heap.get? T'=none->Kpt (frs (env::outer)) [x] s.heap h'->Q () { s with heap:=h' }):wpAny M A (aW4 env L x head b) Q E s:=by
 have nfr:x∉frs (env::outer):=fun hm=>by
  obtain ⟨_,o,ho,hn⟩:=hl.mem hm
  rw [he] at ho; cases ho
  exact hn vs hd
 refine wpAny_bind (wpAny_frameOf_fun hfr hl hf fun g hg=>wpAny_bind (wpAny_entryPlaceOf fun pl hpl=>wpAny_bind ?_))
 unfold EntryCells.newEntry newFields
 refine wpAny_newObj_type ?_ (hpl.sizeOk5 _ _ _ _ _)
 generalize hts:([head,Value.ref L,Value.none,rawInt L,Value.none]++(if pl.isEmpty then List.replicate 6 Value.none else pl)).toArray=ts
 have e1:g.get? x=some oe:=(hg.2.1 x nfr).trans he
 have nT:g.objs.size≠x:=Nat.ne_of_gt (Heap.lt_size e1)
 have e2:=Heap.get?_push_of_some (h:=g) { cls:=.type "traceback",dict:=none,data:=.fields ts } e1
 refine wpAny_setField e2 hd h1 (k _ g.objs.size ?_ ?_ ?_)
 ·have d3:=Obj.data_mapFields hd (·.setIfInBounds 1 (Value.ref g.objs.size))
  refine ⟨_,_,_,ts,Heap.get?_update_self _ e2 (Obj.isFreed_of_fields d3),(Obj.cls_mapFields _ _).trans hc,d3,by simp [h1],?_,nT,(Heap.get?_update_other _ _ (Ne.symm nT)).trans (Heap.get?_push_size g rfl),rfl,by rw [← hts]; simp⟩
  rw [Array.getElem?_setIfInBounds_ne (by decide)]; exact h2
 ·exact Heap.get?_none_of_le (Nat.le_of_eq hg.1.symm)
 ·refine Kpt.upd (Kpt.push ⟨fun b o e n m=>(hg.2.1 b n).trans e,fun b o e n m=>hg.2.2 b o e⟩ _) _ (.inl (by simp))
theorem aJ8 {fl:Value} {h0:Heap} {fs:List Addr} (f:aX9 x T C fl s.heap) (k0:Kpt fs [x,T] h0 s.heap∨(Kpt fs [x] h0 s.heap/\h0.get? T=none))
  (k:∀ h',Fly x T C h'->(Kpt fs [x,T] h0 h')->(h0.get? T=none->Kpt fs [x] h0 s.heap->Kpt fs [x] h0 h')->Q () { s with heap:=h' }):wpAny M A (setFlight (.ref x) none) Q E s:=by
 obtain ⟨oe,vs,oT,ts,e1,e2,e3,e4,e5,e6,e7,e8,e9⟩:=f
 have sz:3 < ts.size:=(Array.getElem?_eq_some_iff.mp e9).1
 unfold setFlight
 refine wpAny_bind (wpAny_field e1 e3 e4 ?_)
 rw [if_pos (by simp)]
 have d3:=Obj.data_mapFields e8 (·.setIfInBounds 3 ((none:Option Addr).elim Value.none fun f=>rawInt f))
 refine wpAny_setField e7 e8 sz (k _ ⟨oe,vs,_,_,(Heap.get?_update_other _ _ e6).trans e1,e2,e3,e4,e5,e6,Heap.get?_update_self _ e7 (Obj.isFreed_of_fields d3),d3,by simp [sz]⟩ ?_ fun q z=>z.upd _ (.inr q))
 rcases k0 with z | ⟨z,q⟩
 ·exact z.upd _ (.inl (by simp))
 ·exact Kpt.upd ⟨fun b o e n m=>z.keep b o e n fun y=>m (by simp at y; simp [y]),fun b o e n m=>z.slot b o e n fun y=>m (by simp at y; simp [y])⟩ _ (.inl (by simp))
theorem aUf {oe:Obj} {vs:Array Value} (hfr:A.frames=some (env::outer)) (hf:env.frame=some L) (hl:s.heap.FunFrames base (env::outer)) (he:s.heap.get? x=some oe) (hc:oe.cls=.ref C) (hd:oe.data=.fields vs)
  (h1:vs[1]?=some .none) (h2:vs[2]?=some .none) (k:∀ h' T',aX9 x T' C (rawInt L) h'->s.heap.get? T'=none->Kpt (frs (env::outer)) [x] s.heap h'->Q () { s with heap:=h' }):wpAny M A (noteFrame (.ref x) env) Q E s:=by
 unfold noteFrame
 simp only [hf]
 refine wpAny_bind (wpAny_field he hd h1 ?_)
 rw [if_neg (by decide)]
 exact aOd hfr hf hl he hc hd (Array.getElem?_eq_some_iff.mp h1).1 h2 k
theorem aOc (hfr:A.frames=some (env::outer)) (hf:env.frame=some L) (hl:s.heap.FunFrames base (env::outer)) (f:Fly x T C s.heap)
  (k:∀ h' T',aX9 x T' C (rawInt L) h'->s.heap.get? T'=none->Kpt (frs (env::outer)) [x,T] s.heap h'->Q () { s with heap:=h' }):wpAny M A (noteFrame (.ref x) env) Q E s:=by
 obtain ⟨oe,vs,oT,ts,e1,e2,e3,e4,e5,e6,e7,e8,e9⟩:=f
 unfold noteFrame
 simp only [hf]
 refine wpAny_bind (wpAny_field e1 e3 e4 ?_)
 rw [if_pos (by simp)]
 refine wpAny_bind (wpAny_field e7 e8 e9 ?_)
 rw [if_neg (by simp [rawInt])]
 refine wpAny_bind (wpAny_setField e7 e8 (Array.getElem?_eq_some_iff.mp e9).1 ?_)
 have oth:∀ b,b≠T->(s.heap.update T (Obj.mapFields (·.setIfInBounds 3 Value.none))).get? b=s.heap.get? b:=fun b hb=>Heap.get?_update_other _ _ (Ne.symm hb)
 have hl':(s.heap.update T (Obj.mapFields (·.setIfInBounds 3 Value.none))).FunFrames base (env::outer):=hl.of_keeps fun b o hb hn=>⟨o,(oth b fun z=>by rw [z,e7] at hb; cases hb; exact hn ts e8).trans hb,rfl⟩
 refine aOd (s:={ s with heap:=s.heap.update T (Obj.mapFields (·.setIfInBounds 3 Value.none)) }) hfr hf hl' ((oth x (Ne.symm e6)).trans e1) e2 e3 (Array.getElem?_eq_some_iff.mp e4).1 e5 fun h' T' f' n' k'=>k h' T' f' ?_ ?_
 ·cases z:s.heap.get? T' with
  | none=>rfl
  | some o =>
   exfalso
   by_cases q:T'=T
   ·have d3:=Obj.data_mapFields e8 (·.setIfInBounds 3 Value.none)
    have:=Heap.get?_update_self (Obj.mapFields (·.setIfInBounds 3 Value.none)) e7 (Obj.isFreed_of_fields d3)
    rw [← q,show Heap.get? (s.heap.update T' _) T'=none from q ▸ n'] at this; cases this
   ·have:=(oth T' q).trans z
    rw [show Heap.get? (s.heap.update T _) T'=none from n'] at this; cases this
 ·refine ⟨fun b o e n m=>k'.keep b o ((oth b fun z=>m (by simp [z])).trans e) n fun y=>m (by simp at y; simp [y]),fun b o e n m=>k'.slot b o ((oth b fun z=>m (by simp [z])).trans e) n fun y=>m (by simp at y; simp [y])⟩
theorem aR4 (hfr:A.frames=some (env::outer)) (hf:env.frame=some L) (hl:s.heap.FunFrames base (env::outer)) (f:Fly x T C s.heap)
  (k:∀ h' T',Fly x T' C h'->(T'=T∨s.heap.get? T'=none)->Kpt (frs (env::outer)) [x,T] s.heap h'->Q () { s with heap:=h' }):wpAny M A (leaving env (.ref x)) Q E s:=by
 unfold leaving
 refine wpAny_bind (aOc hfr hf hl f fun h1 T1 f1 n1 k1=>?_)
 refine aJ8 (s:={ s with heap:=h1 }) (h0:=h1) (fs:=[]) f1 (.inl .refl) fun h2 f2 k2 _=>k h2 T1 f2 (.inr n1) ?_
 have nT:∀ b o,s.heap.get? b=some o->b∉[x,T]->b∉[x,T1]:=fun b o e m z=>by
  rcases List.mem_cons.mp z with z | z
  ·exact m (by simp [z])
  ·rw [List.mem_singleton.mp z,n1] at e; cases e
 exact ⟨fun b o e n m=>k2.keep b o (k1.keep b o e n m) (by simp) (nT b o e m),fun b o e n m=>(k1.slot b o e n m).imp fun sl q=>k2.keep b _ q (by simp) (nT b o e m)⟩
theorem aUe (hfr:A.frames=some (env::outer)) (hf:env.frame=some L) (hl:s.heap.FunFrames base (env::outer)) (f:Fly x T C s.heap)
  (k:∀ h' T',Fly x T' C h'->(T'=T∨s.heap.get? T'=none)->Kpt (frs (env::outer)) [x,T] s.heap h'->Q () { s with heap:=h' }) :
  wpAny M A (noteFrame (.ref x) env) (fun _ s₂=>wpAny M A (setFlight (.ref x) none) Q E s₂) E s:=by
 refine aOc hfr hf hl f fun h1 T1 f1 n1 k1=>?_
 refine aJ8 (s:={ s with heap:=h1 }) (h0:=h1) (fs:=[]) f1 (.inl .refl) fun h2 f2 k2 _=>k h2 T1 f2 (.inr n1) ?_
 have nT:∀ b o,s.heap.get? b=some o->b∉[x,T]->b∉[x,T1]:=fun b o e m z=>by
  rcases List.mem_cons.mp z with z | z
  ·exact m (by simp [z])
  ·rw [List.mem_singleton.mp z,n1] at e; cases e
 exact ⟨fun b o e n m=>k2.keep b o (k1.keep b o e n m) (by simp) (nT b o e m),fun b o e n m=>(k1.slot b o e n m).imp fun sl q=>k2.keep b _ q (by simp) (nT b o e m)⟩
theorem aR6 (f:Fly x T C s.heap) (k:∀ h',Fly x T C h'->Kpt (frs l) [x,T] s.heap h'->Q () { s with heap:=h' }):wpAny M A (setFlight (.ref x) none) Q E s :=
 aJ8 f (.inl (Kpt.refl (fs:=frs l))) fun h' f' k' _=>k h' f' k'
theorem aR5 {oe:Obj} {vs:Array Value} (hfr:A.frames=some (env::outer)) (hf:env.frame=some L) (hl:s.heap.FunFrames base (env::outer)) (he:s.heap.get? x=some oe) (hc:oe.cls=.ref C) (hd:oe.data=.fields vs)
  (h1:vs[1]?=some .none) (h2:vs[2]?=some .none)
  (k:∀ h' T',Fly x T' C h'->s.heap.get? T'=none->Kpt (frs (env::outer)) [x] s.heap h'->Q () { s with heap:=h' }):wpAny M A (leaving env (.ref x)) Q E s:=by
 unfold leaving
 refine wpAny_bind (aUf hfr hf hl he hc hd h1 h2 fun g T1 f1 n1 k1=>?_)
 exact aJ8 (s:={ s with heap:=g }) f1 (.inr ⟨k1,n1⟩) fun h2 f2 _ k2=>k h2 T1 f2 n1 (k2 n1 k1)
end
end L2
namespace L2
open PySem PySem.Spec PyProof.Rows
noncomputable def aPe (x C:Addr):HO:=.ext (ExR x C)
theorem aXr {P:Program} {w:World} {H:Hp} {h:Heap} {x C:Addr} (k:ExR x C h):aB3 P w H h x (aPe x C) :=
 ⟨k,(let ⟨o,_,e,_⟩:=k; ⟨o,e⟩),fun _ _ ⟨o,vs,e,c⟩ kp=>⟨o,vs,kp o e,c⟩⟩
noncomputable def CXe (P:Program) (w:World):CXT:=fun outer H s E e s'=>∃ x T C H',e=Value.ref x/\s'.os=s.os/\AllBare s'.gens/\Un (frs outer) [] H H' s.heap s'.heap/\HOk P w H' s'.heap /\
 s.heap.get? x=none/\s.heap.get? T=none/\H' x=none/\H' T=none/\Fly x T C s'.heap/\E (.ref C) none H'
section
variable {P:Program} {w:World} {K:PySem.W.Frag} {mg:Str -> Option Value} {base:Heap} {N:List Str} {qual:Str} {scope:Scope} {f:Addr} {cd:Value} {A:Around} {outer:List Env} {s:Shared} {H:Hp} {E:XK}
theorem aPo {pins:List (Addr×Obj)} {σ:St} {H1:Hp} {s1:Shared} {h':Heap} {x C:Addr} {args:List Value} (I:Inv (aPl (CXe P w) P w K mg base N qual scope f cd A outer s H E) pins σ H1 s1)
  (m:Heap.MadeExcOf s1.heap h' x (.ref C) args) (q:E (.ref C) none H1):(aPl (CXe P w) P w K mg base N qual scope f cd A outer s H E).xe (.ref x) { s1 with heap:=h' }:=by
 obtain ⟨t,he,htn,ht⟩:=m.there
 have fr:=I.stack
 refine aR5 (s:={ s1 with heap:=h' }) I.ok.frames rfl (fr.of_keeps fun b o z _=>⟨o,m.keeps b o z,rfl⟩) he rfl rfl rfl rfl fun h2 T fl n k=>?_
 have k':Kpt (s.heap.objs.size::frs outer) [x] h' h2:=k
 have u:Un (frs outer) [] H H1 s.heap s1.heap:=I.base
 have hn:∀ b,s1.heap.get? b=none->s.heap.get? b=none:=fun b z=>u.was z
 have hT:s1.heap.get? T=none:=by
  cases z:s1.heap.get? T with
  | none=>rfl
  | some o =>
   have:=m.keeps T o z
   rw [show h'.get? T=none from n] at this; cases this
 refine ⟨x,T,C,H1,rfl,I.os,I.bare,((u.trans (Un.kept m.keeps)).kpt k'.mv fun b hb=>?_),(I.hok.kept m.keeps).kpt k' (fun b hb=>I.stkFree b hb) (fun b hb=>?_),hn x m.new,hn T hT,I.hok.none_of m.new,I.hok.none_of hT,fl,q⟩
 ·rcases List.mem_cons.mp hb with z | z
  ·rw [z]; exact Heap.get?_none_of_le (Nat.le_refl _)
  ·rw [List.mem_singleton.mp z]; exact hn x m.new
 ·rw [List.mem_singleton.mp hb]; exact I.hok.none_of m.new
theorem passX:aLx (CXe P w) (aPl (CXe P w) P w K mg base N qual scope f cd A outer s H E) E:=by
 intro pins σ H1 s1 e s2 I hx
 obtain ⟨x,T,C,H',rfl,ho,hg,un,hok,nx,nT,hx,hT,fl,q⟩:=hx
 have I2:=I.call' (ch:=[]) ho un hok hg (fun b z=>absurd z (by simp))
 have u1:Un (frs outer) [] H H1 s.heap s1.heap:=I.base
 have u2:Un (frs outer) [] H H' s.heap s2.heap:=I2.base
 refine aR4 I2.ok.frames rfl I2.stack fl fun h2 T2 fl2 n2 k=>?_
 have k':Kpt (s.heap.objs.size::frs outer) [x,T] s2.heap h2:=k
 have hT2:s.heap.get? T2=none/\H' T2=none:=by
  rcases n2 with z | z
  ·rw [z]; exact ⟨u1.was nT,hT⟩
  ·exact ⟨u2.was z,hok.none_of z⟩
 refine ⟨x,T2,C,H',rfl,I2.os,I2.bare,u2.kpt k'.mv fun b hb=>?_,hok.kpt k' (fun b hb=>I2.stkFree b hb) (fun b hb=>?_),u1.was nx,hT2.1,hx,hT2.2,fl2,q⟩
 ·rcases List.mem_cons.mp hb with z | z
  ·rw [z]; exact Heap.get?_none_of_le (Nat.le_refl _)
  ·rcases List.mem_cons.mp z with z | z
   ·rw [z]; exact u1.was nx
   ·rw [List.mem_singleton.mp z]; exact u1.was nT
 ·rcases List.mem_cons.mp hb with z | z
  ·rw [z]; exact hx
  ·rw [List.mem_singleton.mp z]; exact hT
end
def aX2:List Value:=[.type "ValueError",.type "Exception",.type "BaseException",.type "object"]
theorem aXq {K:PySem.W.Frag} {h:Heap} {C:Addr} {bmB:List Value} {newId:String} (X:K.In h) (q:PySem.W.excIn K C bmB newId=true) :
  ∃ nm qn N bs bm hdct sn sub ab col dd k0 k1 k2 k3 k5 mN,h.get? C=some (excClassObj nm qn C N bs bm hdct sn sub ab col dd k0 k1 k2 k3 k5 newId)/\h.Ns N mN/\mN "__init__"=none/\OwnTail h bmB bm:=by
 unfold PySem.W.excIn at q
 split at q
 case h_2=>cases q
 rename_i dd cd sl ho
 split at q
 case h_2=>cases q
 rename_i C' bm k0 k1 k2 k3 n k5 hm hs
 simp only [Bool.and_eq_true,beq_iff_eq,Bool.not_eq_true'] at q
 obtain ⟨⟨⟨⟨⟨q1,q2⟩,q3⟩,q4⟩,q5⟩,q6⟩:=q
 subst q1 q2
 obtain ⟨c1,c2,c3,c4,c5,c6,c7,c8,c9,c10,c11⟩:=cd
 dsimp only at hm q3 q5 q6
 subst hm q3
 obtain ⟨l⟩:=sl
 have e:l=[k0,k1,k2,k3,some (.builtin n),k5]:=hs
 subst e
 exact ⟨_,_,_,_,_,_,_,_,_,_,_,_,_,_,_,_,_,X C' _ ho,.of_isNs (PySem.W.isNs_of_in X q5),PySem.W.nsMap_none_of_in X q5 q6,PySem.W.tail_of_in X q4⟩
noncomputable def aPw (C:Addr) (E:XK) (t:TA):TS:=fun _ σ H=>t σ H fun vs H1=>vs.length<=sizeLine/\E (.ref C) none H1
theorem aV5 {C:Addr} {E:XK} {t:TA} {D:aFy} {σ:St} {H:Hp} (k:t σ H fun vs H1=>vs.length<=sizeLine/\E (.ref C) none H1):aPw C E t D σ H:=k
noncomputable def aVp (X:Cx) (E:XK):Prop:=∀ (pins:List (Addr×Obj)) (σ:St) (H1:Hp) (s1:Shared) (h':Heap) (x C:Addr) (args:List Value),Inv X pins σ H1 s1->Heap.MadeExcOf s1.heap h' x (.ref C) args->E (.ref C) none H1->X.xe (.ref x) { s1 with heap:=h' }
theorem aTs {X:Cx} {E:XK} {C:Addr} {n:Str} {newId Bn inN:String} {bmN:List Value} {e:Expr} {es:List Expr} {t:TA} {np cpos pos:Pos} (hr:aVp X E) (hc:X.calm=true) (hg:Gl X n) (hm:X.mg n=some (.ref C))
  (hx:PySem.W.excIn X.K C aX2 newId=true) (Fn:ExcBaseFacts Bn newId inN bmN) (hBn:aX2.contains (.type Bn)=true) (ha:PA X (e::es) t)
  (hd:(n==("__debug__":Str))=false:=by decide) (he:starEach (e::es) X.env=(false,eval e X.env)::starEach es X.env:=by rfl) (hpl:(backTo cpos (starEach es X.env)).any (·.1)=false:=by rfl) :
  PS X (.Raise (some (.Call (.Name n np) (e::es) [] cpos)) none pos) (aPw C E t):=by
 intro pins s σ H D I h
 obtain ⟨nm,qn,N,bs,bm,hdct,sn,sub,ab,col,dd,k0,k1,k2,k3,k5,mN,hC,hN,hni,T0⟩:=aXq I.mod.kin hx
 have hpl':(backTo cpos (starEach (e::es) X.env)).any (·.1)=false:=by rw [he]; exact hpl
 refine wpAny_Raise_call_subU (C:=C) (nm:=nm) (q:=qn) (N:=N) (bs:=bs) (hdct:=hdct) (sn:=sn) (sub:=sub) (ab:=ab) (col:=col) (dd:=dd) (k0:=k0) (k1:=k1) (k2:=k2) (k3:=k3) (k5:=k5)
  Fn hBn F.excBase_ValueError (T0.hasType (by decide)) (I.ok.hd hc) hpl' hni (mN:=mN) (aHv I hg hm ⟨rfl,?_⟩ hd)
 have hs:=ha cpos pins s σ H _ I h
 rw [he] at hs ⊢
 refine Calls.evalArgs_plain (thn hs fun us s1 ⟨vs,H1,I1,r,q1,q2⟩=>?_)
 exact ⟨rfl,by rw [← r.length]; exact q1,I1.bk C _ hC,hN.keeps I1.bk,T0.keeps I1.bk,fun h' x m=>hr pins σ H1 s1 h' x C us I1 m q2⟩
end L2
namespace L2
open PySem PySem.Spec PyProof.Rows
structure aPj (P:Program) (w:World) (K:PySem.W.Frag) (mg:Str->Option Value) (base:Heap) (k:Nat) (x:Str) (ps:List Str) (dvs:List V) (sp:Sp):Prop where
 ex:∃ (f:Addr) (fd:FuncData),mg x=some (.ref f)/\PySem.W.keepIn K (.ref f)=true/\aKi K fd ps []/\(∃ ds,aB5 dvs ds/\aKi K fd ps ds)/\aNb P w K mg base (CXe P w) k f fd ps sp
section
variable {P:Program} {w:World} {K:PySem.W.Frag} {mg:Str -> Option Value} {base:Heap} {j k:Nat} {x:Str} {st:Stmt} {N ps:List Str} {dvs:List V} {sp:Sp}
theorem aPj.mono (o:aPj P w K mg base j x ps dvs sp) (h:j<=k):aPj P w K mg base k x ps dvs sp :=
 let ⟨f,fd,a,b,c,e,d⟩:=o.ex; ⟨f,fd,a,b,c,e,d.mono h⟩
theorem aPj.of (d:Df K mg x st ps) (S:aAv N ps (aAf st)) (len:∀ vs H Q E,sp vs H Q E->vs.length=ps.length)
  (hbody:∀ (f:Addr) (cdv:Value) (A:Around) (outer:List Env) (s:Shared) (H:Hp) (vs:List V) (Q:VK) (E:XK),aGr k (A.deeper (envOfC x (aAf st) s.heap.objs.size f cdv))->sp vs H Q E ->
   ∃ t,PSs (aPl (CXe P w) P w K mg base N x (aAf st) f cdv A outer s H E) (aAm st) t/\t { nx:=fun _ H'=>Q .non H',rt:=Q } (aH4 N vs) H):aPj P w K mg base (k+1) x ps [] sp:=by
 obtain ⟨f,fd,⟨oc,od,dV,kV,doc,pm,an,cdv,ct,osl,rfl,lk,hcd⟩,kp,a,b⟩:=d.ex
 exact ⟨f,_,a,kp,b,⟨[],.nil,b⟩,aXl lk hcd S len fun A outer s H vs Q E hr hsp=>hbody f cdv A outer s H vs Q E hr hsp⟩
end
section
variable {X:Cx} {k:Nat} {x:Str} {ps:List Str} {dvs:List V} {sp:Sp} {p pos:Pos} {e:Expr} {es:List Expr} {t:TA} {E:XK}
theorem aTx (o:aPj X.prog X.w X.K X.mg X.base k x ps dvs sp) (hr:aGr k X.A) (hg:Gl X x) (hx:aLx (CXe X.prog X.w) X E) (ha:PA X (e::es) t) (hdb:(x==("__debug__":Str))=false:=by decide)
  (he:starEach (e::es) X.env=(false,eval e X.env)::starEach es X.env:=by rfl) (hpl:(backTo pos (starEach es X.env)).any (·.1)=false:=by rfl) :
  PE X (.Call (.Name x p) (e::es) [] pos) (aTa sp [] E t):=by
 obtain ⟨f,fd,a,b,c,_,d⟩:=o.ex
 exact aQz d hr hg a b c .nil hx ha hdb he hpl
end
structure aX8 (X:Cx) (pins:List (Addr×Obj)) (H:Hp) (a:Addr):Prop where
 h:H a=none
 s:X.s₀.heap.get? a=none
 l:a≠X.env.locals
 c:∀ n c,X.env.cells.lookup n=some c->c≠a
 p:∀ p∈X.pn++pins,p.1≠a
theorem Inv.kpt {X:Cx} {pins:List (Addr×Obj)} {σ:St} {H:Hp} {s:Shared} {xs:List Addr} {h':Heap} (I:Inv X pins σ H s) (k:Kpt (frs X.stack) xs s.heap h') (hx:∀ b∈xs,aX8 X pins H b):Inv X pins σ H { s with heap:=h' }:=by
 have neL:∀ b o,X.s₀.heap.get? b=some o->b≠X.env.locals:=fun b o e=>Nat.ne_of_lt (Nat.lt_of_lt_of_le (Heap.lt_size e) I.ok.above)
 have nX:∀ b o,X.s₀.heap.get? b=some o->b∉xs:=fun b o e z=>by rw [(hx b z).s] at e; cases e
 have nS:∀ b,b≠X.env.locals->b∉X.fs->b∉frs X.stack:=fun b h1 h2 z=>(List.mem_cons.mp (I.stkSub b z)).elim h1 h2
 have lX:X.env.locals∉xs:=fun z=>(hx _ z).l rfl
 have cX:∀ n c,X.env.cells.lookup n=some c->c∉xs:=fun n c e z=>(hx _ z).c n c e rfl
 have cellK:∀ x c,X.env.cells.lookup x=some c->∀ v,s.heap.IsCell c v->h'.IsCell c v:=fun x c e v ⟨o,ho,hd⟩=>by
  obtain ⟨sl,q⟩:=k.there ho (cX x c e)
  exact ⟨_,q,hd⟩
 refine ⟨I.ok,I.os,I.bare,⟨fun b o e n hb hx=>?_,fun b o e n hb hx=>?_,I.base.free,fun b o e hx=>?_,I.base.tups,I.base.frzs,I.base.tbls⟩,?_,fun x c e=>?_,I.free,I.freeC,fun p hp=>?_,I.hok.kpt k (fun b hb=>I.stkFree b hb) fun b hb=>(hx b hb).h,I.len⟩
 ·exact k.keep b o (I.base.keep b o e n hb hx) (nS b (neL b o e) hb) (nX b o e)
 ·obtain ⟨sl,q⟩:=I.base.slot b o e n hb hx
  obtain ⟨sl',q'⟩:=k.there q (nX b o e)
  exact ⟨sl',q'⟩
 ·obtain ⟨o',q⟩:=I.base.there b o e hx
  obtain ⟨sl',q'⟩:=k.there q (nX b o e)
  exact ⟨_,q'⟩
 ·obtain ⟨m,⟨o,es,ep,ho,r⟩,hl⟩:=I.loc
  obtain ⟨sl,q⟩:=k.there ho lX
  refine ⟨m,⟨_,es,ep,q,r⟩,fun i x v e1 e2 e3=>?_⟩
  obtain ⟨u,rv,l⟩:=hl i x v e1 e2 e3
  refine ⟨u,rv,?_⟩
  rcases l with l | ⟨kk,c,e,z⟩
  ·exact .inl l
  ·exact .inr ⟨kk,c,e,cellK x c e _ z⟩
 ·obtain ⟨v,z⟩:=I.cell x c e
  exact ⟨v,cellK x c e v z⟩
 ·obtain ⟨e,n,ne,nf,d⟩:=I.pin p hp
  exact ⟨k.keep p.1 p.2 e (nS _ ne nf) (fun z=>(hx _ z).p p hp rfl),n,ne,nf,d⟩
theorem Inv.frsh {X:Cx} {pins:List (Addr×Obj)} {σ:St} {H H':Hp} {s:Shared} {a:Addr} (I:Inv X pins σ H s) (hex:X.ex=[]) (e:s.heap.get? a=none) (h:H' a=none):aX8 X pins H' a where
 h:=h
 s:=by
  have u:Un X.fs [] X.H₀ H X.s₀.heap s.heap:=hex ▸ I.base
  exact u.was e
 l:=fun z=>by
  obtain ⟨m,⟨o,es,ep,ho,r⟩,_⟩:=I.loc
  rw [← z,e] at ho; cases ho
 c:=fun n c q z=>by
  obtain ⟨v,o,ho,hd⟩:=I.cell n c q
  rw [z,e] at ho; cases ho
 p:=fun p hp z=>by
  obtain ⟨q,_⟩:=I.pin p hp
  rw [z,e] at q; cases q
noncomputable def aSo (X:Cx) (pins:List (Addr×Obj)) (σ:St) (E:XK) (e:Value) (s':Shared):Prop:=∃ x T C H',e=.ref x/\Inv X pins σ H' s'/\Fly x T C s'.heap/\aX8 X pins H' x/\aX8 X pins H' T/\E (.ref C) none H'
theorem aSn {X:Cx} {pins:List (Addr×Obj)} {σ:St} {H:Hp} {s s':Shared} {E:XK} {e:Value} (hex:X.ex=[]) (I:Inv X pins σ H s) (h:CXe X.prog X.w X.stack H s E e s'):aSo X pins σ E e s':=by
 obtain ⟨x,T,C,H',rfl,ho,hg,un,hok,nx,nT,hx,hT,fl,q⟩:=h
 exact ⟨x,T,C,H',rfl,I.call' (ch:=[]) ho un hok hg (fun b z=>absurd z (by simp)),fl,I.frsh hex nx hx,I.frsh hex nT hT,q⟩
noncomputable abbrev TEX:=St->Hp->VK->XK->Prop
noncomputable abbrev TX:=aFy->XK->St->Hp->Prop
noncomputable def PEX (X:Cx) (e:Expr) (t:TEX):Prop :=
 ∀ (pins:List (Addr×Obj)) (s:Shared) (σ:St) (H:Hp) (Q:VK) (E:XK),Inv X pins σ H s->t σ H Q E->wpAny (model X.prog X.w) X.A (eval e X.env) (EP X pins σ Q) (aSo X pins σ E) s
noncomputable def PX (X:Cx) (st:Stmt) (t:TX):Prop :=
 ∀ (pins:List (Addr×Obj)) (s:Shared) (σ:St) (H:Hp) (D:aFy) (E:XK),Inv X pins σ H s->t D E σ H->wpAny (model X.prog X.w) X.A (exec st X.env) (SP X pins D) (aSo X pins σ E) s
noncomputable def aP0 (sp:Sp) (dvs:List V) (t:TA):TEX:=fun σ H Q E=>t σ H fun vs H1=>sp (vs++dvs) H1 Q E
section
variable {X:Cx} {k:Nat} {f:Addr} {fd:FuncData} {x:Str} {ps:List Str} {dvs:List V} {ds:List Value} {sp:Sp} {p pos:Pos} {e:Expr} {es:List Expr} {t:TA} {E:XK}
theorem aWp (F:aNb X.prog X.w X.K X.mg X.base (CXe X.prog X.w) k f fd ps sp) (hex:X.ex=[]) (hxe:∀ e s,X.xe e s->False) (hr:aGr k X.A) (hg:Gl X x) (hm:X.mg x=some (.ref f)) (hk:PySem.W.keepIn X.K (.ref f)=true) (hb:aKi X.K fd ps ds) (hd:aB5 dvs ds)
  (ha:PA X (e::es) t) (hdb:(x==("__debug__":Str))=false) (he:starEach (e::es) X.env=(false,eval e X.env)::starEach es X.env) (hpl:(backTo pos (starEach es X.env)).any (·.1)=false) :
  PEX X (.Call (.Name x p) (e::es) [] pos) (aP0 sp dvs t):=by
 intro pins s σ H Q E I h
 refine wpAny_Call_Name_kw (aHv I hg hm ?_ hdb)
 refine PySem.W.callWith_K (h₀:=X.base) I.ok.mod.kin hk (wpAny_mono (ha pos pins s σ H _ I h) (fun us s1 ⟨vs,H1,I1,r,q⟩=>⟨I1.kIn,?_⟩) fun e s z=>(hxe e s z).elim) he hpl
 have r2:aB5 (vs++dvs) (us++ds):=r.append hd
 have hl:(us++ds).length=ps.length:=by rw [← r2.length]; exact F.len _ _ _ _ q
 refine wpAny_call (codeAny_mono (F.run X.A X.stack s1 H1 ⟨us,[]⟩ (us++ds) (vs++dvs) Q E hr I1.env0 (hb s1 us I1.kIn hl) r2 q) fun r s' hq=>?_)
 cases r with
 | error e=>exact aSn hex I1 hq
 | ok fl =>
  cases fl with
  | ret u=>exact I1.after hq
  | next=>exact False.elim hq
  | brk=>exact False.elim hq
  | cont=>exact False.elim hq
theorem aTu (o:aPj X.prog X.w X.K X.mg X.base k x ps dvs sp) (hex:X.ex=[]) (hxe:∀ e s,X.xe e s->False) (hr:aGr k X.A) (hg:Gl X x) (ha:PA X (e::es) t) (hdb:(x==("__debug__":Str))=false:=by decide)
  (he:starEach (e::es) X.env=(false,eval e X.env)::starEach es X.env:=by rfl) (hpl:(backTo pos (starEach es X.env)).any (·.1)=false:=by rfl) :
  PEX X (.Call (.Name x p) (e::es) [] pos) (aP0 sp [] t):=by
 obtain ⟨f,fd,a,b,c,_,d⟩:=o.ex
 exact aWp d hex hxe hr hg a b c .nil ha hdb he hpl
end
end L2
namespace L2
open PySem PySem.Spec PyProof.Rows
section
variable {X:Cx} {e:Expr} {te:TEX} {pos:Pos}
end
noncomputable abbrev Cx.hld (X:Cx) (x:Addr):Cx:={ X with A:=X.A.mark (some (.ref x)),calm:=false,xe:=fun _ _=>False }
section
variable {X:Cx} {pins:List (Addr×Obj)} {σ:St} {H:Hp} {s:Shared} {x:Addr}
theorem Inv.hld (I:Inv X pins σ H s) (x:Addr):Inv (X.hld x) pins σ H s :=
 ⟨⟨I.ok.mod,I.ok.kind,I.ok.glob,I.ok.blt,I.ok.above,I.ok.inj,I.ok.has,I.ok.cab,(fun z=>nomatch z),I.ok.frames,I.ok.stk,I.ok.exf,I.ok.bs,I.ok.bsz,I.ok.noex,I.ok.exfs,I.ok.funs,I.ok.frf⟩,I.os,I.bare,I.base,I.loc,I.cell,I.free,I.freeC,I.pin,I.hok,I.len⟩
theorem Inv.unhld (hd:X.calm=true->X.A.handled=none) (I:Inv (X.hld x) pins σ H s):Inv X pins σ H s :=
 ⟨⟨I.ok.mod,I.ok.kind,I.ok.glob,I.ok.blt,I.ok.above,I.ok.inj,I.ok.has,I.ok.cab,hd,I.ok.frames,I.ok.stk,I.ok.exf,I.ok.bs,I.ok.bsz,I.ok.noex,I.ok.exfs,I.ok.funs,I.ok.frf⟩,I.os,I.bare,I.base,I.loc,I.cell,I.free,I.freeC,I.pin,I.hok,I.len⟩
theorem aJ7 {M:Model} {A:Around} {E:Value->Shared->Prop} {i:Nat} {n:Str} {pos:Pos} {Q:Unit->Shared->Prop} (I:Inv X pins σ H s) (hN:X.N.Nodup) (hi:X.N[i]?=some n) (hl:X.env.scope.names.lookup n=some .local)
  (h:∀ s',Inv X pins (σ.set i none) H s'->Q () s'):wpAny M A (do bindName X.env n .none; unbindBehindTheSuite X.env n pos) Q E s:=by
 obtain ⟨m,hn,hv⟩:=id I.loc
 have hcls:(X.env.scope.kind==.class || (X.env.scope.kind==.module&&X.env.locals !=X.env.globals))=false:=by rw [I.ok.kind]; rfl
 refine wpAny_nameGoes_keeps hl hn hcls fun h' v hn' hs=>h _ ?_
 have old:∀ b o,X.s₀.heap.get? b=some o->b≠X.env.locals:=fun b o e=>Nat.ne_of_lt (Nat.lt_of_lt_of_le (Heap.lt_size e) I.ok.above)
 refine ⟨I.ok,I.os,I.bare,⟨fun b o e n hb hx=>(hs.2 b (old b o e)).trans (I.base.keep b o e n hb hx),fun b o e n hb hx=>?_,I.base.free,fun b o e hx=>?_,I.base.tups,I.base.frzs,I.base.tbls⟩,⟨_,hn',fun j y v' e1 e2 e3=>?_⟩,fun y c e=>?_,I.free,I.freeC,fun p hp=>?_,?_,by simpa using I.len⟩
 ·obtain ⟨sl,e1⟩:=I.base.slot b o e n hb hx
  exact ⟨sl,(hs.2 b (old b o e)).trans e1⟩
 ·obtain ⟨o',e1⟩:=I.base.there b o e hx
  exact ⟨o',(hs.2 b (old b o e)).trans e1⟩
 ·have hj:j≠i:=fun z=>by
   rw [z] at e2
   by_cases hi':i < σ.length
   ·rw [List.getElem?_set_self hi'] at e2; cases e2
   ·rw [List.getElem?_eq_none (by rw [List.length_set]; omega)] at e2; cases e2
  rw [List.getElem?_set_ne (Ne.symm hj)] at e2
  obtain ⟨u',r',q⟩:=hv j y v' e1 e2 e3
  refine ⟨u',r',?_⟩
  rcases q with ⟨k,e⟩ | ⟨k,c,e,z⟩
  ·refine .inl ⟨k,?_⟩
   have:y≠n:=fun e=>hj (aJy hN e1 (e ▸ hi))
   show (if y=n then v else m y)=some u'
   rw [if_neg this]; exact e
  ·exact .inr ⟨k,c,e,z.sameBut hs (I.cne y c e)⟩
 ·obtain ⟨w',z⟩:=I.cell y c e
  exact ⟨w',z.sameBut hs (I.cne y c e)⟩
 ·obtain ⟨e,n,ne,nf,d⟩:=I.pin p hp
  exact ⟨(hs.2 p.1 ne).trans e,n,ne,nf,d⟩
 ·intro b ob e
  refine (I.hok b ob e).stay (fun c w' hc q=>(hs.2 c ?_).trans q) (fun _ q=>q) fun _ _ q=>q
  rintro rfl
  rcases hc with rfl | hc
  ·rw [I.free] at e; cases e
  ·rw [I.free] at hc; cases hc
theorem Inv.track {a:Addr} {o:HO} (I:Inv X pins σ H s) (fr:aX8 X pins H a) (new:aB3 X.prog X.w (upd H a o) s.heap a o):Inv X pins σ (upd H a o) s:=by
 refine ⟨I.ok,I.os,I.bare,I.base.track fr.h fr.s,I.loc,I.cell,?_,fun x c e=>?_,fun p hp=>?_,I.hok.track fr.h new,I.len⟩
 ·rw [aA1 (Ne.symm fr.l)]; exact I.free
 ·rw [aA1 (fr.c x c e)]; exact I.freeC x c e
 ·obtain ⟨e,n,r⟩:=I.pin p hp
  exact ⟨e,by rw [aA1 (fr.p p hp)]; exact n,r⟩
end
noncomputable def tTry (K:PySem.W.Frag) (CT:Addr) (i:Nat) (tb:TX) (ts:Addr->TS):TS:=fun D σ H=>tb D (fun cv _ H'=>∃ C,cv=.ref C/\PySem.W.exmOne K (.ref C) (.ref CT)=some true /\
 ∀ x,H' x=none->ts x ⟨fun σ' H2=>D.nx (σ'.set i none) H2,D.rt,fun σ' H2=>D.bk (σ'.set i none) H2,fun σ' H2=>D.ct (σ'.set i none) H2⟩ (σ.set i (some (.ref x))) (upd H' x (aPe x C))) σ H
section
variable {X:Cx}
theorem bAq {CT:Addr} {nc n:Str} {i:Nat} {st s0:Stmt} {suite:List Stmt} {tb:TX} {ts:Addr->TS} {np hp pos:Pos} (hex:X.ex=[]) (hst:X.stack=X.env::X.outer) (hfr:X.env.frame=some X.env.locals)
  (hg:Gl X nc) (hm:X.mg nc=some (.ref CT)) (hN:X.N.Nodup) (hi:X.N[i]?=some n) (hl:X.env.scope.names.lookup n=some .local) (hb:PX X st tb) (hs:∀ x,PSs (X.hld x) (s0::suite) (ts x)) (hd:(nc==("__debug__":Str))=false:=by decide) :
  PS X (.Try [st] [.ExceptHandler (some (.Name nc np)) (some n) (s0::suite) hp] [] [] pos) (tTry X.K CT i tb ts):=by
 intro pins s σ H D I h
 refine wpAny_Try_except (wpAny_execs_cons (wpAny_mono (hb pins s σ H D _ I h) (fun f s1 q=>?_) fun e s1 q=>?_))
 ·cases f with
  | next=>exact wpAny_execs_nil (wpAny_execs_nil q)
  | ret v=>exact q
  | brk=>exact q
  | cont=>exact q
 ·obtain ⟨x,T,C,H',rfl,I1,fl,fx,fT,C',hC,hm1,q⟩:=q
  cases hC
  have mov:∀ {s2:Shared} {h2:Heap} {T1 T2:Addr},Inv X pins σ H' s2->aX8 X pins H' T1->(T2=T1∨s2.heap.get? T2=none)->Kpt (frs X.stack) [x,T1] s2.heap h2->Inv X pins σ H' { s2 with heap:=h2 }/\aX8 X pins H' T2:=fun {s2 h2 T1 T2} J f1 z k=>by
   refine ⟨J.kpt k fun b hb=>?_,?_⟩
   ·rcases List.mem_cons.mp hb with e | e
    ·rw [e]; exact fx
    ·rw [List.mem_singleton.mp e]; exact f1
   ·rcases z with z | z
    ·rw [z]; exact f1
    ·exact J.frsh hex z (J.hok.none_of z)
  have hfr':X.A.frames=some (X.env::X.outer):=hst ▸ I1.ok.frames
  have hF1:s1.heap.FunFrames X.base (X.env::X.outer):=hst ▸ I1.stack
  refine aUe hfr' hfr hF1 fl fun h2 T2 fl2 z2 k2=>?_
  obtain ⟨I2,fT2⟩:=mov I1 fT z2 (hst ▸ k2)
  refine wpAny_handleBy_cons (codeAny_handlers_test (aHv (I2.hld x) hg hm ?_ hd)) (by intro q; cases q)
  refine (PySem.W.exm_one I2.kIn (fl2.exR.kitR.ty _) hm1).here ?_
  refine codeAny_handlers_suite_as ?_
  refine aR6 (l:=X.stack) fl2 fun h3 fl3 k3=>?_
  obtain ⟨I3,_⟩:=mov I2 fT2 (.inl rfl) k3
  have I4:=I3.track fx (aXr (C:=C) fl3.exR)
  refine aD4 (v:=.ref x) I4 hN hi (.inl hl) rfl (fun s5 I5=>?_) (.inr hl)
  refine wpAny_mono (hs x pins s5 _ _ _ (I5.hld x) (q x fx.h)) (fun f s6 q6=>?_) fun _ _ z=>z.elim
  cases f with
  | next =>
   obtain ⟨σ',H2,I6,q6⟩:=q6
   exact aJ7 (I6.unhld I.ok.hd) hN hi hl fun s7 I7=>⟨_,H2,I7,q6⟩
  | brk =>
   obtain ⟨σ',H2,I6,q6⟩:=q6
   exact aJ7 (I6.unhld I.ok.hd) hN hi hl fun s7 I7=>⟨_,H2,I7,q6⟩
  | cont =>
   obtain ⟨σ',H2,I6,q6⟩:=q6
   exact aJ7 (I6.unhld I.ok.hd) hN hi hl fun s7 I7=>⟨_,H2,I7,q6⟩
  | ret u =>
   obtain ⟨v,σ',H2,I6,r,q6⟩:=q6
   exact aJ7 (I6.unhld I.ok.hd) hN hi hl fun s7 I7=>⟨v,_,H2,I7,r,q6⟩
end
end L2
namespace L2
open PySem PySem.Spec PyProof.Rows
section
variable {X:Cx} {e:Expr} {te:TEX} {pos:Pos}
noncomputable def xSet (te:TEX) (i:Nat):TX:=fun D E σ H=>te σ H (fun v H1=>D.nx (σ.set i (some v)) H1) E
theorem bAo {i:Nat} {x:Str} {pos':Pos} (hN:X.N.Nodup) (hi:X.N[i]?=some x) (hx:Loc X.env.scope x) (he:PEX X e te) (hs:swapsWith e (some (.Name x pos')) pos.line X.env=pure false:=by rfl)
  (hf:X.fn x=true∨X.env.scope.names.lookup x=some .local:=by first | exact .inl rfl | exact .inr rfl | assumption):PX X (.Assign [.Name x pos'] e pos) (xSet te i):=by
 intro pins s σ H D E I h
 refine wpAny_Assign_Name (thn (he pins s σ H _ E I h) fun v s1 ⟨y,H1,I1,r1,q1⟩=>?_) hs
 exact aD4 I1 hN hi hx r1 (fun s2 I2=>⟨_,H1,I2,q1⟩) hf
end
section
variable {X:Cx}
end
end L2
namespace L2
open PySem PySem.Spec PyProof.Rows
section
variable {prog:Program} {w:World} {A:Around} {E:Value -> Shared -> Prop} {s:Shared}
end
section
variable {X:Cx} {tg:Expr} {y:Addr}
variable {scope:Scope} {tn names:List Str} {is:List Nat} {elt iter:Expr} {ifs:List Expr} {pos:Pos} {wi:TI} {te:TE} {tc:Option TT} {g:TG}
end
section
variable {te:TE} {Q:VK} {H:Hp} {caps:St} {y:Addr}
end
section
variable {X:Cx} {k:Nat} {x:Str} {ps:List Str} {sp:Addr -> Sp} {p pos:Pos} {e:Expr} {es:List Expr} {t:TA} {y:Addr}
end
end L2
namespace L2
open PySem PySem.Spec PyProof.Rows
noncomputable def XrE (K:PySem.W.Frag) (C:Addr):Prop:=∃ (newId Bn inN:String) (bmN:List Value),PySem.W.excIn K C aX2 newId=true/\ExcBaseFacts Bn newId inN bmN/\aX2.contains (.type Bn)=true
theorem XrE.ve {K:PySem.W.Frag} {C:Addr} (h:PySem.W.excIn K C aX2 "ValueError.__new__"=true):XrE K C:=⟨_,_,_,_,h,F.excBase_ValueError,by decide⟩
theorem aKf:bootBuiltins "ValueError"=some (.type "ValueError"):=by decide +kernel
section
variable {X:Cx}
theorem aHp {E:XK} {C:Addr} {n:Str} {e:Expr} {es:List Expr} {t:TA} {np cpos pos:Pos} (hr:aVp X E) (hc:X.calm=true) (hg:Gl X n) (hm:X.mg n=some (.ref C)) (hx:XrE X.K C) (ha:PA X (e::es) t)
  (hd:(n==("__debug__":Str))=false:=by decide) (he:starEach (e::es) X.env=(false,eval e X.env)::starEach es X.env:=by rfl) (hpl:(backTo cpos (starEach es X.env)).any (·.1)=false:=by rfl) :
  PS X (.Raise (some (.Call (.Name n np) (e::es) [] cpos)) none pos) (aPw C E t):=by
 obtain ⟨newId,Bn,inN,bmN,h1,h2,h3⟩:=hx
 exact aTs hr hc hg hm h1 h2 h3 ha hd he hpl
noncomputable def rIsX (K:PySem.W.Frag):List V->Hp->VK->Prop:=fun xs H Q=>∃ y C v c b,xs=[.ref y,v]/\H y=some (aPe y C)/\aPh K C/\aB0 v c/\PySem.W.kitOne K (.ref C) c=some b/\Q (.bl b) H
theorem aG6:aDn X (.builtin "isinstance") (rIsX X.K):=by
 intro pins s σ H xs us Q I r h
 obtain ⟨y,C,v,c,b,rfl,hy,z,rc,e,q⟩:=h
 obtain ⟨u,u',rfl,ru,rv⟩:=aB5.two r
 obtain rfl:u=Value.ref y:=ru
 have ec:u'=c:=by
  cases v with
  | ref a=>exact rv.trans rc.symm
  | ty n=>exact rv.trans rc.symm
  | non=>exact rv.trans rc.symm
  | bl a=>exact rv.trans rc.symm
  | int _=>obtain ⟨t,rfl⟩:=rc; simp [PySem.W.kitOne,PySem.W.kitCls] at e
  | str _=>obtain ⟨t,rfl⟩:=rc; simp [PySem.W.kitOne,PySem.W.kitCls] at e
  | byt _=>obtain ⟨t,rfl⟩:=rc; simp [PySem.W.kitOne,PySem.W.kitCls] at e
  | flt _=>obtain ⟨t,rfl⟩:=rc; simp [PySem.W.kitOne,PySem.W.kitCls] at e
 subst ec
 exact PySem.W.kia_one (aT6 z) I.kIn (I.hok y _ hy).1.kitR e (by intro q; cases q) fun tk=>⟨.bl b,H,I.tok tk,rfl,q⟩
end
section
variable {K:PySem.W.Frag} {σ:St} {H:Hp} {Q:VK} {D:aFy} {E:XK}
theorem aIs {y C c:Addr} {b:Bool} (hy:H y=some (aPe y C)) (z:aPh K C) (e:PySem.W.kitOne K (.ref C) (.ref c)=some b) (k:Q (.bl b) H):rIsX K [.ref y,.ref c] H Q:=⟨y,C,_,_,b,rfl,hy,z,rfl,e,k⟩
theorem aU7 {y C:Addr} {T:String} {b:Bool} (hy:H y=some (aPe y C)) (z:aPh K C) (e:PySem.W.kitOne K (.ref C) (.type T)=some b) (k:Q (.bl b) H):rIsX K [.ref y,.ty T] H Q:=⟨y,C,_,_,b,rfl,hy,z,rfl,e,k⟩
noncomputable def tryE (K:PySem.W.Frag) (CT:Addr) (i:Nat) (ts:Addr->TS) (D:aFy) (σ:St):XK:=fun cv _ H'=>∃ C,cv=.ref C/\PySem.W.exmOne K (.ref C) (.ref CT)=some true /\
 ∀ x,H' x=none->ts x ⟨fun σ' H2=>D.nx (σ'.set i none) H2,D.rt,fun σ' H2=>D.bk (σ'.set i none) H2,fun σ' H2=>D.ct (σ'.set i none) H2⟩ (σ.set i (some (.ref x))) (upd H' x (aPe x C))
theorem r_try {CT:Addr} {i:Nat} {tb:TX} {ts:Addr->TS} (k:tb D (tryE K CT i ts D σ) σ H):tTry K CT i tb ts D σ H:=k
theorem aU3 {C CT:Addr} {i:Nat} {ts:Addr->TS} {o:Option Addr} (e:PySem.W.exmOne K (.ref C) (.ref CT)=some true)
  (k:∀ x,H x=none->ts x ⟨fun σ' H2=>D.nx (σ'.set i none) H2,D.rt,fun σ' H2=>D.bk (σ'.set i none) H2,fun σ' H2=>D.ct (σ'.set i none) H2⟩ (σ.set i (some (.ref x))) (upd H x (aPe x C))):tryE K CT i ts D σ (.ref C) o H:=⟨C,rfl,e,k⟩
theorem aZb {te:TEX} {i:Nat} (k:te σ H (fun v H1=>D.nx (σ.set i (some v)) H1) E):xSet te i D E σ H:=k
theorem aWk {sp:Sp} {t:TA} (k:t σ H fun vs H1=>sp vs H1 Q E):aP0 sp [] t σ H Q E:=by
 have e:(fun (vs:List V) H1=>sp (vs++[]) H1 Q E)=fun vs H1=>sp vs H1 Q E:=by
  funext vs H1
  rw [List.append_nil]
 show t σ H fun vs H1=>sp (vs++[]) H1 Q E
 rw [e]; exact k
end
end L2
namespace L2
open PySem PySem.Spec PyProof.Rows
section
variable {X:Cx}
noncomputable def aU9:V->List V->Hp->VK->Prop:=fun x vs H Q=>∃ z y:Str,x=.str z/\vs=[.str y]/\(y.length==0)=false/\z.length<=1000000/\∀ l,H l=none->Q (.ref l) (upd H l (.lst ((Txt.split z y).map V.str)))
theorem aH9:∀ (l:List (Str×Tok)),aB5 ((l.map (·.1)).map V.str) (strValues l)
 | []=>.nil
 | p::r=>.cons ⟨p.2,rfl⟩ (aH9 r)
theorem aG2:MtR X "str.split" aU9:=by
 intro pins s σ H x vs v us Q I rx rv h
 obtain ⟨z,y,rfl,rfl,hy,hz,q⟩:=h
 obtain ⟨t,rfl⟩:=rx
 obtain ⟨u,rfl,ru⟩:=rv.one
 obtain ⟨t',rfl⟩:=ru
 have hn:(Builtin.Str.partsBetween z (Builtin.Str.occurrences z y 0 z.length (z.length+1)) y.length).length<=z.length+2:=by
  have:=StrLaws.occ_length_le z y 0 z.length (z.length+1)
  rw [length_partsBetween]
  omega
 have fin:∀ (l:List (Str×Tok)) (k:Nat),l.map (·.1)=Txt.split z y->l.length<=2000000->EP X pins σ Q (.ref s.heap.objs.size) { s with heap:=s.heap.push { cls:=.type "list",data:=.seq (strValues l).toArray },toks:=k }:=fun l k e hl=>by
  refine ⟨.ref s.heap.objs.size,_,I.laid (t':=k) (a:=s.heap.objs.size) (o:=.lst ((Txt.split z y).map V.str)) (fun b o g=>Heap.get?_push_of_some _ g) (Nat.le_refl _) ⟨?_,_,0,?_,Heap.get?_push_size _ rfl⟩,rfl,q _ (I.hok.fresh (Nat.le_refl _))⟩
  ·rw [← e,List.length_map,List.length_map,sizeLine_eq]
   omega
  ·rw [← e]
   exact aH9 l
 have sz:z.length<=sizeLine:=by rw [sizeLine_eq]; omega
 cases h1:(decide (z.length < y.length) || decide (Builtin.Str.strKind z < Builtin.Str.strKind y))
 ·cases hf:(Builtin.Str.occurrences z y 0 z.length (z.length+1)).isEmpty
  ·refine call_meets F.slot_str_split (typeIs_str _ _ _) F.entry_str_split (F.args_str_split_2 _ _) (meets_str_split_sep z y t t' h1 hy hf sz (by rw [sizeLine_eq]; omega)) ?_
   show wants _ _ _ { s with toks:=_,heap:=s.heap.push { cls:=.type "list",data:=.seq (strsFrom s.toks (Builtin.Str.partsBetween z (Builtin.Str.occurrences z y 0 z.length (z.length+1)) y.length)).toArray } }
   rw [strsFrom_eq]
   have e:=numbered_texts s.toks (Builtin.Str.partsBetween z (Builtin.Str.occurrences z y 0 z.length (z.length+1)) y.length)
   have e2:=congrArg List.length e
   rw [List.length_map] at e2
   exact fin _ _ (e.trans ((if_neg (ne_true_of_eq_false h1)).trans (if_neg (ne_true_of_eq_false hf))).symm) (by omega)
  ·refine call_meets F.slot_str_split (typeIs_str _ _ _) F.entry_str_split (F.args_str_split_2 _ _) (meets_str_split_not_found z y t t' h1 hy hf) ?_
   exact fin [(z,t)] s.toks ((if_neg (ne_true_of_eq_false h1)).trans (if_pos hf)).symm (by simp)
 ·refine call_meets F.slot_str_split (typeIs_str _ _ _) F.entry_str_split (F.args_str_split_2 _ _) (meets_str_split_cannot_occur z y t t' h1) ?_
  exact fin [(z,t)] s.toks (if_pos h1).symm (by simp)
end
end L2
namespace L2
open PySem PySem.Spec PyProof.Rows
noncomputable def Its (z:Str):It:=⟨fun i _=>i < z.cps.size,fun i H x H'=>H'=H/\∃ c,z.cps[i]?=some c/\x=.str ⟨#[c]⟩,fun i _=>z.cps.size<=i⟩
theorem aOm {P:Program} {w:World} {K:PySem.W.Frag} {tg:Expr} (it:Addr) (z:Str) (t:Tok) (n:String) (hn:n="str_ascii_iterator"∨n="str_iterator"):aYf P w K tg (Its z) [it] it (fun i h=>h.IsStrIter it n z t i) where
 mem:=by simp
 obj:=fun i h st b hb=>by
  obtain rfl:b=it:=by simpa using hb
  obtain ⟨o,e,c,d⟩:=st
  exact ⟨o,e,fun v y=>by rw [d] at y; cases y⟩
 keep:=fun i h h' st k=>let ⟨o,e,r⟩:=st; ⟨o,k it (by simp) o e,r⟩
 item:=by
  intro X hP hw hK hc i pins s σ H E I hf st hg
  subst hP hw hK
  obtain ⟨f0,f1,f2,f3,f4,f5⟩:=hf it (by simp)
  have hg:i < z.cps.size:=hg
  have ec:z.cps[i]?=some z.cps[i]:=by simp [hg]
  have fin:∀ h',h'.IsStrIter it n z t (i+1)->Heap.SameBut it s.heap h'->∃ u,some (Value.str ⟨#[z.cps[i]]⟩ s.toks)=some u /\
    wpAny (model X.prog X.w) X.A (letOwnedTupleGo tg (.ref it) u) (fun _ s2=>∃ x H',Inv X pins σ H' s2/\aB0 x u/\(Its z).yld i H x H'/\s2.heap.IsStrIter it n z t (i+1)/\∀ b∈[it],H' b=none) E { s with heap:=h',toks:=s.toks+1 }:=fun h' st' sb=>by
   have I1:Inv X pins σ H { s with heap:=h',toks:=s.toks+1 }:=I.turned (fun b o hb e=>(sb.2 b hb).trans e) f0 f1 f3 f4 f5
   obtain ⟨o,e,c,d⟩:=id st'
   have hno:["enumerate","zip","dict_itemiterator","dict_reverseitemiterator","odict_iterator","itertools.zip_longest","itertools.pairwise"].contains n=false:=by
    rcases hn with rfl | rfl <;> decide
   exact ⟨_,rfl,aUb (s:={ s with heap:=h',toks:=s.toks+1 }) e c d hno ⟨.str ⟨#[z.cps[i]]⟩,H,I1,⟨_,rfl⟩,⟨rfl,_,ec,rfl⟩,st',fun b hb=>(hf b hb).1⟩⟩
  rcases hn with rfl | rfl
  ·exact wpAny_pyNext_ascii_item st ec fin
  ·exact wpAny_pyNext_wide_item st ec fin
 done:=by
  intro X hP hw hK hc i pins s σ H E I hf st hg
  subst hP hw hK
  obtain ⟨f0,f1,f2,f3,f4,f5⟩:=hf it (by simp)
  have hg:z.cps.size<=i:=hg
  have ec:z.cps[i]?=none:=by simp [hg]
  rcases hn with rfl | rfl
  ·exact wpAny_pyNext_ascii_end (I.ok.hd hc) st ec fun h' eb=>⟨rfl,I.turned (t':=s.toks) (fun b o hb e=>eb b o hb e) f0 f1 f3 f4 f5⟩
  ·exact wpAny_pyNext_wide_end (I.ok.hd hc) st ec fun h' eb=>⟨rfl,I.turned (t':=s.toks) (fun b o hb e=>eb b o hb e) f0 f1 f3 f4 f5⟩
 self:=fun _ _ _ _ _ st h=>by
  rcases hn with rfl | rfl
  ·exact wpAny_pyIter_striter_ascii st h
  ·exact wpAny_pyIter_striter_wide st h
section
variable {X:Cx} {tg:Expr}
noncomputable def aVg (tl:TE):TI:=fun σ H R=>tl σ H fun x H1=>∃ z,x=.str z/\R (Its z) H1
theorem aN0 {l:Expr} {tl:TE} (hl:PE X l tl):PI X tg l (aVg tl):=by
 intro pins s σ H R I h
 refine thn (hl pins s σ H _ I h) fun v s1 ⟨x,H1,I1,r1,z,e,q⟩=>?_
 subst e
 obtain ⟨t,rfl⟩:=r1
 refine wpAny_pyIter_strU ?_
 refine ⟨s1.heap.objs.size,[s1.heap.objs.size],_,_,H1,rfl,I1.kept (t':=s1.toks) fun b o e=>Heap.get?_push_of_some _ e,aOm _ z t (strIterType z) ?_,⟨_,Heap.get?_push_size _ rfl,rfl,rfl⟩,fun b hb=>?_,q⟩
 ·unfold strIterType
  split
  ·exact .inl rfl
  ·exact .inr rfl
 ·obtain rfl:b=s1.heap.objs.size:=by simpa using hb
  exact I1.fpOk (Nat.le_refl _) (I1.hok.fresh (Nat.le_refl _))
noncomputable def bAk:R2:=fun x y H Q=>∃ (c:Nat) (z:Str),x=.str ⟨#[c]⟩/\y=.str z/\Q (.bl (decide (c∈z.cps.toList))) H
theorem aQ6:OpR X (compareOp .In) bAk:=by
 intro pins s σ H x y v u Q I rx ry h
 obtain ⟨c,z,rfl,rfl,q⟩:=h
 obtain ⟨t,rfl⟩:=rx
 obtain ⟨t',rfl⟩:=ry
 refine P.in_str ⟨.bl _,H,I,rfl,?_⟩
 rw [StrLaws.found_one]
 exact q
noncomputable def bAm (K:PySem.W.Frag):List V->Hp->VK->Prop:=fun vs H Q=>∃ (p:Addr) (bs:List Bool),vs=[.ref p]/\SqL K H p (bs.map V.bl)/\Q (.bl (bs.all id)) H
theorem aSw:∀ (bs:List Bool),(List.range bs.length).all (fun i=>(bs[i]?).getD true)=bs.all id:=by
 intro bs
 rw [Bool.eq_iff_iff,List.all_eq_true,List.all_eq_true]
 constructor
 ·intro h x hx
  obtain ⟨i,hi,e⟩:=List.getElem_of_mem hx
  have q:=h i (List.mem_range.mpr hi)
  rw [List.getElem?_eq_getElem hi,e] at q
  exact q
 ·intro h i hi
  have hi:=List.mem_range.mp hi
  have q:=h bs[i] (List.getElem_mem hi)
  rw [List.getElem?_eq_getElem hi]
  exact q
theorem aI0 (hc:X.calm=true):aDn X (.builtin "all") (bAm X.K):=by
 intro pins s σ H xs us Q I r h
 obtain ⟨p,bs,rfl,hp,q⟩:=h
 obtain ⟨u,rfl,rx⟩:=r.one
 cases rx
 obtain ⟨its,rl,ht,hz⟩:=I.list hp
 have hlt:p < s.heap.objs.size:=by
  obtain ⟨_,e,_⟩:=ht.isList
  exact Heap.lt_size e
 have hlen:=rl.length
 rw [List.length_map] at hlen
 refine call_all_walk (wpAny_pyIter_list ht.isList ?_)
 refine ⟨s.heap.objs.size,[s.heap.objs.size,p],[s.heap.objs.size],its.toArray.size,_,_,fun i=>(bs[i]?).getD true,rfl,Walks.list (A:=X.A.in1) (I.ok.hd hc) _ p (Nat.ne_of_lt hlt) its.toArray,⟨⟨_,Heap.get?_push_size _ rfl,rfl,rfl⟩,ht.isList.at fun o e=>Heap.get?_push_of_some _ e⟩,?_,fun h' tk hk=>?_⟩
 ·intro i v s' Q' E' hv hq
  have hv:its[i]?=some v:=by simpa using hv
  have hi:i < bs.length:=by
   have:=(List.getElem?_eq_some_iff.mp hv).1
   omega
  obtain ⟨u,e1,r1⟩:=rl.get (i:=i) (x:=.bl bs[i]) (by simp [hi])
  rw [hv] at e1
  cases e1
  obtain rfl:v=Value.bool bs[i]:=r1
  refine wpAny_truthy_bool ?_
  have hq:Q' ((bs[i]?).getD true) s':=hq
  rw [List.getElem?_eq_getElem hi] at hq
  exact hq
 ·refine ⟨.bl _,H,I.kept (t':=tk) fun b o e=>hk b o (fun z=>?_) (Heap.get?_push_of_some _ e),?_,q⟩
  ·exact absurd (Heap.lt_size e) (by rw [List.mem_singleton.mp z]; exact Nat.lt_irrefl _)
  ·show Value.bool _=Value.bool _
   rw [List.size_toArray,← hlen,aSw]
end
section
variable {te:TE} {Q:VK} {H:Hp} {σ caps:St} {wi:TI} {tc:TT} {K:PySem.W.Frag}
theorem aTl {tl:TE} {R:It->Hp->Prop} (k:tl σ H fun x H1=>∃ z,x=.str z/\R (Its z) H1):aVg tl σ H R:=k
theorem aQn {z:Str} (hn:z.length<=1000) (Pv:Addr->Nat->List V->Hp->Prop) (h0:∀ acc,H acc=none->Pv acc 0 [] (upd H acc (.lst [])))
  (hs:∀ acc i ys H1 c,H acc=none->z.cps[i]?=some c->ys.length=i->H1 acc=some (.lst ys)->Pv acc i ys H1->te (some (.str ⟨#[c]⟩)::caps) H1 (aPf z.length acc (Pv acc) ys i))
  (hd:∀ acc ys H1,H acc=none->H1 acc=some (.lst ys)->ys.length=z.length->Pv acc z.length ys H1->Q (.ref acc) H1):aKe te none (aGo 0) (List.replicate 1 none) caps Q (Its z) H:=by
 intro acc hacc
 refine ⟨cW z.length acc (Pv acc),⟨z.length,by simp,Nat.zero_le _,rfl,aAe,h0 acc hacc⟩,?_⟩
 rintro i m ys H1 ⟨rfl,hi,hl,ha,p⟩
 refine ⟨ha,?_⟩
 by_cases hlt:i < z.length
 ·refine .inr ⟨aCj (by omega),hlt,fun us x H' hu y=>?_⟩
  obtain ⟨e,c,ec,y⟩:=y
  subst e y
  obtain ⟨o,rfl⟩:=bBf hu
  exact ⟨⟨[some (.str ⟨#[c]⟩)],rfl,rfl⟩,hs acc i ys _ c hacc ec hl ha p⟩
 ·have e:i=z.length:=by omega
  subst e
  exact .inl ⟨Nat.le_refl _,hd acc ys H1 hacc ha hl p⟩
theorem aZu {c:Nat} {z:Str} (k:Q (.bl (decide (c∈z.cps.toList))) H):bAk (.str ⟨#[c]⟩) (.str z) H Q:=⟨c,z,rfl,rfl,k⟩
theorem aIt {p:Addr} {bs:List Bool} (h:H p=some (.lst (bs.map V.bl))) (k:Q (.bl (bs.all id)) H):bAm K [.ref p] H Q:=⟨p,bs,rfl,SqL.of h,k⟩
theorem aJk {z y:Str} (hy:(y.length==0)=false) (hz:z.length<=1000000) (k:∀ l,H l=none->Q (.ref l) (upd H l (.lst ((Txt.split z y).map V.str)))):aU9 (.str z) [.str y] H Q:=⟨z,y,rfl,rfl,hy,hz,k⟩
end
section
variable {r r':R2} {ta tb tc:TE} {x y:V} {σ:St} {H:Hp} {Q:VK} {c:Bool}
noncomputable def chnD (r':R2) (y:V) (Q:VK):VK:=fun w' H4=>r' y w' H4 Q
noncomputable def chnC (r':R2) (tc:TE) (y:V) (σ:St) (Q:VK):VK:=fun z H3=>∃ k,z=.bl k/\(if k=true then tc σ H3 (chnD r' y Q) else Q (.bl false) H3)
noncomputable def chnB (r r':R2) (tc:TE) (x:V) (σ:St) (Q:VK):VK:=fun y H2=>r x y H2 (chnC r' tc y σ Q)
noncomputable def chnA (r r':R2) (tb tc:TE) (σ:St) (Q:VK):VK:=fun x H1=>tb σ H1 (chnB r r' tc x σ Q)
theorem aWj (k:ta σ H (chnA r r' tb tc σ Q)):aPz r r' ta tb tc σ H Q:=k
theorem aZ8 (k:tb σ H (chnB r r' tc x σ Q)):chnA r r' tb tc σ Q x H:=k
theorem aZ7 (k:r x y H (chnC r' tc y σ Q)):chnB r r' tc x σ Q y H:=k
theorem aZ6 (k:if c=true then tc σ H (chnD r' y Q) else Q (.bl false) H):chnC r' tc y σ Q (.bl c) H:=⟨c,rfl,k⟩
theorem aZ5 (k:r' x y H Q):chnD r' x Q y H:=k
end
section
variable {K:PySem.W.Frag} {H H':Hp}
noncomputable def NS (K:PySem.W.Frag) (H:Hp) (x:V):Prop:=∃ t,aG7 K H x t/\PySem.W.kitOne K t (.type "str")=some false
end
noncomputable def pst:List Nat->Nat->Nat->Bool
 | [],k,n=>decide (k<=4)&&(decide (1<=n)&&decide (n<=8))
 | c::r,k,n=>if c=46 then (decide (1<=n)&&decide (n<=8))&&pst r (k+1) 0 else (decide (97<=c)&&decide (c < 123))&&pst r k (n+1)
noncomputable def postB (z:Str):Bool:=pst z.cps.toList 1 0
noncomputable def aBx (z:Str):Bool:=(decide (1<=z.length)&&decide (z.length<=8))&&z.cps.toList.all fun c=>decide (97<=c)&&decide (c < 123)
theorem aJm:∀ (l:List Nat) (r:List Nat) (k n:Nat),46∉l->pst (l++r) k n=((l.all fun c=>decide (97<=c)&&decide (c < 123))&&pst r k (n+l.length))
 | [],r,k,n,_=>by simp
 | c::l,r,k,n,h=>by
  have h1:c≠46:=fun e=>h (by simp [e])
  have h2:46∉l:=fun e=>h (by simp [e])
  show (if c=46 then _ else _)=_
  rw [if_neg h1]
  show ((decide (97<=c)&&decide (c < 123))&&pst (l++r) k (n+1))=_
  rw [aJm l r k (n+1) h2,List.all_cons,List.length_cons,show n+1+l.length=n+(l.length+1) by omega]
  simp only [Bool.and_assoc]
theorem aD1 (x:Str):(Str.join ⟨#[46]⟩ [x]).cps.toList=x.cps.toList:=rfl
theorem aD0 (x y:Str) (r:List Str):(Str.join ⟨#[46]⟩ (x::y::r)).cps.toList=x.cps.toList++46::(Str.join ⟨#[46]⟩ (y::r)).cps.toList:=by
 show (((x.cps++#[46])++(Str.join ⟨#[46]⟩ (y::r)).cps):Array Nat).toList=_
 simp
theorem aBa (z:Str):z.length=z.cps.toList.length:=by unfold Str.length; simp
theorem aJn:∀ (ps:List Str) (x:Str) (k:Nat),(∀ p∈x::ps,46∉p.cps.toList)->pst (Str.join ⟨#[46]⟩ (x::ps)).cps.toList k 0=(decide (k+ps.length<=4)&&(x::ps).all aBx)
 | [],x,k,h=>by
  rw [aD1]
  have q:=aJm x.cps.toList [] k 0 (h x (by simp))
  rw [List.append_nil] at q
  rw [q,Nat.zero_add,← aBa]
  show (_&&(decide (k<=4)&&_))=_
  simp only [List.all_cons,List.all_nil,Bool.and_true,aBx,List.length_nil,Nat.add_zero]
  cases decide (k<=4) <;> cases (decide (1<=x.length)&&decide (x.length<=8)) <;> cases (x.cps.toList.all fun c=>decide (97<=c)&&decide (c < 123)) <;> rfl
 | y::r,x,k,h=>by
  have ih:=aJn r y (k+1) fun p hp=>h p (List.mem_cons_of_mem _ hp)
  rw [aD0,aJm _ _ k 0 (h x (by simp))]
  show (_&&(if 46=46 then _ else _))=_
  rw [if_pos rfl,ih,Nat.zero_add,← aBa,List.all_cons (a:=x),List.length_cons]
  show (_&&(_&&(decide (k+1+r.length<=4)&&_)))=(decide (k+(r.length+1)<=4)&&(((_&&_)&&_)&&_))
  rw [show k+1+r.length=k+(r.length+1) by omega]
  cases decide (k+(r.length+1)<=4) <;> cases decide (1<=x.length) <;> cases decide (x.length<=8) <;> cases (x.cps.toList.all fun c=>decide (97<=c)&&decide (c < 123)) <;> cases (y::r).all aBx <;> rfl
theorem aF5 (z:Str):postB z=(decide ((Txt.split z ⟨#[46]⟩).length<=4)&&(Txt.split z ⟨#[46]⟩).all aBx):=by
 have h1:=StrLaws.join_split z ⟨#[46]⟩
 have h2:=StrLaws.split_free z 46
 have h3:=split_pos z ⟨#[46]⟩
 unfold postB
 generalize hs:Txt.split z ⟨#[46]⟩=ps at h1 h2 h3 ⊢
 cases ps with
 | nil=>simp at h3
 | cons x r =>
  rw [← h1,aJn r x 1 h2,List.length_cons,show 1+r.length=r.length+1 by omega]
theorem aTb {x y a:Str} (h:a∈Txt.split x y):a.length<=x.length:=part_short h
theorem aYx (x y:Str):(Txt.split x y).length<=x.length+2:=split_le x y
noncomputable def aE7 (K:PySem.W.Frag) (H:Hp) (x:V) (b:Bool):Prop:=(∃ z:Str,x=.str z/\z.length<=1000/\b=postB z)∨(NS K H x/\b=false)
theorem aG7.sm {K:PySem.W.Frag} {H H':Hp} {x:V} {t:Value} (ty:aG7 K H x t) (s:aAn H H'):aG7 K H' x t:=by
 cases ty with
 | non=>exact .non
 | bl x=>exact .bl x
 | int i=>exact .int i
 | str x=>exact .str x
 | flt x=>exact .flt x
 | lst e=>exact .lst (s _ _ e)
 | frz e=>exact .frz (s _ _ e)
 | tup e=>exact .tup (s _ _ e)
 | dK e=>exact .dK (s _ _ e)
 | dT e=>exact .dT (s _ _ e)
 | ins e cl ha hn htk hm=>exact .ins (s _ _ e) cl ha hn htk hm
theorem NS.sm {K:PySem.W.Frag} {H H':Hp} {x:V} (h:NS K H x) (s:aAn H H'):NS K H' x:=let ⟨t,ty,e⟩:=h; ⟨t,aG7.sm ty s,e⟩
theorem aE7.sm {K:PySem.W.Frag} {H H':Hp} {x:V} {b:Bool} (h:aE7 K H x b) (s:aAn H H'):aE7 K H' x b:=h.imp id fun z=>⟨z.1.sm s,z.2⟩
inductive aB6 (K:PySem.W.Frag) (H:Hp):V->Bool->Prop
 | nt {x:V} (h:NT K H x):aB6 K H x false
 | len {p:Addr} {xs:List V} (h:H p=some (.tup xs)) (n:xs.length≠3):aB6 K H (.ref p) false
 | one {p:Addr} {u v t:V} (h:H p=some (.tup [u,v,t])) (hu:aE7 K H u false):aB6 K H (.ref p) false
 | two {p:Addr} {u v t:V} (h:H p=some (.tup [u,v,t])) (hu:aE7 K H u true) (hv:aE7 K H v false):aB6 K H (.ref p) false
 | same {p:Addr} {s:Str} {t:V} (h:H p=some (.tup [.str s,.str s,t])) (hu:aE7 K H (.str s) true):aB6 K H (.ref p) false
 | time {p:Addr} {s s':Str} {t:V} (h:H p=some (.tup [.str s,.str s',t])) (hu:aE7 K H (.str s) true) (hv:aE7 K H (.str s') true) (hn:s≠s') (ht:∀ H',aAn H H'->Frq K H' t false):aB6 K H (.ref p) false
 | run {p tp:Addr} {s s':Str} {a c:Int} (h:H p=some (.tup [.str s,.str s',.ref tp])) (hu:aE7 K H (.str s) true) (hv:aE7 K H (.str s') true) (hn:s≠s') (ht:H tp=some (.tup [.int a,.int c])) (hf:frV (.int a) (.int c)=true) (sa:Sm 8000 a) (sc:Sm 8000 c):aB6 K H (.ref p) (decide (0 < a))
theorem aXy (a b:Str):(a++b).cps.toList=a.cps.toList++b.cps.toList:=by
 show (a.cps++b.cps).toList=_
 simp
theorem aN7 (a b:Str):(a++b).length=a.length+b.length:=by
 rw [aBa,aBa,aBa,aXy,List.length_append]
theorem aDb {z:Str} (h:aBx z=true):1<=z.length/\z.length<=8/\46∉z.cps.toList:=by
 unfold aBx at h
 rw [Bool.and_eq_true,Bool.and_eq_true,decide_eq_true_iff,decide_eq_true_iff,List.all_eq_true] at h
 refine ⟨h.1.1,h.1.2,fun m=>?_⟩
 exact absurd (h.2 _ m) (by decide)
theorem aMy (c:Nat):decide (c∈("abcdefghijklmnopqrstuvwxyz":Str).cps.toList)=(decide (97<=c)&&decide (c < 123)):=by
 have e:("abcdefghijklmnopqrstuvwxyz":Str).cps.toList=List.range' 97 26:=by decide +kernel
 rw [e,Bool.eq_iff_iff,Bool.and_eq_true,decide_eq_true_iff,decide_eq_true_iff,decide_eq_true_iff]
 exact List.mem_range'_1
end L2
namespace L2
open PySem PySem.Spec PyProof.Rows
theorem aT8 {s:Str} {ys:List Str}:inV (.str s) (ys.map V.str)=decide (s∈ys):=by
 unfold inV
 induction ys with
 | nil=>simp
 | cons y r ih =>
  rw [List.map_cons,List.any_cons,ih]
  show ((y==s) || _)=_
  by_cases e:y=s
  ·subst e
   simp
  ·have e2:¬ s=y:=fun z=>e z.symm
   simp [e,e2]
theorem aLl:∀ ys:List Str,(ys.map V.str).all aGp=true
 | []=>rfl
 | y::r=>by rw [List.map_cons,List.all_cons,aLl r]; rfl
section
variable {σ:St} {H:Hp} {Q:VK} {K:PySem.W.Frag}
end
noncomputable abbrev sC:Str:=Str.ofString "c"
noncomputable def n2:List aD3:=[(sA,sB,Rat.divInt 1 2),(sB,sC,Rat.divInt 1 3)]
end L2
namespace L2
open PySem PySem.Spec PyProof.Rows
section
variable {H:Hp} {Q:VK} {K:PySem.W.Frag} {σ:St} {D:aFy} {v:V}
theorem bAb {i:Nat} {te:TE} {ti:TIp} {x:V} (h:σ[i]?=some (some x)) (k:te σ H fun y H1=>ti x y H1 fun z H2=>D.nx (σ.set i (some z)) H2):tAug i te ti D σ H:=⟨x,h,k⟩
end
end L2
namespace L2
open PySem PySem.Spec PyProof.Rows
section
variable {X:Cx} {k n:Nat} {x:Str} {ps ks:List Str} {dvs:List V} {sp:Sp} {p pos:Pos} {e:Expr} {es:List Expr} {kws:List Keyword} {t tk:TA}
end
section
variable {σ:St} {H:Hp} {Q:VK} {K:PySem.W.Frag}
end
noncomputable def n3:List aD3:=[(sA,sB,Rat.divInt 1 2),(sB,sC,Rat.divInt 1 1)]
noncomputable def ts3:List (Key×Rat):=[(Sum.inl 0,Rat.divInt 1 2),(Sum.inl 1,Rat.divInt 1 1)]
noncomputable def tk3:Nat->Option Rat:=fun k=>aget (lst ts3) (Sum.inl (k:Int))
end L2
namespace L2
open PySem PySem.Spec PyProof.Rows
section
variable {X:Cx}
end
section
variable {H:Hp} {Q:VK} {u v:V} {a b:Option Rat}
end
section
variable {net:List (aX6 Key)} {a b:Key} {m:Rat} {tk:Nat -> Option Rat} {f:Key -> Option Rat}
end
open Classical in
noncomputable def dst (n:List aD3) (a:Key) (m:Rat):Key->Option Rat:=if h:∃ f,Falls (kn n) (aget (lst [(a,m)])) (fun _=>none) f then Classical.choose h else fun _=>none
noncomputable def gd (n:List aD3) (s z:Str):Option Rat:=if z∈names n then dst n (Sum.inr s) (Rat.divInt 0 1) (Sum.inr z) else none
noncomputable def prs (ys:List Str):List (Str×Str):=ys.flatMap fun y=>ys.map fun z=>(y,z)
theorem Pd.cut {β:Type} {R:V->β->Prop} {xs:List V} {ds:List β} (h:Paired R xs ds) (a b:Nat):Paired R ((xs.drop a).take b) ((ds.drop a).take b):=by
 have hd:∀ (a:Nat) {xs:List V} {ds:List β},Paired R xs ds->Paired R (xs.drop a) (ds.drop a):=fun a=>by
  induction a with
  | zero=>exact fun h=>h
  | succ a ih =>
   intro xs ds h
   cases h with
   | nil=>exact .nil
   | cons r t=>exact ih t
 have ht:∀ (b:Nat) {xs:List V} {ds:List β},Paired R xs ds->Paired R (xs.take b) (ds.take b):=fun b=>by
  induction b with
  | zero=>exact fun h=>.nil
  | succ b ih =>
   intro xs ds h
   cases h with
   | nil=>exact .nil
   | cons r t=>exact .cons r (ih t)
 exact ht b (hd a h)
theorem Pd.app {β:Type} {R:V->β->Prop}:∀ {xs ys:List V} {ds es:List β},Paired R xs ds->Paired R ys es->Paired R (xs++ys) (ds++es)
 | _,_,_,_,.nil,h=>h
 | _,_,_,_,.cons r t,h=>.cons r (Pd.app t h)
theorem bB8 {X:Cx} {scope:Scope} {caps:List (Str×Addr)} {N:List Str} {C:Addr} {s0:Shared} {H0:Hp} {ex:List Addr}:aDn (aA6 X scope caps N C s0 H0 ex) (.builtin "len") (aYc X.K):=aDr
end L2
namespace L2
open PySem PySem.Spec PyProof.Rows
noncomputable def fW (n:Nat) (acc:Addr) (Pv:Nat->List V->Hp->Prop):Nat->Nat->List V->Hp->Prop:=fun i m ys H1=>m=n - i/\i<=n/\ys.length<=i/\H1 acc=some (.lst ys)/\Pv i ys H1
noncomputable def aXp (n:Nat) (acc:Addr) (Pv:Nat->List V->Hp->Prop) (ys:List V) (i:Nat):VK:=fun y H3=>H3 acc=some (.lst ys)/\∃ m',m' < n - i/\fW n acc Pv (i+1) m' (ys++[y]) (upd H3 acc (.lst (ys++[y])))
noncomputable def aXo (n:Nat) (acc:Addr) (Pv:Nat->List V->Hp->Prop) (ys:List V) (i:Nat) (H3:Hp):Prop:=∃ m',m' < n - i/\fW n acc Pv (i+1) m' ys H3
theorem bBz {n:Nat} {acc:Addr} {Pv:Nat->List V->Hp->Prop} {ys:List V} {i:Nat} {y:V} {H3:Hp} (hlt:i < n) (hl:ys.length<=i) (ha:H3 acc=some (.lst ys)) (p:Pv (i+1) (ys++[y]) (upd H3 acc (.lst (ys++[y])))):aXp n acc Pv ys i y H3 :=
 ⟨ha,n - (i+1),by omega,rfl,hlt,by rw [List.length_append]; simp; exact hl,aAe,p⟩
theorem bBy {n:Nat} {acc:Addr} {Pv:Nat->List V->Hp->Prop} {ys:List V} {i:Nat} {H3:Hp} (hlt:i < n) (hl:ys.length<=i) (ha:H3 acc=some (.lst ys)) (p:Pv (i+1) ys H3):aXo n acc Pv ys i H3 :=
 ⟨n - (i+1),by omega,rfl,hlt,by omega,ha,p⟩
section
variable {te:TE} {Q:VK} {H:Hp} {caps:St} {K:PySem.W.Frag}
theorem aTp {c:TT} {a:Addr} {xs:List V} (hn:xs.length<=1000) (Pv:Addr->Nat->List V->Hp->Prop) (h0:∀ acc,H acc=none->Pv acc 0 [] (upd H acc (.lst []))) (hl':∀ acc i ys H1,H acc=none->i<=xs.length->Pv acc i ys H1->SqL K H1 a xs)
  (hs:∀ acc i ys H1 x,H acc=none->xs[i]?=some x->ys.length<=i->H1 acc=some (.lst ys)->Pv acc i ys H1->c (some x::caps) H1 fun b H3=>if b=true then te (some x::caps) H3 (aXp xs.length acc (Pv acc) ys i) else aXo xs.length acc (Pv acc) ys i H3)
  (hd:∀ acc ys H1,H acc=none->H1 acc=some (.lst ys)->ys.length<=xs.length->Pv acc xs.length ys H1->Q (.ref acc) H1):aKe te (some c) (aGo 0) (List.replicate 1 none) caps Q (Itl K a) H:=by
 intro acc hacc
 refine ⟨fW xs.length acc (Pv acc),⟨xs.length,by simp,Nat.zero_le _,Nat.le_refl _,aAe,h0 acc hacc⟩,?_⟩
 rintro i m ys H1 ⟨rfl,hi,hl,ha,p⟩
 have q:=hl' acc i ys H1 hacc hi p
 refine ⟨ha,?_⟩
 by_cases hlt:i < xs.length
 ·refine .inr ⟨aCj (by omega),⟨xs,xs[i],q,by simp [hlt]⟩,fun us x H' hu y=>?_⟩
  obtain ⟨e,y⟩:=y
  subst e
  obtain ⟨o,rfl⟩:=bBf hu
  exact ⟨⟨[some x],rfl,rfl⟩,hs acc i ys _ x hacc (y xs q) hl ha p⟩
 ·have e:i=xs.length:=by omega
  subst e
  exact .inl ⟨⟨xs,q,Nat.le_refl _⟩,hd acc ys H1 hacc ha hl p⟩
end
section
variable {X:Cx} {tg:Expr}
end
section
variable {σ:St} {H:Hp} {D:aFy} {K:PySem.W.Frag}
end
section
variable {X:Cx}
end
section
variable {H:Hp} {Q:VK}
end
end L2
namespace L2
open PySem PySem.Spec PyProof.Rows
section
variable {net:List (aX6 Key)} {push:Key -> Option Rat} {tk:Nat -> Option Rat}
end
noncomputable def but (ks:List Nat) (j:Nat):List Nat:=ks.filter fun k=>decide (k≠j)
theorem bBb {H:Hp} {Q:VK} {l1 l3:Addr} {n:List aD3} (h1:LQ aCg H l1 (kn n)) (h3:LQ aCg H l3 (kn n)) (k:Q (.bl false) H):aWl (.ref l1) (.ref l3) H Q:=by
 obtain ⟨v1,a1,p1⟩:=h1
 obtain ⟨v3,a3,p3⟩:=h3
 refine bBc (ds:=n.map aUj) (es:=n.map aUj) ⟨l1,_,rfl,a1,aCo p1⟩ ⟨l3,_,rfl,a3,aCo p3⟩ (Nat.le_trans (aFw n) (by decide)) ?_
 rw [aKh.same_eq _ _ (aCo p1) (aCo p1)]
 exact k
noncomputable def n4:List aD3:=[(sA,sB,Rat.divInt 1 1),(sB,sA,Rat.divInt 1 1)]
theorem aZd {H:Hp} {Q:VK} {z:Str} {lo hi:Option Int} (hz:z.length<=100000) (k:Q (.str (Txt.slice z lo hi)) H):rSlS (.str z) lo hi H Q:=⟨z,rfl,by rw [sizeLine_eq]; omega,k⟩
section
variable {X:Cx} {scope:Scope} {caps:List (Str×Addr)} {N:List Str} {C:Addr} {s0:Shared} {H0:Hp} {ex:List Addr}
end
section
variable {te:TE} {Q:VK} {H:Hp} {caps:St} {K:PySem.W.Frag} {σ:St}
noncomputable def ittK (K:PySem.W.Frag) (R:It->Hp->Prop):VK:=fun x H1=>∃ a,x=.ref a/\(∃ xs,SqT K H1 a xs)/\R (Itt K a) H1
theorem aZw {tl:TE} {R:It->Hp->Prop} (k:tl σ H (ittK K R)):iTup K tl σ H R:=k
theorem aJj {a:Addr} {xs:List V} {R:It->Hp->Prop} (h:SqT K H a xs) (k:R (Itt K a) H):ittK K R (.ref a) H:=⟨a,rfl,⟨xs,h⟩,k⟩
theorem aWh {a:Addr} {xs:List V} (hn:xs.length<=1000) (Pv:Addr->Nat->List V->Hp->Prop) (h0:∀ acc,H acc=none->Pv acc 0 [] (upd H acc (.lst []))) (hl':∀ acc i ys H1,H acc=none->i<=xs.length->Pv acc i ys H1->SqT K H1 a xs)
  (hs:∀ acc i ys H1 x,H acc=none->xs[i]?=some x->ys.length=i->H1 acc=some (.lst ys)->Pv acc i ys H1->te (some x::caps) H1 (aPf xs.length acc (Pv acc) ys i))
  (hd:∀ acc ys H1,H acc=none->H1 acc=some (.lst ys)->ys.length=xs.length->Pv acc xs.length ys H1->Q (.ref acc) H1):aKe te none (aGo 0) (List.replicate 1 none) caps Q (Itt K a) H:=by
 intro acc hacc
 refine ⟨cW xs.length acc (Pv acc),⟨xs.length,by simp,Nat.zero_le _,rfl,aAe,h0 acc hacc⟩,?_⟩
 rintro i m ys H1 ⟨rfl,hi,hl,ha,p⟩
 have q:=hl' acc i ys H1 hacc hi p
 refine ⟨ha,?_⟩
 by_cases hlt:i < xs.length
 ·refine .inr ⟨aCj (by omega),⟨xs,xs[i],q,by simp [hlt]⟩,fun us x H' hu y=>?_⟩
  obtain ⟨e,y⟩:=y
  subst e
  obtain ⟨o,rfl⟩:=bBf hu
  exact ⟨⟨[some x],rfl,rfl⟩,hs acc i ys _ x hacc (y xs q) hl ha p⟩
 ·have e:i=xs.length:=by omega
  subst e
  exact .inl ⟨⟨xs,q,Nat.le_refl _⟩,hd acc ys H1 hacc ha hl p⟩
end
theorem aJu {X:Cx} {scope:Scope} {caps:List (Str×Addr)} {N:List Str} {C:Addr} {s0:Shared} {H0:Hp} {ex:List Addr}:OpR (aA6 X scope caps N C s0 H0 ex) (binaryOp .Add) (aOx X.K):=aA3
noncomputable def n5:List aD3:=[(sA,sB,Rat.divInt 1 1)]
end L2
namespace L2
open PySem PySem.Spec PyProof.Rows
theorem aXv:∀ i,i < 1000->(Str.ofString (toString ((i:Nat):Int))).length<=10:=by decide +kernel
section
variable {X:Cx}
noncomputable def aYs (te:TE):TE:=fun σ H Q=>te σ H fun x H1=>∃ i:Nat,x=.int i/\i < 1000/\∀ z:Str,z.length<=10->Q (.str z) H1
theorem aRp {i:Nat} (h:i < 1000):((i:Nat):Int).natAbs.log2 < 1920:=by
 rw [Int.natAbs_natCast]
 by_cases e:i=0
 ·subst e; decide
 ·have h1:i.log2 < 10:=(Nat.log2_lt e).mpr (by omega)
  omega
theorem aQy {e:Expr} {te:TE} {pos:Pos} (he:PE X e te):PE X (.FormattedValue e (-1) none pos) (aYs te):=by
 intro pins s σ H Q I h
 refine wpAny_FormattedValue_plain (thn (he pins s σ H _ I h) fun v s1 ⟨x,H1,I1,r1,i,e1,hi,q⟩=>?_)
 subst e1
 obtain ⟨t,rfl⟩:=r1
 exact wpAny_formatField_int (aRp hi) ⟨.str _,H1,I1.tok _,⟨_,rfl⟩,q _ (aXv i hi)⟩
noncomputable def tJn:List TE->TE
 | [],_,H,Q=>∀ z:Str,Q (.str z) H
 | t::r,σ,H,Q=>t σ H fun x H1=>∃ y:Str,x=.str y/\y.length<=1000/\tJn r σ H1 Q
inductive PJs (X:Cx):List Expr->List TE->Prop
 | nil:PJs X [] []
 | cons {v:Expr} {vs:List Expr} {t:TE} {ts:List TE} (h:PE X v t) (r:PJs X vs ts):PJs X (v::vs) (t::ts)
theorem aNy:PJs X [] []:=.nil
theorem aC4 {v:Expr} {vs:List Expr} {t:TE} {ts:List TE} (h:PE X v t) (r:PJs X vs ts):PJs X (v::vs) (t::ts):=.cons h r
theorem aN8 {pins:List (Addr×Obj)} {σ:St} {Q:VK}:∀ {vs:List Expr} {ts:List TE} (_:PJs X vs ts) (n:Nat) (acc:Str) (s:Shared) (H:Hp),acc.length<=1000 * n->ts.length+n<=100->Inv X pins σ H s->tJn ts σ H Q ->
  Joins (model X.prog X.w) X.A X.xe (evalEach vs X.env) acc (fun out s₁=>out.length<=sizeLine/\EP X pins σ Q (.str out s₁.toks) { s₁ with toks:=s₁.toks+1 }) s
 | _,_,.nil,n,acc,s,H,ha,hn,I,h=>⟨by rw [sizeLine_eq]; omega,.str acc,H,I.tok _,⟨_,rfl⟩,h acc⟩
 | v::vs,t::ts,.cons hp r,n,acc,s,H,ha,hn,I,h=>by
  show wpAny _ _ (eval v X.env) _ _ s
  rw [List.length_cons] at hn
  refine thn (hp pins s σ H _ I h) fun u s1 ⟨x,H1,I1,r1,y,e1,hy,q⟩=>?_
  subst e1
  obtain ⟨tk,rfl⟩:=r1
  have hl:=aN7 acc y
  refine ⟨y,tk,rfl,by rw [hl,sizeLine_eq]; omega,aN8 r (n+1) (acc++y) s1 H1 (by omega) (by omega) I1 q⟩
theorem aQx {v1 v2:Expr} {aIr:List Expr} {ts:List TE} {pos:Pos} (h:PJs X (v1::v2::aIr) ts) (hn:ts.length<=50):PE X (.JoinedStr (v1::v2::aIr) pos) (tJn ts):=by
 intro pins s σ H Q I hq
 exact wpAny_JoinedStr (aN8 h 0 Str.empty s H (Nat.le_refl _) (by omega) I hq)
theorem r_jn0 {σ:St} {H:Hp} {Q:VK} (k:∀ z:Str,Q (.str z) H):tJn [] σ H Q:=k
noncomputable def jnK (r:List TE) (σ:St) (Q:VK):VK:=fun x H1=>∃ y:Str,x=.str y/\y.length<=1000/\tJn r σ H1 Q
theorem r_jn {t:TE} {r:List TE} {σ:St} {H:Hp} {Q:VK} (k:t σ H (jnK r σ Q)):tJn (t::r) σ H Q:=k
theorem r_jnK {r:List TE} {σ:St} {H:Hp} {Q:VK} {y:Str} (hy:y.length<=1000) (k:tJn r σ H Q):jnK r σ Q (.str y) H:=⟨y,rfl,hy,k⟩
noncomputable def fmK (Q:VK):VK:=fun x H1=>∃ i:Nat,x=.int i/\i < 1000/\∀ z:Str,z.length<=10->Q (.str z) H1
theorem r_fmt {te:TE} {σ:St} {H:Hp} {Q:VK} (k:te σ H (fmK Q)):aYs te σ H Q:=k
theorem aQl {i:Nat} {H:Hp} {Q:VK} (hi:i < 1000) (k:∀ z:Str,z.length<=10->Q (.str z) H):fmK Q (.int i) H:=⟨i,rfl,hi,k⟩
end
theorem aQ0 {X:Cx} {scope:Scope} {caps:List (Str×Addr)} {N:List Str} {C:Addr} {s0:Shared} {H0:Hp} {ex:List Addr} {o e:Expr} {es:List Expr} {to:TE} {t:TA} {name:Str} {apos cpos:Pos} {T id:String} {r:V->List V->Hp->VK->Prop}
  (pa:PlainAttrs T) (slot:Slot T name id) (hty:typeOf (.builtin id)=pure (.type "method_descriptor")) (hm:MtR (aA6 X scope caps N C s0 H0 ex) id r) (ho:PE (aA6 X scope caps N C s0 H0 ex) o to) (ha:PA (aA6 X scope caps N C s0 H0 ex) (e::es) t)
  (hbase:attributeBase o name (aA6 X scope caps N C s0 H0 ex).env (eval o (aA6 X scope caps N C s0 H0 ex).env)=eval o (aA6 X scope caps N C s0 H0 ex).env:=by rfl)
  (hfew:((backTo cpos (starEach (e::es) (aA6 X scope caps N C s0 H0 ex).env)).all (fun x=>!x.1)&&(backToKw cpos (keywordEach [] (aA6 X scope caps N C s0 H0 ex).env)).all (fun x=>x.1.isSome)
   && decide ((e::es).length+([]:List Keyword).length+(if ([]:List Keyword).isEmpty then 0 else 1) < 30))=true:=by rfl)
  (hline:(apos.endLine==cpos.line)=true:=by rfl) (hs:starEach (e::es) (aA6 X scope caps N C s0 H0 ex).env=(false,eval e (aA6 X scope caps N C s0 H0 ex).env)::starEach es (aA6 X scope caps N C s0 H0 ex).env:=by rfl)
  (hplain:(backTo cpos (starEach es (aA6 X scope caps N C s0 H0 ex).env)).any (·.1)=false:=by rfl) :
  PE (aA6 X scope caps N C s0 H0 ex) (.Call (.Attribute o name apos) (e::es) [] cpos) (tBM X.K T r to t):=aEf pa slot hty hm ho ha hbase hfew hline hs hplain
theorem NT.sm {K:PySem.W.Frag} {H H':Hp} {x:V} (h:NT K H x) (s:aAn H H'):NT K H' x:=let ⟨t,ty,e⟩:=h; ⟨t,aG7.sm ty s,e⟩
theorem aB6.sm {K:PySem.W.Frag} {H H':Hp} {x:V} {b:Bool} (h:aB6 K H x b) (s:aAn H H'):aB6 K H' x b:=by
 cases h with
 | nt h=>exact .nt (h.sm s)
 | len h n=>exact .len (s _ _ h) n
 | one h hu=>exact .one (s _ _ h) (hu.sm s)
 | two h hu hv=>exact .two (s _ _ h) (hu.sm s) (hv.sm s)
 | same h hu=>exact .same (s _ _ h) (hu.sm s)
 | time h hu hv hn ht=>exact .time (s _ _ h) (hu.sm s) (hv.sm s) hn fun H2 s2=>ht H2 (s.trans s2)
 | run h hu hv hn ht hf sa sc=>exact .run (s _ _ h) (hu.sm s) (hv.sm s) hn (s _ _ ht) hf sa sc
noncomputable def NL (K:PySem.W.Frag) (H:Hp) (x:V):Prop:=∃ t,aG7 K H x t/\PySem.W.kitOne K t (.type "list")=some false
section
variable {σ:St} {H:Hp} {D:aFy} {K:PySem.W.Frag}
end
end L2
namespace L2
open PySem PySem.Spec PyProof.Rows
inductive Wsh where
 | after (s u:Str) (q:Rat) | within (s u:Str) (q:Rat) | wit (s u:Str) | frm (s:Str) (q:Rat)
noncomputable def aB8 (s:Str):Prop:=postB s=true/\s.length<=100
theorem aB8.q {K:PySem.W.Frag} {H:Hp} {s:Str} (h:aB8 s):aE7 K H (.str s) true:=.inl ⟨s,rfl,by have:=h.2; omega,h.1.symm⟩
noncomputable def SmR (q:Rat):Prop:=Sm 8000 q.num/\Sm 8000 (q.den:Int)
noncomputable def Wsh.ok:Wsh->Prop
 | .after s u q=>aB8 s/\aB8 u/\s≠u/\SmR q
 | .within s u q=>aB8 s/\aB8 u/\s≠u/\SmR q
 | .wit s u=>aB8 s/\aB8 u/\s≠u
 | .frm s q=>aB8 s/\0<=q.num/\SmR q
theorem aR0 (q:Rat):frV (.int q.num) (.int q.den)=true:=by
 show (decide (1<=(q.den:Int))&&decide (Int.gcd q.num q.den=1))=true
 have h1:1<=(q.den:Int):=by have:=q.den_pos; omega
 have h2:Int.gcd q.num q.den=1:=q.reduced
 rw [decide_eq_true h1,decide_eq_true h2]
 rfl
section
variable {H:Hp} {Q:VK} {l1 l2:Addr}
end
noncomputable def bef (i:Nat):Str:=([("":Str),"ab","abc.d","x.y.z"][i]?).getD ""
noncomputable def beh (i:Nat):Str:=([("":Str),"q",".r","qqqq"][i]?).getD ""
theorem nn_a {a b c:Int} (h1:0<=a) (h2:0<=b) (h3:0<=c):0<=(a * 2147483587+b) * 2147483543+c:=Int.add_nonneg (Int.mul_nonneg (Int.add_nonneg (Int.mul_nonneg h1 (by decide)) h2) (by decide)) h3
theorem nn_b {a c:Int} (h:0<=a):0<=a * 1000000000000000000+c % 1000000000000000000:=Int.add_nonneg (Int.mul_nonneg h (by decide)) (Int.emod_nonneg c (by decide))
end L2
namespace L2
open PySem PySem.Spec PyProof.Rows
noncomputable def rMulS:R2:=fun x y H Q=>∃ (z:Str) (n:Int),x=.str z/\y=.int n/\0<=n/\n<=1000/\z.length<=1000/\∀ u:Str,u.cps.toList=(List.replicate n.toNat z.cps.toList).flatten->Q (.str u) H
theorem aOb:∀ (l:List (Array Nat)) (a:Array Nat),(l.foldl (·++·) a).toList=a.toList++(l.map (·.toList)).flatten
 | [],a=>by simp
 | x::l,a=>by
  rw [List.foldl_cons,aOb l (a++x)]
  simp
theorem aWs {X:Cx}:OpR X (binaryOp .Mult) rMulS:=by
 intro pins s σ H x y v u Q I rx ry h
 obtain ⟨z,n,rfl,rfl,h0,h1,hz,q⟩:=h
 obtain ⟨t,rfl⟩:=rx
 obtain ⟨t',rfl⟩:=ry
 have hfit:z.length * n.toNat<=1000000:=Nat.le_trans (Nat.mul_le_mul hz (show n.toNat<=1000 by omega)) (by decide)
 refine PySem.P.mul_str ?_ (fun h2 _=>?_) (fun _ _=>?_) ?_
 ·rw [decide_eq_false (by omega),decide_eq_false (by omega)]
  rfl
 ·intro z2
  have e1:(2 ^ 63 - 1) / n ≥ (2 ^ 63 - 1) / 1000:=Int.le_ediv_of_mul_le (by omega) (by
   have:(2 ^ 63 - 1) / 1000 * n<=(2 ^ 63 - 1) / 1000 * 1000:=Int.mul_le_mul_of_nonneg_left h1 (by decide)
   exact Int.le_trans this (by decide))
  have:((2:Int) ^ 63 - 1) / 1000 > 1000:=by decide
  omega
 ·unfold Builtin.Str.tooLong
  rw [decide_eq_false_iff_not,sizeLine_eq]
  omega
 ·split
  ·refine ⟨by decide,.str Str.empty,H,I.tok _,⟨_,rfl⟩,q _ ?_⟩
   have:n.toNat=0:=by omega
   rw [this]
   rfl
  ·split
   ·rename_i h3 h4
    refine ⟨.str z,H,I,⟨_,rfl⟩,q _ ?_⟩
    rw [Bool.or_eq_true] at h4
    rcases h4 with h4 | h4
    ·have:n=1:=by simpa using h4
     subst this
     simp
    ·have hz0:z.cps.toList=[]:=by
      have:z.length=0:=by simpa using h4
      rw [aBa] at this
      exact List.eq_nil_of_length_eq_zero this
     rw [hz0]
     simp
   ·have e:(⟨(List.replicate n.toNat z.cps).foldl (·++·) #[]⟩:Str).cps.toList=(List.replicate n.toNat z.cps.toList).flatten:=by
     rw [aOb]
     simp
    refine ⟨?_,.str _,H,I.tok _,⟨_,rfl⟩,q _ e⟩
    rw [aBa,e,List.length_flatten,List.map_replicate,List.sum_replicate_nat,← aBa,sizeLine_eq]
    have:=Nat.mul_comm n.toNat z.length
    omega
theorem aSl (z:Str):(Builtin.Str.occurrences z ⟨#[46]⟩ 0 z.length (z.length+1)).length+1=(Txt.split z ⟨#[46]⟩).length:=by
 have hfree:=StrLaws.split_free z 46
 unfold Txt.split
 split
 ·rename_i h
  rw [Bool.or_eq_true,decide_eq_true_iff,decide_eq_true_iff] at h
  have h0:z.length=0:=by
   rcases h with h | h
   ·have:(⟨#[46]⟩:Str).length=1:=rfl
    omega
   ·exfalso
    have e1:Builtin.Str.strKind ⟨#[46]⟩=1:=by decide +kernel
    rw [e1] at h
    unfold Builtin.Str.strKind at h
    split at h
    ·omega
    ·split at h <;> omega
  have hz:z=⟨#[]⟩:=by
   obtain ⟨c⟩:=z
   have:c.size=0:=h0
   rw [Array.size_eq_zero_iff.mp this]
  subst hz
  decide +kernel
 ·split
  ·rename_i h
   rw [List.isEmpty_iff.mp h]
   rfl
  ·rw [length_partsBetween]
noncomputable def rCntP:V->List V->Hp->VK->Prop:=fun x vs H Q=>∃ z:Str,x=.str z/\vs=[.str ⟨#[46]⟩]/\∀ n:Nat,n+1=(Txt.split z ⟨#[46]⟩).length->Q (.int (n:Int)) H
theorem aRm {X:Cx}:MtR X "str.count" rCntP:=by
 intro pins s σ H x vs v us Q I rx rv h
 obtain ⟨z,rfl,rfl,q⟩:=h
 obtain ⟨t,rfl⟩:=rx
 obtain ⟨u,rfl,ru⟩:=rv.one
 obtain ⟨t',rfl⟩:=ru
 refine call_gives F.slot_str_count (typeIs_str _ _ _) F.entry_str_count (F.args_str_count_2 _ _) (gives_str_count z ⟨#[46]⟩ t t') ?_
 exact ⟨.int _,H,I.tok _,⟨_,rfl⟩,q _ (aSl z)⟩
noncomputable def aOj (z:Str):Prop:=∀ c∈z.cps.toList,97<=c/\c < 123
theorem aN3 {z:Str} (h1:1<=z.length) (h2:z.length<=8) (h:aOj z):aBx z=true:=by
 unfold aBx
 rw [decide_eq_true h1,decide_eq_true h2,Bool.true_and,Bool.true_and,List.all_eq_true]
 intro c hc
 rw [decide_eq_true (h c hc).1,decide_eq_true (h c hc).2]
 rfl
theorem aOj.app {x y:Str} (h:aOj x) (h':aOj y):aOj (x++y):=fun c hc=>by
 have e:(x++y).cps.toList=x.cps.toList++y.cps.toList:=by
  show (x.cps++y.cps).toList=_
  simp
 rw [e] at hc
 exact (List.mem_append.mp hc).elim (h c) (h' c)
theorem aOj.one {c:Nat} (h1:97<=c) (h2:c < 123):aOj ⟨#[c]⟩:=fun x hx=>by
 have:x=c:=by simpa using hx
 subst this
 exact ⟨h1,h2⟩
theorem sl4:∀ j:Nat,j < 4->(Txt.slice abc none (some (j:Int))).length=j/\aOj (Txt.slice abc none (some (j:Int))):=by
 intro j hj
 have:j=0∨j=1∨j=2∨j=3:=by omega
 unfold aOj
 rcases this with rfl | rfl | rfl | rfl <;> decide +kernel
theorem aV4 {u z:Str} {n:Nat} (e:u.cps.toList=(List.replicate n z.cps.toList).flatten) (hz:z.length=1) (h:aOj z):u.length=n/\aOj u:=by
 constructor
 ·rw [aBa,e,List.length_flatten,List.map_replicate,List.sum_replicate_nat,← aBa,hz,Nat.mul_one]
 ·intro c hc
  rw [e] at hc
  obtain ⟨l,hl,hc⟩:=List.mem_flatten.mp hc
  rw [List.eq_of_mem_replicate hl] at hc
  exact h c hc
inductive bCg where
 | row | star | ring
noncomputable def bCg.nm:bCg->Str
 | .row=>"row"
 | .star=>"star"
 | .ring=>"ring"
inductive aLy where
 | run (a b:Str) (t:Rat)
noncomputable def aGs (H:Hp) (v:V):aLy->Prop
 | .run a b t=>∃ p u,v=.ref p/\H p=some (.tup [.str "run",.str a,.str b,u])/\FrQ H u t
theorem aGs.tk {H H':Hp} {v:V} {r:aLy} (h:aGs H v r) (t:TK H H'):aGs H' v r:=by
 cases r with
 | run a b q=>obtain ⟨p,u,e,h,f⟩:=h; exact ⟨p,u,e,t _ _ h,f.tk t⟩
noncomputable def aLy.runs:aLy->List aD3
 | .run a b t=>[(a,b,t)]
noncomputable def aLw (q:Rat):Prop:=0 < q/\q.num<=999999999999/\q.den<=999999999999
noncomputable def okP:aLy->Prop
 | .run a b t=>aB8 a/\aB8 b/\aLw t
noncomputable def aLy.kind:aLy->Str
 | .run _ _ _=>"run"
theorem aGs.head {H:Hp} {v:V} {r:aLy} (h:aGs H v r):∃ p xs,v=.ref p/\H p=some (.tup (.str r.kind::xs)):=by
 cases r with
 | run a b t=>obtain ⟨p,u,e,h,_⟩:=h; exact ⟨p,_,e,h⟩
theorem aLy.no_piece (r:aLy):r.kind≠"piece":=by
 cases r with
 | run a b t=>exact show ("run":Str)≠"piece" by decide +kernel
section
open Sem (wp)
open AutoSeq1 (wpAny_loadPart')
variable {prog:Program} {w:World} {A:Around} {E:Value -> Shared -> Prop} {s:Shared}
theorem aEt {it t:Addr} {i:Nat} {its:Array Value} {x:Value} {Q:Value->Shared->Prop} (hit:s.heap.IsTupleIter it t i) (ht:s.heap.IsTuple t its) (hx:its[i]?=some x)
  (q:∀ h',h'.IsTupleIter it t (i+1)->Heap.SameBut it s.heap h'->Q x { s with heap:=h' }):wpAny (model prog w) A (Builtin.SmallTypes.nextOf (.ref it)) Q E s:=by
 obtain ⟨o,ho,hc,hd⟩:=id hit
 obtain ⟨ol,hol,_,nl,hdl⟩:=ht
 unfold Builtin.SmallTypes.nextOf
 refine wpAny_bind (wpAny_callSpecial?_slot (name:=Str.ofString "__next__") hit.typeIs F.slot_tuple_iterator_next (wpAny_call_entry F.slot_tuple_iterator_next hit.typeIs F.entry_tuple_iterator_next ?_ (F.args_tuple_iterator_next_1 _)))
 show wpAny _ _ (field (.ref it) 0 >>= _) _ _ s
 refine wpAny_bind (wpAny_field ho hd (x:=.ref t) rfl ?_)
 show wpAny _ _ (if (Value.ref t==Value.none)=true then _ else _) _ _ s
 rw [if_neg (show ¬ ((Value.ref t==Value.none)=true) from Bool.false_ne_true)]
 show wpAny _ _ (field (.ref it) 1 >>= _) _ _ s
 refine wpAny_bind (wpAny_field ho hd (x:=.int i 0) rfl ?_)
 show wpAny _ _ (seqItems? (.ref t) >>= _) _ _ s
 refine wpAny_bind (wpAny_seqItems hol hdl ?_)
 simp only [Int.toNat_natCast,hx]
 refine wpAny_bind (wpAny_setField ho hd (by simp) (wpAny_pure ⟨x,rfl,wpAny_pure (q _ ?_ (Heap.SameBut.update ..))⟩))
 exact ⟨_,Heap.get?_update_self _ ho (Obj.isFreed_of_fields (Obj.data_mapFields hd _)),(Obj.cls_mapFields ..).trans hc,by
  rw [Obj.data_mapFields hd]
  simp [rawInt]⟩
theorem aRh {it t:Addr} {i:Nat} {its:Array Value} {Q:Value->Shared->Prop} (hh:A.handled=none) (hit:s.heap.IsTupleIter it t i) (ht:s.heap.IsTuple t its) (hx:its[i]?=none)
  (q:∀ h' e,Heap.ExtBut it s.heap h'->(∃ o,h'.get? e=some o/\o.cls=.type "StopIteration")->E (.ref e) { s with heap:=h' }):wpAny (model prog w) A (Builtin.SmallTypes.nextOf (.ref it)) Q E s:=by
 obtain ⟨o,ho,hc,hd⟩:=id hit
 obtain ⟨ol,hol,_,nl,hdl⟩:=ht
 unfold Builtin.SmallTypes.nextOf
 refine wpAny_bind (wpAny_callSpecial?_slot (name:=Str.ofString "__next__") hit.typeIs F.slot_tuple_iterator_next (wpAny_call_entry F.slot_tuple_iterator_next hit.typeIs F.entry_tuple_iterator_next ?_ (F.args_tuple_iterator_next_1 _)))
 show wpAny _ _ (field (.ref it) 0 >>= _) _ _ s
 refine wpAny_bind (wpAny_field ho hd (x:=.ref t) rfl ?_)
 show wpAny _ _ (if (Value.ref t==Value.none)=true then _ else _) _ _ s
 rw [if_neg (show ¬ ((Value.ref t==Value.none)=true) from Bool.false_ne_true)]
 show wpAny _ _ (field (.ref it) 1 >>= _) _ _ s
 refine wpAny_bind (wpAny_field ho hd (x:=.int i 0) rfl ?_)
 show wpAny _ _ (seqItems? (.ref t) >>= _) _ _ s
 refine wpAny_bind (wpAny_seqItems hol hdl ?_)
 simp only [Int.toNat_natCast,hx]
 refine wpAny_bind (wpAny_rule (wpAny_bind (wpAny_setField ho hd (by simp) ?_)))
 show wpAny _ _ (newExc (.type "StopIteration") [] >>= _) _ _ _
 refine wpAny_bind ?_
 simp only [newExc,newTuple]
 refine wpAny_bind (wpAny_newObj_type ?_ (by size_fits))
 refine wpAny_bind (m:=firstArgMember _ _) (wpAny_of_eq (a:=Value.none) (by first | rfl | (simp only [firstArgMember]; rfl)) ?_)
 refine wpAny_newObj_type ?_ (by size_fits)
 simp only [raiseNew]
 refine wpAny_bind (wpAny_handled ?_)
 first | rw [show A.in1.handled=none from hh] | rw [hh]
 refine wpAny_bind (wpAny_pure (wpAny_throw ?_))
 exact q _ _ (((Heap.SameBut.update ..).extBut.push _).push _) ⟨_,Heap.get?_push_size _ rfl,rfl⟩
end
section
variable {X:Cx} {pins:List (Addr×Obj)} {σ:St} {H:Hp} {s:Shared} {tg:Expr}
end
section
variable {te:TE} {Q:VK} {H:Hp} {σ:St} {caps:St} {K:PySem.W.Frag}
end
theorem aUk {xs:List V} (h:1<=xs.length):aGq xs (some 1) none=xs.drop 1:=by
 unfold aGq
 have e1:HT.sIx xs.length xs.length none=xs.length:=rfl
 have e2:HT.sIx xs.length 0 (some 1)=1:=by
  unfold HT.sIx
  simp
  omega
 rw [e1,e2,List.take_of_length_le (by rw [List.length_drop]; omega)]
theorem aWo {X:Cx} {scope:Scope} {caps:List (Str×Addr)} {N:List Str} {C:Addr} {s0:Shared} {H0:Hp} {ex:List Addr} {es:List Expr} {k:Nat} {t:TGs} {n:Nat} {pos:Pos} (hc:(aA6 X scope caps N C s0 H0 ex).calm=true) (h:PGs (aA6 X scope caps N C s0 H0 ex) es t)
  (hn:(assignEach es (aA6 X scope caps N C s0 H0 ex).env).length=n:=by rfl) (hst:(assignEach es (aA6 X scope caps N C s0 H0 ex).env).findIdx? (·.1)=none:=by rfl):PG (aA6 X scope caps N C s0 H0 ex) (.Tuple es k pos) (bBu X.K n t):=aN1 hc h hn hst
section
variable {K:PySem.W.Frag} {H:Hp} {Q:VK} {p:Addr} {xs:List V}
theorem aY0 (h:H p=some (.tup xs)) (hl:1<=xs.length) (k:∀ l,H l=none->Q (.ref l) (upd H l (.tup (xs.drop 1)))):aYb K (.ref p) (some 1) none H Q:=by
 refine aV2 h ?_ (by rw [aUk hl]; exact k)
 have e2:HT.sIx xs.length 0 (some 1)=1:=by
  unfold HT.sIx
  simp
  omega
 omega
end
theorem aCg.mk3 {H:Hp} {p:Addr} {a b:Str} {u:V} {t:Rat} (h:H p=some (.tup [.str a,.str b,u])) (f:FrQ H u t):aCg H (.ref p) (Sum.inr a,Sum.inr b,t):=⟨p,u,rfl,h,f⟩
noncomputable def okR (r:aD3):Prop:=aB8 r.1/\aB8 r.2.1/\aLw r.2.2
noncomputable def szP:aLy->Nat
 | .run _ _ _=>2
noncomputable def okQ (r:aLy):Prop:=(∀ x∈r.runs,okR x)/\2<=szP r/\szP r<=190
theorem okP.q {r:aLy} (h:okP r):okQ r:=by
 cases r with
 | run a b t =>
  refine ⟨fun x hx=>?_,show 2<=2 by decide,show 2<=190 by decide⟩
  rw [List.mem_singleton.mp hx]
  exact h
theorem aSk {xs:List V} (n:Nat):aGq xs none (some (n:Int))=xs.take n:=by
 unfold aGq
 have e1:HT.sIx xs.length 0 none=0:=rfl
 have e2:HT.sIx xs.length xs.length (some (n:Int))=min n xs.length:=by
  unfold HT.sIx
  simp
  omega
 rw [e1,e2,List.drop_zero,Nat.sub_zero]
 rcases Nat.le_total n xs.length with h | h
 ·rw [Nat.min_eq_left h]
 ·rw [Nat.min_eq_right h,List.take_length,List.take_of_length_le h]
theorem aL4 {α:Type} (x y:List α):(x++y).take 121=(x.take 121++y).take 121:=by
 rw [List.take_append,List.take_append,List.take_take,List.length_take]
 simp
 congr 1
 omega
theorem Pd.tak {α β:Type} {R:α->β->Prop}:∀ {xs:List α} {ys:List β},Paired R xs ys->∀ n:Nat,Paired R (xs.take n) (ys.take n)
 | _,_,.nil,n=>by simp; exact .nil
 | _,_,.cons h t,0=>.nil
 | _,_,.cons h t,n+1=>.cons h (Pd.tak t n)
theorem bB3 {H:Hp} {Q:VK} {l p:Addr} {n:List aD3} (h1:LQ aCg H l (kn n)) (h2:H p=some (.lst [])) (k:Q (.bl (decide (n=[]))) H):aVa (.ref l) (.ref p) H Q:=by
 obtain ⟨v1,a1,p1⟩:=h1
 refine aXu (ds:=n.map aUj) (es:=[]) ⟨l,_,rfl,a1,aCo p1⟩ ⟨p,_,rfl,h2,rfl⟩ (Nat.le_trans (aFw n) (by decide)) ?_
 cases n with
 | nil=>rw [decide_eq_true rfl] at k; exact k
 | cons r rs=>rw [decide_eq_false (List.cons_ne_nil _ _)] at k; exact k
theorem bBa {H:Hp} {Q:VK} {l p:Addr} {n:List aD3} (h1:LQ aCg H l (kn n)) (h2:H p=some (.lst [])) (k:Q (.bl (!decide (n=[]))) H):aWl (.ref l) (.ref p) H Q:=by
 obtain ⟨v1,a1,p1⟩:=h1
 refine bBc (ds:=n.map aUj) (es:=[]) ⟨l,_,rfl,a1,aCo p1⟩ ⟨p,_,rfl,h2,rfl⟩ (Nat.le_trans (aFw n) (by decide)) ?_
 cases n with
 | nil=>rw [decide_eq_true rfl] at k; exact k
 | cons r rs=>rw [decide_eq_false (List.cons_ne_nil _ _)] at k; exact k
theorem aTj {c:TT} {tb:TS} {D:aFy} {σ:St} {H:Hp} (Pv:Nat->St->Hp->Prop) {m0:Nat} (h0:Pv m0 σ H)
  (hs:∀ m σ H,Pv m σ H->c σ H fun b H1=>if b=true then ∃ N:St->Hp->Prop,(∀ σ' H',N σ' H'->∃ m',m' < m/\Pv m' σ' H')/\tb { D with nx:=N,ct:=N,bk:=D.nx } σ H1 else D.nx σ H1):aPv c tb D σ H:=⟨Pv,⟨_,h0⟩,hs⟩
theorem aSe {G:Hp}:∀ ys:List Str,aKh G (ys.map Dt.str) (ys.map V.str)
 | []=>rfl
 | y::r=>⟨_,_,rfl,rfl,aSe r⟩
theorem aVk:∀ ps:List Str,aH1 (ps.map Dt.str)<=1
 | []=>by simp [aH1]
 | p::r=>by
  have:=aVk r
  rw [List.map_cons]
  simp only [aH1,dep]
  omega
end L2
namespace L2
open PySem PySem.Spec PyProof.Rows
inductive aE8 where
 | plain (r:aLy) | put (nm cl:Str) (as:List Str)
noncomputable abbrev aAu:=Str×List Str×List aE8
inductive aDc where
 | one (r:aE8) | piece (p:aAu)
noncomputable def aBz (H:Hp) (v:V):aE8->Prop
 | .plain r=>aGs H v r
 | .put nm cl as=>∃ p q,v=.ref p/\H p=some (.tup [.str "put",.str nm,.str cl,.ref q])/\H q=some (.tup (as.map V.str))
noncomputable def aDm (H:Hp) (v:V) (x:aAu):Prop:=∃ p q z xs,v=.ref p/\H p=some (.tup [.str "piece",.str x.1,.ref q,.ref z])/\H q=some (.tup (x.2.1.map V.str))/\H z=some (.tup xs)/\Paired (aBz H) xs x.2.2
noncomputable def aGt (H:Hp) (v:V):aDc->Prop
 | .one r=>aBz H v r
 | .piece p=>aDm H v p
theorem aBz.tk {H H':Hp} {v:V} {r:aE8} (h:aBz H v r) (t:TK H H'):aBz H' v r:=by
 cases r with
 | plain r=>exact aGs.tk h t
 | put nm cl as=>obtain ⟨p,q,e,h1,h2⟩:=h; exact ⟨p,q,e,t _ _ h1,t _ _ h2⟩
theorem aDm.tk {H H':Hp} {v:V} {r:aAu} (h:aDm H v r) (t:TK H H'):aDm H' v r:=by
 obtain ⟨p,q,z,xs,e,h1,h2,h3,h4⟩:=h
 exact ⟨p,q,z,xs,e,t _ _ h1,t _ _ h2,t _ _ h3,Pd.imp h4 fun _ _ f=>f.tk t⟩
theorem aGt.tk {H H':Hp} {v:V} {r:aDc} (h:aGt H v r) (t:TK H H'):aGt H' v r:=by
 cases r with
 | one r=>exact aBz.tk h t
 | piece p=>exact aDm.tk h t
noncomputable def aCn:List Str->List Str->Str->Str->Str
 | p::ps,a::as,cl,x=>if p=x then a else aCn ps as cl x
 | _,_,cl,x=>cl++⟨#[46]⟩++x
noncomputable def aL1 (ps as:List Str) (cl:Str) (r:aD3):aD3:=(aCn ps as cl r.1,aCn ps as cl r.2.1,r.2.2)
noncomputable def aAy:List aAu->aE8->List aD3
 | [],.plain r=>r.runs
 | [],.put _ _ _=>[]
 | _::_,.plain r=>r.runs
 | p::E,.put nm cl as=>if p.1=nm then (p.2.2.flatMap (aAy E)).map (aL1 p.2.1 as cl) else aAy E (.put nm cl as)
noncomputable def rkE:List aAu->aE8->Nat
 | _,.plain _=>0
 | [],.put _ _ _=>0
 | p::E,.put nm cl as=>if p.1=nm then E.length+1 else rkE E (.put nm cl as)
noncomputable def WfT (E:List aAu):aE8->Prop
 | .plain r=>okP r
 | .put nm cl as=>aBx cl=true/\(∀ s∈as,aB8 s)/\(1<=as.length/\as.length<=8)/\∃ p∈E,p.1=nm/\p.2.1.length=as.length
noncomputable def WfP (E:List aAu) (p:aAu):Prop:=(∀ r∈p.2.2,WfT E r)/\p.2.2≠[]/\p.2.2.length<=60/\p.2.1.Nodup/\(1<=p.2.1.length/\p.2.1.length<=8/\∀ s∈p.1::p.2.1,aBx s=true)/\∀ q∈E,q.1≠p.1
noncomputable def WfE:List aAu->Prop
 | []=>True
 | p::E=>WfP E p/\WfE E
theorem aFt {α β:Type} {f g:α->List β}:∀ {l:List α},(∀ r∈l,f r=g r)->l.flatMap f=l.flatMap g
 | [],_=>rfl
 | a::l,h=>by rw [List.flatMap_cons,List.flatMap_cons,h a (by simp),aFt fun r hr=>h r (List.mem_cons_of_mem _ hr)]
theorem aCw (E:List aAu) (r:aLy):aAy E (.plain r)=r.runs:=by cases E <;> rfl
theorem WfT.up {E:List aAu} {p:aAu} {r:aE8} (h:WfT E r):WfT (p::E) r:=by
 cases r with
 | plain r=>exact h
 | put nm cl as =>
  obtain ⟨h1,h2,h3,q,hq,e⟩:=h
  exact ⟨h1,h2,h3,q,List.mem_cons_of_mem _ hq,e⟩
theorem aG0 {E:List aAu} {p:aAu} {r:aE8} (h:WfT E r) (d:∀ q∈E,q.1≠p.1):aAy (p::E) r=aAy E r:=by
 cases r with
 | plain r=>rw [aCw,aCw]
 | put nm cl as =>
  obtain ⟨_,_,_,q,hq,e,_⟩:=h
  show (if p.1=nm then _ else _)=_
  rw [if_neg fun z=>d q hq (e.trans z.symm)]
theorem aU2 {E:List aAu} {p:aAu} {r:aE8} (h:WfT E r) (d:∀ q∈E,q.1≠p.1):rkE (p::E) r=rkE E r:=by
 cases r with
 | plain r=>cases E <;> rfl
 | put nm cl as =>
  obtain ⟨_,_,_,q,hq,e,_⟩:=h
  show (if p.1=nm then _ else _)=_
  rw [if_neg fun z=>d q hq (e.trans z.symm)]
theorem WfE.row {E:List aAu} (h:WfE E) {p:aAu} (hp:p∈E):∀ r∈p.2.2,WfT E r:=by
 induction E with
 | nil=>cases hp
 | cons q E ih =>
  obtain ⟨h1,h2⟩:=h
  intro r hr
  rcases List.mem_cons.mp hp with rfl | hp
  ·exact (h1.1 r hr).up
  ·exact (ih h2 hp r hr).up
theorem WfE.at {E:List aAu} (h:WfE E) {p:aAu} (hp:p∈E):p.2.2≠[]/\p.2.2.length<=60/\p.2.1.Nodup/\(1<=p.2.1.length/\p.2.1.length<=8/\∀ s∈p.1::p.2.1,aBx s=true):=by
 induction E with
 | nil=>cases hp
 | cons q E ih =>
  obtain ⟨h1,h2⟩:=h
  rcases List.mem_cons.mp hp with rfl | hp
  ·exact ⟨h1.2.1,h1.2.2.1,h1.2.2.2.1,h1.2.2.2.2.1⟩
  ·exact ih h2 hp
theorem WfE.put {E:List aAu} (h:WfE E) {p:aAu} (hp:p∈E) (cl:Str) (as:List Str):aAy E (.put p.1 cl as)=(p.2.2.flatMap (aAy E)).map (aL1 p.2.1 as cl)/\∀ r∈p.2.2,rkE E r < rkE E (.put p.1 cl as):=by
 induction E with
 | nil=>cases hp
 | cons q E ih =>
  obtain ⟨h1,h2⟩:=h
  rcases List.mem_cons.mp hp with rfl | hp
  ·have e1:aAy (p::E) (.put p.1 cl as)=(p.2.2.flatMap (aAy E)).map (aL1 p.2.1 as cl):=if_pos rfl
   have e2:rkE (p::E) (.put p.1 cl as)=E.length+1:=if_pos rfl
   rw [e1,e2]
   refine ⟨congrArg _ (aFt fun r hr=>(aG0 (h1.1 r hr) h1.2.2.2.2.2).symm),fun r hr=>?_⟩
   rw [aU2 (h1.1 r hr) h1.2.2.2.2.2]
   exact Nat.lt_succ_of_le (rk_le E r)
  ·have hne:q.1≠p.1:=fun z=>h1.2.2.2.2.2 p hp z.symm
   obtain ⟨i1,i2⟩:=ih h2 hp
   have e1:aAy (q::E) (.put p.1 cl as)=aAy E (.put p.1 cl as):=if_neg hne
   have e2:rkE (q::E) (.put p.1 cl as)=rkE E (.put p.1 cl as):=if_neg hne
   rw [e1,e2,i1]
   refine ⟨congrArg _ (aFt fun r hr=>(aG0 (h2.row hp r hr) h1.2.2.2.2.2).symm),fun r hr=>?_⟩
   rw [aU2 (h2.row hp r hr) h1.2.2.2.2.2]
   exact i2 r hr
where rk_le:∀ (E:List aAu) (r:aE8),rkE E r<=E.length
 | [],.plain _=>Nat.le_refl _
 | [],.put _ _ _=>Nat.le_refl _
 | _::_,.plain _=>Nat.zero_le _
 | p::E,.put nm cl as=>by
  show (if p.1=nm then E.length+1 else rkE E (.put nm cl as))<=E.length+1
  split
  ·exact Nat.le_refl _
  ·exact Nat.le_succ_of_le (rk_le E _)
theorem aLm:∀ {a b r s:List Nat},46∉a->46∉b->a++46::r=b++46::s->a=b/\r=s
 | [],[],_,_,_,_,e=>⟨rfl,(List.cons.inj e).2⟩
 | [],y::b,_,_,_,hb,e=>absurd (List.cons.inj e).1 (fun z=>hb (by rw [z]; simp))
 | x::a,[],_,_,ha,_,e=>absurd (List.cons.inj e).1 (fun z=>ha (by rw [← z]; simp))
 | x::a,y::b,_,_,ha,hb,e=>by
  obtain ⟨e1,e2⟩:=List.cons.inj e
  obtain ⟨e3,e4⟩:=aLm (fun z=>ha (List.mem_cons_of_mem _ z)) (fun z=>hb (List.mem_cons_of_mem _ z)) e2
  exact ⟨by rw [e1,e3],e4⟩
theorem aI4 {x y:Str} (h:x.cps.toList=y.cps.toList):x=y:=by
 obtain ⟨a⟩:=x
 obtain ⟨b⟩:=y
 exact congrArg Str.mk (Array.toList_inj.mp h)
theorem aN9:∀ {ps qs:List Str} {x y:Str},(∀ p∈x::ps,46∉p.cps.toList)->(∀ p∈y::qs,46∉p.cps.toList)->(Str.join ⟨#[46]⟩ (x::ps)).cps.toList=(Str.join ⟨#[46]⟩ (y::qs)).cps.toList->x::ps=y::qs
 | [],[],x,y,_,_,e=>by
  rw [aD1,aD1] at e
  rw [aI4 e]
 | [],q::qs,x,y,hx,_,e=>by
  rw [aD1,aD0] at e
  exact absurd (show 46∈x.cps.toList by rw [e]; simp) (hx x (by simp))
 | p::ps,[],x,y,_,hy,e=>by
  rw [aD1,aD0] at e
  exact absurd (show 46∈y.cps.toList by rw [← e]; simp) (hy y (by simp))
 | p::ps,q::qs,x,y,hx,hy,e=>by
  rw [aD0,aD0] at e
  obtain ⟨e1,e2⟩:=aLm (hx x (by simp)) (hy y (by simp)) e
  have:=aN9 (fun z hz=>hx z (List.mem_cons_of_mem _ hz)) (fun z hz=>hy z (List.mem_cons_of_mem _ hz)) e2
  rw [aI4 e1,this]
theorem aP1 {cl x:Str} (h:46∉cl.cps.toList):Txt.split (cl++⟨#[46]⟩++x) ⟨#[46]⟩=cl::Txt.split x ⟨#[46]⟩:=by
 have j1:=StrLaws.join_split (cl++⟨#[46]⟩++x) ⟨#[46]⟩
 have f1:=StrLaws.split_free (cl++⟨#[46]⟩++x) 46
 have p1:=split_pos (cl++⟨#[46]⟩++x) ⟨#[46]⟩
 have j2:=StrLaws.join_split x ⟨#[46]⟩
 have f2:=StrLaws.split_free x 46
 have p2:=split_pos x ⟨#[46]⟩
 generalize Txt.split (cl++⟨#[46]⟩++x) ⟨#[46]⟩=ps at j1 f1 p1 ⊢
 generalize Txt.split x ⟨#[46]⟩=qs at j2 f2 p2 ⊢
 cases ps with
 | nil=>simp at p1
 | cons a ps =>
  cases qs with
  | nil=>simp at p2
  | cons b qs =>
   refine aN9 f1 (fun p hp=>?_) ?_
   ·rcases List.mem_cons.mp hp with rfl | hp
    ·exact h
    ·exact f2 p hp
   ·rw [j1,aD0,j2]
    show ((cl.cps++#[46])++x.cps).toList=_
    simp
noncomputable def aE4 (D:Nat) (s:Str):Prop:=(∀ p∈Txt.split s ⟨#[46]⟩,aBx p=true)/\(Txt.split s ⟨#[46]⟩).length<=D+1/\s.length<=100+9 * D
noncomputable def aSa (s:Str):Nat:=(Txt.split s ⟨#[46]⟩).length - 1
theorem aE4.up {D D':Nat} {s:Str} (h:aE4 D s) (l:D<=D'):aE4 D' s:=⟨h.1,by have:=h.2.1; omega,by have:=h.2.2; omega⟩
theorem aE4.post {s:Str} (h:aB8 s):aE4 3 s:=by
 have:=h.1
 rw [aF5,Bool.and_eq_true,decide_eq_true_iff,List.all_eq_true] at this
 exact ⟨this.2,this.1,by have:=h.2; omega⟩
theorem aE4.part {s:Str} (h:aBx s=true):aB8 s:=by
 obtain ⟨h1,h2,h3⟩:=aDb h
 refine ⟨?_,by omega⟩
 have e:=aJn [] s 1 (fun p hp=>by rw [List.mem_singleton.mp hp]; exact h3)
 rw [aD1] at e
 show pst _ 1 0=true
 rw [e]
 simp [h]
theorem aE4.dot {D:Nat} {cl x:Str} (hc:aBx cl=true) (h:aE4 D x):aE4 (D+1) (cl++⟨#[46]⟩++x):=by
 obtain ⟨h1,h2,h3⟩:=aDb hc
 unfold aE4
 rw [aP1 h3]
 refine ⟨fun p hp=>?_,by have:=h.2.1; rw [List.length_cons]; omega,?_⟩
 ·rcases List.mem_cons.mp hp with rfl | hp
  ·exact hc
  ·exact h.1 p hp
 ·rw [aCy,aCy,show (⟨#[46]⟩:Str).length=1 from rfl]
  have:=h.2.2
  omega
theorem aE4.postB {D:Nat} {s:Str} (h:aE4 D s):postB s=decide (aSa s<=3):=by
 rw [aF5,List.all_eq_true.mpr h.1,Bool.and_true]
 have:=split_pos s ⟨#[46]⟩
 have e:((Txt.split s ⟨#[46]⟩).length<=4)=(aSa s<=3):=by
  unfold aSa
  exact propext ⟨fun _=>by omega,fun _=>by omega⟩
 simp only [e]
theorem aE4.name {D:Nat} {cl x:Str} (hc:aBx cl=true) (hx:aE4 D x) (hD:3<=D):∀ {ps as:List Str},(∀ s∈as,aB8 s)->aE4 (D+1) (aCn ps as cl x)
 | [],_,_=>hx.dot hc
 | p::ps,[],_=>hx.dot hc
 | p::ps,a::as,h=>by
  show aE4 _ (if p=x then a else aCn ps as cl x)
  split
  ·exact (aE4.post (h a (by simp))).up (by omega)
  ·exact aE4.name hc hx hD fun s hs=>h s (List.mem_cons_of_mem _ hs)
noncomputable def okN (D:Nat) (r:aD3):Prop:=aE4 D r.1/\aE4 D r.2.1/\aLw r.2.2
theorem okR.n {r:aD3} (h:okR r):okN 3 r:=⟨aE4.post h.1,aE4.post h.2.1,h.2.2⟩
theorem okN.up {D D':Nat} {r:aD3} (h:okN D r) (l:D<=D'):okN D' r:=⟨h.1.up l,h.2.1.up l,h.2.2⟩
theorem aHo:∀ {E:List aAu} {r:aE8},WfE E->WfT E r->∀ x∈aAy E r,okN (3+E.length) x
 | E,.plain r,_,h,x,hx=>by
  rw [aCw] at hx
  exact (okR.n ((okP.q h).1 x hx)).up (by omega)
 | [],.put nm cl as,_,h,x,hx=>nomatch hx
 | p::E,.put nm cl as,hE,h,x,hx=>by
  obtain ⟨h1,h2,h3,q,hq,e,el⟩:=h
  replace hx:x∈(if p.1=nm then (p.2.2.flatMap (aAy E)).map (aL1 p.2.1 as cl) else aAy E (.put nm cl as)):=hx
  by_cases z:p.1=nm
  ·rw [if_pos z] at hx
   obtain ⟨y,hy,rfl⟩:=List.mem_map.mp hx
   obtain ⟨r,hr,hy⟩:=List.mem_flatMap.mp hy
   have hok:=aHo hE.2 (hE.1.1 r hr) y hy
   exact ⟨aE4.name h1 hok.1 (by omega) h2,aE4.name h1 hok.2.1 (by omega) h2,hok.2.2⟩
  ·rw [if_neg z] at hx
   have hq':q∈E:=(List.mem_cons.mp hq).resolve_left fun w=>z (by rw [← w]; exact e)
   exact (aHo (r:=.put nm cl as) hE.2 ⟨h1,h2,h3,q,hq',e,el⟩ x hx).up (by rw [List.length_cons]; omega)
noncomputable def aS2 (r:aD3):Prop:=r.1=r.2.1∨3 < aSa r.1∨3 < aSa r.2.1
noncomputable instance (r:aD3):Decidable (aS2 r):=inferInstanceAs (Decidable (_∨_∨_))
noncomputable def goG:List aAu->List aDc->List aD3
 | _,[]=>[]
 | E,.one r::gs=>aAy E r++goG E gs
 | E,.piece p::gs=>goG (p::E) gs
noncomputable def WfG:List aAu->List aDc->Prop
 | _,[]=>True
 | E,.one r::gs=>WfT E r/\WfG E gs
 | E,.piece p::gs=>WfP E p/\WfG (p::E) gs
noncomputable def aGi:List aAu->List aDc->List aAu
 | E,[]=>E
 | E,.one _::gs=>aGi E gs
 | E,.piece p::gs=>aGi (p::E) gs
theorem aG4:∀ (gs:List aDc) (E:List aAu) (g:aDc),aGi E (gs++[g])=aGi (aGi E gs) [g]
 | [],_,_=>rfl
 | .one _::gs,E,g=>aG4 gs E g
 | .piece p::gs,E,g=>aG4 gs (p::E) g
theorem aGu:∀ (gs:List aDc) (E:List aAu) (g:aDc),WfG E (gs++[g]) ↔ WfG E gs/\WfG (aGi E gs) [g]
 | [],E,g=>⟨fun h=>⟨trivial,h⟩,fun h=>h.2⟩
 | .one r::gs,E,g=>by
  show WfT E r/\WfG E (gs++[g]) ↔ (WfT E r/\WfG E gs)/\WfG (aGi E gs) [g]
  rw [aGu gs E g,and_assoc]
 | .piece p::gs,E,g=>by
  show WfP E p/\WfG (p::E) (gs++[g]) ↔ (WfP E p/\WfG (p::E) gs)/\WfG (aGi (p::E) gs) [g]
  rw [aGu gs (p::E) g,and_assoc]
theorem aOa:∀ {gs:List aDc} {E:List aAu},WfE E->WfG E gs->∀ x∈goG E gs,okN (3+E.length+gs.length) x
 | [],_,_,_,_,h=>nomatch h
 | .one r::gs,E,hE,h,x,hx=>by
  rcases List.mem_append.mp hx with hx | hx
  ·exact (aHo hE h.1 x hx).up (by omega)
  ·exact (aOa hE h.2 x hx).up (by rw [List.length_cons]; omega)
 | .piece p::gs,E,hE,h,x,hx=>(aOa (E:=p::E) ⟨h.1,hE⟩ h.2 x hx).up (by rw [List.length_cons,List.length_cons]; omega)
theorem aT7 {K:PySem.W.Frag} {H:Hp} {v:V} {r:aD3} {D:Nat} (h:aCg H v (Sum.inr r.1,Sum.inr r.2.1,r.2.2)) (t:okN D r) (hD:D<=90):aB6 K H v (decide (¬ aS2 r)):=by
 obtain ⟨p,u,rfl,hp,pt,rfl,hpt⟩:=h
 obtain ⟨h1,h2,h3,h4,h5⟩:=t
 have l1:=h1.2.2
 have l2:=h2.2.2
 have q1:aE7 K H (.str r.1) (postB r.1):=.inl ⟨r.1,rfl,by omega,rfl⟩
 have q2:aE7 K H (.str r.2.1) (postB r.2.1):=.inl ⟨r.2.1,rfl,by omega,rfl⟩
 rw [h1.postB] at q1
 rw [h2.postB] at q2
 by_cases e1:aSa r.1<=3
 ·rw [decide_eq_true e1] at q1
  by_cases e2:aSa r.2.1<=3
  ·rw [decide_eq_true e2] at q2
   by_cases e:r.1=r.2.1
   ·rw [decide_eq_false (fun z=>z (.inl e))]
    refine aB6.same (s:=r.1) (t:=.ref pt) ?_ q1
    rw [hp]
    show some (HO.tup [.str r.1,.str r.2.1,.ref pt])=_
    rw [← e]
   ·rw [decide_eq_true (show ¬ aS2 r from fun z=>z.elim e fun z=>z.elim (fun z=>by omega) fun z=>by omega)]
    have hd:=r.2.2.den_pos
    have h30:(0:Int) < r.2.2.num:=by
     have:=Rat.num_nonneg.mpr (Rat.le_of_lt h3)
     have n0:r.2.2.num≠0:=fun z=>Rat.ne_of_gt h3 (Rat.num_eq_zero.mp z)
     omega
    have m1:Sm 8000 r.2.2.num:=(Sm.of (n:=64) (by omega) (by omega)).mono (by decide)
    have m2:Sm 8000 (r.2.2.den:Int):=(Sm.of (n:=64) (by omega) (by omega)).mono (by decide)
    have:=aB6.run (K:=K) hp q1 q2 e hpt (aR0 _) m1 m2
    rw [decide_eq_true h30] at this
    exact this
  ·rw [decide_eq_false e2] at q2
   rw [decide_eq_false (fun z=>z (.inr (.inr (by omega))))]
   exact aB6.two hp q1 q2
 ·rw [decide_eq_false e1] at q1
  rw [decide_eq_false (fun z=>z (.inr (.inl (by omega))))]
  exact aB6.one hp q1
theorem aU1 {K:PySem.W.Frag} {H:Hp} {D:Nat} (hD:D<=90):∀ {n:List aD3} {vs:List V},Paired (aCg H) vs (kn n)->(∀ r∈n,okN D r)->Paired (aB6 K H) vs (n.map fun r=>decide (¬ aS2 r))
 | [],_,.nil,_=>.nil
 | r::n,_,.cons h t,hr=>.cons (aT7 h (hr r (by simp)) hD) (aU1 hD t fun x hx=>hr x (List.mem_cons_of_mem _ hx))
noncomputable def aUt (n:List aD3):Prop:=n=[]∨∃ r∈n,aS2 r
noncomputable def DVn (H0 H:Hp) (v:V) (n:List aD3):Prop:=(120 < n.length/\v=.str "many")∨(n.length<=120/\aUt n/\v=.str "none")∨(n.length<=120/\¬ aUt n/\∃ l,v=.ref l/\H0 l=none/\LQ aCg H l (kn n))
theorem DVn.sm {H0 H G:Hp} {v:V} {n:List aD3} (h:DVn H0 H v n) (s:aAn H G):DVn H0 G v n:=by
 rcases h with h | h | ⟨h1,h2,l,h3,h4,h5⟩
 ·exact .inl h
 ·exact .inr (.inl h)
 ·exact .inr (.inr ⟨h1,h2,l,h3,h4,h5.sm aCg.tk s⟩)
theorem n_dvn {H0 H0' H:Hp} {Q:VK} {v u:V} {n:List aD3} (h:DVn H0 H v n) (h':DVn H0' H u n) (k:Q (.bl false) H):aWl v u H Q:=by
 rcases h with ⟨h1,rfl⟩ | ⟨h1,h2,rfl⟩ | ⟨h1,h2,l,rfl,h4,h5⟩ <;> rcases h' with ⟨h1',rfl⟩ | ⟨h1',h2',rfl⟩ | ⟨h1',h2',l',rfl,h4',h5'⟩
 ·exact aW7 (by rw [show ((("many":Str))==("many":Str))=true from by decide +kernel]; exact k)
 ·omega
 ·omega
 ·omega
 ·exact aW7 (by rw [show ((("none":Str))==("none":Str))=true from by decide +kernel]; exact k)
 ·exact absurd h2 h2'
 ·omega
 ·exact absurd h2' h2
 ·exact bBb h5 h5' k
theorem aK3 {r:aLy} (h:okP r):r.runs.length<=31:=by
 cases r with
 | run a b t=>exact show 1<=31 by decide
theorem aR2 {α β:Type} {f:α->List β} {B:Nat}:∀ {l:List α},(∀ x∈l,(f x).length<=B)->(l.flatMap f).length<=l.length * B
 | [],_=>by simp
 | a::l,h=>by
  rw [List.flatMap_cons,List.length_append,List.length_cons,Nat.succ_mul]
  have h1:=h a (by simp)
  have h2:=aR2 (l:=l) fun x hx=>h x (List.mem_cons_of_mem _ hx)
  omega
noncomputable def wE:List aAu->Nat
 | []=>0
 | p::E=>wE E+p.2.2.length+2
theorem aUu:∀ {E:List aAu},WfE E->3 * E.length<=wE E
 | [],_=>Nat.le_refl _
 | p::E,h=>by
  have h1:=aUu h.2
  have h2:=List.length_pos_iff.mpr h.1.2.1
  show 3 * (E.length+1)<=wE E+p.2.2.length+2
  omega
theorem aUv (n:Nat):n<=2 ^ n:=Nat.le_of_lt Nat.lt_two_pow_self
theorem aJi:∀ {E:List aAu} {r:aE8},WfE E->WfT E r->(aAy E r).length<=31 * 2 ^ wE E
 | E,.plain r,_,h=>by
  rw [aCw]
  exact Nat.le_trans (aK3 h) (Nat.le_mul_of_pos_right _ (Nat.pow_pos (by decide)))
 | [],.put _ _ _,_,_=>Nat.zero_le _
 | p::E,.put nm cl as,hE,h=>by
  obtain ⟨h1,h2,h3,q,hq,e,el⟩:=h
  show (if p.1=nm then (p.2.2.flatMap (aAy E)).map (aL1 p.2.1 as cl) else aAy E (.put nm cl as)).length<=31 * 2 ^ (wE E+p.2.2.length+2)
  have e6:31 * 2 ^ (wE E+p.2.2.length+2)=4 * (2 ^ p.2.2.length * (31 * 2 ^ wE E)):=by
   rw [Nat.pow_add,Nat.pow_add,Nat.mul_left_comm (2 ^ p.2.2.length) 31,Nat.mul_comm (2 ^ p.2.2.length) (2 ^ wE E)]
   generalize 2 ^ wE E * 2 ^ p.2.2.length=z
   omega
  by_cases z:p.1=nm
  ·rw [if_pos z,List.length_map,e6]
   have h8:=aR2 (f:=aAy E) fun r hr=>aJi hE.2 (hE.1.1 r hr)
   have h9:p.2.2.length * (31 * 2 ^ wE E)<=2 ^ p.2.2.length * (31 * 2 ^ wE E):=Nat.mul_le_mul_right _ (aUv _)
   omega
  ·rw [if_neg z]
   have hq':q∈E:=(List.mem_cons.mp hq).resolve_left fun w=>z (by rw [← w]; exact e)
   have:=aJi (r:=.put nm cl as) hE.2 ⟨h1,h2,h3,q,hq',e,el⟩
   have h9:1 * (31 * 2 ^ wE E)<=2 ^ p.2.2.length * (31 * 2 ^ wE E):=Nat.mul_le_mul_right _ (Nat.pow_pos (by decide))
   rw [e6]
   omega
theorem aQw {E:List aAu} (hE:WfE E) {rs:List aE8} (hr:∀ r∈rs,WfT E r) (hl:rs.length+wE E<=58):(rs.flatMap (aAy E)).length < 2 ^ 63:=by
 have h1:=aR2 (f:=aAy E) (l:=rs) fun r h=>aJi hE (hr r h)
 have h2:rs.length * (31 * 2 ^ wE E)<=2 ^ rs.length * (31 * 2 ^ wE E):=Nat.mul_le_mul_right _ (aUv _)
 have h3:2 ^ rs.length * (31 * 2 ^ wE E)=31 * 2 ^ (rs.length+wE E):=by rw [Nat.pow_add,Nat.mul_left_comm]
 have h4:2 ^ (rs.length+wE E)<=2 ^ 58:=Nat.pow_le_pow_right (by decide) hl
 omega
noncomputable def aVr (H:Hp) (d:Addr) (E:List aAu):Prop:=∃ kvs,H d=some (.dK kvs)/\kvs.length<=E.length/\∀ p∈E,aD2 kvs (Sum.inr p.1)=some (.int ((p.2.2.flatMap (aAy E)).length:Int))
noncomputable def aUr (H:Hp) (d:Addr) (E:List aAu):Prop:=∃ kvs,H d=some (.dK kvs)/\kvs.length<=E.length/\∀ p∈E,∃ v,aD2 kvs (Sum.inr p.1)=some v/\aDm H v p
noncomputable def aUs (H:Hp) (d:Addr) (E:List aAu):Prop:=∃ kvs,H d=some (.dK kvs)/\kvs.length<=E.length/\∀ p∈E,∃ t q l,aD2 kvs (Sum.inr p.1)=some (.ref t)/\H t=some (.tup [.ref q,.ref l])/\H q=some (.tup (p.2.1.map V.str))/\LQ aCg H l (kn ((p.2.2.flatMap (aAy E)).take 121))
theorem aVr.sm {H G:Hp} {d:Addr} {E:List aAu} (h:aVr H d E) (s:aAn H G):aVr G d E:=let ⟨k,a,b,c⟩:=h; ⟨k,s _ _ a,b,c⟩
theorem aUr.sm {H G:Hp} {d:Addr} {E:List aAu} (h:aUr H d E) (s:aAn H G):aUr G d E:=let ⟨k,a,b,c⟩:=h; ⟨k,s _ _ a,b,fun p hp=>let ⟨v,e,q⟩:=c p hp; ⟨v,e,q.tk s.tk⟩⟩
theorem aUs.sm {H G:Hp} {d:Addr} {E:List aAu} (h:aUs H d E) (s:aAn H G):aUs G d E:=let ⟨k,a,b,c⟩:=h; ⟨k,s _ _ a,b,fun p hp=>let ⟨t,q,l,e,f,g,m⟩:=c p hp; ⟨t,q,l,e,s _ _ f,s _ _ g,m.sm aCg.tk s⟩⟩
theorem aJl {kvs:List (Key×V)} {k:Key} {v:V}:(aD7 kvs k v).length<=kvs.length+1:=by
 unfold aD7
 split <;> simp
theorem aVh {E:List aAu} (hE:WfE E) {p q:aAu} (hp:WfP E p) (hq:q∈E):q.2.2.flatMap (aAy (p::E))=q.2.2.flatMap (aAy E):=aFt fun r hr=>aG0 (hE.row hq r hr) hp.2.2.2.2.2
theorem aR3 {E:List aAu} {p:aAu} (hp:WfP E p):p.2.2.flatMap (aAy (p::E))=p.2.2.flatMap (aAy E):=aFt fun r hr=>aG0 (hp.1 r hr) hp.2.2.2.2.2
theorem aVr.put {H:Hp} {d:Addr} {kvs:List (Key×V)} {E:List aAu} (hE:WfE E) {p:aAu} (hp:WfP E p) (hl:kvs.length<=E.length) (h:∀ p∈E,aD2 kvs (Sum.inr p.1)=some (.int ((p.2.2.flatMap (aAy E)).length:Int))) :
  aVr (upd H d (.dK (aD7 kvs (Sum.inr p.1) (.int ((p.2.2.flatMap (aAy E)).length:Int))))) d (p::E):=by
 refine ⟨_,aAe,by have:=aJl (kvs:=kvs) (k:=Sum.inr p.1) (v:=.int ((p.2.2.flatMap (aAy E)).length:Int)); rw [List.length_cons]; omega,fun q hq=>?_⟩
 rw [aFa]
 rcases List.mem_cons.mp hq with rfl | hq
 ·rw [if_pos rfl,aR3 hp]
 ·rw [if_neg fun z=>hp.2.2.2.2.2 q hq (Sum.inr.inj z),aVh hE hp hq]
  exact h q hq
theorem aUr.put {H G:Hp} {d:Addr} {v:V} {kvs:List (Key×V)} {E:List aAu} {p:aAu} (hp:WfP E p) (hl:kvs.length<=E.length) (h:∀ p∈E,∃ v,aD2 kvs (Sum.inr p.1)=some v/\aDm H v p) (hv:aDm H v p) (t:TK H G) (g:G d=some (.dK (aD7 kvs (Sum.inr p.1) v))):aUr G d (p::E):=by
 refine ⟨_,g,by have:=aJl (kvs:=kvs) (k:=Sum.inr p.1) (v:=v); rw [List.length_cons]; omega,fun q hq=>?_⟩
 rw [aFa]
 rcases List.mem_cons.mp hq with rfl | hq
 ·exact ⟨v,if_pos rfl,hv.tk t⟩
 ·obtain ⟨u,e,f⟩:=h q hq
  exact ⟨u,by rw [if_neg fun z=>hp.2.2.2.2.2 q hq (Sum.inr.inj z)]; exact e,f.tk t⟩
theorem aI2 {α:Type} (x y:List α):(x++y).take 121=(x.take 121++y.take 121).take 121:=by
 rw [aL4 x y,List.take_append,List.take_append,List.take_take,List.take_take]
 congr 2
 omega
noncomputable def GsQ (H:Hp) (l:Addr) (gs:List aDc):Prop:=∃ xs,H l=some (.lst xs)/\Paired (aGt H) xs gs
theorem GsQ.sm {H G:Hp} {l:Addr} {gs:List aDc} (h:GsQ H l gs) (s:aAn H G):GsQ G l gs:=let ⟨xs,a,b⟩:=h; ⟨xs,s _ _ a,Pd.imp b fun _ _ f=>f.tk s.tk⟩
noncomputable def lnN:List aDc->Nat
 | []=>0
 | .one _::gs=>lnN gs+1
 | .piece p::gs=>lnN gs+p.2.2.length+2
theorem aJ3:∀ (gs:List aDc) (g:aDc),lnN (gs++[g])=lnN gs+lnN [g]
 | [],g=>by show lnN [g]=0+_; omega
 | .one _::gs,g=>by show lnN (gs++[g])+1=lnN gs+1+_; rw [aJ3 gs g]; omega
 | .piece p::gs,g=>by show lnN (gs++[g])+p.2.2.length+2=lnN gs+p.2.2.length+2+_; rw [aJ3 gs g]; omega
theorem aPa:∀ gs:List aDc,gs.length<=lnN gs
 | []=>Nat.le_refl _
 | .one _::gs=>by have:=aPa gs; show gs.length+1<=lnN gs+1; omega
 | .piece p::gs=>by have:=aPa gs; show gs.length+1<=lnN gs+p.2.2.length+2; omega
structure aGc (gs:List aDc):Prop where
 wf:WfG [] gs
 few:gs.length<=60
 ln:lnN gs<=60
theorem aPq:∀ {gs:List aDc} {E:List aAu},wE (aGi E gs)<=wE E+lnN gs
 | [],_=>Nat.le_refl _
 | .one _::gs,E=>Nat.le_trans (aPq (gs:=gs)) (by show _<=wE E+(lnN gs+1); omega)
 | .piece p::gs,E=>Nat.le_trans (aPq (gs:=gs) (E:=p::E)) (by show wE E+p.2.2.length+2+lnN gs<=wE E+(lnN gs+p.2.2.length+2); omega)
theorem aVu:∀ {gs:List aDc} {E:List aAu},wE E<=wE (aGi E gs)
 | [],_=>Nat.le_refl _
 | .one _::gs,E=>aVu (gs:=gs)
 | .piece p::gs,E=>Nat.le_trans (by show wE E<=wE E+p.2.2.length+2; omega) (aVu (gs:=gs) (E:=p::E))
theorem aGc.wE {gs gs':List aDc} {E:List aAu} (h:aGc gs) (e:aGi E gs'=aGi [] gs):wE E<=60:=by
 have h1:=aVu (gs:=gs') (E:=E)
 have h2:=aPq (gs:=gs) (E:=[])
 have h3:=h.ln
 rw [e] at h1
 have:L2.wE []=0:=rfl
 omega
theorem aGc.le20 {gs gs':List aDc} {E:List aAu} (h:aGc gs) (hE:WfE E) (e:aGi E gs'=aGi [] gs):E.length<=20:=by
 have h1:=h.wE e
 have h2:=aUu hE
 omega
theorem aBz.head {H:Hp} {v:V} {r:aE8} (h:aBz H v r):∃ p k xs,v=.ref p/\H p=some (.tup (.str k::xs))/\k≠"piece":=by
 cases r with
 | plain r =>
  obtain ⟨p,xs,e,h1⟩:=aGs.head h
  exact ⟨p,_,xs,e,h1,r.no_piece⟩
 | put nm cl as =>
  obtain ⟨p,q,e,h1,_⟩:=h
  exact ⟨p,_,_,e,h1,by decide +kernel⟩
theorem aE6 {α:Type} {gs:List α} {i:Nat} {g:α} (h:gs[i]?=some g):gs.drop i=g::gs.drop (i+1):=by
 obtain ⟨hi,e⟩:=List.getElem?_eq_some_iff.mp h
 rw [List.drop_eq_getElem_cons hi,e]
theorem aPm:∀ {ps as:List Str} {cl x:Str},(aD2 (((ps.map Sum.inr).zip (as.map V.str)):List (Key×V)) (Sum.inr x)).getD (.str (cl++⟨#[46]⟩++x))=.str (aCn ps as cl x)
 | [],_,_,_=>rfl
 | _::_,[],_,_=>rfl
 | p::ps,a::as,cl,x=>by
  show (aD2 ((Sum.inr p,V.str a)::((ps.map Sum.inr).zip (as.map V.str))) (Sum.inr x)).getD _=.str (if p=x then a else aCn ps as cl x)
  by_cases e:p=x
  ·rw [if_pos e,aB9 (show (Sum.inr p:Key)=Sum.inr x by rw [e])]
   rfl
  ·rw [if_neg e,aCa (fun z=>e (Sum.inr.inj z))]
   exact aPm
theorem aYj {ps as:List Str} (nd:ps.Nodup) (hl:ps.length=as.length):aEy [] (((ps.map Sum.inr).zip (as.map V.str)):List (Key×V))=(ps.map Sum.inr).zip (as.map V.str):=by
 have e:((((ps.map Sum.inr).zip (as.map V.str)):List (Key×V)).map (·.1))=ps.map Sum.inr:=List.map_fst_zip (by rw [List.length_map,List.length_map]; omega)
 have:=aLb (kvs:=[]) (more:=(((ps.map Sum.inr).zip (as.map V.str)):List (Key×V))) (by
  rw [List.nil_append,e]
  exact List.pairwise_map.mpr (nd.imp fun h z=>h (Sum.inr.inj z)))
 exact this
theorem aRk:∀ {ps as:List Str} {cl x:Str} {j:Nat} {a:Str},ps[j]?=some x->(∀ m,m < j->ps[m]?≠some x)->as[j]?=some a->aCn ps as cl x=a
 | [],_,_,_,_,_,h,_,_=>by simp at h
 | p::ps,[],_,_,_,_,_,_,h=>by simp at h
 | p::ps,b::as,cl,x,0,a,h1,_,h3=>by
  cases h1
  cases h3
  exact if_pos rfl
 | p::ps,b::as,cl,x,j+1,a,h1,h2,h3=>by
  have hp:p≠x:=fun z=>h2 0 (Nat.succ_pos _) (by rw [z]; rfl)
  show (if p=x then b else aCn ps as cl x)=a
  rw [if_neg hp]
  exact aRk (j:=j) h1 (fun m hm=>h2 (m+1) (by omega)) h3
theorem aRj:∀ {ps as:List Str} {cl x:Str},x∉ps->aCn ps as cl x=cl++⟨#[46]⟩++x
 | [],_,_,_,_=>rfl
 | _::_,[],_,_,_=>rfl
 | p::ps,a::as,cl,x,h=>by
  show (if p=x then a else aCn ps as cl x)=_
  rw [if_neg fun z=>h (by rw [z]; simp)]
  exact aRj fun z=>h (List.mem_cons_of_mem _ z)
theorem aUg {ps:List Str} {x:Str} (h:x∈ps):∃ j:Nat,ps[j]?=some x/\∀ m,m < j->ps[m]?≠some x:=by
 induction ps with
 | nil=>cases h
 | cons p ps ih =>
  by_cases e:p=x
  ·exact ⟨0,by rw [e]; rfl,fun m hm=>absurd hm (Nat.not_lt_zero _)⟩
  ·obtain ⟨j,h1,h2⟩:=ih ((List.mem_cons.mp h).resolve_left fun z=>e z.symm)
   refine ⟨j+1,h1,fun m hm=>?_⟩
   cases m with
   | zero=>exact fun z=>e (Option.some.inj z)
   | succ m=>exact h2 m (by omega)
theorem aUz {E:List aAu}:∀ l:List aE8,((l.map fun r=>((aAy E r).length:Int)).sum)=((l.flatMap (aAy E)).length:Int)
 | []=>rfl
 | r::l=>by
  rw [List.map_cons,List.sum_cons,aUz l,List.flatMap_cons,List.length_append,Int.natCast_add]
theorem aY8 (E:List aAu) (r:aE8):rkE E r<=E.length:=WfE.put.rk_le E r
theorem aUs.put {H:Hp} {d t q l:Addr} {kvs:List (Key×V)} {E:List aAu} {p:aAu} (hE:WfE E) (hp:WfP E p) (hd:H d=some (.dK kvs)) (hl:kvs.length<=E.length)
  (h:∀ p∈E,∃ t q l,aD2 kvs (Sum.inr p.1)=some (.ref t)/\H t=some (.tup [.ref q,.ref l])/\H q=some (.tup (p.2.1.map V.str))/\LQ aCg H l (kn ((p.2.2.flatMap (aAy E)).take 121)))
  (h1:H t=some (.tup [.ref q,.ref l])) (h2:H q=some (.tup (p.2.1.map V.str))) (h3:LQ aCg H l (kn ((p.2.2.flatMap (aAy E)).take 121))):aUs (upd H d (.dK (aD7 kvs (Sum.inr p.1) (.ref t)))) d (p::E):=by
 have tk:=TK.dic (o:=.dK (aD7 kvs (Sum.inr p.1) (.ref t))) hd
 have kl:∀ {l:Addr} {n:List (Key×Key×Rat)},LQ aCg H l n->LQ aCg (upd H d (.dK (aD7 kvs (Sum.inr p.1) (.ref t)))) l n:=fun {l n} ⟨vs,a,b⟩=>by
  refine ⟨vs,?_,Pd.imp b fun _ _ f=>aCg.tk f tk⟩
  rw [aA1 fun z=>by rw [z,hd] at a; cases a]
  exact a
 refine ⟨_,aAe,by have:=aJl (kvs:=kvs) (k:=Sum.inr p.1) (v:=.ref t); rw [List.length_cons]; omega,fun x hx=>?_⟩
 rw [aFa]
 rcases List.mem_cons.mp hx with rfl | hx
 ·rw [aR3 hp]
  exact ⟨t,q,l,if_pos rfl,tk _ _ h1,tk _ _ h2,kl h3⟩
 ·obtain ⟨t',q',l',e,f,g,m⟩:=h x hx
  rw [aVh hE hp hx]
  exact ⟨t',q',l',by rw [if_neg fun z=>hp.2.2.2.2.2 x hx (Sum.inr.inj z)]; exact e,tk _ _ f,tk _ _ g,kl m⟩
section
variable {lf lk:Addr} {vi v:V} {u w:Int}
end
noncomputable def aT4 (bef beh:Str) (x:Int) (i:Nat):Str:=bef++⟨#[97+((x+3 * (i:Int)) % 26).toNat]⟩++beh
theorem bA9 {bef beh:Str} {x:Int} {i j:Nat} (hi:i < 8) (hj:j < 8) (h:aT4 bef beh x i=aT4 bef beh x j):i=j:=by
 have e:=congrArg (fun s:Str=>s.cps.toList) h
 have l:∀ k:Nat,(aT4 bef beh x k).cps.toList=bef.cps.toList++((97+((x+3 * (k:Int)) % 26).toNat)::beh.cps.toList):=fun k=>by
  show ((bef.cps++#[97+((x+3 * (k:Int)) % 26).toNat])++beh.cps).toList=_
  simp
 simp only [l] at e
 have e2:=(List.cons.inj (List.append_cancel_left e)).1
 omega
theorem nm_nd (bef beh:Str) (x:Int):((List.range 8).map (aT4 bef beh x)).Nodup:=by
 refine List.pairwise_map.mpr (List.nodup_range.imp_of_mem fun {a b} ha hb hab e=>hab (bA9 (List.mem_range.mp ha) (List.mem_range.mp hb) e))
theorem e_dvn {H0 H0' H:Hp} {Q:VK} {v u:V} {n:List aD3} (h:DVn H0 H v n) (h':DVn H0' H u n) (k:Q (.bl true) H):aVa v u H Q:=by
 rcases h with ⟨h1,rfl⟩ | ⟨h1,h2,rfl⟩ | ⟨h1,h2,l,rfl,h4,h5⟩ <;> rcases h' with ⟨h1',rfl⟩ | ⟨h1',h2',rfl⟩ | ⟨h1',h2',l',rfl,h4',h5'⟩
 ·exact aXt (by rw [show ((("many":Str))==("many":Str))=true from by decide +kernel]; exact k)
 ·omega
 ·omega
 ·omega
 ·exact aXt (by rw [show ((("none":Str))==("none":Str))=true from by decide +kernel]; exact k)
 ·exact absurd h2 h2'
 ·omega
 ·exact absurd h2' h2
 ·obtain ⟨v1,a1,p1⟩:=h5
  obtain ⟨v2,a2,p2⟩:=h5'
  refine aXu (ds:=n.map aUj) (es:=n.map aUj) ⟨l,_,rfl,a1,aCo p1⟩ ⟨l',_,rfl,a2,aCo p2⟩ (Nat.le_trans (aFw n) (by decide)) ?_
  rw [aKh.same_eq _ _ (aCo p1) (aCo p1)]
  exact k
end L2
namespace L2
open PySem PySem.Spec PyProof.Rows
noncomputable abbrev aUq (h:Heap) (z TI TO:Addr) (f0:Value) (b:Bool):Prop:=h.get? z=some { cls:=.type "zip",dict:=none,data:=.fields #[f0,.bool b,.bool false,.ref TI,.ref TO],slots:=#[] }
structure aSz (h:Heap) (z TI TO i1 i2 l1 l2:Addr) (k:Nat) (xs ys:Array Value):Prop where
 zp:∃ f0 b,aUq h z TI TO f0 b/\((k=0/\f0=.none/\b=false)∨(1<=k/\∃ (T:Addr) (o:Obj),f0=rawInt T/\h.get? T=some o/\T≠z/\T≠TO/\T≠i1/\T≠i2))
 ti:IsPair h TI (.ref i1) (.ref i2)
 to:∃ a b,IsPair h TO a b
 p1:h.IsTupleIter i1 l1 k
 p2:h.IsTupleIter i2 l2 k
 q1:h.IsTuple l1 xs
 q2:h.IsTuple l2 ys
section
open Sem (wp)
variable {prog:Program} {w:World} {A:Around} {E:Value -> Shared -> Prop} {s:Shared} {z TI TO i1 i2 l1 l2:Addr} {k:Nat} {xs ys:Array Value}
theorem aUo {a:Addr} {o:Obj} {Q:Option Obj->Shared->Prop} (ho:s.heap.get? a=some o) (h:Q (some o) s):wpAny (model prog w) A (loadIfAlive a) Q E s:=fun Γ p _=>by
 show wp _ _ (.loadIfAlive a .pure) _ _ _ _
 rw [Sem.wp_loadIfAlive,ho]
 exact h
theorem aRz {T:Addr} {o:Obj} {b:Bool} {Q:Bool->Shared->Prop} (gz:aUq s.heap z TI TO (rawInt T) b) (gT:s.heap.get? T=some o)
  (k:∀ h',h'.objs.size=s.heap.objs.size->(∀ c o,c≠z->s.heap.get? c=some o->h'.get? c=some o)->aUq h' z TI TO (rawInt T) true->Q false { s with heap:=h' }):wpAny (model prog w) A (Builtin.SmallTypes.ownedTupleIsFree (.ref z)) Q E s:=by
 unfold Builtin.SmallTypes.ownedTupleIsFree
 refine wpAny_bind (wpAny_field gz rfl (x:=rawInt T) rfl ?_)
 show wpAny _ _ (loadIfAlive ((T:Int).toNat) >>= _) _ _ _
 refine wpAny_bind (aUo (o:=o) (by rw [Int.toNat_natCast]; exact gT) ?_)
 rw [if_neg (by simp)]
 refine wpAny_bind (wpAny_field gz rfl (x:=.bool b) rfl ?_)
 cases b with
 | true =>
  rw [if_neg (by decide)]
  exact wpAny_pure (k _ rfl (fun _ _ _ e=>e) gz)
 | false =>
  rw [if_pos (by decide)]
  exact wpAny_bind (wpAny_setField_rec gz (by simp) fun m1 gz1 c1=>wpAny_pure (k m1 c1.1 (fun c o n e=>c1.extBut _ _ n e) gz1))
theorem aPn {x y:Value} {Q:Value->Shared->Prop} (D:ZipApart z TI TO i1 i2 l1 l2) (Z:aSz s.heap z TI TO i1 i2 l1 l2 k xs ys) (hx:xs[k]?=some x) (hy:ys[k]?=some y)
  (hQ:∀ h',aSz h' z TI TO i1 i2 l1 l2 (k+1) xs ys->IsPair h' s.heap.objs.size x y->h'.objs.size=s.heap.objs.size+1 ->
   (∀ c o,c≠z->c≠TO->c≠i1->c≠i2->s.heap.get? c=some o->h'.get? c=some o)->Q (.ref s.heap.objs.size) { s with heap:=h' }) :
  wpAny (model prog w) A (Builtin.«zip.__next__» ⟨[.ref z],[]⟩) (fun fin s'=>∃ v,fin=.done (.ret v)/\Q v s') E s:=by
 obtain ⟨⟨f0,b0,gz,hf⟩,gTI,⟨a,b,gTO⟩,g1,g2,t1,t2⟩:=Z
 have lz:=Heap.lt_size gz
 have lTO:=Heap.lt_size gTO
 have li1:i1 < s.heap.objs.size:=by obtain ⟨_,e,_⟩:=g1; exact Heap.lt_size e
 have li2:i2 < s.heap.objs.size:=by obtain ⟨_,e,_⟩:=g2; exact Heap.lt_size e
 have nw:∀ {c:Addr},c < s.heap.objs.size->s.heap.objs.size≠c:=fun h=>Nat.ne_of_gt h
 show wpAny _ _ (field (.ref z) 2 >>= _) _ _ _
 refine wpAny_bind (wpAny_field gz rfl (x:=.bool false) rfl ?_)
 show wpAny _ _ (field (.ref z) 3 >>= _) _ _ _
 refine wpAny_bind (wpAny_field gz rfl (x:=.ref TI) rfl ?_)
 refine wpAny_bind (wpAny_seqItems gTI rfl ?_)
 show wpAny _ _ (Builtin.SmallTypes.ownedTupleIsFree (.ref z) >>= _) _ _ _
 rcases hf with ⟨rfl,rfl,rfl⟩ | ⟨k1,T,oT,rfl,gT,nT⟩
 ·refine wpAny_bind ?_
  unfold Builtin.SmallTypes.ownedTupleIsFree
  refine wpAny_bind (wpAny_field gz rfl (x:=.none) rfl (wpAny_pure ?_))
  simp only [if_true]
  refine wpAny_bind (wpAny_rule (wpAny_bind (wpAny_field gz rfl (x:=.ref TO) rfl ?_)))
  refine wpAny_bind (wpAny_setField_rec gz (by simp) fun m1 gz1 c1=>?_)
  replace gz1:aUq m1 z TI TO .ellipsis false:=gz1
  refine wpAny_bind ?_
  simp only [List.zipIdx_cons,List.zipIdx_nil,List.forIn_cons,List.forIn_nil]
  refine wpAny_bind (wpAny_bind (wpAny_onRaise ?_))
  show wpAny _ _ (Builtin.SmallTypes.nextOf (.ref i1) >>= _) _ _ _
  refine wpAny_bind (aEt (g1.at fun o e=>c1.extBut _ o D.i1z e) (t1.at fun o e=>c1.extBut _ o D.l1z e) hx fun m2 g12 c2=>wpAny_pure ?_)
  have gTO2:IsPair m2 TO a b:=c2.extBut _ _ D.TOi1 (c1.extBut _ _ D.TOz gTO)
  refine wpAny_bind (wpAny_seqItems gTO2 rfl ?_)
  refine wpAny_bind (wpAny_updateSeq_pair gTO2 fun m3 gTO3 c3=>?_)
  replace gTO3:IsPair m3 TO x b:=gTO3
  refine wpAny_bind (wpAny_letGo (wpAny_pure (wpAny_bind (wpAny_bind (wpAny_onRaise ?_)))))
  show wpAny _ _ (Builtin.SmallTypes.nextOf (.ref i2) >>= _) _ _ _
  refine wpAny_bind (aEt (g2.at fun o e=>c3.extBut _ o D.TOi2.symm (c2.extBut _ o D.i12.symm (c1.extBut _ o D.i2z e))) (t2.at fun o e=>c3.extBut _ o D.l2TO (c2.extBut _ o D.l2i1 (c1.extBut _ o D.l2z e))) hy fun m4 g24 c4=>wpAny_pure ?_)
  have gTO4:IsPair m4 TO x b:=c4.extBut _ _ D.TOi2 gTO3
  refine wpAny_bind (wpAny_seqItems gTO4 rfl ?_)
  refine wpAny_bind (wpAny_updateSeq_pair gTO4 fun m5 gTO5 c5=>?_)
  replace gTO5:IsPair m5 TO x y:=gTO5
  refine wpAny_bind (wpAny_letGo (wpAny_pure (wpAny_pure (wpAny_bind (wpAny_seqItems gTO5 rfl ?_)))))
  refine wpAny_bind (wpAny_newTuple ?_)
  have e5:m5.objs.size=s.heap.objs.size:=by rw [c5.1,c4.1,c3.1,c2.1,c1.1]
  have gz5:aUq m5 z TI TO .ellipsis false:=c5.extBut _ _ D.TOz.symm (c4.extBut _ _ D.i2z.symm (c3.extBut _ _ D.TOz.symm (c2.extBut _ _ D.i1z.symm gz1)))
  have kp5:∀ c o,c≠z->c≠TO->c≠i1->c≠i2->s.heap.get? c=some o->m5.get? c=some o:=fun c o n1 n2 n3 n4 e=>c5.extBut _ _ n2 (c4.extBut _ _ n4 (c3.extBut _ _ n2 (c2.extBut _ _ n3 (c1.extBut _ _ n1 e))))
  have g15:m5.IsTupleIter i1 l1 (0+1):=g12.at fun o e=>c5.extBut _ o D.TOi1.symm (c4.extBut _ o D.i12 (c3.extBut _ o D.TOi1.symm e))
  have g25:m5.IsTupleIter i2 l2 (0+1):=g24.at fun o e=>c5.extBut _ o D.TOi2.symm e
  show wpAny _ _ (Builtin.SmallTypes.ownedTupleHandOut (.ref z) (.ref m5.objs.size) >>= _) _ _ _
  refine wpAny_bind ?_
  unfold Builtin.SmallTypes.ownedTupleHandOut
  have gz6:aUq (m5.push { cls:=.type "tuple",data:=.seq #[x,y] }) z TI TO .ellipsis false:=Heap.get?_push_of_some _ gz5
  refine wpAny_bind (wpAny_setField_rec gz6 (by simp) fun m7 gz7 c7=>?_)
  replace gz7:aUq m7 z TI TO (rawInt m5.objs.size) false:=gz7
  refine wpAny_setField_rec gz7 (by simp) fun m8 gz8 c8=>?_
  replace gz8:aUq m8 z TI TO (rawInt m5.objs.size) false:=gz8
  have up:∀ c o,c≠z->m5.get? c=some o->m8.get? c=some o:=fun c o n1 e=>c8.extBut _ _ n1 (c7.extBut _ _ n1 (Heap.get?_push_of_some _ e))
  have gp:IsPair m8 m5.objs.size x y:=c8.extBut _ _ (by rw [e5]; exact nw lz) (c7.extBut _ _ (by rw [e5]; exact nw lz) (Heap.get?_push_size _ rfl))
  have e8:m8.objs.size=m5.objs.size+1:=by rw [c8.1,c7.1,Heap.size_push]
  rw [e5] at gz8 gp e8
  refine wpAny_pure ⟨_,rfl,?_⟩
  show Q (.ref m5.objs.size) _
  rw [e5]
  exact hQ m8 ⟨⟨_,_,gz8,.inr ⟨Nat.le_refl _,_,_,rfl,gp,nw lz,nw lTO,nw li1,nw li2⟩⟩,up _ _ D.TIz (kp5 _ _ D.TIz D.TITO D.TIi1 D.TIi2 gTI),⟨_,_,up _ _ D.TOz gTO5⟩,g15.at fun o e=>up _ o D.i1z e,g25.at fun o e=>up _ o D.i2z e,
   t1.at fun o e=>up _ o D.l1z (kp5 _ _ D.l1z D.l1TO D.l1i1 D.l1i2 e),t2.at fun o e=>up _ o D.l2z (kp5 _ _ D.l2z D.l2TO D.l2i1 D.l2i2 e)⟩ gp e8 fun c o n1 n2 n3 n4 e=>up c o n1 (kp5 c o n1 n2 n3 n4 e)
 ·refine wpAny_bind (aRz gz gT fun m0 e0 kp0 gz0=>?_)
  rw [if_neg (by decide)]
  simp only [← Array.forIn_toList,List.forIn_cons,List.forIn_nil]
  refine wpAny_bind (wpAny_bind (wpAny_bind (wpAny_holding ?_)))
  show wpAny _ _ (Builtin.SmallTypes.nextOf (.ref i1) >>= _) _ _ _
  refine wpAny_bind (aEt (g1.at fun o e=>kp0 _ o D.i1z e) (t1.at fun o e=>kp0 _ o D.l1z e) hx fun m1 g11 c1=>wpAny_pure (wpAny_pure ?_))
  refine wpAny_bind (wpAny_bind (wpAny_holding ?_))
  show wpAny _ _ (Builtin.SmallTypes.nextOf (.ref i2) >>= _) _ _ _
  refine wpAny_bind (aEt (g2.at fun o e=>c1.extBut _ o D.i12.symm (kp0 _ o D.i2z e)) (t2.at fun o e=>c1.extBut _ o D.l2i1 (kp0 _ o D.l2z e)) hy fun m2 g22 c2=>wpAny_pure (wpAny_pure (wpAny_pure ?_)))
  refine wpAny_bind (wpAny_newTuple (wpAny_pure ⟨_,rfl,?_⟩) (by show 2<=sizeLine; decide))
  have e2:m2.objs.size=s.heap.objs.size:=by rw [c2.1,c1.1,e0]
  have up:∀ c o,c≠z->c≠i1->c≠i2->s.heap.get? c=some o->(m2.push { cls:=.type "tuple",data:=.seq #[x,y] }).get? c=some o:=fun c o n1 n2 n3 e=>Heap.get?_push_of_some _ (c2.extBut _ _ n3 (c1.extBut _ _ n2 (kp0 _ _ n1 e)))
  have gp:IsPair (m2.push { cls:=.type "tuple",data:=.seq #[x,y] }) m2.objs.size x y:=Heap.get?_push_size _ rfl
  have gz2:aUq (m2.push { cls:=.type "tuple",data:=.seq #[x,y] }) z TI TO (rawInt T) true:=Heap.get?_push_of_some _ (c2.extBut _ _ D.i2z.symm (c1.extBut _ _ D.i1z.symm gz0))
  have e3:(m2.push { cls:=.type "tuple",data:=.seq #[x,y] }).objs.size=m2.objs.size+1:=Heap.size_push ..
  show Q (.ref m2.objs.size) { s with heap:=m2.push { cls:=.type "tuple",data:=.seq #[x,y] } }
  have r1:(m2.push { cls:=.type "tuple",data:=.seq #[x,y] }).IsTupleIter i1 l1 (k+1):=g11.at fun o e=>Heap.get?_push_of_some _ (c2.extBut _ o D.i12 e)
  have r2:(m2.push { cls:=.type "tuple",data:=.seq #[x,y] }).IsTupleIter i2 l2 (k+1):=g22.at fun o e=>Heap.get?_push_of_some _ e
  generalize m2.push { cls:=.type "tuple",data:=.seq #[x,y] }=m3 at up gp gz2 e3 r1 r2 ⊢
  rw [e2] at gp e3 ⊢
  exact hQ m3 ⟨⟨_,_,gz2,.inr ⟨Nat.succ_pos _,T,oT,rfl,up _ _ nT.1 nT.2.2.1 nT.2.2.2 gT,nT⟩⟩,up _ _ D.TIz D.TIi1 D.TIi2 gTI,⟨_,_,up _ _ D.TOz D.TOi1 D.TOi2 gTO⟩,r1,r2,t1.at fun o e=>up _ o D.l1z D.l1i1 D.l1i2 e,t2.at fun o e=>up _ o D.l2z D.l2i1 D.l2i2 e⟩ gp e3 fun c o n1 _ n3 n4 e=>up c o n1 n3 n4 e
theorem aS6 {Q:PySem.Fin->Shared->Prop} (hh:A.handled=none) (D:ZipApart z TI TO i1 i2 l1 l2) (Z:aSz s.heap z TI TO i1 i2 l1 l2 k xs ys) (hk:1<=k) (hx:xs[k]?=none)
  (hE:∀ h' e,(∀ c o,c≠z->c≠TO->c≠i1->c≠i2->s.heap.get? c=some o->h'.get? c=some o)->(∃ o,h'.get? e=some o/\o.cls=.type "StopIteration")->E (.ref e) { s with heap:=h' }) :
  wpAny (model prog w) A (Builtin.«zip.__next__» ⟨[.ref z],[]⟩) Q E s:=by
 obtain ⟨⟨f0,b0,gz,hf⟩,gTI,⟨a,b,gTO⟩,g1,g2,t1,t2⟩:=Z
 rcases hf with ⟨rfl,_⟩ | ⟨_,T,oT,rfl,gT,nT⟩
 ·exact absurd hk (by decide)
 show wpAny _ _ (field (.ref z) 2 >>= _) _ _ _
 refine wpAny_bind (wpAny_field gz rfl (x:=.bool false) rfl ?_)
 show wpAny _ _ (field (.ref z) 3 >>= _) _ _ _
 refine wpAny_bind (wpAny_field gz rfl (x:=.ref TI) rfl (wpAny_bind (wpAny_seqItems gTI rfl ?_)))
 show wpAny _ _ (Builtin.SmallTypes.ownedTupleIsFree (.ref z) >>= _) _ _ _
 refine wpAny_bind (aRz gz gT fun m0 e0 kp0 gz0=>?_)
 rw [if_neg (by decide)]
 simp only [← Array.forIn_toList,List.forIn_cons,List.forIn_nil]
 refine wpAny_bind (wpAny_bind (wpAny_bind (wpAny_holding ?_)))
 show wpAny _ _ (Builtin.SmallTypes.nextOf (.ref i1) >>= _) _ _ _
 refine wpAny_bind (aRh hh (g1.at fun o e=>kp0 _ o D.i1z e) (t1.at fun o e=>kp0 _ o D.l1z e) hx fun m1 e c1 he=>?_)
 exact hE m1 e (fun c o n1 _ n3 _ x=>c1 _ _ n3 (kp0 _ _ n1 x)) he
theorem aO8 {x y:Value} {Q:Option Value->Shared->Prop} (D:ZipApart z TI TO i1 i2 l1 l2) (Z:aSz s.heap z TI TO i1 i2 l1 l2 k xs ys) (hx:xs[k]?=some x) (hy:ys[k]?=some y)
  (hQ:∀ h',aSz h' z TI TO i1 i2 l1 l2 (k+1) xs ys->IsPair h' s.heap.objs.size x y->h'.objs.size=s.heap.objs.size+1 ->
   (∀ c o,c≠z->c≠TO->c≠i1->c≠i2->s.heap.get? c=some o->h'.get? c=some o)->Q (some (.ref s.heap.objs.size)) { s with heap:=h' }) :
  wpAny (model prog w) A (pyNext (.ref z)) Q E s:=by
 have hT:s.TypeIs (.ref z) "zip":=by
  obtain ⟨⟨f0,b0,gz,hf⟩,_⟩:=Z
  exact ⟨_,gz,rfl⟩
 unfold pyNext
 refine wpAny_bind (wpAny_attempt (wpAny_callSpecial?_slot (name:=Str.ofString "__next__") hT F.slot_zip_next (wpAny_call_entry F.slot_zip_next hT F.entry_zip_next ?_ (F.args_zip_next_1 _))))
 exact aPn D Z hx hy fun h' a1 a2 a3 a4=>wpAny_pure (hQ h' a1 a2 a3 a4)
theorem aRg {Q:Option Value->Shared->Prop} (hh:A.handled=none) (D:ZipApart z TI TO i1 i2 l1 l2) (Z:aSz s.heap z TI TO i1 i2 l1 l2 k xs ys) (hk:1<=k) (hx:xs[k]?=none)
  (hQ:∀ h',(∀ c o,c≠z->c≠TO->c≠i1->c≠i2->s.heap.get? c=some o->h'.get? c=some o)->Q none { s with heap:=h' }):wpAny (model prog w) A (pyNext (.ref z)) Q E s:=by
 have hT:s.TypeIs (.ref z) "zip":=by
  obtain ⟨⟨f0,b0,gz,hf⟩,_⟩:=Z
  exact ⟨_,gz,rfl⟩
 unfold pyNext
 refine wpAny_bind (wpAny_attempt (wpAny_callSpecial?_slot (name:=Str.ofString "__next__") hT F.slot_zip_next (wpAny_call_entry F.slot_zip_next hT F.entry_zip_next ?_ (F.args_zip_next_1 _))))
 refine aS6 hh D Z hk hx fun h' e kp he=>?_
 obtain ⟨o,ho,hc⟩:=he
 exact wpAny_bind (wpAny_isInstance (T:="StopIteration") (b:=true) ⟨o,ho,hc⟩ isSubtype_stop (wpAny_pure (hQ _ kp)))
noncomputable abbrev zT1 (h:Heap) (l1:Addr):Heap:=h.push { cls:=.type "tuple_iterator",data:=.fields #[.ref l1,.int 0 0] }
noncomputable abbrev zT2 (h:Heap) (l1 l2:Addr):Heap:=(zT1 h l1).push { cls:=.type "tuple_iterator",data:=.fields #[.ref l2,.int 0 0] }
noncomputable abbrev zT3 (h:Heap) (l1 l2:Addr):Heap:=(zT2 h l1 l2).push { cls:=.type "tuple",data:=.seq #[.ref h.objs.size,.ref (zT1 h l1).objs.size] }
noncomputable abbrev zT4 (h:Heap) (l1 l2:Addr):Heap:=(zT3 h l1 l2).push { cls:=.type "tuple",data:=.seq #[.none,.none] }
noncomputable abbrev zT5 (h:Heap) (l1 l2:Addr):Heap:=(zT4 h l1 l2).push { cls:=.type "zip",data:=.fields #[.none,.bool false,.bool false,.ref (zT2 h l1 l2).objs.size,.ref (zT3 h l1 l2).objs.size] }
theorem aO9 (l1 l2:Addr) (xs ys:Array Value) :
  Meets (Builtin.«zip.__new__» ⟨[.type "zip",.ref l1,.ref l2],[]⟩) (fun _ R s=>s.heap.IsTuple l1 xs/\s.heap.IsTuple l2 ys/\R (.ok (.ret (.ref (zT4 s.heap l1 l2).objs.size))) { s with heap:=zT5 s.heap l1 l2 }) :=
 .of_wp fun prog w A R s h=>by
  obtain ⟨hp,g,d,tk,os⟩:=s
  obtain ⟨a1,a2,h⟩:=h
  have sz:=sub_zip
  have b1:Heap.IsTuple (Shared.heap ⟨hp,g,d,tk,os⟩) l1 xs:=a1
  have b2:Heap.IsTuple (Shared.heap ⟨zT1 hp l1,g,d,tk,os⟩) l2 ys:=a2.at fun o e=>Heap.get?_push_of_some _ e
  wp_walk using wpAny_pyIter_tuple b1,wpAny_pyIter_tuple b2
  exact ⟨_,rfl,h⟩
theorem aSp {Q:Value->Shared->Prop} (a1:s.heap.IsTuple l1 xs) (a2:s.heap.IsTuple l2 ys)
  (q:∀ h',aSz h' (s.heap.objs.size+4) (s.heap.objs.size+2) (s.heap.objs.size+3) s.heap.objs.size (s.heap.objs.size+1) l1 l2 0 xs ys->h'.objs.size=s.heap.objs.size+5->(∀ c o,s.heap.get? c=some o->h'.get? c=some o)->Q (.ref (s.heap.objs.size+4)) { s with heap:=h' }) :
  wpAny (model prog w) A (call (.type "zip") [.ref l1,.ref l2]) Q E s:=by
 refine callType_new F.called_zip (by decide) (F.typeCall_zip_2 _ _) (F.newCall_zip_2 _ _) (fun obj=>F.args_object_init_3 obj _ _) F.entry_zip_new (aO9 l1 l2 xs ys) ⟨a1,a2,?_⟩
 have n1:(zT1 s.heap l1).objs.size=s.heap.objs.size+1:=Heap.size_push ..
 have n2:(zT2 s.heap l1 l2).objs.size=s.heap.objs.size+2:=by rw [Heap.size_push,n1]
 have n3:(zT3 s.heap l1 l2).objs.size=s.heap.objs.size+3:=by rw [Heap.size_push,n2]
 have n4:(zT4 s.heap l1 l2).objs.size=s.heap.objs.size+4:=by rw [Heap.size_push,n3]
 have n5:(zT5 s.heap l1 l2).objs.size=s.heap.objs.size+5:=by rw [Heap.size_push,n4]
 have r5:(zT5 s.heap l1 l2).get? (zT4 s.heap l1 l2).objs.size=some _:=Heap.get?_push_size _ rfl
 have r4:(zT5 s.heap l1 l2).get? (zT3 s.heap l1 l2).objs.size=some _:=Heap.get?_push_of_some _ (Heap.get?_push_size _ rfl)
 have r3:(zT5 s.heap l1 l2).get? (zT2 s.heap l1 l2).objs.size=some _:=Heap.get?_push_of_some _ (Heap.get?_push_of_some _ (Heap.get?_push_size _ rfl))
 have r2:(zT5 s.heap l1 l2).get? (zT1 s.heap l1).objs.size=some _:=Heap.get?_push_of_some _ (Heap.get?_push_of_some _ (Heap.get?_push_of_some _ (Heap.get?_push_size _ rfl)))
 have r1:(zT5 s.heap l1 l2).get? s.heap.objs.size=some _:=Heap.get?_push_of_some _ (Heap.get?_push_of_some _ (Heap.get?_push_of_some _ (Heap.get?_push_of_some _ (Heap.get?_push_size _ rfl))))
 have kp:∀ c o,s.heap.get? c=some o->(zT5 s.heap l1 l2).get? c=some o:=fun c o e=>Heap.get?_push_of_some _ (Heap.get?_push_of_some _ (Heap.get?_push_of_some _ (Heap.get?_push_of_some _ (Heap.get?_push_of_some _ e))))
 show _/\_
 rw [n2,n3,n4] at r5
 rw [n1,n2] at r3
 rw [n3] at r4
 rw [n1] at r2
 rw [n4]
 exact ⟨⟨_,r5,rfl⟩,q _ ⟨⟨_,_,r5,.inl ⟨rfl,rfl,rfl⟩⟩,r3,⟨_,_,r4⟩,⟨_,r1,rfl,rfl⟩,⟨_,r2,rfl,rfl⟩,a1.at fun o e=>kp _ o e,a2.at fun o e=>kp _ o e⟩ n5 kp⟩
theorem aL2:typeLookup (.type "zip") "keys"=pure none:=by rw [typeLookup_type,builtinLookup_eq_fast]; kernel_rfl
theorem aH2:typeLookup (.type "zip") "__getattr__"=pure none:=by rw [typeLookup_type,builtinLookup_eq_fast]; kernel_rfl
theorem aGj:entryFor table "zip.__getattribute__"=some Builtin.«object.__getattribute__»:=entryFor_alias (id':="object.__getattribute__") (by kernel_rfl) (by decide +kernel) (by decide +kernel) (by kernel_rfl)
theorem aMx (a:Addr) (fs:Array Value) (sl:Array (Option Value)) (name:Str) (u:Tok) (hmiss:typeLookup (.type "zip") name=pure none) (hname:(["__module__","__name__","__qualname__","__doc__","__annotations__"]:List Str).contains name=false) (hsz:name.length+100<=sizeLine:=by size_fits) :
  Meets (Builtin.«object.__getattribute__» ⟨[.ref a,.str name u],[]⟩) (fun A R s=>s.heap.get? a=some { cls:=.type "zip",dict:=none,data:=.fields fs,slots:=sl }/\raisesAttr (.ref a) name A R s) :=
 Meets.of_wp fun prog w A R s hs=>by
  obtain ⟨hp,g,d,tk,os⟩:=s
  obtain ⟨hx,hs⟩:=hs
  have tz:(⟨hp,g,d,tk,os⟩:Shared).TypeIs (.ref a) "zip":=⟨_,hx,rfl⟩
  unfold Builtin.«object.__getattribute__»
  repeat (any_goals (first | assumption | wp_step))
  simp only [hname,Bool.false_eq_true,if_false]
  repeat (any_goals (first | assumption | wp_step))
  exact wpAny_raiseAttrError hs.1 hs.2 (attrMsg_fits (by decide +kernel) hsz)
theorem aPc {l:Addr} {fs:Array Value} {Q:Option Value->Shared->Prop} (hx:s.heap.get? l=some { cls:=.type "zip",dict:=none,data:=.fields fs,slots:=#[] }) (hA:A.handled=none)
  (h:∀ h' tk,(∀ b o,s.heap.get? b=some o->h'.get? b=some o)->Q none { s with heap:=h',toks:=tk }):wpAny (model prog w) A (getAttr? (.ref l) "keys") Q E s:=by
 obtain ⟨hp,g,d,tk,os⟩:=s
 have tz:∀ tk',(⟨hp,g,d,tk',os⟩:Shared).TypeIs (.ref l) "zip":=fun _=>⟨_,hx,rfl⟩
 have f1:=sub_AttributeError
 have f3:=F.slot_zip_getattribute.lookup
 have f4:=F.slot_zip_getattribute.bind (.ref l)
 have f5:=aH2
 unfold getAttr? getAttrBy? getAttrBy
 repeat (any_goals (first | assumption | exact tz _ | ((with_reducible show wpAny _ _ (call (Value.builtin "zip.__getattribute__") _ _) _ _ _); refine call_meets F.slot_zip_getattribute (tz _) aGj (F.args_zip_getattribute_2 _ _) (aMx l fs #[] (Str.ofString "keys") _ aL2 (by decide)) ⟨hx,by simpa using hA,fun h' tk' e hx'=>?_⟩) | wp_step))
 obtain ⟨t',u',he⟩:=hx'.there
 show wpAny _ _ (getattributeRaised _ _ _ _ _ _ _) _ _ _
 unfold getattributeRaised
 repeat (any_goals (first | assumption | wp_step))
 exact h h' tk' fun b o eb=>hx'.keeps b o eb
variable {K:Type} [DecidableEq K] {knd:KeyKind prog w K}
theorem aS5 {R:Result->Shared->Prop} {d:Addr} {ps:List (K×Value)} (hh:A.handled=none) (D:ZipApart z TI TO i1 i2 l1 l2) (nd:d≠z/\d≠TI/\d≠TO/\d≠i1/\d≠i2/\d≠l1/\d≠l2) (hlen:xs.size=ps.length) (hl2:ys.size=ps.length) (h1:1<=ps.length)
  (hps:∀ (i:Nat) (x y:Value),xs[i]?=some x->ys[i]?=some y->∃ k,ps[i]?=some (k,y)/\knd.is k x=true) (hsz:ps.length<=1000) :
  ∀ (n i:Nat) (h:Heap) (tk:Nat) (kvs:List (K×Value)),xs.size - i=n->i<=xs.size->aSz h z TI TO i1 i2 l1 l2 i xs ys->h.DictOf knd d kvs->kvs.length<=i->(∀ b o,s.heap.get? b=some o->b≠z->b≠TO->b≠i1->b≠i2->b≠d->h.get? b=some o) ->
   (∀ h' tk',h'.DictOf knd d (aJ4 kvs (ps.drop i))->(∀ b o,s.heap.get? b=some o->b≠z->b≠TO->b≠i1->b≠i2->b≠d->h'.get? b=some o)->R (.ok (.ret .none)) { s with heap:=h',toks:=tk' }) ->
   codeAny (model prog w) A (.builtin "dict.update.loop" ⟨[.ref d,.ref z,rawInt (i:Nat),.none],[]⟩) R { s with heap:=h,toks:=tk }:=by
 intro n
 induction n with
 | zero =>
  intro i h tk kvs hn hi Z hD hk kp hR
  have:i=xs.size:=by omega
  subst this
  refine codeAny_builtin aFv ?_
  rw [Around.under_plainId aC6 _]
  show wpAny _ A.in1 (pyNext (.ref z) >>= _) _ _ _
  refine wpAny_bind (aRg (by simpa using hh) D Z (by omega) (by simp) fun h' eb=>?_)
  show wpAny _ A.in1 (Builtin.Dict.addKeywords d [] >>= _) _ _ _
  refine wpAny_bind (wpAny_pure (wpAny_pure (hR h' tk ?_ fun b o e n1 n2 n3 n4 n5=>eb b o n1 n2 n3 n4 (kp b o e n1 n2 n3 n4 n5))))
  rw [hlen,List.drop_length]
  obtain ⟨o,es,ep,g,r⟩:=hD
  exact ⟨o,es,ep,eb _ _ nd.1 nd.2.2.1 nd.2.2.2.1 nd.2.2.2.2.1 g,r⟩
 | succ n ih =>
  intro i h tk kvs hn hi Z hD hk kp hR
  have hlt:i < xs.size:=by omega
  refine codeAny_builtin aFv ?_
  rw [Around.under_plainId aC6 _]
  show wpAny _ A.in1 (pyNext (.ref z) >>= _) _ _ _
  obtain ⟨x,hx⟩:∃ v,xs[i]?=some v:=⟨_,Array.getElem?_eq_getElem hlt⟩
  obtain ⟨y,hy⟩:∃ v,ys[i]?=some v:=⟨_,Array.getElem?_eq_getElem (show i < ys.size by omega)⟩
  refine wpAny_bind (aO8 D Z hx hy fun h' Z' gp sz' kz=>?_)
  have kp':∀ b o,s.heap.get? b=some o->b≠z->b≠TO->b≠i1->b≠i2->b≠d->h'.get? b=some o:=fun b o e n1 n2 n3 n4 n5=>kz b o n1 n2 n3 n4 (kp b o e n1 n2 n3 n4 n5)
  obtain ⟨k,hp,hkey⟩:=hps i x y hx hy
  have hD':h'.DictOf knd d kvs:=by
   obtain ⟨o,es,ep,g,r⟩:=hD
   exact ⟨o,es,ep,kz _ _ nd.1 nd.2.2.1 nd.2.2.2.1 nd.2.2.2.2.1 g,r⟩
  refine wpAny_bind (wpAny_holding ?_)
  refine wpAny_bind (wpAny_tryCatch (wpAny_mono (Q:=fun r s'=>r=[x,y]/\s'={ s with heap:=h',toks:=tk }) (E:=fun _ _=>False) ?_ (fun r s' q=>?_) fun _ _ z=>z.elim))
  ·unfold Builtin.Dict.pairItems
   refine wpAny_bind (wpAny_typeOf (T:="tuple") ⟨_,gp,rfl⟩ ?_)
   rw [if_pos (by decide)]
   unfold seqItems?
   refine wpAny_bind (wpAny_bind (wpAny_load gp ?_))
   exact wpAny_pure (wpAny_pure ⟨rfl,rfl⟩)
  ·obtain ⟨rfl,rfl⟩:=q
   show wpAny _ A.in1 (holding [x,y] (dictSet d x y)) _ _ _
   refine wpAny_holding (wpAny_dictSet_pairs hkey hD' (fun h2 hD2 sb2=>?_) (by rw [sizeLine_eq]; omega))
   have eD:ps.drop i=(k,y)::ps.drop (i+1):=by
    have hlt':i < ps.length:=by omega
    rw [List.drop_eq_getElem_cons hlt']
    have:ps[i]=(k,y):=by
     have:=hp
     rw [List.getElem?_eq_getElem hlt'] at this
     exact Option.some.inj this
    rw [this]
   refine wpAny_pure ⟨plainId_quiet aC6 _,?_⟩
   have sx:∀ c o,c≠d->h'.get? c=some o->h2.get? c=some o:=fun c o n e=>(sb2.2 _ n).trans e
   have Z2:aSz h2 z TI TO i1 i2 l1 l2 (i+1) xs ys:=by
    obtain ⟨⟨f0,b0,gz,hf⟩,gTI,⟨a,b,gTO⟩,g1,g2,t1,t2⟩:=Z'
    refine ⟨⟨f0,b0,sx _ _ nd.1.symm gz,?_⟩,sx _ _ nd.2.1.symm gTI,⟨a,b,sx _ _ nd.2.2.1.symm gTO⟩,g1.at fun o e=>sx _ o nd.2.2.2.1.symm e,g2.at fun o e=>sx _ o nd.2.2.2.2.1.symm e,t1.at fun o e=>sx _ o nd.2.2.2.2.2.1.symm e,t2.at fun o e=>sx _ o nd.2.2.2.2.2.2.symm e⟩
    rcases hf with ⟨h0,_⟩ | ⟨h1,T,oT,e1,gT,nT⟩
    ·exact absurd h0 (Nat.succ_ne_zero _)
    ·by_cases eT:T=d
     ·subst eT
      obtain ⟨o,es,ep,g,r⟩:=hD2
      exact .inr ⟨h1,T,o,e1,g,nT⟩
     ·exact .inr ⟨h1,T,oT,e1,sx _ _ eT gT,nT⟩
   exact ih (i+1) h2 (tk+1) (stored kvs k y) (by omega) (by omega) Z2 hD2 (by
     have:(stored kvs k y).length<=kvs.length+1:=by unfold stored; split <;> simp
     omega) (fun b o e n1 n2 n3 n4 n5=>sx b o n5 (kp' b o e n1 n2 n3 n4 n5)) fun h3 tk3 hD3 kp3=>hR h3 tk3 (by rw [eD]; exact hD3) kp3
theorem aUi {Q:Value->Shared->Prop} {ps:List (K×Value)} (hh:A.handled=none) (D:ZipApart z TI TO i1 i2 l1 l2) (Z:aSz s.heap z TI TO i1 i2 l1 l2 0 xs ys) (hlen:xs.size=ps.length) (hl2:ys.size=ps.length) (h1:1<=ps.length)
  (hps:∀ (i:Nat) (x y:Value),xs[i]?=some x->ys[i]?=some y->∃ k,ps[i]?=some (k,y)/\knd.is k x=true) (hsz:ps.length<=1000)
  (h:∀ h' tk,h'.DictOf knd s.heap.objs.size (aJ4 [] ps)->(∀ b o,s.heap.get? b=some o->b≠z->b≠TO->b≠i1->b≠i2->h'.get? b=some o)->Q (.ref s.heap.objs.size) { s with heap:=h',toks:=tk }):wpAny (model prog w) A (call (.type "dict") [.ref z]) Q E s:=by
 refine callType_codes (Q₁:=fun obj s₁=>obj=.ref s.heap.objs.size/\s₁={ s with heap:=s.heap.push { cls:=.type "dict",data:=.dict #[] } }) F.kt_called_dict (F.kt_typeCall_dict_1 _) F.entry_dict_init (kt_code_dict_new _ ⟨rfl,rfl⟩) ?_
 rintro obj s₁ ⟨rfl,rfl⟩
 have hnew:(s.heap.push { cls:=.type "dict",data:=.dict #[] }).DictOf knd s.heap.objs.size []:=Heap.DictOf.new s.heap
 have kp0:∀ b o,s.heap.get? b=some o->(s.heap.push { cls:=.type "dict",data:=.dict #[] }).get? b=some o:=fun b o e=>Heap.get?_push_of_some _ e
 generalize s.heap.push { cls:=.type "dict",data:=.dict #[] }=h0 at hnew kp0 ⊢
 refine ⟨hnew.typeIs,F.args_dict_init_2 _ _,?_⟩
 obtain ⟨⟨f0,b0,gz,hf⟩,gTI,⟨a,b,gTO⟩,g1,g2,t1,t2⟩:=id Z
 unfold Builtin.«dict.__init__»
 refine wpAny_bind ?_
 unfold Builtin.Dict.selfAndRest
 refine wpAny_bind (wpAny_notOrdered_dict hnew.typeIs ?_)
 show wpAny _ _ (pure (s.heap.objs.size,[Value.ref z])) _ _ _
 refine wpAny_pure ?_
 show wpAny _ _ (Builtin.Dict.updateFrom "dict.__init__" s.heap.objs.size (.ref z) [] .none) _ _ _
 unfold Builtin.Dict.updateFrom
 refine wpAny_bind (wpAny_typeOf (T:="zip") ⟨_,kp0 _ _ gz,rfl⟩ ?_)
 rw [if_pos (by decide)]
 refine wpAny_bind (aPc (kp0 _ _ gz) (by simpa using hh) fun m1 tk1 kp1=>?_)
 rw [if_pos (by rfl)]
 refine wpAny_bind (wpAny_rule ?_)
 have kp2:∀ b o,s.heap.get? b=some o->m1.get? b=some o:=fun b o e=>kp1 _ _ (kp0 _ _ e)
 have hD1:m1.DictOf knd s.heap.objs.size []:=by
  obtain ⟨o,es,ep,g,r⟩:=hnew
  exact ⟨o,es,ep,kp1 _ _ g,r⟩
 have lt:∀ {c:Addr} {o:Obj},s.heap.get? c=some o->s.heap.objs.size≠c:=fun e=>Nat.ne_of_gt (Heap.lt_size e)
 have Z1:aSz m1 z TI TO i1 i2 l1 l2 0 xs ys:=by
  refine ⟨⟨f0,b0,kp2 _ _ gz,?_⟩,kp2 _ _ gTI,⟨a,b,kp2 _ _ gTO⟩,g1.at fun o e=>kp2 _ o e,g2.at fun o e=>kp2 _ o e,t1.at fun o e=>kp2 _ o e,t2.at fun o e=>kp2 _ o e⟩
  rcases hf with hf | ⟨hk,_⟩
  ·exact .inl hf
  ·exact absurd hk (by decide)
 have hT:Shared.TypeIs { s with heap:=m1,toks:=tk1 } (.ref z) "zip":=⟨_,kp2 _ _ gz,rfl⟩
 refine wpAny_bind (wpAny_pyIter_slot hT F.slot_zip_iter (wpAny_call_entry F.slot_zip_iter hT F.entry_zip_iter ?_ (F.args_zip_iter_1 _)))
 show wpAny _ _ (ret (.ref z)) _ _ _
 refine wpAny_pure ⟨_,rfl,"zip",_,hT,F.slot_zip_next.lookup,?_⟩
 refine wpAny_pure ⟨plainId_quiet aC6 _,?_⟩
 have e1:∃ o,s.heap.get? i1=some o:=by obtain ⟨o,e,_⟩:=g1; exact ⟨o,e⟩
 have e2:∃ o,s.heap.get? i2=some o:=by obtain ⟨o,e,_⟩:=g2; exact ⟨o,e⟩
 have e3:∃ o,s.heap.get? l1=some o:=by obtain ⟨o,e,_⟩:=t1; exact ⟨o,e⟩
 have e4:∃ o,s.heap.get? l2=some o:=by obtain ⟨o,e,_⟩:=t2; exact ⟨o,e⟩
 obtain ⟨_,e1⟩:=e1
 obtain ⟨_,e2⟩:=e2
 obtain ⟨_,e3⟩:=e3
 obtain ⟨_,e4⟩:=e4
 exact aS5 (A:=A.in1) (knd:=knd) (s:=s) (R:=wants (fun r s₂=>r=.none/\Q (.ref s.heap.objs.size) s₂) E) (ps:=ps) (by simpa using hh) D ⟨lt gz,lt gTI,lt gTO,lt e1,lt e2,lt e3,lt e4⟩ hlen hl2 h1 hps hsz xs.size 0 m1 tk1 [] rfl (Nat.zero_le _) Z1 hD1 (Nat.zero_le _) (fun b o e _ _ _ _ _=>kp2 _ _ e)
  fun h' tk' hD' kp'=>⟨rfl,h h' tk' (by simpa using hD') fun b o e n1 n2 n3 n4=>kp' b o e n1 n2 n3 n4 (Nat.ne_of_lt (Heap.lt_size e))⟩
end
noncomputable def rDZip:List V->Hp->VK->Prop:=fun vs H Q=>∃ (a b:Addr) (ks:List Str) (ys:List V),vs=[.ref a,.ref b]/\H a=some (.tup (ks.map V.str))/\H b=some (.tup ys)/\ks.length=ys.length/\1<=ks.length/\ks.length<=100/\∀ l:Addr,H l=none->Q (.ref l) (upd H l (.dK (aEy [] ((ks.map Sum.inr).zip ys))))
theorem aNc {P:Program} {w:World}:∀ {ks:List Str} {ys:List V} {us ws:List Value},aB5 (ks.map V.str) us->aB5 ys ws->ks.length=ys.length->KV (((ks.map Sum.inr).zip ys):List (Key×V)) (((ks.map Sum.inr).zip ws):List (Key×Value))/\ws.length=ks.length/\us.length=ks.length/\∀ (i:Nat) (x y:Value),us[i]?=some x->ws[i]?=some y->∃ k:Key,(((ks.map Sum.inr).zip ws):List (Key×Value))[i]?=some (k,y)/\(aBu P w).is k x=true
 | [],[],_,_,.nil,.nil,_=>⟨.nil,rfl,rfl,fun i x y h=>by simp at h⟩
 | [],_::_,_,_,_,_,h=>nomatch h
 | _::_,[],_,_,_,_,h=>nomatch h
 | k::ks,y::ys,_,_,.cons r1 t1,.cons r2 t2,h=>by
  obtain ⟨h1,h2,h3,h4⟩:=aNc (P:=P) (w:=w) t1 t2 (by simpa using h)
  refine ⟨.cons ⟨rfl,r2⟩ h1,by simp [h2],by simp [h3],fun i x z hx hz=>?_⟩
  cases i with
  | zero =>
   cases hx
   cases hz
   exact ⟨Sum.inr k,rfl,aLh (k:=Sum.inr k) r1⟩
  | succ i=>exact h4 i x z hx hz
theorem aWq {X:Cx} {a b:Expr} {t:TA} {p p2 pos pos2:Pos} (hc:X.calm=true) (hgl:Gl X "dict") (hml:X.mg "dict"=none) (hg:Gl X "zip") (hm:X.mg "zip"=none) (ha:PA X [a,b] t)
  (he:starEach [.Call (.Name "zip" p2) [a,b] [] pos2] X.env=[(false,eval (.Call (.Name "zip" p2) [a,b] [] pos2) X.env)]:=by rfl) (hs:starEach [a,b] X.env=(false,eval a X.env)::starEach [b] X.env:=by rfl) (hpl:(backTo pos2 (starEach [b] X.env)).any (·.1)=false:=by rfl) :
  PE X (.Call (.Name "dict" p) [.Call (.Name "zip" p2) [a,b] [] pos2] [] pos) (tCB rDZip t):=by
 intro pins s σ H Q I h
 refine wpAny_Call_Name_kw (aGh I hgl hml aX0 ?_ (by decide) (by decide))
 refine PyProof.Rows.callWith_type1 ?_ he rfl
 rw [he]
 show wpAny _ _ (spliced ((false,eval (.Call (.Name "zip" p2) [a,b] [] pos2) X.env)::backTo pos [])) _ _ s
 refine Calls.spliced_cons ?_
 refine Call_ (aGh I hg hm bCb (PyProof.Rows.callWith_type1 (thn (ha pos2 pins s σ H _ I h) fun us s1 z=>?_) hs hpl))
 obtain ⟨vs,H1,I1,r1,a1,b1,ks,ys,e,ga,gb,hl,h1,hn,q⟩:=z
 subst e
 obtain ⟨u1,u2,rfl,ra,rb⟩:=r1.two
 cases ra
 cases rb
 obtain ⟨_,its,rv1,tp1⟩:=I1.hok a1 _ ga
 obtain ⟨_,jts,rv2,tp2⟩:=I1.hok b1 _ gb
 obtain ⟨k1,k2,k3,k4⟩:=aNc (P:=X.prog) (w:=X.w) rv1 rv2 hl
 refine aSp tp1 tp2 fun m1 Z e5 kp=>?_
 refine Calls.spliced_nil ?_
 have la:a1 < s1.heap.objs.size:=by obtain ⟨o,g,_⟩:=tp1; exact Heap.lt_size g
 have lb:b1 < s1.heap.objs.size:=by obtain ⟨o,g,_⟩:=tp2; exact Heap.lt_size g
 generalize hN:s1.heap.objs.size=N at Z e5 la lb ⊢
 have nn:∀ {c i:Nat},c < N->c≠N+i:=fun h=>Nat.ne_of_lt (Nat.lt_of_lt_of_le h (Nat.le_add_right _ _))
 have ne:∀ {i j:Nat},i≠j->N+i≠N+j:=fun h z=>h (Nat.add_left_cancel z)
 have n0:∀ {i:Nat},0 < i->N+i≠N:=fun h=>Nat.ne_of_gt (Nat.lt_add_of_pos_right h)
 have D:ZipApart (N+4) (N+2) (N+3) N (N+1) a1 b1:=⟨ne (by decide),ne (by decide),(n0 (by decide)).symm,ne (by decide),ne (by decide),n0 (by decide),ne (by decide),n0 (by decide),ne (by decide),(n0 (by decide)).symm,nn la,nn la,Nat.ne_of_lt la,nn la,nn lb,nn lb,Nat.ne_of_lt lb,nn lb⟩
 have sz:∀ (l:List Value),l.toArray.size=l.length:=fun _=>rfl
 have zl:(((ks.map Sum.inr).zip jts):List (Key×Value)).length=ks.length:=by rw [List.length_zip,List.length_map,k2]; exact Nat.min_self _
 refine aUi (knd:=aBu X.prog X.w) (ps:=(ks.map Sum.inr).zip jts) (I.ok.hd hc) D Z (by rw [sz,zl,k3]) (by rw [sz,zl,k2]) (by rw [zl]; exact h1) (fun i x y hx hy=>k4 i x y (by simpa using hx) (by simpa using hy)) (by rw [zl]; omega) fun h' tk hd kp'=>?_
 have rel:=aIy k1 (.nil:KV [] [])
 have kk:∀ b o,s1.heap.get? b=some o->h'.get? b=some o:=fun b o e=>by
  have l:=Heap.lt_size e
  rw [hN] at l
  exact kp' b o (kp _ _ e) (nn l) (nn l) (Nat.ne_of_lt l) (nn l)
 have le5:s1.heap.objs.size<=m1.objs.size:=by rw [e5,hN]; exact Nat.le_add_right _ _
 refine ⟨.ref m1.objs.size,_,I1.laid (t':=tk) (a:=m1.objs.size) (o:=.dK (aEy [] ((ks.map Sum.inr).zip ys))) kk le5 (aVj ?_ (beq_eq_false_iff_ne.mpr (Ne.symm (Nat.ne_of_lt (Nat.lt_of_lt_of_le I1.big le5)))) rel hd),rfl,q _ (I1.hok.fresh le5)⟩
 have h3:=aFr ((ks.map Sum.inr).zip ys) []
 have h4:(((ks.map Sum.inr).zip ys):List (Key×V)).length=ks.length:=by rw [List.length_zip,List.length_map,hl]; exact Nat.min_self _
 simp only [List.length_nil] at h3
 rw [sizeLine_eq]
 omega
end L2
namespace L2
open PySem PySem.Spec PyProof.Rows
section
open Sem (wp)
variable {prog:Program} {w:World} {A:Around} {E:Value -> Shared -> Prop}
end
section
variable {X:Cx}
noncomputable def bAh:V->List V->Hp->VK->Prop:=fun x vs H Q=>∃ (z:Str) (l:Addr) (ys:List Str),x=.str z/\vs=[.ref l]/\H l=some (.tup (ys.map V.str))/\(ys.map (·.length)).sum+ys.length * z.length<=16777216/\Q (.str (Str.join z ys)) H
theorem aFp:MtR X "str.join" bAh:=by
 intro pins s σ H x vs v us Q I rx rv h
 obtain ⟨z,l,ys,rfl,rfl,hl,hs,q⟩:=h
 obtain ⟨t,rfl⟩:=rx
 obtain ⟨u,rfl,ru⟩:=rv.one
 cases ru
 obtain ⟨_,its,r,tp⟩:=I.hok l _ hl
 refine join_tuple tp (by simpa using aEb r) hs fun t' k=>?_
 have e1:Txt.join z ys=Str.join z ys:=StrLaws.glued_eq_join z ys
 rw [e1]
 exact ⟨.str _,H,I.tok _,⟨_,rfl⟩,q⟩
noncomputable def rStrI:List V->Hp->VK->Prop:=fun vs H Q=>∃ i:Int,vs=[.int i]/\i.natAbs < 10 ^ 18/\Q (.str (Str.ofString (toString i))) H
theorem aSt:aDn X (.type "str") rStrI:=by
 intro pins s σ H vs us Q I r h
 obtain ⟨i,rfl,hi,q⟩:=h
 obtain ⟨u,rfl,ru⟩:=r.one
 obtain ⟨t,rfl⟩:=ru
 refine P.str_of_int ?_ ⟨.str _,H,I.tok _,⟨_,rfl⟩,q⟩
 by_cases e:i.natAbs=0
 ·rw [e]; decide
 ·have:i.natAbs.log2 < 60:=(Nat.log2_lt e).mpr (Nat.lt_trans hi (by decide))
  omega
noncomputable def rSumI (K:PySem.W.Frag):List V->Hp->VK->Prop:=fun vs H Q=>∃ (p:Addr) (ns:List Int),vs=[.ref p]/\SqL K H p (ns.map V.int)/\(∀ n∈ns,0<=n)/\ns.sum < 2 ^ 63/\Q (.int ns.sum) H
theorem aMj {ns:List Int}:∀ j,j<=ns.length->preSum (fun i=>(ns[i]?).getD 0) j=(ns.take j).sum
 | 0,_=>by simp [preSum]
 | j+1,h=>by
  have hj:j < ns.length:=by omega
  show preSum _ j+(ns[j]?).getD 0=_
  rw [aMj j (by omega),List.take_succ_eq_append_getElem hj,List.sum_append,List.getElem?_eq_getElem hj]
  simp
theorem aGw:∀ {ns:List Int},(∀ n∈ns,0<=n)->∀ j,0<=(ns.take j).sum/\(ns.take j).sum<=ns.sum
 | [],_,j=>by simp
 | n::ns,h,0=>by
  have:=(aGw (ns:=ns) (fun x hx=>h x (List.mem_cons_of_mem _ hx)) ns.length).1
  have h0:=h n (by simp)
  rw [List.take_length] at this
  simp only [List.take_zero,List.sum_nil,List.sum_cons]
  omega
 | n::ns,h,j+1=>by
  have:=aGw (ns:=ns) (fun x hx=>h x (List.mem_cons_of_mem _ hx)) j
  have h0:=h n (by simp)
  simp only [List.take_succ_cons,List.sum_cons]
  omega
theorem aNf:∀ {ns:List Int},(∀ n∈ns,0<=n)->∀ n∈ns,n<=ns.sum
 | [],_,_,h=>nomatch h
 | m::ns,h,n,hn=>by
  have h0:=h m (by simp)
  have h1:=aGw (ns:=ns) (fun x hx=>h x (List.mem_cons_of_mem _ hx)) ns.length
  rw [List.take_length] at h1
  rw [List.sum_cons]
  rcases List.mem_cons.mp hn with rfl | hn
  ·omega
  ·have:=aNf (fun x hx=>h x (List.mem_cons_of_mem _ hx)) n hn
   omega
theorem aVl (hc:X.calm=true):aDn X (.builtin "sum") (rSumI X.K):=by
 intro pins s σ H xs us Q I r h
 obtain ⟨p,ns,rfl,hp,h0,hb,q⟩:=h
 obtain ⟨u,rfl,rx⟩:=r.one
 cases rx
 obtain ⟨its,rl,ht,hz⟩:=I.list hp
 have hlt:p < s.heap.objs.size:=by
  obtain ⟨_,e,_⟩:=ht.isList
  exact Heap.lt_size e
 have hlen:=rl.length
 rw [List.length_map] at hlen
 refine call_sum_walk (wpAny_pyIter_list ht.isList ?_)
 refine ⟨s.heap.objs.size,[s.heap.objs.size,p],[s.heap.objs.size],its.toArray.size,_,_,fun i=>(ns[i]?).getD 0,rfl,Walks.list (A:=X.A.in1) (I.ok.hd hc) _ p (Nat.ne_of_lt hlt) its.toArray,⟨⟨_,Heap.get?_push_size _ rfl,rfl,rfl⟩,ht.isList.at fun o e=>Heap.get?_push_of_some _ e⟩,?_,?_,fun j hj=>?_,fun h' tk t' hk=>?_⟩
 ·intro b hb
  rw [Heap.size_push]
  rcases List.mem_cons.mp hb with rfl | hb
  ·exact Nat.lt_succ_self _
  ·rw [List.mem_singleton.mp hb]
   exact Nat.lt_succ_of_lt hlt
 ·intro i v hv
  have hv:its[i]?=some v:=by simpa using hv
  have hi:i < ns.length:=by
   have:=(List.getElem?_eq_some_iff.mp hv).1
   omega
  obtain ⟨u,e1,r1⟩:=rl.get (i:=i) (x:=.int ns[i]) (by simp [hi])
  rw [hv] at e1
  cases e1
  obtain ⟨t,rfl⟩:=r1
  exact ⟨t,by simp only [List.getElem?_eq_getElem hi]; rfl⟩
 ·have hj':j < ns.length:=by
   have:its.toArray.size=its.length:=rfl
   omega
  rw [aMj (j+1) (by omega)]
  have:=aGw h0 (j+1)
  have e:=aNf h0 ns[j] (List.getElem_mem hj')
  have e0:=h0 ns[j] (List.getElem_mem hj')
  simp only [List.getElem?_eq_getElem hj']
  exact ⟨⟨by show -(2 ^ 63)<=ns[j]; omega,by show ns[j] < 2 ^ 63; omega⟩,by omega,by omega⟩
 ·have e:preSum (fun i=>(ns[i]?).getD 0) its.toArray.size=ns.sum:=by
   rw [show its.toArray.size=ns.length from hlen.symm,aMj _ (Nat.le_refl _),List.take_length]
  rw [e]
  refine ⟨.int _,H,I.kept (t':=tk) fun b o e=>hk b o (fun z=>?_) (Heap.get?_push_of_some _ e),⟨_,rfl⟩,q⟩
  exact absurd (Heap.lt_size e) (by rw [List.mem_singleton.mp z]; exact Nat.lt_irrefl _)
noncomputable def tJx:List TE->Str->TE
 | [],acc,_,H,Q=>Q (.str acc) H
 | t::r,acc,σ,H,Q=>t σ H fun x H1=>∃ y:Str,x=.str y/\y.length<=1000/\tJx r (acc++y) σ H1 Q
theorem aLi {pins:List (Addr×Obj)} {σ:St} {Q:VK}:∀ {vs:List Expr} {ts:List TE} (_:PJs X vs ts) (n:Nat) (acc:Str) (s:Shared) (H:Hp),acc.length<=1000 * n->ts.length+n<=100->Inv X pins σ H s->tJx ts acc σ H Q ->
  Joins (model X.prog X.w) X.A X.xe (evalEach vs X.env) acc (fun out s₁=>out.length<=sizeLine/\EP X pins σ Q (.str out s₁.toks) { s₁ with toks:=s₁.toks+1 }) s
 | _,_,.nil,n,acc,s,H,ha,hn,I,h=>⟨by rw [sizeLine_eq]; omega,.str acc,H,I.tok _,⟨_,rfl⟩,h⟩
 | v::vs,t::ts,.cons hp r,n,acc,s,H,ha,hn,I,h=>by
  show wpAny _ _ (eval v X.env) _ _ s
  rw [List.length_cons] at hn
  refine thn (hp pins s σ H _ I h) fun u s1 ⟨x,H1,I1,r1,y,e1,hy,q⟩=>?_
  subst e1
  obtain ⟨tk,rfl⟩:=r1
  have hl:=aN7 acc y
  exact ⟨y,tk,rfl,by rw [hl,sizeLine_eq]; omega,aLi r (n+1) (acc++y) s1 H1 (by omega) (by omega) I1 q⟩
theorem bAw {v1 v2:Expr} {aIr:List Expr} {ts:List TE} {pos:Pos} (h:PJs X (v1::v2::aIr) ts) (hn:ts.length<=50):PE X (.JoinedStr (v1::v2::aIr) pos) (tJx ts Str.empty):=by
 intro pins s σ H Q I hq
 exact wpAny_JoinedStr (aLi h 0 Str.empty s H (Nat.le_refl _) (by omega) I hq)
noncomputable def aYr (te:TE):TE:=fun σ H Q=>te σ H fun x H1=>∃ y:Str,x=.str y/\y.length<=1000/\Q (.str y) H1
theorem aVd {e:Expr} {te:TE} {pos:Pos} (he:PE X e te):PE X (.FormattedValue e (-1) none pos) (aYr te):=by
 intro pins s σ H Q I h
 refine wpAny_FormattedValue_plain (thn (he pins s σ H _ I h) fun v s1 ⟨x,H1,I1,r1,y,e1,hy,q⟩=>?_)
 subst e1
 obtain ⟨t,rfl⟩:=r1
 exact wpAny_formatField_str ⟨.str _,H1,I1,⟨_,rfl⟩,q⟩ ⟨.str _,H1,I1.tok _,⟨_,rfl⟩,q⟩ (by rw [sizeLine_eq]; omega)
theorem r_jx0 {σ:St} {H:Hp} {Q:VK} {acc:Str} (k:Q (.str acc) H):tJx [] acc σ H Q:=k
noncomputable def jxK (r:List TE) (acc:Str) (σ:St) (Q:VK):VK:=fun x H1=>∃ y:Str,x=.str y/\y.length<=1000/\tJx r (acc++y) σ H1 Q
theorem r_jx {t:TE} {r:List TE} {acc:Str} {σ:St} {H:Hp} {Q:VK} (k:t σ H (jxK r acc σ Q)):tJx (t::r) acc σ H Q:=k
theorem aV9 {r:List TE} {acc:Str} {σ:St} {H:Hp} {Q:VK} {y:Str} (hy:y.length<=1000) (k:tJx r (acc++y) σ H Q):jxK r acc σ Q (.str y) H:=⟨y,rfl,hy,k⟩
noncomputable def fsK (Q:VK):VK:=fun x H1=>∃ y:Str,x=.str y/\y.length<=1000/\Q (.str y) H1
theorem r_fms {te:TE} {σ:St} {H:Hp} {Q:VK} (k:te σ H (fsK Q)):aYr te σ H Q:=k
theorem aZy {H:Hp} {Q:VK} {y:Str} (hy:y.length<=1000) (k:Q (.str y) H):fsK Q (.str y) H:=⟨y,rfl,hy,k⟩
end
end L2
namespace L2
open PySem PySem.Spec PyProof.Rows
theorem aNg:∀ {us:List Value} {ys:List Str} {i:Nat} {v:Value} {x:Str},StrsAre us ys->us[i]?=some v->ys[i]?=some x->∃ t,v=.str x t
 | _,_,_,_,_,.nil,h,_=>by simp at h
 | _,_,0,_,_,.cons y t r,h,h'=>by cases h; cases h'; exact ⟨t,rfl⟩
 | _,_,i+1,v,x,.cons y t r,h,h'=>aNg (i:=i) r h h'
section
variable {prog:Program} {w:World} {A:Around} {E:Value -> Shared -> Prop} {s:Shared}
theorem aS9 {a:Addr} {items:Array Value} {ys:List Str} {y:Str} {u:Tok} {j:Nat} {Q:Value->Shared->Prop} (ht:s.heap.IsTuple a items) (hi:StrsAre items.toList ys) (hj:ys[j]?=some y) (hno:∀ m,m < j->ys[m]?≠some y)
  (h:Q (.int j s.toks) { s with toks:=s.toks+1 }):wpAny (model prog w) A (call (.builtin "tuple.index") [.ref a,.str y u]) Q E s:=by
 have hT:s.TypeIs (.ref a) "tuple":=ht.typeIs
 refine wpAny_call_entry F.slot_tuple_index hT F.entry_tuple_index ?_ (F.args_tuple_index_2 _ _)
 unfold Builtin.«tuple.index»
 obtain ⟨o,ho,hc,n,hd⟩:=id ht
 refine wpAny_bind (m:=selfAndSome _ _ _ _ _) (wpAny_pure (a:=(Value.ref a,[Value.str y u])) ?_)
 refine wpAny_bind ?_
 unfold Builtin.Tuple.tupleItemsOf
 refine wpAny_bind (wpAny_seqItems ho hd (wpAny_pure ?_))
 refine wpAny_bind (wpAny_pure (wpAny_bind (wpAny_pure ?_)))
 show wpAny _ _ (forIn ([:min items.size items.size]:Std.Legacy.Range) _ _ >>= _) _ _ _
 rw [Std.Legacy.Range.forIn_eq_forIn_range',Nat.min_self]
 have es:([:items.size]:Std.Legacy.Range).size=items.size:=by simp [Std.Legacy.Range.size]
 show wpAny _ _ (forIn (List.range' 0 ([:items.size]:Std.Legacy.Range).size 1) _ _ >>= _) _ _ _
 rw [es]
 have hsl:items.size=ys.length:=by
  have:=hi.length
  simpa using this
 have hjl:j < ys.length:=(List.getElem?_eq_some_iff.mp hj).1
 refine wpAny_bind (wpAny_forIn_list _ (fun l b s'=>b=(none,())/\s'=s/\∃ i,i<=j/\l=List.range' i (items.size - i) 1) (fun b s'=>b=(some (.done (.ret (.int j s.toks))),())/\s'={ s with toks:=s.toks+1 }) ?_ ?_ _ _ ⟨rfl,rfl,0,Nat.zero_le _,rfl⟩ |> fun z=>wpAny_mono z (fun b s' ⟨e1,e2⟩=>?_) fun _ _ z=>z)
 ·rintro i aIr b s' ⟨rfl,rfl,i',hij,hl⟩
  obtain ⟨m,hm⟩:∃ m,items.size - i'=m+1:=⟨items.size - i' - 1,by omega⟩
  rw [hm,List.range'_succ] at hl
  obtain ⟨rfl,rfl⟩:=List.cons.inj hl
  have hlt:i < items.size:=by omega
  obtain ⟨x,hx⟩:∃ x,ys[i]?=some x:=⟨_,List.getElem?_eq_getElem (by omega)⟩
  obtain ⟨v,hv⟩:∃ v,items[i]?=some v:=⟨_,Array.getElem?_eq_getElem hlt⟩
  obtain ⟨t,rfl⟩:∃ t,v=.str x t:=aNg hi (by simpa using hv) hx
  rw [hv]
  refine wpAny_bind (wpAny_eqBool_str ?_)
  by_cases e:x=y
  ·subst e
   rw [decide_eq_true rfl]
   have:i=j:=by
    rcases Nat.lt_or_ge i j with h | h
    ·exact absurd hx (hno i h)
    ·omega
   subst this
   exact wpAny_bind (wpAny_bind (wpAny_mkInt (wpAny_pure (wpAny_pure ⟨rfl,rfl⟩))))
  ·rw [decide_eq_false e]
   refine wpAny_pure ⟨rfl,rfl,i+1,?_,by rw [show items.size - (i+1)=m by omega]⟩
   rcases Nat.lt_or_ge i j with h | h
   ·exact h
   ·have:i=j:=by omega
    subst this
    rw [hx] at hj
    exact absurd (Option.some.inj hj) e
 ·rintro b s' ⟨rfl,rfl,i,hij,hl⟩
  have:(List.range' i (items.size - i) 1).length=0:=by rw [← hl]; rfl
  rw [List.length_range'] at this
  omega
 ·subst e1 e2
  exact wpAny_pure ⟨_,rfl,h⟩
end
noncomputable def rTix:V->List V->Hp->VK->Prop:=fun x vs H Q=>∃ (a:Addr) (ys:List Str) (y:Str) (j:Nat),x=.ref a/\vs=[.str y]/\H a=some (.tup (ys.map V.str))/\ys[j]?=some y/\(∀ m,m < j->ys[m]?≠some y)/\Q (.int (j:Int)) H
theorem bBd {X:Cx}:MtR X "tuple.index" rTix:=by
 intro pins s σ H x vs v us Q I rx rv h
 obtain ⟨a,ys,y,j,rfl,rfl,ha,hj,hno,q⟩:=h
 cases rx
 obtain ⟨u,rfl,ru⟩:=rv.one
 obtain ⟨t,rfl⟩:=ru
 obtain ⟨_,its,r,tp⟩:=I.hok a _ ha
 exact aS9 tp (by simpa using aEb r) hj hno ⟨.int _,H,I.tok _,⟨_,rfl⟩,q⟩
theorem len2Q {us:St} (h:us.length=2):∃ a b,us=[a,b]:=by
 cases us with
 | nil=>cases h
 | cons a us =>
  cases us with
  | nil=>cases h
  | cons b us =>
   cases us with
   | nil=>exact ⟨a,b,rfl⟩
   | cons c us=>cases h
theorem len3 {us:St} (h:us.length=3):∃ a b c,us=[a,b,c]:=by
 cases us with
 | nil=>cases h
 | cons a us =>
  obtain ⟨b,c,rfl⟩:=len2Q (us:=us) (Nat.succ.inj h)
  exact ⟨a,b,c,rfl⟩
section
variable {K:PySem.W.Frag} {σ:St} {H:Hp} {D:aFy} {Q:VK} {te:TE} {caps:St}
theorem aMi {a:Addr} {xs:List V} {g:TG} {tb:TS} (Pv:Nat->St->Hp->Prop) (h0:Pv 0 σ H) (hl:∀ i σ H,i<=xs.length->Pv i σ H->SqT K H a xs)
  (hs:∀ i x σ H,xs[i]?=some x->Pv i σ H->g x σ H fun σ2 H2=>tb ⟨Pv (i+1),D.rt,D.nx,Pv (i+1)⟩ σ2 H2) (hd:∀ σ H,Pv xs.length σ H->D.nx σ H):bBx g tb D σ (Itt K a) H:=aXk Pv h0 hl hs hd
theorem aTo {a:Addr} {xs:List V} (hn:xs.length<=1000) (Pv:Addr->Nat->List V->Hp->Prop) (h0:∀ acc,H acc=none->Pv acc 0 [] (upd H acc (.lst []))) (hl':∀ acc i ys H1,H acc=none->i<=xs.length->Pv acc i ys H1->SqL K H1 a xs)
  (hs:∀ acc i ys H1 x,H acc=none->xs[i]?=some x->ys.length=i->H1 acc=some (.lst ys)->Pv acc i ys H1->∃ p u v w,x=.ref p/\H1 p=some (.tup [u,v,w])/\te (some u::some v::some w::caps) H1 (aPf xs.length acc (Pv acc) ys i))
  (hd:∀ acc ys H1,H acc=none->H1 acc=some (.lst ys)->ys.length=xs.length->Pv acc xs.length ys H1->Q (.ref acc) H1):aKe te none (bBu K 3 (aRy (aGo 0) (aRy (aGo 1) (aRy (aGo 2) gNil)))) (List.replicate 3 none) caps Q (Itl K a) H:=by
 intro acc hacc
 refine ⟨cW xs.length acc (Pv acc),⟨xs.length,by simp,Nat.zero_le _,rfl,aAe,h0 acc hacc⟩,fun i m ys H1 hW=>?_⟩
 obtain ⟨rfl,hi,hl,ha,p⟩:=hW
 have q:=hl' acc i ys H1 hacc hi p
 refine ⟨ha,?_⟩
 rcases Nat.lt_or_ge i xs.length with hlt | hge
 ·refine .inr ⟨aCj (by omega),⟨xs,xs[i],q,by simp [hlt]⟩,fun us x H' hu z=>?_⟩
  obtain ⟨rfl,z⟩:=z
  obtain ⟨o1,o2,o3,rfl⟩:=len3 hu
  obtain ⟨b,u,v,w,rfl,hb,k⟩:=hs acc i ys H' x hacc (z xs q) hl ha p
  exact ⟨b,_,rfl,SqT.of hb,rfl,u,[v,w],rfl,v,[w],rfl,w,[],rfl,rfl,⟨[some u,some v,some w],rfl,rfl⟩,k⟩
 ·cases (Nat.le_antisymm hi hge:i=xs.length)
  exact .inl ⟨⟨xs,q,Nat.le_refl _⟩,hd acc ys H1 hacc ha hl p⟩
end
theorem aZv {K:PySem.W.Frag} {H:Hp} {Q:VK} {p:Addr} {ys:List Str} {s:Str} (h:H p=some (.tup (ys.map V.str))) (k:Q (.bl (decide (s∈ys))) H):rIn K false (.str s) (.ref p) H Q:=⟨p,_,rfl,.inr (SqT.of h),rfl,aLl _,by rw [aT8]; exact k⟩
noncomputable def tBMT (r:V->List V->Hp->VK->Prop) (to:TE) (t:TA):TE:=fun σ H Q=>to σ H fun x H1=>(∃ p xs,x=.ref p/\H1 p=some (.tup xs))/\t σ H1 fun vs H2=>r x vs H2 Q
theorem bAx {X:Cx} {o e:Expr} {es:List Expr} {to:TE} {t:TA} {name:Str} {apos cpos:Pos} {id:String} {r:V->List V->Hp->VK->Prop} (pa:PlainAttrs "tuple") (slot:Slot "tuple" name id) (hty:typeOf (.builtin id)=pure (.type "method_descriptor")) (hm:MtR X id r) (ho:PE X o to) (ha:PA X (e::es) t)
  (hbase:attributeBase o name X.env (eval o X.env)=eval o X.env:=by rfl)
  (hfew:((backTo cpos (starEach (e::es) X.env)).all (fun x=>!x.1)&&(backToKw cpos (keywordEach [] X.env)).all (fun x=>x.1.isSome)
   && decide ((e::es).length+([]:List Keyword).length+(if ([]:List Keyword).isEmpty then 0 else 1) < 30))=true:=by rfl)
  (hline:(apos.endLine==cpos.line)=true:=by rfl) (hs:starEach (e::es) X.env=(false,eval e X.env)::starEach es X.env:=by rfl) (hplain:(backTo cpos (starEach es X.env)).any (·.1)=false:=by rfl) :
  PE X (.Call (.Attribute o name apos) (e::es) [] cpos) (tBMT r to t):=by
 intro pins s σ H Q I h
 refine wpAny_Call_method_late hbase hfew hline rfl (thn (ho pins s σ H _ I h) fun v s1 z=>?_)
 obtain ⟨x,H1,I1,r1,⟨p,xs,ex,hp⟩,q1⟩:=z
 subst ex
 cases r1
 obtain ⟨⟨_,o1,e1,d1⟩,its,rv,ob,eo,c,_⟩:=I1.hok p _ hp
 refine ⟨"tuple",id,pa,slot,hty,⟨ob,eo,c⟩,fun a e2=>?_,?_⟩
 ·cases e2
  exact ⟨o1,e1,d1⟩
 have hA:=ha cpos pins s1 σ H1 _ I1 q1
 rw [hs] at hA ⊢
 refine Calls.callWith_builtin (by show (false || (backTo cpos (starEach es X.env)).any (·.1))=false; rw [hplain] <;> rfl) (Calls.evalArgs_plain ?_)
 exact thn hA fun us s2 ⟨vs,H2,I2,r2,q2⟩=>hm pins s2 σ H2 (.ref p) vs (.ref p) us Q I2 rfl r2 q2
noncomputable def bmUK (r:V->List V->Hp->VK->Prop) (t:TA) (σ:St) (Q:VK):VK:=fun x H1=>(∃ p xs,x=.ref p/\H1 p=some (.tup xs))/\t σ H1 fun vs H2=>r x vs H2 Q
theorem r_bmu {σ:St} {H:Hp} {Q:VK} {r:V->List V->Hp->VK->Prop} {to:TE} {t:TA} (k:to σ H (bmUK r t σ Q)):tBMT r to t σ H Q:=k
theorem bAa {σ:St} {H:Hp} {Q:VK} {r:V->List V->Hp->VK->Prop} {t:TA} {l:Addr} {xs:List V} (h:H l=some (.tup xs)) (k:t σ H fun vs H2=>r (.ref l) vs H2 Q):bmUK r t σ Q (.ref l) H:=⟨⟨l,xs,rfl,h⟩,k⟩
section
variable {K:PySem.W.Frag} {H:Hp} {Q:VK} {p:Addr} {a b c d:V}
theorem aNt (h:H p=some (.tup [a,b,c,d])) (k:∀ l,H l=none->Q (.ref l) (upd H l (.tup [a,b,c]))):aYb K (.ref p) none (some 3) H Q:=by
 have e2:HT.sIx 4 4 (some 3)=3:=by decide
 refine aV2 h ?_ ?_
 ·show ¬ (_/\HT.sIx 4 4 (some 3)=4)
  rw [e2]
  exact fun z=>absurd z.2 (by decide)
 ·rw [show aGq [a,b,c,d] none (some 3)=[a,b,c] from aSk (xs:=[a,b,c,d]) 3]
  exact k
end
end L2
namespace L2
open PySem PySem.Spec PyProof.Rows PySem.StrLaws
open PySem.Builtin.Str (strSub subAt occurrences partsBetween)
noncomputable def jnL (s:List Nat):List (List Nat)->List Nat
 | []=>[]
 | [x]=>x
 | x::y::r=>x++s++jnL s (y::r)
theorem aF9 (s:Str):∀ xs:List Str,(Str.join s xs).cps.toList=jnL s.cps.toList (xs.map fun x=>x.cps.toList)
 | []=>rfl
 | [x]=>rfl
 | x::y::r=>by
  show (((x.cps++s.cps)++(Str.join s (y::r)).cps):Array Nat).toList=x.cps.toList++s.cps.toList++jnL s.cps.toList ((y::r).map fun x=>x.cps.toList)
  rw [← aF9 s (y::r)]
  simp
theorem aVo {T sep:Str} {k:Nat} (h:At T sep T.length k):(T.cps.toList.drop k).take sep.length=sep.cps.toList:=by
 have:=h.2
 rw [subAt_eq] at this
 exact eq_of_beq this
theorem at_of {T sep:Str} {k:Nat} {X:List Nat} (hk:k<=T.length) (h:T.cps.toList.drop k=sep.cps.toList++X):At T sep T.length k:=by
 have hl:sep.length=sep.cps.toList.length:=aBa sep
 have e:=congrArg List.length h
 rw [List.length_drop,List.length_append,← aBa,← hl] at e
 refine ⟨?_,?_⟩
 ·omega
 ·rw [subAt_eq,h,hl,List.take_left]
  exact beq_self_eq_true _
theorem aN2 {T sep:Str} {A B:List Nat} {c:Nat} (hs:sep.cps.toList=A++c::B) (hA:c∉A):∀ (ls:List (List Nat)) (cuts:List Nat) (a f:Nat),ls≠[]->(∀ l∈ls,c∉l)->T.cps.toList.drop a=jnL sep.cps.toList ls->a<=T.length->ChainG T sep T.length a cuts f->(∀ k,f<=k->¬ At T sep T.length k) ->
  (partsFrom T sep.length a cuts).map (fun x=>x.cps.toList)=ls
 | [],_,_,_,h,_,_,_,_,_=>absurd rfl h
 | [l],cuts,a,f,_,hl,hT,ha,hG,hn=>by
  have none:∀ k,a<=k->¬ At T sep T.length k:=fun k hk h=>by
   have e:=aVo h
   have hm:c∈(T.cps.toList.drop k).take sep.length:=by rw [e,hs]; simp
   have hm2:=List.mem_of_mem_take hm
   have:T.cps.toList.drop k=(T.cps.toList.drop a).drop (k - a):=by rw [List.drop_drop]; congr 1; omega
   rw [this,hT] at hm2
   exact hl l (by simp) (List.mem_of_mem_drop hm2)
  cases cuts with
  | nil =>
   show [(strSub T a T.length).cps.toList]=[l]
   rw [strSub_toList,hT,List.take_of_length_le]
   ·rfl
   ·have:=congrArg List.length hT
    rw [List.length_drop,← aBa] at this
    show l.length<=_
    have e2:(jnL sep.cps.toList [l]).length=l.length:=rfl
    omega
  | cons d r=>exact absurd hG.2.1 (none d hG.1)
 | l::l2::r,cuts,a,f,_,hl,hT,ha,hG,hn=>by
  have hT':T.cps.toList.drop a=l++sep.cps.toList++jnL sep.cps.toList (l2::r):=hT
  have hlen:=congrArg List.length hT'
  rw [List.length_drop,List.length_append,List.length_append,← aBa,← aBa] at hlen
  have dr:T.cps.toList.drop (a+l.length)=sep.cps.toList++jnL sep.cps.toList (l2::r):=by
   rw [← List.drop_drop,hT',List.append_assoc,List.drop_left]
  have dr2:T.cps.toList.drop (a+l.length+sep.length)=jnL sep.cps.toList (l2::r):=by
   rw [← List.drop_drop,dr,aBa sep,List.drop_left]
  have hat:At T sep T.length (a+l.length):=at_of (by omega) dr
  have early:∀ k,a<=k->k < a+l.length->¬ At T sep T.length k:=fun k hk hk2 h=>by
   have e:=aVo h
   -- the sign c at place k+A.length
   have e1:((T.cps.toList.drop k).take sep.length)[A.length]?=some c:=by rw [e,hs]; simp
   have hsl:A.length < sep.length:=by rw [aBa,hs]; simp
   rw [List.getElem?_take_of_lt hsl,List.getElem?_drop] at e1
   have e2:(T.cps.toList.drop a)[k - a+A.length]?=some c:=by rw [List.getElem?_drop,← e1]; congr 1; omega
   rw [hT',hs,List.append_assoc] at e2
   have e3:(l++A)[k - a+A.length]?=some c:=by
    rw [show l++(A++c::B++jnL (A++c::B) (l2::r))=(l++A)++(c::B++jnL (A++c::B) (l2::r)) by simp] at e2
    rwa [List.getElem?_append_left (by rw [List.length_append]; omega)] at e2
   rcases List.mem_append.mp (List.mem_of_getElem? e3) with h | h
   ·exact hl l (by simp) h
   ·exact hA h
  cases cuts with
  | nil =>
   have:f=a:=hG
   exact absurd hat (hn _ (by omega))
  | cons d r' =>
   obtain ⟨g1,g2,g3,g4⟩:=hG
   have ed:d=a+l.length:=by
    rcases Nat.lt_trichotomy d (a+l.length) with h | h | h
    ·exact absurd g2 (early d g1 h)
    ·exact h
    ·exact absurd hat (g3 _ (by omega) h)
   subst ed
   show (strSub T a (a+l.length)).cps.toList::_=_
   rw [strSub_toList,hT',show a+l.length - a=l.length by omega,List.append_assoc,List.take_left]
   have ih:=aN2 hs hA (l2::r) r' (a+l.length+sep.length) f (List.cons_ne_nil _ _) (fun x hx=>hl x (List.mem_cons_of_mem _ hx)) dr2 (by omega) g4 hn
   exact congrArg _ ih
theorem aEk {sep:Str} {A B:List Nat} {c:Nat} (hs:sep.cps.toList=A++c::B) (hA:c∉A) (hk:Builtin.Str.strKind sep=1) {ls:List Str} (hne:ls≠[]) (hl:∀ l∈ls,c∉l.cps.toList):Txt.split (Str.join sep ls) sep=ls:=by
 have h1:1<=sep.length:=by rw [aBa,hs,List.length_append,List.length_cons]; omega
 obtain ⟨f,hG,hn⟩:=occ_tight (Str.join sep ls) sep h1
 have key:=aN2 (T:=Str.join sep ls) hs hA (ls.map fun x=>x.cps.toList) _ 0 f (by simpa using hne) (fun l h=>by
  obtain ⟨x,hx,rfl⟩:=List.mem_map.mp h
  exact hl x hx) (by rw [List.drop_zero]; exact aF9 sep ls) (Nat.zero_le _) hG hn
 have back:∀ {xs ys:List Str},xs.map (fun x=>x.cps.toList)=ys.map (fun x=>x.cps.toList)->xs=ys:=by
  intro xs
  induction xs with
  | nil=>intro ys h; cases ys with | nil=>rfl | cons y ys=>simp at h
  | cons x xs ih =>
   intro ys h
   cases ys with
   | nil=>simp at h
   | cons y ys =>
    rw [List.map_cons,List.map_cons] at h
    obtain ⟨h1,h2⟩:=List.cons.inj h
    rw [ih h2,show x=y from by obtain ⟨a⟩:=x; obtain ⟨b⟩:=y; exact congrArg Str.mk (Array.toList_inj.mp h1)]
 unfold Txt.split
 have nok:¬ Builtin.Str.strKind (Str.join sep ls) < Builtin.Str.strKind sep:=by
  rw [hk]
  unfold Builtin.Str.strKind
  split
  ·omega
  ·split <;> omega
 split
 ·rename_i h
  rw [Bool.or_eq_true,decide_eq_true_iff,decide_eq_true_iff] at h
  rcases h with h | h
  ·-- a text shorter than what parts it has no place for it
   cases hc:occurrences (Str.join sep ls) sep 0 (Str.join sep ls).length ((Str.join sep ls).length+1) with
   | nil =>
    rw [hc] at key
    refine back ?_
    rw [← key]
    show _=[(strSub _ 0 _).cps.toList]
    rw [sub_whole]
    rfl
   | cons d r =>
    rw [hc] at hG
    have:=hG.2.1.1
    omega
  ·exact absurd h nok
 ·split
  ·rename_i h
   rw [List.isEmpty_iff.mp h] at key
   refine back ?_
   rw [← key]
   show _=[(strSub _ 0 _).cps.toList]
   rw [sub_whole]
   rfl
  ·rw [partsBetween_eq]
   exact back key
end L2
namespace L2
open PySem PySem.Spec PyProof.Rows
noncomputable def aEa (n:Int):Str:=Str.ofString (toString n)
noncomputable def aYh (z:Str):Prop:=∀ c∈z.cps.toList,48<=c/\c < 58
theorem aJx (m:Nat):(aEa (m:Int)).cps.toList=(Nat.toDigits 10 m).map Char.toNat:=PySem.W.KIN.signs_num m
theorem aF7 {n:Int} (h:0<=n):aYh (aEa n):=by
 obtain ⟨m,rfl⟩:=Int.eq_ofNat_of_zero_le h
 intro c hc
 rw [aJx] at hc
 obtain ⟨ch,hch,rfl⟩:=List.mem_map.mp hc
 have r:=Nat.isDigit_of_mem_toDigits (b:=10) (by decide) (by decide) hch
 simp only [Char.isDigit,Bool.and_eq_true,decide_eq_true_eq] at r
 have r1:48<=ch.toNat:=r.1
 have r2:ch.toNat<=57:=r.2
 exact ⟨r1,by omega⟩
theorem aDq {n:Int} (h0:0<=n) (h1:n < 10 ^ 12):1<=(aEa n).length/\(aEa n).length<=12:=by
 refine ⟨?_,PyProof.Rows.toString_length_le h0 (by decide) h1⟩
 obtain ⟨m,rfl⟩:=Int.eq_ofNat_of_zero_le h0
 rw [aBa,aJx,List.length_map]
 cases e:Nat.toDigits 10 m with
 | nil =>
  have:=PySem.W.KIN.val_back m
  rw [e] at this
  have h2:m=0:=this.symm
  subst h2
  cases e
 | cons a b=>simp
theorem bB4:∀ m:Nat,1<=m->∃ c r,(Nat.toDigits 10 m).map Char.toNat=c::r/\c≠48:=by
 intro m
 induction m using Nat.strongRecOn with
 | _ m ih =>
  intro hm
  by_cases h:m < 10
  ·rw [Nat.toDigits_of_lt_base h]
   refine ⟨_,[],rfl,?_⟩
   have:m=1∨m=2∨m=3∨m=4∨m=5∨m=6∨m=7∨m=8∨m=9:=by omega
   rcases this with rfl | rfl | rfl | rfl | rfl | rfl | rfl | rfl | rfl <;> decide
  ·have hm':m % 10 < 10:=Nat.mod_lt m (by decide)
   have t:Nat.toDigits 10 (m / 10)++Nat.toDigits 10 (m % 10)=Nat.toDigits 10 (10 * (m / 10)+m % 10):=Nat.toDigits_append_toDigits (by decide) (by omega) hm'
   rw [Nat.div_add_mod] at t
   obtain ⟨c,r,e,hc⟩:=ih (m / 10) (by omega) (by omega)
   rw [← t,List.map_append,e]
   exact ⟨c,_,rfl,hc⟩
theorem bA8 {n:Int} (h:1<=n):∃ c r,(aEa n).cps.toList=c::r/\c≠48:=by
 obtain ⟨m,rfl⟩:=Int.eq_ofNat_of_zero_le (show 0<=n by omega)
 obtain ⟨c,r,e,hc⟩:=bB4 m (by omega)
 exact ⟨c,r,by rw [aJx,e],hc⟩
theorem aMu {n:Int} (h0:0<=n) (h1:n < 10 ^ 12):PySem.intText? (aEa n)=some n:=by
 have hl:=(aDq h0 h1).2
 have hd:=aF7 h0
 obtain ⟨m,rfl⟩:=Int.eq_ofNat_of_zero_le h0
 have hne:(aEa (m:Int)).cps.toList≠[]:=by
  have:=(aDq h0 h1).1
  intro e
  rw [aBa,e] at this
  exact absurd this (by decide)
 have e:=PySem.intText_digits (x:=aEa (m:Int)) (fun c hc=>⟨(hd c hc).1,by have:=(hd c hc).2; omega⟩) hne (by omega)
 rw [aJx,PySem.W.KIN.val_back] at e
 exact e
noncomputable def tmS (q:Rat):Str:=if q.den=1 then aEa q.num else aEa q.num++⟨#[47]⟩++aEa (q.den:Int)
noncomputable def WdS (z:Str):Prop:=32∉z.cps.toList/\59∉z.cps.toList/\z.length<=100
theorem aKd (x y:Str):(x++y).cps.toList=x.cps.toList++y.cps.toList:=by
 show (x.cps++y.cps).toList=_
 simp
theorem aYh.no {z:Str} (h:aYh z) {c:Nat} (hc:c < 48∨58<=c):c∉z.cps.toList:=fun m=>by have:=h c m; omega
theorem aLw.num {q:Rat} (h:aLw q):1<=q.num/\q.num < 10 ^ 12:=by
 have h0:=Rat.num_nonneg.mpr (Rat.le_of_lt h.1)
 have h1:q.num≠0:=fun z=>Rat.ne_of_gt h.1 (Rat.num_eq_zero.mp z)
 have:=h.2.1
 omega
theorem aLw.den {q:Rat} (h:aLw q):1<=(q.den:Int)/\(q.den:Int) < 10 ^ 12:=by
 have:=q.den_pos
 have:=h.2.2
 omega
theorem aS7 {q:Rat} (h:aLw q):WdS (tmS q):=by
 have d1:=aF7 (n:=q.num) (by have:=h.num; omega)
 have d2:=aF7 (n:=(q.den:Int)) (by have:=h.den; omega)
 have l1:=aDq (n:=q.num) (by have:=h.num; omega) h.num.2
 have l2:=aDq (n:=(q.den:Int)) (by have:=h.den; omega) h.den.2
 unfold tmS
 split
 ·exact ⟨d1.no (by omega),d1.no (by omega),by omega⟩
 ·have no:∀ c:Nat,c≠47->(c < 48∨58<=c)->c∉(aEa q.num++⟨#[47]⟩++aEa (q.den:Int)).cps.toList:=fun c h1 h2=>by
   rw [aKd,aKd]
   intro m
   rcases List.mem_append.mp m with m | m
   ·rcases List.mem_append.mp m with m | m
    ·exact d1.no h2 m
    ·exact h1 (by simpa using m)
   ·exact d2.no h2 m
  refine ⟨no 32 (by decide) (by omega),no 59 (by decide) (by omega),?_⟩
  rw [aCy,aCy,show (⟨#[47]⟩:Str).length=1 from rfl]
  omega
theorem aS8 {q:Rat} (h:aLw q):Txt.split (tmS q) ⟨#[47]⟩=if q.den=1 then [aEa q.num] else [aEa q.num,aEa (q.den:Int)]:=by
 have d1:=aF7 (n:=q.num) (by have:=h.num; omega)
 have d2:=aF7 (n:=(q.den:Int)) (by have:=h.den; omega)
 unfold tmS
 split
 ·exact aEk (sep:=⟨#[47]⟩) (A:=[]) (B:=[]) (c:=47) rfl (by simp) (by decide +kernel) (ls:=[aEa q.num]) (by simp) (fun l hl=>by rw [List.mem_singleton.mp hl]; exact d1.no (by omega))
 ·exact aEk (sep:=⟨#[47]⟩) (A:=[]) (B:=[]) (c:=47) rfl (by simp) (by decide +kernel) (ls:=[aEa q.num,aEa (q.den:Int)]) (by simp) (fun l hl=>by
   rcases List.mem_cons.mp hl with rfl | hl
   ·exact d1.no (by omega)
   ·rw [List.mem_singleton.mp hl]; exact d2.no (by omega))
theorem aRs {P:Nat->Prop} {s:List Nat} {c:Nat} (h2:∀ d∈s,P d):∀ {ls:List (List Nat)},(∀ l∈ls,∀ d∈l,P d)->c∈jnL s ls->P c
 | [],_,hc=>by cases hc
 | [x],h1,hc=>h1 x (by simp) c hc
 | x::y::r,h1,hc=>by
  replace hc:c∈x++s++jnL s (y::r):=hc
  rcases List.mem_append.mp hc with hc | hc
  ·rcases List.mem_append.mp hc with hc | hc
   ·exact h1 x (by simp) c hc
   ·exact h2 c hc
  ·exact aRs h2 (ls:=y::r) (fun l hl=>h1 l (List.mem_cons_of_mem _ hl)) hc
theorem aF4 {s:Str} (h:aB8 s):WdS s:=by
 have hp:=aE4.post h
 have j:=StrLaws.join_split s ⟨#[46]⟩
 have hall:∀ c∈s.cps.toList,c=46∨(97<=c/\c < 123):=by
  intro c hc
  rw [← j,aF9] at hc
  refine aRs (P:=fun c=>c=46∨(97<=c/\c < 123)) (fun d hd=>.inl (by simpa using hd)) (fun l hl d hd=>?_) hc
  obtain ⟨x,hx,rfl⟩:=List.mem_map.mp hl
  have:=hp.1 x hx
  unfold aBx at this
  rw [Bool.and_eq_true,List.all_eq_true] at this
  have:=this.2 d hd
  rw [Bool.and_eq_true,decide_eq_true_iff,decide_eq_true_iff] at this
  exact .inr this
 refine ⟨fun m=>?_,fun m=>?_,h.2⟩
 ·have:=hall _ m; omega
 ·have:=hall _ m; omega
noncomputable def wdsP:aLy->List Str
 | .run a b t=>["run",a,b,tmS t]
noncomputable def aE9:aE8->List Str
 | .plain r=>wdsP r
 | .put nm cl as=>"put"::nm::cl::as
noncomputable def aAx:aDc->List (List Str)
 | .one r=>[aE9 r]
 | .piece p=>("piece"::p.1::p.2.1)::(p.2.2.map aE9++[[("end":Str)]])
noncomputable abbrev sp1:Str:=Str.ofString " "
noncomputable abbrev sp3:Str:=Str.ofString " ; "
noncomputable def aH3 (ls:List (List Str)):Str:=Str.join sp3 (ls.map (Str.join sp1))
theorem aP9:sp1.cps.toList=[]++32::[]:=by decide +kernel
theorem aV0:sp3.cps.toList=[32]++59::[32]:=by decide +kernel
theorem aPb {ws:List Str} (hne:ws≠[]) (h:∀ w∈ws,WdS w):Txt.split (Str.join sp1 ws) sp1=ws:=aEk aP9 (by simp) (by decide +kernel) hne fun l hl=>(h l hl).1
theorem aOo {ls:List (List Str)} (hne:ls≠[]) (h:∀ ws∈ls,∀ w∈ws,WdS w):Txt.split (aH3 ls) sp3=ls.map (Str.join sp1):=by
 refine aEk aV0 (by decide) (by decide +kernel) (by simpa using hne) fun l hl=>?_
 obtain ⟨ws,hws,rfl⟩:=List.mem_map.mp hl
 intro m
 rw [aF9] at m
 have:=aRs (P:=fun c=>c≠59) (fun d hd=>by
  rw [aP9] at hd
  have:d=32:=by simpa using hd
  omega) (fun l hl d hd=>by
  obtain ⟨x,hx,rfl⟩:=List.mem_map.mp hl
  exact fun e=>(h ws hws x hx).2.1 (by rw [← e]; exact hd)) m
 exact this rfl
theorem aM4 (c:Nat):decide (c∈("0123456789":Str).cps.toList)=(decide (48<=c)&&decide (c < 58)):=by
 have e:("0123456789":Str).cps.toList=List.range' 48 10:=by decide +kernel
 rw [e,Bool.eq_iff_iff,Bool.and_eq_true,decide_eq_true_iff,decide_eq_true_iff,decide_eq_true_iff]
 exact List.mem_range'_1
noncomputable def rIntS:List V->Hp->VK->Prop:=fun vs H Q=>∃ (z:Str) (n:Int),vs=[.str z]/\PySem.intText? z=some n/\z.length<=640/\Q (.int n) H
theorem aSu {X:Cx}:aDn X (.type "int") rIntS:=by
 intro pins s σ H vs us Q I r h
 obtain ⟨z,n,rfl,hz,hl,q⟩:=h
 obtain ⟨u,rfl,ru⟩:=r.one
 obtain ⟨t,rfl⟩:=ru
 exact PySem.W.KIN.call_text hz hl ⟨.int _,H,I.tok _,⟨_,rfl⟩,q⟩
theorem aG5 {xs:List V} (n:Nat) (h:n<=xs.length):aGq xs (some (n:Int)) none=xs.drop n:=by
 unfold aGq
 have e1:HT.sIx xs.length xs.length none=xs.length:=rfl
 have e2:HT.sIx xs.length 0 (some (n:Int))=n:=by
  unfold HT.sIx
  dsimp only
  split <;> omega
 rw [e1,e2,List.take_of_length_le (by rw [List.length_drop]; omega)]
noncomputable def fpK:List (Key×V):=[(Sum.inr "row",.int 2),(Sum.inr "star",.int 2),(Sum.inr "ring",.int 3)]
theorem bBw:aD2 fpK (Sum.inr "put")=none:=by with_unfolding_all rfl
noncomputable def CdQ (H:Hp) (d:Addr) (E:List aAu):Prop:=∃ kd,H d=some (.dK kd)/\kd.length<=E.length/\(∀ p∈E,aD2 kd (Sum.inr p.1)=some (.int (p.2.1.length:Int)))/\∀ s:Str,(∀ p∈E,p.1≠s)->aD2 kd (Sum.inr s)=none
theorem CdQ.sm {H G:Hp} {d:Addr} {E:List aAu} (h:CdQ H d E) (s:aAn H G):CdQ G d E:=let ⟨k,a,b,c⟩:=h; ⟨k,s _ _ a,b,c⟩
theorem CdQ.put {G:Hp} {d:Addr} {kd:List (Key×V)} {E:List aAu} {p:aAu} (hp:WfP E p) (hl:kd.length<=E.length) (h1:∀ p∈E,aD2 kd (Sum.inr p.1)=some (.int (p.2.1.length:Int))) (h2:∀ s:Str,(∀ p∈E,p.1≠s)->aD2 kd (Sum.inr s)=none) (g:G d=some (.dK (aD7 kd (Sum.inr p.1) (.int (p.2.1.length:Int))))):CdQ G d (p::E):=by
 refine ⟨_,g,by have:=aJl (kvs:=kd) (k:=Sum.inr p.1) (v:=.int (p.2.1.length:Int)); rw [List.length_cons]; omega,fun q hq=>?_,fun s hs=>?_⟩
 ·rw [aFa]
  rcases List.mem_cons.mp hq with rfl | hq
  ·exact if_pos rfl
  ·rw [if_neg fun z=>hp.2.2.2.2.2 q hq (Sum.inr.inj z)]
   exact h1 q hq
 ·rw [aFa,if_neg fun z=>hs p (by simp) (Sum.inr.inj z).symm]
  exact h2 s fun q hq=>hs q (List.mem_cons_of_mem _ hq)
noncomputable def rLenS (w:World):List V->Hp->VK->Prop:=fun vs H Q=>∃ (p:Addr) (xs:List Str),vs=[.ref p]/\H p=some (SetS w p xs)/\Q (.int xs.length) H
theorem bB9 {X:Cx}:aDn X (.builtin "len") (rLenS X.w):=by
 intro pins s σ H vs us Q I r h
 obtain ⟨p,xs,rfl,hp,q⟩:=h
 obtain ⟨u,rfl,ru⟩:=r.one
 cases ru
 obtain ⟨es,ep,t,g,hel,hxs,hnd,hsz,hf,ht⟩:=(show aFx X.w s.heap p xs from (I.hok p _ hp).1)
 have hl:xs.length=es.size:=by rw [← hxs]; simp
 refine call_len_set g ⟨rfl,rfl,rfl⟩ rfl hf (by unfold scanBound at hsz; omega) ⟨.int xs.length,H,I.kept (h':=s.heap) (t':=s.toks+1+1) (fun _ _ e=>e),⟨_,by rw [hl]⟩,q⟩
noncomputable def LnQ (H:Hp) (v:V) (ws:List Str):Prop:=∃ a,v=.ref a/\H a=some (.lst (ws.map V.str))
noncomputable def LsQ (H:Hp) (l:Addr) (ls:List (List Str)):Prop:=∃ vs,H l=some (.lst vs)/\Paired (LnQ H) vs ls
theorem LnQ.sm {H G:Hp} {v:V} {ws:List Str} (h:LnQ H v ws) (s:aAn H G):LnQ G v ws:=let ⟨a,e,f⟩:=h; ⟨a,e,s _ _ f⟩
theorem LsQ.sm {H G:Hp} {l:Addr} {ls:List (List Str)} (h:LsQ H l ls) (s:aAn H G):LsQ G l ls:=let ⟨vs,a,b⟩:=h; ⟨vs,s _ _ a,Pd.imp b fun _ _ f=>f.sm s⟩
theorem aW6 {ys xs:List Str} (n1:ys.Nodup) (n2:xs.Nodup) (h:∀ z,z∈ys ↔ z∈xs):ys.length=xs.length:=Nat.le_antisymm (aRi n1 fun x hx=>(h x).mp hx) (aRi n2 fun x hx=>(h x).mpr hx)
theorem aZe {w:World} {H:Hp} {Q:VK} {p:Addr} {xs:List Str} (hp:H p=some (.lst (xs.map V.str))) (hl:xs.length<=4000) (k:∀ (l:Addr) (ys:List Str) (G:Hp),H l=none->aAn H G->G l=some (SetS w l ys)->ys.Nodup->(∀ z,z∈ys ↔ z∈xs)->Q (.ref l) G):bAe w [.ref p] H Q :=
 ⟨p,xs,rfl,hp,hl,fun l ys h1 h2 h3=>k l ys _ h1 (aAn.new h1) aAe h2 h3⟩
theorem Pd.keep {α β:Type} {R S:α->β->Prop}:∀ {xs:List α} {ys:List β},Paired R xs ys->(∀ x y,x∈xs->R x y->S x y)->Paired S xs ys
 | _,_,.nil,_=>.nil
 | _,_,.cons h t,k=>.cons (k _ _ (by simp) h) (Pd.keep t fun x y hx=>k x y (List.mem_cons_of_mem _ hx))
theorem aSb:∀ xs ys:List Str,aOe (xs.map Dt.str) (ys.map Dt.str)=decide (xs=ys)
 | [],[]=>rfl
 | [],_::_=>rfl
 | _::_,[]=>rfl
 | x::xs,y::ys=>by
  show ((x==y)&&aOe (xs.map Dt.str) (ys.map Dt.str))=_
  rw [aSb xs ys,Bool.eq_iff_iff,Bool.and_eq_true,decide_eq_true_iff,decide_eq_true_iff,beq_iff_eq,List.cons.injEq]
theorem bB2 {H:Hp} {Q:VK} {l1 l2:Addr} {xs ys:List Str} (h1:H l1=some (.lst (xs.map V.str))) (h2:H l2=some (.lst (ys.map V.str))) (k:Q (.bl (decide (xs=ys))) H):aVa (.ref l1) (.ref l2) H Q:=by
 refine aXu (ds:=xs.map Dt.str) (es:=ys.map Dt.str) ⟨l1,_,rfl,h1,aSe xs⟩ ⟨l2,_,rfl,h2,aSe ys⟩ (Nat.le_trans (aVk xs) (by decide)) ?_
 rw [aSb]
 exact k
theorem bBg:WdS "run"/\WdS "put"/\WdS "piece"/\WdS "end"/\WdS "row"/\WdS "star"/\WdS "ring":=by
 unfold WdS
 decide +kernel
theorem aJ6 {ws:List Str} (h:∀ w∈ws,w.length<=100) (hn:ws.length<=50):(Str.join sp1 ws).length<=10000:=by
 have h1:=StrLaws.join_length_le sp1 ws
 have e:sp1.length=1:=by decide +kernel
 have h2:∀ {l:List Str},(∀ w∈l,w.length<=100)->(l.map (·.length)).sum<=l.length * 100:=by
  intro l
  induction l with
  | nil=>intro _; simp
  | cons a l ih =>
   intro h
   have:=ih fun w hw=>h w (List.mem_cons_of_mem _ hw)
   have:=h a (by simp)
   rw [List.map_cons,List.sum_cons,List.length_cons,Nat.succ_mul]
   omega
 have h3:=h2 h
 rw [e] at h1
 omega
noncomputable def aVq (ws:List Str):Prop:=ws≠[]/\(∀ w∈ws,WdS w)/\(Str.join sp1 ws).length<=10000
theorem aVq.of {ws:List Str} (h1:ws≠[]) (h2:∀ w∈ws,WdS w) (h3:ws.length<=50):aVq ws:=⟨h1,h2,aJ6 (fun w hw=>(h2 w hw).2.2) h3⟩
theorem WfE.nm {E:List aAu} (h:WfE E) {p:aAu} (hp:p∈E):aBx p.1=true:=(h.at hp).2.2.2.2.2 p.1 (by simp)
theorem aIq {E:List aAu} (hE:WfE E) {r:aE8} (hw:WfT E r):aVq (aE9 r):=by
 obtain ⟨k1,k2,k3,k4,k5,k6,k7⟩:=bBg
 cases r with
 | plain r =>
  cases r with
  | run a b t =>
   obtain ⟨h1,h2,h3⟩:=hw
   refine aVq.of (List.cons_ne_nil _ _) (fun w hw=>?_) (by show 4<=50; decide)
   have hw:w="run"∨w=a∨w=b∨w=tmS t:=by simpa [aE9,wdsP] using hw
   rcases hw with rfl | rfl | rfl | rfl
   ·exact k1
   ·exact aF4 h1
   ·exact aF4 h2
   ·exact aS7 h3
 | put nm cl as =>
  obtain ⟨h1,h2,h3,x,hx,rfl,_⟩:=hw
  refine aVq.of (List.cons_ne_nil _ _) (fun w hw=>?_) (by show as.length+1+1+1<=50; omega)
  have hw:w="put"∨w=x.1∨w=cl∨w∈as:=by simpa [aE9] using hw
  rcases hw with rfl | rfl | rfl | hw
  ·exact k2
  ·exact aF4 (aE4.part (hE.nm hx))
  ·exact aF4 (aE4.part h1)
  ·exact aF4 (h2 w hw)
theorem aOt (r:aE8):aE9 r≠[("end":Str)]:=by
 cases r with
 | plain r=>cases r <;> exact fun h=>by have:=congrArg List.length h; simp [aE9,wdsP] at this
 | put nm cl as=>exact fun h=>by have:=congrArg List.length h; simp [aE9] at this
theorem aK1 (r:aE8):∃ k ws,aE9 r=k::ws/\k≠"piece":=by
 cases r with
 | plain r =>
  cases r with
  | run a b t=>exact ⟨_,_,rfl,by decide +kernel⟩
 | put nm cl as=>exact ⟨_,_,rfl,by decide +kernel⟩
theorem aFq:∀ {gs:List aDc} {E:List aAu},WfE E->WfG E gs->∀ ws∈gs.flatMap aAx,aVq ws
 | [],_,_,_,_,h=>nomatch h
 | .one r::gs,E,hE,hG,ws,h=>by
  rw [List.flatMap_cons] at h
  rcases List.mem_append.mp h with h | h
  ·rw [List.mem_singleton.mp (show ws∈[aE9 r] from h)]
   exact aIq hE hG.1
  ·exact aFq hE hG.2 ws h
 | .piece p::gs,E,hE,hG,ws,h=>by
  rw [List.flatMap_cons] at h
  obtain ⟨k1,k2,k3,k4,_⟩:=bBg
  obtain ⟨⟨g1,g2,g3,g4,⟨g5,g6,g7⟩,g8⟩,gg⟩:=id hG
  rcases List.mem_append.mp h with h | h
  ·rcases List.mem_cons.mp (show ws∈(("piece":Str)::p.1::p.2.1)::(p.2.2.map aE9++[[("end":Str)]]) from h) with rfl | h
   ·refine aVq.of (List.cons_ne_nil _ _) (fun w hw=>?_) (by show p.2.1.length+1+1<=50; omega)
    rcases List.mem_cons.mp hw with rfl | hw
    ·exact k3
    ·exact aF4 (aE4.part (g7 w hw))
   ·rcases List.mem_append.mp h with h | h
    ·obtain ⟨r,hr,rfl⟩:=List.mem_map.mp h
     exact aIq hE (g1 r hr)
    ·rw [List.mem_singleton.mp h]
     exact aVq.of (List.cons_ne_nil _ _) (fun w hw=>by rw [List.mem_singleton.mp hw]; exact k4) (by show 1<=50; decide)
  ·exact aFq (E:=p::E) ⟨hG.1,hE⟩ gg ws h
theorem aDj:∀ gs:List aDc,(gs.flatMap aAx).length=lnN gs
 | []=>rfl
 | .one r::gs=>by rw [List.flatMap_cons,List.length_append,aDj gs]; show 1+_=_+1; omega
 | .piece p::gs=>by
  rw [List.flatMap_cons,List.length_append,aDj gs]
  show ((p.2.2.map aE9++[[("end":Str)]]).length+1)+_=_
  rw [List.length_append,List.length_map]
  show _+1+1+_=lnN gs+p.2.2.length+2
  omega
theorem aXe {gs:List aDc} {i j:Nat} {g:aDc} (hg:gs[i]?=some g) (hj:j < (aAx g).length):(gs.flatMap aAx)[((gs.take i).flatMap aAx).length+j]?=(aAx g)[j]?:=by
 have hi:i < gs.length:=(List.getElem?_eq_some_iff.mp hg).1
 have e:gs=gs.take i++g::gs.drop (i+1):=by
  rw [← aE6 hg,List.take_append_drop]
 conv=>lhs; rw [e,List.flatMap_append,List.flatMap_cons]
 rw [List.take_append_of_le_length (by rw [List.length_take]; omega),List.take_take,Nat.min_self]
 rw [List.getElem?_append_right (by omega),Nat.add_sub_cancel_left,List.getElem?_append_left hj]
theorem aXj {gs:List aDc} {i:Nat} {g:aDc} (hg:gs[i]?=some g):(gs.flatMap aAx).drop ((gs.take i).flatMap aAx).length=aAx g++(gs.drop (i+1)).flatMap aAx:=by
 have e:gs=gs.take i++g::gs.drop (i+1):=by
  rw [← aE6 hg,List.take_append_drop]
 have e2:gs.flatMap aAx=(gs.take i).flatMap aAx++(aAx g++(gs.drop (i+1)).flatMap aAx):=by
  conv=>lhs; rw [e,List.flatMap_append,List.flatMap_cons]
 rw [e2,List.drop_left]
theorem aK5 (p:aAu):(aAx (.piece p)).length=p.2.2.length+2:=by
 show (p.2.2.map aE9++[[("end":Str)]]).length+1=_
 rw [List.length_append,List.length_map]
 rfl
theorem aMk {gs:List aDc} {i:Nat} {p:aAu} (hg:gs[i]?=some (.piece p)):((gs.flatMap aAx).drop ((gs.take i).flatMap aAx).length).take (p.2.2.length+1)=(("piece":Str)::p.1::p.2.1)::p.2.2.map aE9:=by
 rw [aXj hg,List.take_append_of_le_length (by rw [aK5]; omega)]
 show _::(p.2.2.map aE9++[[("end":Str)]]).take p.2.2.length=_
 rw [List.take_append_of_le_length (by rw [List.length_map]; exact Nat.le_refl _),List.take_of_length_le (by rw [List.length_map]; exact Nat.le_refl _)]
theorem aQv (p:aAu):(aAx (.piece p))[p.2.2.length+1]?=some [("end":Str)]:=by
 show (p.2.2.map aE9++[[("end":Str)]])[p.2.2.length]?=_
 rw [List.getElem?_append_right (by rw [List.length_map]; exact Nat.le_refl _),List.length_map,Nat.sub_self]
 rfl
theorem aK4 {p:aAu} {k:Nat} {ws:List Str} (hk:k<=p.2.2.length) (h:(aAx (.piece p))[k]?=some ws):ws≠[("end":Str)]:=by
 cases k with
 | zero =>
  have e:("piece"::p.1::p.2.1:List Str)=ws:=Option.some.inj h
  rw [← e]
  intro z
  have:=(List.cons.inj z).2
  cases this
 | succ k =>
  have e:(p.2.2.map aE9++[[("end":Str)]])[k]?=some ws:=h
  rw [List.getElem?_append_left (by rw [List.length_map]; omega),List.getElem?_map] at e
  cases hr:p.2.2[k]? with
  | none=>rw [hr] at e; cases e
  | some r =>
   rw [hr] at e
   rw [← (Option.some.inj e:aE9 r=ws)]
   exact aOt r
theorem aXx {xs:List V} {a b:Nat} (h1:a<=b) (h2:b<=xs.length):aGq xs (some (a:Int)) (some (b:Int))=(xs.drop a).take (b - a):=by
 unfold aGq
 have e1:HT.sIx xs.length xs.length (some (b:Int))=b:=by
  unfold HT.sIx
  dsimp only
  split <;> omega
 have e2:HT.sIx xs.length 0 (some (a:Int))=a:=by
  unfold HT.sIx
  dsimp only
  split <;> omega
 rw [e1,e2]
end L2
namespace L2
open PySem PySem.Spec PyProof.Rows
noncomputable def aYg (P:Program) (w:World) (K:PySem.W.Frag) (a:Addr) (kvs:List (Key×V)):Prop:=(a==sysModules)=false/\∀ h:Heap,K.In h->∃ vs,KV kvs vs/\h.DictOf (aBu P w) a vs
section
variable {X:Cx} {x:Str} {a:Addr} {kvs:List (Key×V)} {i:Expr} {ty:TE} {p pos:Pos}
noncomputable def tKIn (kvs:List (Key×V)) (ty:TE):TE:=fun σ H Q=>ty σ H fun y H2=>∃ k,y=kV k/\Q (.bl (aD2 kvs k).isSome) H2
theorem bAy (hg:Gl X x) (hm:X.mg x=some (.ref a)) (hd:aYg X.prog X.w X.K a kvs) (hi:PE X i ty) (hdb:(x==("__debug__":Str))=false:=by decide):PC X .In i (.Name x p) (tKIn kvs ty):=by
 intro pins s σ H Q I h
 refine thn (hi pins s σ H _ I h) fun iv s1 ⟨y,H1,I1,ry,k,ey,q⟩=>?_
 subst ey
 refine thn (aCe (v:=.ref a) hg hm rfl hdb pins s1 σ H1 (fun x H2=>x=.ref a/\H2=H1) I1 ⟨rfl,rfl⟩) fun u s2 ⟨y,H2,I2,rx,e1,e2⟩=>?_
 subst e1 e2
 obtain rfl:u=Value.ref a:=rx
 obtain ⟨vs,rel,dd⟩:=hd.2 s2.heap I2.kIn
 refine wpAny_in_of (aLh ry) hd.1 dd.mapOf ?_
 rw [← (rel.val k).isSome_eq]
 exact ⟨.bl _,H2,I2.tok _,rfl,q⟩
end
theorem aYg.of3 {P:Program} {w:World} {K:PySem.W.Frag} {a:Addr} {s1 s2 s3:Str} {n1 n2 n3:Int} {h1 h2 h3:Int} {t1 t2 t3 u1 u2 u3:Tok} {ep:Nat} (l:K.lookup a=some ⟨.type "dict",none,.dict #[⟨h1,.str s1 t1,.int n1 u1⟩,⟨h2,.str s2 t2,.int n2 u2⟩,⟨h3,.str s3 t3,.int n3 u3⟩] ep,#[]⟩)
  (e1:h1=aS1 w (Sum.inr s1)) (e2:h2=aS1 w (Sum.inr s2)) (e3:h3=aS1 w (Sum.inr s3)) (ns:(a==sysModules)=false) (nd:([Sum.inr s1,Sum.inr s2,Sum.inr s3]:List Key).Nodup):aYg P w K a [(Sum.inr s1,.int n1),(Sum.inr s2,.int n2),(Sum.inr s3,.int n3)]:=by
 subst e1 e2 e3
 refine ⟨ns,fun h hK=>⟨[(Sum.inr s1,.int n1 u1),(Sum.inr s2,.int n2 u2),(Sum.inr s3,.int n3 u3)],.cons ⟨rfl,⟨u1,rfl⟩⟩ (.cons ⟨rfl,⟨u2,rfl⟩⟩ (.cons ⟨rfl,⟨u3,rfl⟩⟩ .nil)),_,_,_,hK _ _ l,⟨rfl,rfl,rfl⟩,rfl,?_,?_,nd⟩⟩
 ·intro e he
  have he:e∈[(⟨aS1 w (Sum.inr s1),.str s1 t1,.int n1 u1⟩:DictEntry),⟨aS1 w (Sum.inr s2),.str s2 t2,.int n2 u2⟩,⟨aS1 w (Sum.inr s3),.str s3 t3,.int n3 u3⟩]:=by simpa using he
  rcases List.mem_cons.mp he with rfl | he
  ·exact ⟨Sum.inr s1,aDk s1 t1,rfl⟩
  rcases List.mem_cons.mp he with rfl | he
  ·exact ⟨Sum.inr s2,aDk s2 t2,rfl⟩
  ·rw [List.mem_singleton.mp he]
   exact ⟨Sum.inr s3,aDk s3 t3,rfl⟩
 ·exact .cons (kv:=(Sum.inr s1,.int n1 u1)) (aDk s1 t1) rfl (.cons (kv:=(Sum.inr s2,.int n2 u2)) (aDk s2 t2) rfl (.cons (kv:=(Sum.inr s3,.int n3 u3)) (aDk s3 t3) rfl .nil))
noncomputable def kiK (kvs:List (Key×V)) (Q:VK):VK:=fun y H2=>∃ k,y=kV k/\Q (.bl (aD2 kvs k).isSome) H2
theorem r_kin {kvs:List (Key×V)} {ty:TE} {σ:St} {H:Hp} {Q:VK} (k:ty σ H (kiK kvs Q)):tKIn kvs ty σ H Q:=k
theorem r_kiS {kvs:List (Key×V)} {H:Hp} {Q:VK} {s:Str} {b:Bool} (e:(aD2 kvs (Sum.inr s)).isSome=b) (k:Q (.bl b) H):kiK kvs Q (.str s) H:=⟨Sum.inr s,rfl,by rw [e]; exact k⟩
end L2
namespace Lw
open PySem L2
set_option compiler.extract_closed false
set_option hygiene false
local macro_rules | `(tactic| walk_at "st") => `(tactic| first
  | with_reducible assumption
  | ((with_reducible refine St3.new ?_ ?hn); (case hn => with_reducible assumption); walk_at "st"))
local macro_rules | `(tactic| walk_at "kp") => `(tactic| first
  | with_reducible assumption
  | with_reducible exact Kp.refl _ _
  | ((with_reducible refine Kp.trans ?_ (Kp.new ?hn)); (case hn => with_reducible assumption); walk_at "kp"))
local macro_rules | `(tactic| walk_at "sm") => `(tactic| first
  | with_reducible assumption
  | with_reducible exact aAn.refl _
  | ((with_reducible refine aAn.trans ?_ (aAn.new ?hn)); (case hn => with_reducible assumption); walk_at "sm"))
local macro_rules | `(tactic| walk_at "hp") => `(tactic| first
  | with_reducible assumption
  | with_reducible exact aAe
  | ((with_reducible refine aFz ?hn ?_); (case hn => with_reducible assumption); walk_at "hp")
  | ((with_reducible refine upd_not ?hn ?_); (case hn => first | with_reducible assumption | (refine Ne.symm ?_; with_reducible assumption)); walk_at "hp")
  | ((with_reducible refine aAn.app ?hn ?_); (case hn => with_reducible assumption); walk_at "hp")
  | ((with_reducible refine Kp.app ?hk ?hn ?_); (case hk => with_reducible assumption); (case hn => first | with_reducible assumption | (refine Ne.symm ?_; with_reducible assumption)); walk_at "hp"))
local macro_rules | `(tactic| walk_at "tk") => `(tactic| first
  | with_reducible exact TK.refl _
  | with_reducible assumption
  | ((with_reducible refine TK.trans ?_ (TK.new ?hn)); (case hn => with_reducible assumption); walk_at "tk")
  | ((with_reducible refine TK.trans ?_ (TK.lst ?hn)); (case hn => walk_at "hp"); walk_at "tk")
  | ((with_reducible refine TK.trans ?_ (TK.dic ?hn)); (case hn => walk_at "hp"); walk_at "tk")
  | ((with_reducible refine TK.trans ?_ (TK.frz ?hn)); (case hn => walk_at "hp"); walk_at "tk")
  | ((with_reducible refine TK.trans ?_ TK.melt); walk_at "tk")
  | ((with_reducible refine TK.trans ?_ (aAn.tk ?hn)); (case hn => with_reducible assumption); walk_at "tk")
  | ((with_reducible refine TK.trans ?_ (St3.tk ?hs ?hn)); (case hn => with_reducible assumption); (case hs => with_reducible assumption); walk_at "tk"))
local macro_rules | `(tactic| walk_at "fq") => `(tactic| first
  | with_reducible assumption
  | ((with_reducible refine FrQ.tk ?fa ?ft); (case fa => with_reducible assumption); (case ft => walk_at "tk")))
local macro_rules | `(tactic| walk_at "go1") => `(tactic| first
  | with_reducible refine aZf ?_
  | ((with_reducible refine r_nxD ?_); (with_reducible refine r_nx ?_))
  | ((with_reducible refine r_rtD ?_); (with_reducible refine r_rt ?_))
  | ((with_reducible refine r_bkD ?_); (with_reducible refine r_bk ?_))
  | ((with_reducible refine r_ctD ?_); (with_reducible refine r_ct ?_))
  | with_reducible refine r_asg ?_
  | with_reducible refine aWe ?_
  | ((with_reducible refine' r_var ?rv ?_); case rv => exact rfl)
  | with_reducible refine r_c ?_
  | with_reducible refine r_op ?_
  | with_reducible refine r_un ?_
  | with_reducible refine r_I0 ?_
  | with_reducible refine r_U ?_
  | with_reducible refine a_int ?_
  | with_reducible refine r_sl ?_
  | with_reducible refine aZi ?_
  | with_reducible refine aV7 ?_
  | with_reducible refine aTk ?_
  | ((with_reducible refine r_mod ?mc ?_); case mc => first | decide | omega)
  | ((with_reducible refine aZo ?mc ?_); case mc => first | decide | omega)
  | ((with_reducible refine aV8 ?mc ?_); case mc => first | exact aEj.r (by decide) (by decide) | exact aEj.l (by decide) (by decide) | exact aEj.l (by omega) (by omega) | exact aEj.r (by omega) (by omega))
  | ((with_reducible refine aQm ?mc ?_); case mc => first | exact aL0.of (by decide) (by decide) | exact aL0.of (by omega) (by omega))
  | with_reducible refine aV6 ?_
  | with_reducible refine r_pow9 ?_
  | with_reducible refine aZc ?_
  | with_reducible refine r_tB ?_
  | with_reducible refine r_bK ?_
  | with_reducible refine r_ifS ?_
  | with_reducible refine r_if ?_
  | with_reducible refine r_and ?_
  | with_reducible refine r_or ?_
  | with_reducible refine r_not ?_
  | with_reducible refine bAc ?_
  | with_reducible refine r_orV ?_
  | with_reducible refine aZk ?_
  | with_reducible refine bAd ?_
  | with_reducible refine r_orK ?_
  | with_reducible refine aZl ?_
  | with_reducible refine r_ret ?_
  | with_reducible refine r_retN ?_
  | with_reducible refine aZn ?_
  | with_reducible refine aZz ?_
  | with_reducible refine r_nil ?_
  | with_reducible refine aZ3 ?_
  | with_reducible refine r_tup ?_
  | with_reducible refine r_lst ?_
  | with_reducible refine aZ9 ?_
  | with_reducible refine r_callD ?_
  | with_reducible refine r_callK ?_
  | with_reducible refine r_lrng ?_
  | with_reducible refine aZw ?_
  | with_reducible refine r_rngD ?_
  | with_reducible refine r_CB ?_
  | with_reducible refine aZ2 ?_
  | with_reducible refine r_din ?_
  | with_reducible refine aZ1 ?_
  | with_reducible refine aZ0 ?_
  | with_reducible refine r_dget1 ?_
  | with_reducible refine aWg ?_
  | with_reducible refine r_dpop1 ?_
  | with_reducible refine r_bm ?_
  | with_reducible refine r_bm0 ?_
  | with_reducible refine r_bmS ?_
  | with_reducible refine aWf ?_
  | with_reducible refine aZx ?_
  | with_reducible refine aWb ?_
  | with_reducible refine r_tru ?_
  | with_reducible refine r_orT ?_
  | with_reducible refine r_cont ?_
  | with_reducible refine r_break ?_
  | with_reducible refine aZr ?_
  | with_reducible refine aZs ?_
  | with_reducible refine r_isNs ?_
  | with_reducible refine r_isNi ?_
  | with_reducible refine r_isNk ?_
  | with_reducible refine aZm ?_
  | with_reducible refine r_noNn ?_
  | with_reducible refine r_noNs ?_
  | ((with_reducible refine' r_bmL ?ih ?_); (case ih => walk_at "hp"))
  | ((with_reducible refine' r_bmD ?ih ?_); (case ih => walk_at "hp"))
  | ((with_reducible refine' r_bm0D ?ih ?_); (case ih => walk_at "hp"))
  | ((with_reducible refine' aWd ?ih ?_); (case ih => walk_at "hp"))
  | ((with_reducible refine' aWc ?ih ?_); (case ih => walk_at "hp"))
  | ((with_reducible refine' r_gtup4 ?ih ?_); (case ih => walk_at "hp"))
  | with_reducible refine r_par ?_
  | with_reducible refine aZj ?_
  | with_reducible refine e_int ?_
  | with_reducible refine n_int ?_
  | with_reducible refine e_bl ?_
  | with_reducible refine n_bl ?_
  | with_reducible refine aXt ?_
  | with_reducible refine aW7 ?_
  | with_reducible refine r_isB ?_
  | with_reducible refine r_isNB ?_
  | with_reducible refine r_gsub ?_
  | with_reducible refine r_abs ?_
  | with_reducible refine r_max ?_
  | with_reducible refine r_min ?_
  | with_reducible refine aZt ?_
  | with_reducible refine r_for ?_
  | with_reducible refine aZ4 ?_
  | with_reducible refine aZh ?_
  | with_reducible refine aZg ?_
  | with_reducible refine aWa ?_
  | ((with_reducible refine' aZp ?ih ?_); (case ih => walk_at "hp"))
  | ((with_reducible refine' aU5 ?ih ?_); (case ih => walk_at "hp"))
  | ((with_reducible refine' aOu ?ih ?ie ?_); (case ih => walk_at "hp"); (case ie => exact rfl))
  | ((with_reducible refine' aC3 ?ih ?ie ?_); (case ih => walk_at "hp"); (case ie => exact rfl))
  | with_reducible refine r_dmN ?_
  | with_reducible refine r_dmR ?_
  | with_reducible refine i_sN ?_
  | with_reducible refine i_sS ?_
  | with_reducible refine i_T ?_
  | with_reducible refine i_F ?_
  | with_reducible refine bBp ?_
  | ((with_reducible refine i_dT ?dc ?_); case dc => omega)
  | ((with_reducible refine i_dF ?dc ?_); case dc => omega))
local macro_rules | `(tactic| walk_at "go") => `(tactic| repeat (walk_at "go1"))
local macro_rules | `(tactic| walk_at "gos") => `(tactic| repeat ((fail_if_success (with_reducible refine aZf ?_)); walk_at "go1"))
set_option hygiene true
local macro_rules | `(tactic| walk_at "go1") => `(tactic| first
  | with_reducible refine r_try ?_
  | with_reducible refine r_xdrop ?_
  | with_reducible refine aZb ?_
  | with_reducible refine r_xret ?_
  | with_reducible refine aWk ?_
  | with_reducible refine r_callXD ?_
  | with_reducible refine r_callH ?_
  | with_reducible refine aV5 ?_
  | with_reducible refine r_rng1H ?_)
theorem aA4 {CX:CXT} {P:Program} {w:World} {K:PySem.W.Frag} {mg:Str->Option Value} {base:Heap} {N:List Str} {qual:Str} {scope:Scope} {f:Addr} {cd:Value} {A:Around} {outer:List Env} {s:Shared} {H:Hp} {E:XK}:(aPl CX P w K mg base N qual scope f cd A outer s H E).K=K:=rfl
theorem aAz {X:Cx}:X.nox.K=X.K:=rfl
theorem el_n {P:List Value->Prop} (h:P []):∀ us:List Value,us.length=0->P us:=fun us e=>(List.length_eq_zero_iff.mp e).symm ▸ h
theorem aYe {n:Nat} {P:List Value->Prop} (h:∀ a us,us.length=n->P (a::us)):∀ us:List Value,us.length=n+1->P us:=fun us=>List.casesOn (motive:=fun us=>us.length=n+1->P us) us (fun e=>absurd e (Nat.succ_ne_zero n).symm) fun a us e=>h a us (Nat.succ.inj e)
theorem aKa {P:List Value->Prop} (h:∀ a0,P [a0]):∀ us:List Value,us.length=1->P us:=aYe fun a0=>el_n (h a0)
theorem aJ9 {P:List Value->Prop} (h:∀ a0 a1,P [a0,a1]):∀ us:List Value,us.length=2->P us:=aYe fun a0=>aYe fun a1=>el_n (h a0 a1)
theorem el_3 {P:List Value->Prop} (h:∀ a0 a1 a2,P [a0,a1,a2]):∀ us:List Value,us.length=3->P us:=aYe fun a0=>aYe fun a1=>aYe fun a2=>el_n (h a0 a1 a2)
noncomputable def top (i:Nat):Stmt:=PySem.Challenge.pw_tilefall_k75_pieces_within_pieces.main.body.getD i (.Pass ⟨0,0,0,0⟩)
local macro_rules | `(tactic| walk_at "go1") => `(tactic| first
  | with_reducible refine aWj ?_
  | with_reducible refine aZ8 ?_
  | with_reducible refine aZ7 ?_
  | with_reducible refine aZ6 ?_
  | with_reducible refine aZ5 ?_
  | with_reducible refine aZu ?_
  | with_reducible refine aTl ?_)
local macro_rules | `(tactic| walk_at "go1") => `(tactic| first
  | with_reducible refine r_jn ?_
  | with_reducible refine r_fmt ?_
  | with_reducible refine r_jn0 ?_
  | ((with_reducible refine r_jnK ?jy ?_); case jy => first | omega | decide +kernel))
noncomputable def runT (r:aD3):Prop:=aB8 r.1/\aB8 r.2.1/\r.1≠r.2.1/\0 < r.2.2.num/\r.2.2.num<=100/\r.2.2.den<=100
theorem aY4 {K:PySem.W.Frag} {H:Hp} {v:V} {r:aD3} (h:aCg H v (Sum.inr r.1,Sum.inr r.2.1,r.2.2)) (t:runT r):aB6 K H v true:=by
 obtain ⟨p,u,rfl,hp,pt,rfl,hpt⟩:=h
 obtain ⟨h1,h2,h3,h4,h5,h6⟩:=t
 have hd:=r.2.2.den_pos
 have m1:Sm 8000 r.2.2.num:=(Sm.of (n:=64) (by omega) (by omega)).mono (by decide)
 have m2:Sm 8000 (r.2.2.den:Int):=(Sm.of (n:=64) (by omega) (by omega)).mono (by decide)
 have:=aB6.run (K:=K) hp h1.q h2.q h3 hpt (aR0 _) m1 m2
 rw [decide_eq_true h4] at this
 exact this
theorem aTg {K:PySem.W.Frag} {H:Hp}:∀ {n:List aD3} {vs:List V},Paired (aCg H) vs (kn n)->(∀ r∈n,runT r)->Paired (aB6 K H) vs (List.replicate n.length true)
 | [],_,.nil,_=>.nil
 | r::n,_,.cons h t,hr=>.cons (aY4 h (hr r (by simp))) (aTg t fun x hx=>hr x (List.mem_cons_of_mem _ hx))
noncomputable def bCi (K:PySem.W.Frag) (H:Hp) (v:V):Prop:=(∃ l vs bs,v=.ref l/\H l=some (.lst vs)/\Paired (aB6 K H) vs bs/\vs.length<=900/\(vs.length=0∨120 < vs.length∨false∈bs))∨NL K H v
theorem aSd {G:Hp}:∀ ys:List Str,aKh G (ys.map Dt.str) (ys.map V.str)
 | []=>rfl
 | y::r=>⟨_,_,rfl,rfl,aSd r⟩
theorem aSc:∀ ys:List Str,aH1 (ys.map Dt.str)<=50
 | []=>by simp [aH1]
 | y::r=>by
  have:=aSc r
  rw [List.map_cons]
  simp only [aH1,dep]
  omega
local macro_rules | `(tactic| walk_at "go1") => `(tactic| first
  | rw [if_pos (show (_ == _) = true by decide +kernel)]
  | rw [if_neg (show ¬ (_ == _) = true by decide +kernel)]
  | with_reducible refine r_iEnumT ?_)
local macro_rules | `(tactic| walk_at "go1") => `(tactic| first
  | with_reducible refine r_jx ?_
  | with_reducible refine r_jx0 ?_
  | with_reducible refine r_fms ?_
  | with_reducible refine r_bmu ?_
  | ((with_reducible refine' bAa ?ih ?_); (case ih => walk_at "hp")))
local macro_rules | `(tactic| walk_at "go1") => `(tactic| first
  | with_reducible refine r_kget ?_
  | with_reducible refine r_kin ?_)
structure XmS (mg:Str->Option Value) (xt x1 x4 x5:Addr):Prop where
 t:mg "TileError"=some (.ref xt)
 m_NoNet:mg "NoNet"=some (.ref x1)
 m_TooMany:mg "TooMany"=some (.ref x4)
 m_NoText:mg "NoText"=some (.ref x5)
 zV:mg "ValueError"=none
structure XrS (K:PySem.W.Frag) (xt x1 x4 x5 C:Addr) (i:Nat):Prop where
 x:aPh K C
 e:XrE K C
 v:PySem.W.kitOne K (.ref C) (.type "ValueError")=some true
 t:PySem.W.exmOne K (.ref C) (.ref xt)=some true
 k1:PySem.W.kitOne K (.ref C) (.ref x1)=some (Nat.beq 1 i)
 k4:PySem.W.kitOne K (.ref C) (.ref x4)=some (Nat.beq 4 i)
 k5:PySem.W.kitOne K (.ref C) (.ref x5)=some (Nat.beq 5 i)
noncomputable abbrev aC9:Stmt:=top 6
theorem aMf:aAv ["thing"] ["thing"] (aAf aC9):=⟨rfl,rfl,rfl,by decide +kernel,rfl,by decide +kernel,by decide +kernel⟩
noncomputable abbrev aBd:Stmt:=top 7
theorem aB1:aAv ["one","other","rest"] ["one","other"] (aAf aBd):=⟨rfl,rfl,rfl,by decide +kernel,rfl,by decide +kernel,by decide +kernel⟩
noncomputable abbrev aB2:Stmt:=top 8
theorem aH5:aAv ["thing"] ["thing"] (aAf aB2):=⟨rfl,rfl,rfl,by decide +kernel,rfl,by decide +kernel,by decide +kernel⟩
noncomputable abbrev aDx:Stmt:=top 9
theorem aOr:aAv ["one","other"] ["one","other"] (aAf aDx):=⟨rfl,rfl,rfl,by decide +kernel,rfl,by decide +kernel,by decide +kernel⟩
noncomputable abbrev aDf:Stmt:=top 15
theorem aOq:aAv ["text"] ["text"] (aAf aDf):=⟨rfl,rfl,rfl,by decide +kernel,rfl,by decide +kernel,by decide +kernel⟩
noncomputable abbrev aDe:Stmt:=top 16
theorem aIm:aAv ["thing","parts"] ["thing"] (aAf aDe):=⟨rfl,rfl,rfl,by decide +kernel,rfl,by decide +kernel,by decide +kernel⟩
noncomputable abbrev aEr:Stmt:=top 17
theorem aQf:aAv ["thing"] ["thing"] (aAf aEr):=⟨rfl,rfl,rfl,by decide +kernel,rfl,by decide +kernel,by decide +kernel⟩
noncomputable abbrev aEp:Stmt:=top 18
theorem aHl:aAv ["runs","number","run"] ["runs"] (aAf aEp):=⟨rfl,rfl,rfl,by decide +kernel,rfl,by decide +kernel,by decide +kernel⟩
noncomputable abbrev aDa:Stmt:=top 20
theorem aMg:aAv ["row","counts"] ["row","counts"] (aAf aDa):=⟨rfl,rfl,rfl,by decide +kernel,rfl,by decide +kernel,by decide +kernel⟩
noncomputable abbrev aDg:Stmt:=top 21
theorem aDu:aAv ["rows","count","counts","row"] ["rows"] (aAf aDg):=⟨rfl,rfl,rfl,by decide +kernel,rfl,by decide +kernel,by decide +kernel⟩
noncomputable abbrev aC8:Stmt:=top 23
theorem aMe:aAv ["post","names","called"] ["post","names","called"] (aAf aC8):=⟨rfl,rfl,rfl,by decide +kernel,rfl,by decide +kernel,by decide +kernel⟩
noncomputable abbrev aDw:Stmt:=top 25
theorem aOp:aAv ["row","pieces"] ["row","pieces"] (aAf aDw):=⟨rfl,rfl,rfl,by decide +kernel,rfl,by decide +kernel,by decide +kernel⟩
noncomputable abbrev aCr:Stmt:=top 24
theorem aBm:aAv ["row","pieces","piece","names","runs","inner","one","other","time"] ["row","pieces"] (aAf aCr):=⟨rfl,rfl,rfl,by decide +kernel,rfl,by decide +kernel,by decide +kernel⟩
noncomputable abbrev aEn:Stmt:=top 26
theorem aFg:aAv ["rows","pieces","runs","row"] ["rows"] (aAf aEn):=⟨rfl,rfl,rfl,by decide +kernel,rfl,by decide +kernel,by decide +kernel⟩
noncomputable abbrev aBy:Stmt:=top 30
theorem aJg:aAv ["word","most"] ["word","most"] (aAf aBy):=⟨rfl,rfl,rfl,by decide +kernel,rfl,by decide +kernel,by decide +kernel⟩
noncomputable abbrev aCd:Stmt:=top 31
theorem aEe:aAv ["word","parts","time"] ["word"] (aAf aCd):=⟨rfl,rfl,rfl,by decide +kernel,rfl,by decide +kernel,by decide +kernel⟩
noncomputable abbrev aBh:Stmt:=top 36
theorem aGl:aAv ["holds","words","row"] ["holds","words"] (aAf aBh):=⟨rfl,rfl,rfl,by decide +kernel,rfl,by decide +kernel,by decide +kernel⟩
noncomputable abbrev aCu:Stmt:=top 37
theorem aMd:aAv ["words","told"] ["words","told"] (aAf aCu):=⟨rfl,rfl,rfl,by decide +kernel,rfl,by decide +kernel,by decide +kernel⟩
noncomputable abbrev aDv:Stmt:=top 38
theorem aIl:aAv ["words","word","time"] ["words","word"] (aAf aDv):=⟨rfl,rfl,rfl,by decide +kernel,rfl,by decide +kernel,by decide +kernel⟩
noncomputable abbrev aEl:Stmt:=top 39
theorem aK0:aAv ["words","posts"] ["words"] (aAf aEl):=⟨rfl,rfl,rfl,by decide +kernel,rfl,by decide +kernel,by decide +kernel⟩
noncomputable abbrev aEm:Stmt:=top 41
theorem aQe:aAv ["words","counts"] ["words","counts"] (aAf aEm):=⟨rfl,rfl,rfl,by decide +kernel,rfl,by decide +kernel,by decide +kernel⟩
noncomputable abbrev aBs:Stmt:=top 42
theorem aHk:aAv ["words","counts"] ["words","counts"] (aAf aBs):=⟨rfl,rfl,rfl,by decide +kernel,rfl,by decide +kernel,by decide +kernel⟩
noncomputable abbrev aCh:Stmt:=top 43
theorem aE1:aAv ["lines","counts","words","params"] ["lines","counts"] (aAf aCh):=⟨rfl,rfl,rfl,by decide +kernel,rfl,by decide +kernel,by decide +kernel⟩
noncomputable abbrev aCi:Stmt:=top 44
theorem aFk:aAv ["lines","place","later"] ["lines","place"] (aAf aCi):=⟨rfl,rfl,rfl,by decide +kernel,rfl,by decide +kernel,by decide +kernel⟩
noncomputable abbrev aCv:Stmt:=top 45
theorem aHm:aAv ["text","lines"] ["text"] (aAf aCv):=⟨rfl,rfl,rfl,by decide +kernel,rfl,by decide +kernel,by decide +kernel⟩
noncomputable abbrev aCt:Stmt:=top 46
theorem aBe:aAv ["text","lines","rows","counts","place","end","piece"] ["text"] (aAf aCt):=⟨rfl,rfl,rfl,by decide +kernel,rfl,by decide +kernel,by decide +kernel⟩
noncomputable abbrev aDy:Stmt:=top 48
theorem aOs:aAv ["_law_script","_law_k"] ["_law_script","_law_k"] (aAf aDy):=⟨rfl,rfl,rfl,by decide +kernel,rfl,by decide +kernel,by decide +kernel⟩
noncomputable abbrev aEo:Stmt:=top 49
theorem aDt:aAv ["_law_script","_law_k","_law_cell","_law_one","_law_two","_law_three","_law_number_here"] ["_law_script","_law_k"] (aAf aEo):=⟨rfl,rfl,rfl,by decide +kernel,rfl,by decide +kernel,by decide +kernel⟩
noncomputable abbrev aEq:Stmt:=top 50
theorem aFi:aAv ["_law_top","_law_bottom","_law_one","_law_other"] ["_law_top","_law_bottom"] (aAf aEq):=⟨rfl,rfl,rfl,by decide +kernel,rfl,by decide +kernel,by decide +kernel⟩
noncomputable abbrev aE2:Stmt:=top 51
theorem aFh:aAv ["_law_script","_law_letters","_law_number_here","_law_before","_law_behind"] ["_law_script"] (aAf aE2):=⟨rfl,rfl,rfl,by decide +kernel,rfl,by decide +kernel,by decide +kernel⟩
noncomputable abbrev aIo:Stmt:=top 53
theorem aJe:aAv ["_law_number_here","_law_most","_law_bottom"] ["_law_number_here"] (aAf aIo):=⟨rfl,rfl,rfl,by decide +kernel,rfl,by decide +kernel,by decide +kernel⟩
noncomputable abbrev aCq:Stmt:=top 60
theorem aKz:aAv ["_law_time_here"] ["_law_time_here"] (aAf aCq):=⟨rfl,rfl,rfl,by decide +kernel,rfl,by decide +kernel,by decide +kernel⟩
noncomputable abbrev aCc:Stmt:=top 61
theorem aC2:aAv ["_law_row_here","_law_texts","_law_one"] ["_law_row_here"] (aAf aCc):=⟨rfl,rfl,rfl,by decide +kernel,rfl,by decide +kernel,by decide +kernel⟩
noncomputable abbrev aIp:Stmt:=top 62
theorem aJf:aAv ["_law_rows","_law_texts","_law_row_here"] ["_law_rows"] (aAf aIp):=⟨rfl,rfl,rfl,by decide +kernel,rfl,by decide +kernel,by decide +kernel⟩
noncomputable abbrev aEs:Stmt:=top 63
theorem aQh:aAv ["_law_name","_law_row_here","_law_params"] ["_law_name","_law_row_here","_law_params"] (aAf aEs):=⟨rfl,rfl,rfl,by decide +kernel,rfl,by decide +kernel,by decide +kernel⟩
noncomputable abbrev aCs:Stmt:=top 64
theorem aE0:aAv ["_law_row_here","_law_pieces","_law_params","_law_inner","_law_posts_here","_law_found","_law_k"] ["_law_row_here","_law_pieces"] (aAf aCs):=⟨rfl,rfl,rfl,by decide +kernel,rfl,by decide +kernel,by decide +kernel⟩
noncomputable abbrev aHn:Stmt:=top 65
theorem aEd:aAv ["_law_rows","_law_pieces","_law_found","_law_row_here"] ["_law_rows","_law_pieces"] (aAf aHn):=⟨rfl,rfl,rfl,by decide +kernel,rfl,by decide +kernel,by decide +kernel⟩
noncomputable abbrev aMh:Stmt:=top 66
theorem aQg:aAv ["_law_rows","_law_found","_law_bad"] ["_law_rows"] (aAf aMh):=⟨rfl,rfl,rfl,by decide +kernel,rfl,by decide +kernel,by decide +kernel⟩
noncomputable abbrev aIn:Stmt:=top 67
theorem aF1:aAv ["_law_rows","_law_found","_law_told_here","e"] ["_law_rows"] (aAf aIn):=⟨rfl,rfl,rfl,by decide +kernel,rfl,by decide +kernel,by decide +kernel⟩
noncomputable abbrev aF3:Stmt:=top 68
theorem aGz:aAv ["_law_number_here","_law_names_here","_law_params","_law_inner"] ["_law_number_here","_law_names_here"] (aAf aF3):=⟨rfl,rfl,rfl,by decide +kernel,rfl,by decide +kernel,by decide +kernel⟩
noncomputable abbrev aF2:Stmt:=top 69
theorem aD6:aAv ["_law_number_here","_law_k","_law_names_here","_law_some","_law_j","_law_ends","_law_back"] ["_law_number_here","_law_k","_law_names_here"] (aAf aF2):=⟨rfl,rfl,rfl,by decide +kernel,rfl,by decide +kernel,by decide +kernel⟩
noncomputable abbrev aH6:Stmt:=top 70
theorem aFj:aAv ["_law_script","_law_names_here","_law_number_here","_law_rows","_law_many","_law_k","_law_last","_law_j","_law_due_here"] ["_law_script"] (aAf aH6):=⟨rfl,rfl,rfl,by decide +kernel,rfl,by decide +kernel,by decide +kernel⟩
inductive aKm (K:PySem.W.Frag) (vs:List V) (H:Hp) (Q:VK) (EE:XK):Prop
 | mk (x:V) (t:Value) (b c:Bool) (h0':vs=[x]) (h1':aG7 K H x t) (h2':PySem.W.kitOne K t (.type "int")=some b) (h3':PySem.W.kitOne K t (.type "bool")=some c) (h4':Q (.bl (b&&!c)) H):aKm K vs H Q EE
noncomputable def aL5 (K:PySem.W.Frag):Sp:=fun vs H Q EE=>aKm K vs H Q EE
inductive aP6 (vs:List V) (H:Hp) (Q:VK) (EE:XK):Prop
 | mk (a b:Int) (h0':vs=[.int a,.int b]) (h1':Q (.int (Int.gcd a b:Int)) H):aP6 vs H Q EE
noncomputable def aVz:Sp:=fun vs H Q EE=>aP6 vs H Q EE
inductive aIi (K:PySem.W.Frag) (vs:List V) (H:Hp) (Q:VK) (EE:XK):Prop
 | mk (x:V) (r:Bool) (h0':vs=[x]) (h1':Frq K H x r) (h2':Q (.bl r) H):aIi K vs H Q EE
noncomputable def aGy (K:PySem.W.Frag):Sp:=fun vs H Q EE=>aIi K vs H Q EE
inductive aNq (vs:List V) (H:Hp) (Q:VK) (EE:XK):Prop
 | mk (x y:V) (a b c d:Int) (h0':vs=[x,y]) (h1':Fr2 H x a b) (h2':Fr2 H y c d) (h3':aEj a d) (h4':aEj c b) (h5':Q (.bl (decide (a * d < c * b))) H):aNq vs H Q EE
noncomputable def aP4:Sp:=fun vs H Q EE=>aNq vs H Q EE
inductive aNn (vs:List V) (H:Hp) (Q:VK) (EE:XK):Prop
 | mk (z:Str) (h0':vs=[.str z]) (h1':z.length<=1000) (h2':∀ H',aAn H H'->Q (.bl (aBx z)) H'):aNn vs H Q EE
noncomputable def aKr:Sp:=fun vs H Q EE=>aNn vs H Q EE
inductive aNl (K:PySem.W.Frag) (vs:List V) (H:Hp) (Q:VK) (EE:XK):Prop
 | mk (x:V) (b:Bool) (h0':vs=[x]) (h1':aE7 K H x b) (h2':∀ H',aAn H H'->Q (.bl b) H'):aNl K vs H Q EE
noncomputable def aNm (K:PySem.W.Frag):Sp:=fun vs H Q EE=>aNl K vs H Q EE
inductive aKt (K:PySem.W.Frag) (vs:List V) (H:Hp) (Q:VK) (EE:XK):Prop
 | mk (x:V) (b:Bool) (h0':vs=[x]) (h1':aB6 K H x b) (h2':∀ H',aAn H H'->Q (.bl b) H'):aKt K vs H Q EE
noncomputable def aL9 (K:PySem.W.Frag):Sp:=fun vs H Q EE=>aKt K vs H Q EE
inductive aKs (K:PySem.W.Frag) (x:Addr) (vs:List V) (H:Hp) (Q:VK) (E:XK):Prop
 | mk (v:V) (h0':vs=[v]) (h1':((∃ l vs' bs,v=.ref l/\H l=some (.lst vs')/\Paired (aB6 K H) vs' bs/\1<=vs'.length/\vs'.length<=120/\(∀ b∈bs,b=true)/\∀ l' H',H l'=none->aAn H H'->H' l'=some (.lst vs')->Q (.ref l') H')∨(bCi K H v/\∀ H',aAn H H'->E (.ref x) none H'))):aKs K x vs H Q E
noncomputable def aP3 (K:PySem.W.Frag) (x:Addr):Sp:=fun vs H Q E=>aKs K x vs H Q E
inductive aKw (vs:List V) (H:Hp) (Q:VK) (EE:XK):Prop
 | mk (v:V) (d:Addr) (E:List aAu) (r:aE8) (h0':vs=[v,.ref d]) (h1':aBz H v r) (h2':aVr H d E) (h3':WfE E) (h4':WfT E r) (h5':Q (.int ((aAy E r).length:Int)) H):aKw vs H Q EE
noncomputable def aMc:Sp:=fun vs H Q EE=>aKw vs H Q EE
inductive aFf (K:PySem.W.Frag) (vs:List V) (H:Hp) (Q:VK) (EE:XK):Prop
 | mk (l:Addr) (gs:List aDc) (h0':vs=[.ref l]) (h1':GsQ H l gs) (h2':aGc gs) (h3':∀ H',aAn H H'->Q (.int ((goG [] gs).length:Int)) H'):aFf K vs H Q EE
noncomputable def aEz (K:PySem.W.Frag):Sp:=fun vs H Q EE=>aFf K vs H Q EE
inductive aHg (vs:List V) (H:Hp) (Q:VK) (EE:XK):Prop
 | mk (x cl:Str) (d:Addr) (ps as:List Str) (h0':vs=[.str x,.ref d,.str cl]) (h1':H d=some (.dK ((ps.map Sum.inr).zip (as.map V.str)))) (h2':x.length<=1000) (h3':cl.length<=1000) (h4':Q (.str (aCn ps as cl x)) H):aHg vs H Q EE
noncomputable def aHh:Sp:=fun vs H Q EE=>aHg vs H Q EE
noncomputable def aFb (K:PySem.W.Frag) (dd:Nat):Sp:=fun vs H Q _=>∃ (v:V) (d:Addr) (E:List aAu) (nm cl:Str) (as:List Str),vs=[v,.ref d]/\aBz H v (.put nm cl as)/\aUr H d E/\(WfE E/\E.length<=60)/\WfT E (.put nm cl as)/\rkE E (.put nm cl as)<=dd/\(aAy E (.put nm cl as)).length<=120/\∀ l H',H l=none->aAn H H'->LQ aCg H' l (kn (aAy E (.put nm cl as)))->Q (.ref l) H'
inductive aGd (K:PySem.W.Frag) (dd:Nat) (vs:List V) (H:Hp) (Q:VK) (EE:XK):Prop
 | mk (v:V) (d:Addr) (E:List aAu) (r:aE8) (h0':vs=[v,.ref d]) (h1':aBz H v r) (h2':aUr H d E) (h3':(WfE E/\E.length<=60)) (h4':WfT E r) (h5':rkE E r<=dd) (h6':(aAy E r).length<=120) (h7':∀ l H',H l=none->aAn H H'->LQ aCg H' l (kn (aAy E r))->Q (.ref l) H'):aGd K dd vs H Q EE
noncomputable def aDs (K:PySem.W.Frag) (dd:Nat):Sp:=fun vs H Q EE=>aGd K dd vs H Q EE
theorem aTq {P:Program} {w:World} {K:PySem.W.Frag} {mg:Str->Option Value} {base:Heap} {k:Nat} (d:Df K mg "runs_put" aCr ["row","pieces"]):Okf P w K mg base (k+1) "runs_put" ["row","pieces"] (aFb K 0):=by
 have no:∀ {vs H Q E},aFb K 0 vs H Q E->False:=fun {vs H Q E} h=>by
  obtain ⟨v,d,E,nm,cl,as,_,_,_,⟨hE,_⟩,⟨_,_,_,x,hx,rfl,_⟩,hrk,_⟩:=h
  obtain ⟨_,h2⟩:=hE.put hx cl as
  obtain ⟨h3,_⟩:=hE.at hx
  cases e:x.2.2 with
  | nil=>exact h3 e
  | cons r rs =>
   have:=h2 r (by rw [e]; simp)
   omega
 exact Okf.of d aBm (fun vs H Q E h=>(no h).elim) (fun f cdv A outer s H vs Q E hr h=>(no h).elim)
inductive aGg (x1 x4:Addr) (vs:List V) (H:Hp) (Q:VK) (E:XK):Prop
 | mk (l:Addr) (gs:List aDc) (h0':vs=[.ref l]) (h1':GsQ H l gs) (h2':aGc gs) (h3':(120 < (goG [] gs).length->∀ H',aAn H H'->E (.ref x4) none H')) (h4':((goG [] gs).length<=120->aUt (goG [] gs)->∀ H',aAn H H'->E (.ref x1) none H')) (h5':((goG [] gs).length<=120->¬ aUt (goG [] gs)->∀ l' H',H l'=none->aAn H H'->LQ aCg H' l' (kn (goG [] gs))->Q (.ref l') H')):aGg x1 x4 vs H Q E
noncomputable def aIg (x1 x4:Addr):Sp:=fun vs H Q E=>aGg x1 x4 vs H Q E
inductive aNh (vs:List V) (H:Hp) (Q:VK) (EE:XK):Prop
 | mk (z:Str) (h0':vs=[.str z,.int 12]) (h1':aYh z) (h2':1<=z.length) (h3':z.length<=12) (h4':(∃ c r,z.cps.toList=c::r/\c≠48)) (h5':∀ H',aAn H H'->Q (.bl true) H'):aNh vs H Q EE
noncomputable def aP2:Sp:=fun vs H Q EE=>aNh vs H Q EE
inductive aKp (vs:List V) (H:Hp) (Q:VK) (EE:XK):Prop
 | mk (t:Rat) (h0':vs=[.str (tmS t)]) (h1':aLw t) (h2':∀ v H',aAn H H'->FrQ H' v t->Q v H'):aKp vs H Q EE
noncomputable def aL7:Sp:=fun vs H Q EE=>aKp vs H Q EE
inductive aNk (vs:List V) (H:Hp) (Q:VK) (EE:XK):Prop
 | mk (v:V) (h0':vs=[.bl true,v]) (h1':Q .non H):aNk vs H Q EE
noncomputable def aGe:Sp:=fun vs H Q EE=>aNk vs H Q EE
inductive aG8 (K:PySem.W.Frag) (vs:List V) (H:Hp) (Q:VK) (EE:XK):Prop
 | mk (v:V) (l:Addr) (ps:List Str) (h0':vs=[v,.ref l]) (h1':H l=some (.lst (ps.map V.str))) (h2':(∀ s∈ps,aB8 s)) (h3':ps.length<=100) (h4':∀ p H',aAn H H'->H' p=some (.tup (ps.map V.str))->Q (.ref p) H'):aG8 K vs H Q EE
noncomputable def aFd (K:PySem.W.Frag):Sp:=fun vs H Q EE=>aG8 K vs H Q EE
inductive aIc (vs:List V) (H:Hp) (Q:VK) (EE:XK):Prop
 | mk (v:V) (t:Rat) (h0':vs=[v,.str (tmS t)]) (h1':aLw t) (h2':∀ v H',aAn H H'->FrQ H' v t->Q v H'):aIc vs H Q EE
noncomputable def aI6:Sp:=fun vs H Q EE=>aIc vs H Q EE
inductive aKn (K:PySem.W.Frag) (vs:List V) (H:Hp) (Q:VK) (EE:XK):Prop
 | mk (l:Addr) (a b:Str) (t:Rat) (h0':vs=[.ref l]) (h1':H l=some (.lst ((wdsP (.run a b t)).map V.str))) (h2':aB8 a) (h3':aB8 b) (h4':aLw t) (h5':∀ v H',aAn H H'->aGs H' v (.run a b t)->Q v H'):aKn K vs H Q EE
noncomputable def aL6 (K:PySem.W.Frag):Sp:=fun vs H Q EE=>aKn K vs H Q EE
inductive aKq (K:PySem.W.Frag) (vs:List V) (H:Hp) (Q:VK) (EE:XK):Prop
 | mk (l d:Addr) (kd:List (Key×V)) (nm cl:Str) (as:List Str) (h0':vs=[.ref l,.ref d]) (h1':H l=some (.lst ((aE9 (.put nm cl as)).map V.str))) (h2':H d=some (.dK kd)) (h3':aD2 kd (Sum.inr nm)=some (.int (as.length:Int))) (h4':aBx cl=true) (h5':(∀ s∈as,aB8 s)) (h6':(1<=as.length/\as.length<=8)) (h7':∀ v H',aAn H H'->aBz H' v (.put nm cl as)->Q v H'):aKq K vs H Q EE
noncomputable def aL8 (K:PySem.W.Frag):Sp:=fun vs H Q EE=>aKq K vs H Q EE
inductive aG9 (K:PySem.W.Frag) (vs:List V) (H:Hp) (Q:VK) (EE:XK):Prop
 | mk (l d:Addr) (E:List aAu) (r:aE8) (h0':vs=[.ref l,.ref d]) (h1':H l=some (.lst ((aE9 r).map V.str))) (h2':CdQ H d E) (h3':WfT E r) (h4':∀ v H',aAn H H'->aBz H' v r->Q v H'):aG9 K vs H Q EE
noncomputable def aFe (K:PySem.W.Frag):Sp:=fun vs H Q EE=>aG9 K vs H Q EE
inductive aHa (K:PySem.W.Frag) (vs:List V) (H:Hp) (Q:VK) (EE:XK):Prop
 | mk (l d:Addr) (E:List aAu) (x:aAu) (h0':vs=[.ref l,.ref d]) (h1':LsQ H l (("piece"::x.1::x.2.1)::x.2.2.map aE9)) (h2':CdQ H d E) (h3':WfP E x) (h4':E.length<=60) (h5':∀ v H',aAn H H'->aDm H' v x->Q v H'):aHa K vs H Q EE
noncomputable def aHb (K:PySem.W.Frag):Sp:=fun vs H Q EE=>aHa K vs H Q EE
inductive aNr (K:PySem.W.Frag) (vs:List V) (H:Hp) (Q:VK) (EE:XK):Prop
 | mk (l:Addr) (ls:List (List Str)) (a b:Nat) (h0':vs=[.ref l,.int (a:Int)]) (h1':LsQ H l ls) (h2':ls.length<=60) (h3':a<=b) (h4':ls[b]?=some [("end":Str)]) (h5':(∀ j,a<=j->j < b->∀ ws,ls[j]?=some ws->ws≠[("end":Str)])) (h6':∀ H',aAn H H'->Q (.int (b:Int)) H'):aNr K vs H Q EE
noncomputable def aP7 (K:PySem.W.Frag):Sp:=fun vs H Q EE=>aNr K vs H Q EE
inductive aHi (K:PySem.W.Frag) (vs:List V) (H:Hp) (Q:VK) (EE:XK):Prop
 | mk (ls:List (List Str)) (h0':vs=[.str (aH3 ls)]) (h1':ls≠[]) (h2':ls.length<=60) (h3':(∀ ws∈ls,ws≠[]/\(∀ w∈ws,WdS w)/\(Str.join sp1 ws).length<=10000)) (h4':(aH3 ls).length<=1000000) (h5':∀ l H',aAn H H'->LsQ H' l ls->Q (.ref l) H'):aHi K vs H Q EE
noncomputable def aHj (K:PySem.W.Frag):Sp:=fun vs H Q EE=>aHi K vs H Q EE
inductive aGf (K:PySem.W.Frag) (vs:List V) (H:Hp) (Q:VK) (EE:XK):Prop
 | mk (gs:List aDc) (h0':vs=[.str (aH3 (gs.flatMap aAx))]) (h1':gs≠[]) (h2':aGc gs) (h3':lnN gs<=60) (h4':(aH3 (gs.flatMap aAx)).length<=1000000) (h5':∀ l H',H l=none->aAn H H'->GsQ H' l gs->Q (.ref l) H'):aGf K vs H Q EE
noncomputable def aF0 (K:PySem.W.Frag):Sp:=fun vs H Q EE=>aGf K vs H Q EE
inductive aNs (K:PySem.W.Frag) (vs:List V) (H:Hp) (Q:VK) (EE:XK):Prop
 | mk (a:Addr) (ns:List Int) (k:Int) (h0':vs=[.ref a,.int k]) (h1':SqL K H a (ns.map V.int)) (h2':0<=k) (h3':∀ r,Q (.int r) H):aNs K vs H Q EE
noncomputable def aP8 (K:PySem.W.Frag):Sp:=fun vs H Q EE=>aNs K vs H Q EE
inductive aNo (K:PySem.W.Frag) (vs:List V) (H:Hp) (Q:VK) (EE:XK):Prop
 | mk (a:Addr) (ns:List Int) (k:Int) (h0':vs=[.ref a,.int k]) (h1':SqL K H a (ns.map V.int)) (h2':0<=k) (h3':k<=1000) (h4':∀ r,0<=r->Q (.int r) H):aNo K vs H Q EE
noncomputable def aNp (K:PySem.W.Frag):Sp:=fun vs H Q EE=>aNo K vs H Q EE
inductive aIh (vs:List V) (H:Hp) (Q:VK) (EE:XK):Prop
 | mk (t b:Int) (h0':vs=[.int t,.int b]) (h1':0 < b) (h2':Sm 8000 t) (h3':Sm 8000 b) (h4':∀ p,H p=none->Q (.ref p) (upd H p (.tup [.int (aJ2 t b),.int (aIx t b)]))):aIh vs H Q EE
noncomputable def aJb:Sp:=fun vs H Q EE=>aIh vs H Q EE
inductive aHe (K:PySem.W.Frag) (vs:List V) (H:Hp) (Q:VK) (EE:XK):Prop
 | mk (a:Addr) (ns:List Int) (h0':vs=[.ref a]) (h1':SqL K H a (ns.map V.int)) (h2':∀ l H' (U:List Str),H l=none->aAn H H'->H' l=some (.lst (U.map V.str))->U.length=8->(∀ s∈U,aBx s=true)->U.Nodup->Q (.ref l) H'):aHe K vs H Q EE
noncomputable def aHf (K:PySem.W.Frag):Sp:=fun vs H Q EE=>aHe K vs H Q EE
theorem at3 {x0 x1 x2:Int} (P:Int->Prop) (h0:P x0) (h1:P x1) (h2:P x2) (i:Int) (l:0<=i) (u:i < 3):∃ t:Int,atI [V.int x0,V.int x1,V.int x2] i=some (.int t)/\P t:=by
 have:i=0∨i=1∨i=2:=by omega
 rcases this with rfl | rfl | rfl
 ·exact ⟨_,rfl,h0⟩
 ·exact ⟨_,rfl,h1⟩
 ·exact ⟨_,rfl,h2⟩
inductive aId (vs:List V) (H:Hp) (Q:VK) (EE:XK):Prop
 | mk (c:Int) (h0':vs=[.int c]) (h1':0<=c) (h2':∀ v q H',aAn H H'->FrQ H' v q->aLw q->Q v H'):aId vs H Q EE
noncomputable def aI7:Sp:=fun vs H Q EE=>aId vs H Q EE
theorem aVv {t b:Int} (h1:0 < t) (h2:t<=999999999999) (h3:0 < b) (h4:b<=999999999999):aLw (Rat.divInt t b):=by
 have hb0:b≠0:=by omega
 have e:=aJ0 (t:=t) hb0
 have a1:=aXc (t:=t) hb0
 have a2:=aXd (t:=t) hb0
 refine ⟨aXa h1 h3,?_,?_⟩
 ·rw [e.1]
  omega
 ·have:=e.2
  omega
inductive aIb (vs:List V) (H:Hp) (Q:VK) (EE:XK):Prop
 | mk (v:V) (q:Rat) (h0':vs=[v]) (h1':FrQ H v q) (h2':aLw q) (h3':Q (.str (tmS q)) H):aIb vs H Q EE
noncomputable def aGx:Sp:=fun vs H Q EE=>aIb vs H Q EE
theorem aI3:∀ {ys:List Str} {B:Nat},(∀ s∈ys,s.length<=B)->(ys.map (·.length)).sum<=ys.length * B
 | [],_,_=>by simp
 | y::ys,B,h=>by
  have h1:=h y (by simp)
  have h2:=aI3 (ys:=ys) fun s hs=>h s (List.mem_cons_of_mem _ hs)
  rw [List.map_cons,List.sum_cons,List.length_cons,Nat.succ_mul]
  omega
theorem aNu (a b t:Str):Str.join (Str.ofString " ") ["run",a,b]++Str.ofString " "++t=Str.join sp1 ["run",a,b,t]:=by
 refine aI4 ?_
 rw [aKd,aKd,aF9,aF9]
 simp [jnL]
theorem aY1 {K:PySem.W.Frag} {H:Hp} {Q:VK} {p:Addr} {a b c d:V} (h:H p=some (.tup [a,b,c,d])) (k:∀ l,H l=none->Q (.ref l) (upd H l (.tup [a,b]))):aYb K (.ref p) none (some 2) H Q:=by
 have e2:HT.sIx 4 4 (some 2)=2:=by decide
 refine aV2 h ?_ ?_
 ·show ¬ (_/\HT.sIx 4 4 (some 2)=4)
  rw [e2]
  exact fun h=>absurd h.2 (by decide)
 ·rw [show aGq [a,b,c,d] none (some 2)=[a,b] from aSk (xs:=[a,b,c,d]) 2]
  exact k
noncomputable def lnV (ws:List Str):V:=.str (Str.join sp1 ws)
noncomputable def aNj (K:PySem.W.Frag):Sp:=fun vs H Q _=>∃ (v:V) (r:aE8) (E:List aAu),vs=[v]/\aBz H v r/\WfT E r/\WfE E/\∀ l H',H l=none->aAn H H'->H' l=some (.lst [lnV (aE9 r)])->Q (.ref l) H'
inductive aKo (K:PySem.W.Frag) (vs:List V) (H:Hp) (Q:VK) (EE:XK):Prop
 | mk (v:V) (g:aDc) (E:List aAu) (h0':vs=[v]) (h1':aGt H v g) (h2':WfG E [g]) (h3':WfE E) (h4':∀ l H',H l=none->aAn H H'->H' l=some (.lst ((aAx g).map lnV))->Q (.ref l) H'):aKo K vs H Q EE
noncomputable def aJa (K:PySem.W.Frag):Sp:=fun vs H Q EE=>aKo K vs H Q EE
theorem aLd {gs:List aDc} (hb:aGc gs) (hn:lnN gs<=60):(((gs.flatMap aAx).map (Str.join sp1)).map (·.length)).sum+((gs.flatMap aAx).map (Str.join sp1)).length * sp3.length<=16777216/\(aH3 (gs.flatMap aAx)).length<=1000000:=by
 have hok:=aFq (E:=[]) trivial hb.wf
 have hll:=aDj gs
 have e3:sp3.length=3:=by decide +kernel
 have h1:=aI3 (ys:=(gs.flatMap aAx).map (Str.join sp1)) (B:=10000) fun s hs=>by
  obtain ⟨ws,hw,rfl⟩:=List.mem_map.mp hs
  exact (hok ws hw).2.2
 have h2:=StrLaws.join_length_le sp3 ((gs.flatMap aAx).map (Str.join sp1))
 rw [List.length_map] at h1 h2
 rw [List.length_map,e3]
 rw [e3] at h2
 refine ⟨by omega,?_⟩
 show (Str.join sp3 _).length<=_
 omega
inductive aIe (K:PySem.W.Frag) (vs:List V) (H:Hp) (Q:VK) (EE:XK):Prop
 | mk (l:Addr) (gs:List aDc) (h0':vs=[.ref l]) (h1':GsQ H l gs) (h2':aGc gs) (h3':lnN gs<=60) (h4':∀ H',aAn H H'->Q (.str (aH3 (gs.flatMap aAx))) H'):aIe K vs H Q EE
noncomputable def aI8 (K:PySem.W.Frag):Sp:=fun vs H Q EE=>aIe K vs H Q EE
inductive aIj (K:PySem.W.Frag) (vs:List V) (H:Hp) (Q:VK) (EE:XK):Prop
 | mk (x:Str) (v:V) (q:Addr) (nm cl:Str) (as ps:List Str) (h0':vs=[.str x,v,.ref q]) (h1':aBz H v (.put nm cl as)) (h2':H q=some (.tup (ps.map V.str))) (h3':ps.length=as.length) (h4':x.length<=1000) (h5':cl.length<=1000) (h6':Q (.str (aCn ps as cl x)) H):aIj K vs H Q EE
noncomputable def aJc (K:PySem.W.Frag):Sp:=fun vs H Q EE=>aIj K vs H Q EE
inductive aFc (K:PySem.W.Frag) (vs:List V) (H:Hp) (Q:VK) (EE:XK):Prop
 | mk (v:V) (d:Addr) (E:List aAu) (r:aE8) (h0':vs=[v,.ref d]) (h1':aBz H v r) (h2':aUs H d E) (h3':WfE E) (h4':E.length<=60) (h5':WfT E r) (h6':∀ l H' n,H l=none->aAn H H'->LQ aCg H' l (kn n)->n.take 121=(aAy E r).take 121->n.length<=200->Q (.ref l) H'):aFc K vs H Q EE
noncomputable def aD5 (K:PySem.W.Frag):Sp:=fun vs H Q EE=>aFc K vs H Q EE
noncomputable def aNi (K:PySem.W.Frag):Sp:=fun vs H Q _=>∃ (z:Addr) (rs:List aE8) (ys:List V) (dc:Addr) (E:List aAu),vs=[.ref z,.ref dc]/\H z=some (.tup ys)/\Paired (aBz H) ys rs/\aUs H dc E/\WfE E/\E.length<=60/\(∀ r∈rs,WfT E r)/\∀ l' H',H l'=none->aAn H H'->LQ aCg H' l' (kn ((rs.flatMap (aAy E)).take 121))->Q (.ref l') H'
inductive aIf (K:PySem.W.Frag) (vs:List V) (H:Hp) (Q:VK) (EE:XK):Prop
 | mk (l:Addr) (gs:List aDc) (dc:Addr) (h0':vs=[.ref l,.ref dc]) (h1':GsQ H l gs) (h2':aGc gs) (h3':H dc=some (.dK [])) (h4':∀ l' H',H l'=none->Kp dc H H'->LQ aCg H' l' (kn ((goG [] gs).take 121))->Q (.ref l') H'):aIf K vs H Q EE
noncomputable def aI9 (K:PySem.W.Frag):Sp:=fun vs H Q EE=>aIf K vs H Q EE
inductive aKv (K:PySem.W.Frag) (vs:List V) (H:Hp) (Q:VK) (EE:XK):Prop
 | mk (l:Addr) (gs:List aDc) (h0':vs=[.ref l]) (h1':GsQ H l gs) (h2':aGc gs) (h3':∀ v H',aAn H H'->DVn H H' v (goG [] gs)->Q v H'):aKv K vs H Q EE
noncomputable def aMb (K:PySem.W.Frag):Sp:=fun vs H Q EE=>aKv K vs H Q EE
inductive aIa (K:PySem.W.Frag) (vs:List V) (H:Hp) (Q:VK) (EE:XK):Prop
 | mk (l:Addr) (gs:List aDc) (h0':vs=[.ref l]) (h1':GsQ H l gs) (h2':aGc gs) (h3':∀ v H',aAn H H'->DVn H H' v (goG [] gs)->Q v H'):aIa K vs H Q EE
noncomputable def aI5 (K:PySem.W.Frag):Sp:=fun vs H Q EE=>aIa K vs H Q EE
noncomputable def ltr (b:Nat):Str:=⟨#[97+b]⟩
theorem aW9 {b c:Nat} (h:ltr b=ltr c):b=c:=by
 have:=congrArg (fun s:Str=>s.cps.toList) h
 simp only [ltr] at this
 have:=(List.cons.inj this).1
 omega
theorem aN4 {b:Nat} (h:b < 26):aBx (ltr b)=true:=aN3 (z:=ltr b) (Nat.le_refl _) (show 1<=8 by decide) (aOj.one (by omega) (by omega))
theorem aXs {U:List Str} (h:U.length=8):∃ u0 u1 u2 u3 u4 u5 u6 u7,U=[u0,u1,u2,u3,u4,u5,u6,u7]:=by
 match U,h with
 | [u0,u1,u2,u3,u4,u5,u6,u7],_=>exact ⟨u0,u1,u2,u3,u4,u5,u6,u7,rfl⟩
inductive aKu (vs:List V) (H:Hp) (Q:VK) (EE:XK):Prop
 | mk (c:Int) (ln:Addr) (U:List Str) (h0':vs=[.int c,.ref ln]) (h1':0<=c) (h2':H ln=some (.lst (U.map V.str))) (h3':U.length=8) (h4':(∀ s∈U,aBx s=true)) (h5':U.Nodup) (h6':∀ (v:V) H' (x:aAu),aAn H H'->aDm H' v x->x.1=ltr 0->x.2.1.length=2->x.2.2.length=1->WfP [] x->Q v H'):aKu vs H Q EE
noncomputable def aMa:Sp:=fun vs H Q EE=>aKu vs H Q EE
noncomputable def aW2 (k:Nat) (r:aE8):Prop:=∃ b cl as,b < k/\r=.put (ltr b) cl as/\aBx cl=true/\(∀ s∈as,aB8 s)/\as.length=2
inductive aHc (vs:List V) (H:Hp) (Q:VK) (EE:XK):Prop
 | mk (c:Int) (k:Nat) (ln:Addr) (U:List Str) (h0':vs=[.int c,.int (k:Int),.ref ln]) (h1':0<=c) (h2':1<=k) (h3':k<=24) (h4':H ln=some (.lst (U.map V.str))) (h5':U.length=8) (h6':(∀ s∈U,aBx s=true)) (h7':U.Nodup) (h8':∀ (v:V) H' (x:aAu),aAn H H'->aDm H' v x->x.1=ltr k->x.2.1.length=2->x.2.1.Nodup->(∀ s∈x.2.1,aBx s=true)->1<=x.2.2.length->x.2.2.length<=3->(∀ r∈x.2.2,aW2 k r)->Q v H'):aHc vs H Q EE
noncomputable def aHd:Sp:=fun vs H Q EE=>aHc vs H Q EE
theorem at4 {x0 x1 x2 x3:V} (P:V->Prop) (h0:P x0) (h1:P x1) (h2:P x2) (h3:P x3) (i:Int) (l:0<=i) (u:i < 4):∃ t:V,atI [x0,x1,x2,x3] i=some t/\P t:=by
 have:i=0∨i=1∨i=2∨i=3:=by omega
 rcases this with rfl | rfl | rfl | rfl
 ·exact ⟨_,rfl,h0⟩
 ·exact ⟨_,rfl,h1⟩
 ·exact ⟨_,rfl,h2⟩
 ·exact ⟨_,rfl,h3⟩
inductive aP5 (K:PySem.W.Frag) (vs:List V) (H:Hp) (Q:VK) (EE:XK):Prop
 | mk (a:Addr) (ns:List Int) (h0':vs=[.ref a]) (h1':SqL K H a (ns.map V.int)) (h2':ns.length<=63) (h3':∀ H',Q (.bl true) H'):aP5 K vs H Q EE
noncomputable def aTc (K:PySem.W.Frag):Sp:=fun vs H Q EE=>aP5 K vs H Q EE
structure aS3 (G:Hp) (lr:Addr) (gs:List aDc) (E:List aAu) (n:Nat):Prop where
 gq:GsQ G lr gs
 wf:WfG [] gs
 env:aGi [] gs=E
 at_:∀ b,b < n->∃ p∈E,p.1=ltr b/\p.2.1.length=2
 of:∀ p∈E,∃ b,b < n/\p.1=ltr b
 la:∃ gs' p,gs=gs'++[.piece p]/\p∈E/\p.2.1.length=2
theorem aS3.sm {G G':Hp} {lr:Addr} {gs:List aDc} {E:List aAu} {n:Nat} (h:aS3 G lr gs E n) (s:aAn G G'):aS3 G' lr gs E n:=⟨h.gq.sm s,h.wf,h.env,h.at_,h.of,h.la⟩
theorem aS3.wfp {G:Hp} {lr:Addr} {gs:List aDc} {E:List aAu} {n:Nat} (h:aS3 G lr gs E n) {x:aAu} (hn:n<=24) (e1:x.1=ltr n) (e2:x.2.1.length=2) (e3:x.2.1.Nodup) (e4:∀ s∈x.2.1,aBx s=true) (l1:1<=x.2.2.length) (l3:x.2.2.length<=3) (ok:∀ r∈x.2.2,aW2 n r):WfP E x:=by
 refine ⟨fun r hr=>?_,fun e=>?_,by omega,e3,⟨by omega,by omega,fun s hs=>?_⟩,fun p hp e=>?_⟩
 ·obtain ⟨b,cl,as,hb,rfl,h1,h2,h3⟩:=ok r hr
  obtain ⟨p,hp,ep,el⟩:=h.at_ b hb
  exact ⟨h1,h2,by omega,p,hp,ep,by omega⟩
 ·rw [e] at l1
  exact absurd l1 (by decide)
 ·rcases List.mem_cons.mp hs with rfl | hs
  ·rw [e1]
   exact aN4 (by omega)
  ·exact e4 s hs
 ·obtain ⟨b,hb,eb⟩:=h.of p hp
  have:=aW9 (eb.symm.trans (e.trans e1))
  omega
theorem aS3.snoc {G G':Hp} {lr:Addr} {gs:List aDc} {E:List aAu} {n:Nat} (h:aS3 G lr gs E n) {x:aAu} (w:WfP E x) (e1:x.1=ltr n) (e2:x.2.1.length=2) (g:GsQ G' lr (gs++[.piece x])):aS3 G' lr (gs++[.piece x]) (x::E) (n+1):=by
 refine ⟨g,(aGu _ _ _).mpr ⟨h.wf,by rw [h.env]; exact ⟨w,trivial⟩⟩,by rw [aG4,h.env]; rfl,fun b hb=>?_,fun p hp=>?_,gs,x,rfl,List.mem_cons_self ..,e2⟩
 ·by_cases z:b=n
  ·rw [z]
   exact ⟨x,List.mem_cons_self ..,e1,e2⟩
  ·obtain ⟨p,hp,e⟩:=h.at_ b (by omega)
   exact ⟨p,List.mem_cons_of_mem _ hp,e⟩
 ·rcases List.mem_cons.mp hp with rfl | hp
  ·exact ⟨n,by omega,e1⟩
  ·obtain ⟨b,hb,e⟩:=h.of p hp
   exact ⟨b,by omega,e⟩
theorem aPp:∀ {gs:List aDc} {E:List aAu} {j:Nat} {g:aDc},WfE E->WfG E gs->gs[j]?=some g->∃ E',WfE E'/\WfG E' [g]
 | [],_,j,_,_,_,e=>by cases j <;> cases e
 | .one r::gs,E,0,_,hE,h,e=>by cases e; exact ⟨E,hE,h.1,trivial⟩
 | .piece p::gs,E,0,_,hE,h,e=>by cases e; exact ⟨E,hE,h.1,trivial⟩
 | .one r::gs,E,j+1,_,hE,h,e=>aPp (gs:=gs) (j:=j) hE h.2 e
 | .piece p::gs,E,j+1,_,hE,h,e=>aPp (gs:=gs) (j:=j) (E:=p::E) ⟨h.1,hE⟩ h.2 e
theorem bCe {xs:List V} {n:Nat} {v:V} (h:xs[n]?=some v) (l:xs.length=n+1):atI xs (-1)=some v:=by
 obtain ⟨ys,y,rfl⟩:∃ ys y,xs=ys++[y]:=by
  rcases List.eq_nil_or_concat xs with rfl | ⟨ys,y,e⟩
  ·cases h
  ·exact ⟨ys,y,by rw [e]; simp⟩
 have:ys.length=n:=by rw [List.length_append] at l; simp at l; omega
 rw [← this,List.getElem?_append_right (Nat.le_refl _),Nat.sub_self] at h
 rw [aUn]
 exact h
theorem aUy:∀ gs:List aDc,((gs.map fun g=>((aAx g).length:Int)).sum)=(lnN gs:Int)
 | []=>rfl
 | g::gs=>by
  have:=aDj (g::gs)
  rw [List.flatMap_cons,List.length_append,aDj gs] at this
  rw [List.map_cons,List.sum_cons,aUy gs]
  omega
section
variable {P:Program} {w:World} {K:PySem.W.Frag} {mg:Str -> Option Value} {base:Heap} {k:Nat} {xt x1 x4 x5:Addr}
theorem aMs (T:Bl mg) (d:Df K mg "is_whole" aC9 ["thing"]  ) (W:XmS mg xt x1 x4 x5) (R_NoNet:XrS K xt x1 x4 x5 x1 1) (R_TooMany:XrS K xt x1 x4 x5 x4 4):Okf P w K mg base (k+1) "is_whole" ["thing"] (aL5 K):=by
 refine Okf.of d aMf (fun vs H Q E h=>?_) (fun f cdv A outer s H vs Q E hr h=>?_)
 ·obtain ⟨x,t,b,c,rfl,_⟩:=h
  rfl
 ·obtain ⟨x,t,b,c,rfl,ty,e1,e2,q⟩:=h
  refine ⟨_,(@aAg _ _ _ (@aAo _ _ _ _ (@aEh _ _ _ _ _ _ _ (@aAl _ _ _ _ _ _ _ _ _ (aDl (T:="int")) rfl T.z_isinstance aA5 (@aAa _ _ _ _ _ (pv 0) (@aAa _ _ _ _ _ (@aEg _ _ (v:=.ty "int") _ _ rfl T.z_int aLq rfl (by decide) (by decide)) (@aAd _) (by rfl)) (by rfl)) (by decide) (by decide) (by rfl) (by rfl)) (@aFn _ _ _ _ _ (@bAv _ _ _ _ (@aAl _ _ _ _ _ _ _ _ _ (aDl (T:="bool")) rfl T.z_isinstance aA5 (@aAa _ _ _ _ _ (pv 0) (@aAa _ _ _ _ _ (@aEg _ _ (v:=.ty "bool") _ _ rfl T.z_bool aX1 rfl (by decide) (by decide)) (@aAd _) (by rfl)) (by rfl)) (by decide) (by decide) (by rfl) (by rfl))))))),?_⟩
  try dsimp only [aAz,aA4]
  walk_at "go"
  refine aCp ty e1 ?_
  cases b
  ·walk_at "go"
   exact q
  ·walk_at "go"
   refine aCp ty e2 ?_
   walk_at "go"
   exact q
theorem aF6 (T:Bl mg) (d:Df K mg "common_divisor" aBd ["one","other"]  ) (W:XmS mg xt x1 x4 x5) (R_NoNet:XrS K xt x1 x4 x5 x1 1) (R_TooMany:XrS K xt x1 x4 x5 x4 4):Okf P w K mg base (k+1) "common_divisor" ["one","other"] aVz:=by
 refine Okf.of d aB1 (fun vs H Q E h=>?_) (fun f cdv A outer s H vs Q E hr h=>?_)
 ·obtain ⟨a,b,rfl,_⟩:=h
  rfl
 ·obtain ⟨a,b,rfl,q⟩:=h
  refine ⟨_,(@aAc _ _ _ _ _ (@aJo _ _ _ _ _ _ PassesOwn.never (@aAr _ _ _ _ _ _ _ _ (aFo hr.units) (pv 1) (@aAb _ _ _ _) (aAw _)) (@aAc _ _ _ _ _ (@aAs _ _ (i:=2) _ _ _ _ aB1.nd rfl (by first | exact Or.inl rfl | exact Or.inr rfl) (@aAq _ _ _ _ _ _ _ _ aWt (pv 0) (pv 1)) (by rfl) (by first | exact .inl rfl | exact .inr rfl | assumption)) (@aAc _ _ _ _ _ (@aAs _ _ (i:=0) _ _ _ _ aB1.nd rfl (by first | exact Or.inl rfl | exact Or.inr rfl) (pv 1) (by rfl) (by first | exact .inl rfl | exact .inr rfl | assumption)) (@aAg _ _ _ (@aAs _ _ (i:=1) _ _ _ _ aB1.nd rfl (by first | exact Or.inl rfl | exact Or.inr rfl) (pv 2) (by rfl) (by first | exact .inl rfl | exact .inr rfl | assumption)))))) (@aAg _ _ _ (@aAo _ _ _ _ (@aAl _ _ _ _ _ _ _ _ _ bCa rfl T.z_abs aVn (@aAa _ _ _ _ _ (pv 0) (@aAd _) (by rfl)) (by decide) (by decide) (by rfl) (by rfl))))),?_⟩
  try dsimp only [aAz,aA4]
  walk_at "go"
  refine aNd (fun σ H'=>∃ (one other:Int) (o:Option V),σ=[some (.int one),some (.int other),o]/\H'=H/\Int.gcd one other=Int.gcd a b)
   (fun σ _=>match σ with | [_,some (.int z),_]=>z.natAbs | _=>0) ⟨_,_,_,rfl,rfl,rfl⟩ ?_ ?_
  ·rintro σ H' ⟨one,other,o,rfl,rfl,hg⟩
   walk_at "go"
   refine i_d (fun c=>?_) (fun c=>?_)
   ·subst c
    walk_at "go"
    rw [Int.gcd_zero_right] at hg
    have e:(if one < 0 then -one else one)=(Int.gcd a b:Int):=by rw [← hg]; split <;> omega
    rw [e]
    exact q
   ·walk_at "go"
    refine ⟨⟨_,_,_,rfl,rfl,by rw [aRx c]; exact hg⟩,?_⟩
    show (one.fmod other).natAbs < other.natAbs
    exact aXm c
  ·intro σ H Q Q' hQ h
   obtain ⟨v,e1,h⟩:=h
   rcases h with ⟨e2,b',e3,q'⟩ | ⟨d,e,e2,e3,e4,e5,b',e6,q'⟩
   ·exact ⟨v,e1,.inl ⟨e2,b',e3,hQ _ _ q'⟩⟩
   ·exact ⟨v,e1,.inr ⟨d,e,e2,e3,e4,e5,b',e6,hQ _ _ q'⟩⟩
theorem aH8 (T:Bl mg) (d:Df K mg "is_fraction" aB2 ["thing"]  ) (W:XmS mg xt x1 x4 x5) (R_NoNet:XrS K xt x1 x4 x5 x1 1) (R_TooMany:XrS K xt x1 x4 x5 x4 4) (o_common_divisor:Okf P w K mg base k "common_divisor" ["one","other"] aVz) (o_is_whole:Okf P w K mg base k "is_whole" ["thing"] (aL5 K)):Okf P w K mg base (k+1) "is_fraction" ["thing"] (aGy K):=by
 refine Okf.of d aH5 (fun vs H Q E h=>?_) (fun f cdv A outer s H vs Q E hr h=>?_)
 ·obtain ⟨x,r,rfl,_⟩:=h
  rfl
 ·obtain ⟨x,r,rfl,h,q⟩:=h
  refine ⟨_,(@aAc _ _ _ _ _ (@aBc _ _ _ _ _ _ _ _ (@PW.pt _ _ _ (@aH7 _ _ _ _ _ _ _ (@aDp _ _ _ _ (@aDo _ _ _ (@aAl _ _ _ _ _ _ _ _ _ (aDl (T:="tuple")) rfl T.z_isinstance aA5 (@aAa _ _ _ _ _ (pv 0) (@aAa _ _ _ _ _ (@aEg _ _ (v:=.ty "tuple") _ _ rfl T.z_tuple aEw rfl (by decide) (by decide)) (@aAd _) (by rfl)) (by rfl)) (by decide) (by decide) (by rfl) (by rfl)) (by intro _; rfl))) (@aFm _ _ _ _ (@aAr _ _ _ _ _ _ _ _ (aFo hr.units) (@aAl _ _ _ _ _ _ _ _ _ aDr rfl T.z_len aB4 (@aAa _ _ _ _ _ (pv 0) (@aAd _) (by rfl)) (by decide) (by decide) (by rfl) (by rfl)) (@aAb _ _ _ _) (aAw _))))) (@aAg _ _ _ (@aAo _ _ _ _ (@aOz _ _ _ _))) (@aA0 _)) (@aAc _ _ _ _ _ (@aBc _ _ _ _ _ _ _ _ (@PW.pt _ _ _ (@aH7 _ _ _ _ _ _ _ (@aDp _ _ _ _ (@aDo _ _ _ (@aAi _ _ _ _ _ _ _ _ _ _ o_is_whole hr rfl (@aAa _ _ _ _ _ (@aAj _ _ _ _ _ _ _ aAk (pv 0) (@aAb _ _ _ _) (fun _ _=>rfl)) (@aAd _) (by rfl)) (by decide) (by rfl) (by rfl)) (by intro _; rfl))) (@aFm _ _ _ _ (@aDp _ _ _ _ (@aDo _ _ _ (@aAi _ _ _ _ _ _ _ _ _ _ o_is_whole hr rfl (@aAa _ _ _ _ _ (@aAj _ _ _ _ _ _ _ aAk (pv 0) (@aAb _ _ _ _) (fun _ _=>rfl)) (@aAd _) (by rfl)) (by decide) (by rfl) (by rfl)) (by intro _; rfl)))))) (@aAg _ _ _ (@aAo _ _ _ _ (@aOz _ _ _ _))) (@aA0 _)) (@aAg _ _ _ (@aAo _ _ _ _ (@aEh _ _ _ _ _ _ _ (@aCf _ _ _ _ _ _ _ _ aWv (@aAj _ _ _ _ _ _ _ aAk (pv 0) (@aAb _ _ _ _) (fun _ _=>rfl)) (@aAb _ _ _ _) (aAw _)) (@aFn _ _ _ _ _ (@aCf _ _ _ _ _ _ _ _ (aA9 hr.units) (@aAi _ _ _ _ _ _ _ _ _ _ o_common_divisor hr rfl (@aAa _ _ _ _ _ (@aAj _ _ _ _ _ _ _ aAk (pv 0) (@aAb _ _ _ _) (fun _ _=>rfl)) (@aAa _ _ _ _ _ (@aAj _ _ _ _ _ _ _ aAk (pv 0) (@aAb _ _ _ _) (fun _ _=>rfl)) (@aAd _) (by rfl)) (by rfl)) (by decide) (by rfl) (by rfl)) (@aAb _ _ _ _) (aAw _)))))))),?_⟩
  try dsimp only [aAz,aA4]
  rcases h with ⟨⟨t,ty,e1⟩,rfl⟩ | ⟨p,xs,rfl,h1,h2,rfl⟩ | ⟨p,v,w',rfl,h1,fv,fw,hsm,rfl⟩
  ·walk_at "go"
   refine aCp ty e1 ?_
   walk_at "go"
   exact q
  ·walk_at "go"
   refine aCp (.tup h1) aA7 ?_
   walk_at "go"
   exact q
  ·walk_at "go"
   refine aCp (.tup h1) aA7 ?_
   walk_at "go"
   refine i_d (fun _=>?_) (fun c=>absurd rfl c)
   walk_at "go"
   obtain ⟨t1,b1,c1,ty1,k1,k2,e1⟩:=aR7 (K:=K) (H:=H) fv
   refine ⟨v,t1,b1,c1,rfl,ty1,k1,k2,?_⟩
   rw [e1]
   walk_at "go"
   cases v with
   | int a =>
    refine i_bT rfl ?_
    walk_at "go"
    obtain ⟨t2,b2,c2,ty2,k3,k4,e2⟩:=aR7 (K:=K) (H:=H) fw
    refine ⟨w',t2,b2,c2,rfl,ty2,k3,k4,?_⟩
    rw [e2]
    walk_at "go"
    cases w' with
    | int b =>
     refine i_bT rfl ?_
     walk_at "go"
     refine i_d (fun c=>?_) (fun c=>?_)
     ·walk_at "go"
      refine ⟨a,b,rfl,?_⟩
      walk_at "go"
      have e:decide ((Int.gcd a b:Int)=1)=frV (.int a) (.int b):=by
       show _=(decide (1<=b)&&decide (Int.gcd a b=1))
       rw [decide_eq_true c,Bool.true_and]
       by_cases hg:Int.gcd a b=1
       ·rw [decide_eq_true hg,decide_eq_true (by omega)]
       ·rw [decide_eq_false hg,decide_eq_false (by omega)]
      rw [e]
      exact q
     ·walk_at "go"
      have e:frV (.int a) (.int b)=false:=by
       show (decide (1<=b)&&decide (Int.gcd a b=1))=false
       rw [decide_eq_false c,Bool.false_and]
      rw [e] at q
      exact q
    | non=>refine aYd rfl ?_; walk_at "go"; exact q
    | bl _=>refine aYd rfl ?_; walk_at "go"; exact q
    | str _=>refine aYd rfl ?_; walk_at "go"; exact q
    | _=>exact absurd (show false=true from fw) Bool.false_ne_true
   | non=>refine aYd rfl ?_; walk_at "go"; exact q
   | bl _=>refine aYd rfl ?_; walk_at "go"; exact q
   | str _=>refine aYd rfl ?_; walk_at "go"; exact q
   | _=>exact absurd (show false=true from fv) Bool.false_ne_true
theorem aO5 (T:Bl mg) (d:Df K mg "is_less" aDx ["one","other"]  ) (W:XmS mg xt x1 x4 x5) (R_NoNet:XrS K xt x1 x4 x5 x1 1) (R_TooMany:XrS K xt x1 x4 x5 x4 4):Okf P w K mg base (k+1) "is_less" ["one","other"] aP4:=by
 refine Okf.of d aOr (fun vs H Q E h=>?_) (fun f cdv A outer s H vs Q E hr h=>?_)
 ·obtain ⟨x,y,a,b,c,d,rfl,_⟩:=h
  rfl
 ·obtain ⟨x,y,a,b,c,d,rfl,⟨q1,rfl,h1⟩,⟨q2,rfl,h2⟩,m1,m2,q⟩:=h
  refine ⟨_,(@aAg _ _ _ (@aAo _ _ _ _ (@aCf _ _ _ _ _ _ _ _ aTz (@aAq _ _ _ _ _ _ _ _ aCx (@aAj _ _ _ _ _ _ _ aAk (pv 0) (@aAb _ _ _ _) (fun _ _=>rfl)) (@aAj _ _ _ _ _ _ _ aAk (pv 1) (@aAb _ _ _ _) (fun _ _=>rfl))) (@aAq _ _ _ _ _ _ _ _ aCx (@aAj _ _ _ _ _ _ _ aAk (pv 1) (@aAb _ _ _ _) (fun _ _=>rfl)) (@aAj _ _ _ _ _ _ _ aAk (pv 0) (@aAb _ _ _ _) (fun _ _=>rfl))) (aAw _)))),?_⟩
  try dsimp only [aAz,aA4]
  walk_at "go"
  refine aV8 m1 ?_
  walk_at "go"
  refine aV8 m2 ?_
  walk_at "go"
  exact q
theorem aO4 (T:Bl mg) (d:Df K mg "is_part" aDf ["text"]  ) (W:XmS mg xt x1 x4 x5) (R_NoNet:XrS K xt x1 x4 x5 x1 1) (R_TooMany:XrS K xt x1 x4 x5 x4 4) {tk_LETTERS:Tok} (g_LETTERS:mg "LETTERS"=some (.str "abcdefghijklmnopqrstuvwxyz" tk_LETTERS)) {tk_MOST_LETTERS:Tok} (g_MOST_LETTERS:mg "MOST_LETTERS"=some (.int 8 tk_MOST_LETTERS)):Okf P w K mg base (k+1) "is_part" ["text"] aKr:=by
 refine Okf.of d aOq (fun vs H Q E h=>?_) (fun f cdv A outer s H vs Q E hr h=>?_)
 ·obtain ⟨z,rfl,_⟩:=h
  rfl
 ·obtain ⟨z,rfl,hz,q⟩:=h
  refine ⟨_,(@aAg _ _ _ (@aAo _ _ _ _ (@aEh _ _ _ _ _ _ _ (@aJs _ _ _ _ _ _ _ _ _ _ _ _ aJt aJt (@aAb _ _ _ _) (@aAl _ _ _ _ _ _ _ _ _ aDr rfl T.z_len aB4 (@aAa _ _ _ _ _ (pv 0) (@aAd _) (by rfl)) (by decide) (by decide) (by rfl) (by rfl)) (@aCe _ _ (v:=(.int 8)) _ _ rfl g_MOST_LETTERS ⟨_,rfl⟩ (by decide)) (by with_unfolding_all rfl)) (@aFn _ _ _ _ _ (@aAl _ _ _ _ _ _ _ _ _ (aI0 rfl) rfl T.z_all aI1 (@aAa _ _ _ _ _ (@aDh _ _ _ _ _ _ _ _ _ _ _ _ _ _ (@aCz _ _ (sc:=aAf aDf) (N:=["text"]) (tn:=["sign"]) (names:=[]) (is:=[]) rfl rfl (by decide +kernel) (by decide +kernel) rfl (by decide +kernel) rfl (by decide +kernel) (by decide +kernel) (by decide +kernel)) rfl (@aN0 _ _ _ _ (pv 0)) (fun _ _ _ _=>(@aA2 _ _ (i:=0) _ (show (["sign"]:List Str).Nodup by decide +kernel) rfl (Or.inl rfl) (Or.inr rfl))) (fun _ _ _ _=>(@aCf _ _ _ _ _ _ _ _ aQ6 (pv 0) (@aCe _ _ (v:=(.str "abcdefghijklmnopqrstuvwxyz")) _ _ rfl g_LETTERS ⟨_,rfl⟩ (by decide)) (by with_unfolding_all rfl))) (fun _ _ _ _=>(@aCb _)) (by intro _; rfl)) (@aAd _) (by rfl)) (by decide) (by decide) (by rfl) (by rfl)))))),?_⟩
  try dsimp only [aAz,aA4]
  walk_at "go"
  have hzs:z.length<=sizeLine:=by rw [sizeLine_eq]; omega
  refine aU4 hzs ?_
  walk_at "go"
  refine i_d (fun c1=>?_) (fun c1=>?_)
  ·walk_at "go"
   refine i_d (fun c2=>?_) (fun c2=>?_)
   ·walk_at "go"
    refine ⟨z,rfl,?_⟩
    refine aQn hz (fun acc i ys G=>Kp acc H G/\ys=(z.cps.toList.take i).map fun c=>V.bl (decide (97<=c)&&decide (c < 123))) (fun acc h0=>⟨Kp.new h0,rfl⟩) ?_ ?_
    ·intro acc i ys G c h0 hx hyl hG ⟨kp,e⟩
     walk_at "go"
     have hx':z.cps.toList[i]?=some c:=by simpa using hx
     have hi:i < z.cps.toList.length:=(List.getElem?_eq_some_iff.mp hx').1
     refine aD9 (by rw [aBa]; exact hi) hyl hG ⟨Kp.trans kp Kp.upd,?_⟩
     have e2:z.cps.toList[i]=c:=by
      rw [List.getElem?_eq_getElem hi] at hx'
      exact Option.some.inj hx'
     rw [List.take_succ_eq_append_getElem hi,List.map_append,← e,e2,aMy]
     rfl
    ·intro acc ys G h0 hG hl ⟨kp,e⟩
     walk_at "go"
     rw [aBa,List.take_length] at e
     subst e
     have e3:(z.cps.toList.map fun c=>V.bl (decide (97<=c)&&decide (c < 123)))=(z.cps.toList.map fun c=>(decide (97<=c)&&decide (c < 123))).map V.bl:=by rw [List.map_map]; rfl
     rw [e3] at hG
     refine aIt hG ?_
     walk_at "go"
     have e4:(z.cps.toList.map fun c=>(decide (97<=c)&&decide (c < 123))).all id=aBx z:=by
      unfold aBx
      rw [decide_eq_true (show 1<=z.length by omega),decide_eq_true (show z.length<=8 by omega),Bool.and_true,Bool.true_and,List.all_map]
      rfl
     rw [e4]
     exact q _ (aAn.kpn h0 (aAn.refl _) kp)
   ·walk_at "go"
    have e:aBx z=false:=by
     unfold aBx
     rw [decide_eq_false (show ¬ z.length<=8 by omega),Bool.and_false,Bool.false_and]
    rw [e] at q
    exact q _ (aAn.refl _)
  ·walk_at "go"
   have e:aBx z=false:=by
    unfold aBx
    rw [decide_eq_false (show ¬ 1<=z.length by omega),Bool.false_and,Bool.false_and]
   rw [e] at q
   exact q _ (aAn.refl _)
theorem aO3 (T:Bl mg) (d:Df K mg "is_post" aDe ["thing"]  ) (W:XmS mg xt x1 x4 x5) (R_NoNet:XrS K xt x1 x4 x5 x1 1) (R_TooMany:XrS K xt x1 x4 x5 x4 4) {tk_MOST_PARTS:Tok} (g_MOST_PARTS:mg "MOST_PARTS"=some (.int 4 tk_MOST_PARTS)) (o_is_part:Okf P w K mg base k "is_part" ["text"] aKr):Okf P w K mg base (k+1) "is_post" ["thing"] (aNm K):=by
 refine Okf.of d aIm (fun vs H Q E h=>?_) (fun f cdv A outer s H vs Q E hr h=>?_)
 ·obtain ⟨x,b,rfl,_⟩:=h
  rfl
 ·obtain ⟨x,b,rfl,h,q⟩:=h
  refine ⟨_,(@aAc _ _ _ _ _ (@aBc _ _ _ _ _ _ _ _ (@aDp _ _ _ _ (@aDo _ _ _ (@aAl _ _ _ _ _ _ _ _ _ (aDl (T:="str")) rfl T.z_isinstance aA5 (@aAa _ _ _ _ _ (pv 0) (@aAa _ _ _ _ _ (@aEg _ _ (v:=.ty "str") _ _ rfl T.z_str aLp rfl (by decide) (by decide)) (@aAd _) (by rfl)) (by rfl)) (by decide) (by decide) (by rfl) (by rfl)) (by intro _; rfl))) (@aAg _ _ _ (@aAo _ _ _ _ (@aOz _ _ _ _))) (@aA0 _)) (@aAc _ _ _ _ _ (@aAs _ _ (i:=1) _ _ _ _ aIm.nd rfl (by first | exact Or.inl rfl | exact Or.inr rfl) (@aEf _ _ _ _ _ _ _ _ _ _ _ _ PySem.F.plainAttrs_str PySem.F.slot_str_split PySem.F.type_str_split aG2 (pv 0) (@aAa _ _ _ _ _ (@aAt _ _ _ _) (@aAd _) (by rfl)) (by rfl) (by rfl) (by rfl) (by rfl) (by rfl)) (by rfl) (by first | exact .inl rfl | exact .inr rfl | assumption)) (@aAg _ _ _ (@aAo _ _ _ _ (@aEh _ _ _ _ _ _ _ (@aCf _ _ _ _ _ _ _ _ aJt (@aAl _ _ _ _ _ _ _ _ _ aDr rfl T.z_len aB4 (@aAa _ _ _ _ _ (pv 1) (@aAd _) (by rfl)) (by decide) (by decide) (by rfl) (by rfl)) (@aCe _ _ (v:=(.int 4)) _ _ rfl g_MOST_PARTS ⟨_,rfl⟩ (by decide)) (aAw _)) (@aFn _ _ _ _ _ (@aAl _ _ _ _ _ _ _ _ _ (aI0 rfl) rfl T.z_all aI1 (@aAa _ _ _ _ _ (@aDh _ _ _ _ _ _ _ _ _ _ _ _ _ _ (@aCz _ _ (sc:=aAf aDe) (N:=["thing","parts"]) (tn:=["part"]) (names:=[]) (is:=[]) rfl rfl (by decide +kernel) (by decide +kernel) rfl (by decide +kernel) rfl (by decide +kernel) (by decide +kernel) (by decide +kernel)) rfl (@aCm _ _ _ _ (pv 1)) (fun _ _ _ _=>(@aA2 _ _ (i:=0) _ (show (["part"]:List Str).Nodup by decide +kernel) rfl (Or.inl rfl) (Or.inr rfl))) (fun _ _ _ _=>(@aAi _ _ _ _ _ _ _ _ _ _ o_is_part hr rfl (@aAa _ _ _ _ _ (pv 0) (@aAd _) (by rfl)) (by decide) (by rfl) (by rfl))) (fun _ _ _ _=>(@aCb _)) (by intro _; rfl)) (@aAd _) (by rfl)) (by decide) (by decide) (by rfl) (by rfl)))))))),?_⟩
  try dsimp only [aAz,aA4]
  rcases h with ⟨z,rfl,hz,rfl⟩ | ⟨⟨t,ty,e1⟩,rfl⟩
  ·walk_at "go"
   refine aCp (.str z) aHw ?_
   walk_at "go"
   have ep:(".":Str)=⟨#[46]⟩:=by decide +kernel
   rw [ep]
   refine aJk (z:=z) (y:=⟨#[46]⟩) (by decide) (by omega) fun l hl=>?_
   have hps:=aF5 z
   have hsh:∀ p∈Txt.split z ⟨#[46]⟩,p.length<=1000:=fun p hp=>Nat.le_trans (aTb hp) hz
   have hsl:=aYx z ⟨#[46]⟩
   generalize Txt.split z ⟨#[46]⟩=ps at hps hsh hsl ⊢
   walk_at "go"
   rw [List.length_map]
   refine i_d (fun c=>?_) (fun c=>?_)
   ·walk_at "go"
    refine aCk (SqL.of aAe) ?_
    refine aE3 (xs:=ps.map V.str) (by rw [List.length_map]; omega) (fun acc i ys G=>Kp acc (upd H l (.lst (ps.map V.str))) G/\ys=(ps.take i).map fun p=>V.bl (aBx p)) (fun acc h0=>⟨Kp.new h0,rfl⟩) ?_ ?_ ?_
    ·intro acc i ys G h0 _ ⟨kp,_⟩
     exact SqL.of (kp _ _ (aAh aAe h0) aAe)
    ·intro acc i ys G x h0 hx hyl hG ⟨kp,e⟩
     rw [List.getElem?_map] at hx
     cases hy:ps[i]? with
     | none=>rw [hy] at hx; cases hx
     | some y =>
      rw [hy] at hx
      cases (Option.some.inj hx:V.str y=x)
      walk_at "go"
      refine ⟨y,rfl,hsh y (List.mem_of_getElem? hy),fun G1 s1=>?_⟩
      have hi:i < ps.length:=(List.getElem?_eq_some_iff.mp hy).1
      refine aD9 (by rw [List.length_map]; exact hi) hyl (s1 _ _ hG) ⟨Kp.trans (Kp.trans kp s1.kp) Kp.upd,?_⟩
      have e2:ps[i]=y:=by
       rw [List.getElem?_eq_getElem hi] at hy
       exact Option.some.inj hy
      rw [List.take_succ_eq_append_getElem hi,List.map_append,← e,e2]
      rfl
    ·intro acc ys G h0 hG hyl ⟨kp,e⟩
     rw [List.length_map,List.take_length] at e
     subst e
     walk_at "go"
     have e3:(ps.map fun p=>V.bl (aBx p))=(ps.map aBx).map V.bl:=by rw [List.map_map]; rfl
     rw [e3] at hG
     refine aIt hG ?_
     walk_at "go"
     have e4:(ps.map aBx).all id=postB z:=by
      rw [hps,decide_eq_true (show ps.length<=4 by omega),Bool.true_and,List.all_map]
      rfl
     rw [e4]
     exact q _ ((aAn.new hl).trans (aAn.kpn h0 (aAn.refl _) kp))
   ·walk_at "go"
    rw [decide_eq_false (show ¬ ps.length<=4 by omega),Bool.false_and] at hps
    rw [hps] at q
    exact q _ (aAn.new hl)
  ·walk_at "go"
   refine aCp ty e1 ?_
   walk_at "go"
   exact q _ (aAn.refl _)
theorem aRd (T:Bl mg) (d:Df K mg "is_run" aEr ["thing"]  ) (W:XmS mg xt x1 x4 x5) (R_NoNet:XrS K xt x1 x4 x5 x1 1) (R_TooMany:XrS K xt x1 x4 x5 x4 4) (o_is_less:Okf P w K mg base k "is_less" ["one","other"] aP4) (o_is_fraction:Okf P w K mg base k "is_fraction" ["thing"] (aGy K)) (o_is_post:Okf P w K mg base k "is_post" ["thing"] (aNm K)):Okf P w K mg base (k+1) "is_run" ["thing"] (aL9 K):=by
 refine Okf.of d aQf (fun vs H Q E h=>?_) (fun f cdv A outer s H vs Q E hr h=>?_)
 ·obtain ⟨x,b,rfl,_⟩:=h
  rfl
 ·obtain ⟨x,b,rfl,h,q⟩:=h
  refine ⟨_,(@aAc _ _ _ _ _ (@aBc _ _ _ _ _ _ _ _ (@PW.pt _ _ _ (@aH7 _ _ _ _ _ _ _ (@aDp _ _ _ _ (@aDo _ _ _ (@aAl _ _ _ _ _ _ _ _ _ (aDl (T:="tuple")) rfl T.z_isinstance aA5 (@aAa _ _ _ _ _ (pv 0) (@aAa _ _ _ _ _ (@aEg _ _ (v:=.ty "tuple") _ _ rfl T.z_tuple aEw rfl (by decide) (by decide)) (@aAd _) (by rfl)) (by rfl)) (by decide) (by decide) (by rfl) (by rfl)) (by intro _; rfl))) (@aFm _ _ _ _ (@aAr _ _ _ _ _ _ _ _ (aFo hr.units) (@aAl _ _ _ _ _ _ _ _ _ aDr rfl T.z_len aB4 (@aAa _ _ _ _ _ (pv 0) (@aAd _) (by rfl)) (by decide) (by decide) (by rfl) (by rfl)) (@aAb _ _ _ _) (aAw _))))) (@aAg _ _ _ (@aAo _ _ _ _ (@aOz _ _ _ _))) (@aA0 _)) (@aAc _ _ _ _ _ (@aBc _ _ _ _ _ _ _ _ (@PW.pt _ _ _ (@aH7 _ _ _ _ _ _ _ (@aDp _ _ _ _ (@aDo _ _ _ (@aAi _ _ _ _ _ _ _ _ _ _ o_is_post hr rfl (@aAa _ _ _ _ _ (@aAj _ _ _ _ _ _ _ aAk (pv 0) (@aAb _ _ _ _) (fun _ _=>rfl)) (@aAd _) (by rfl)) (by decide) (by rfl) (by rfl)) (by intro _; rfl))) (@aH7 _ _ _ _ _ _ _ (@aDp _ _ _ _ (@aDo _ _ _ (@aAi _ _ _ _ _ _ _ _ _ _ o_is_post hr rfl (@aAa _ _ _ _ _ (@aAj _ _ _ _ _ _ _ aAk (pv 0) (@aAb _ _ _ _) (fun _ _=>rfl)) (@aAd _) (by rfl)) (by decide) (by rfl) (by rfl)) (by intro _; rfl))) (@aFm _ _ _ _ (@aAr _ _ _ _ _ _ _ _ (aA9 hr.units) (@aAj _ _ _ _ _ _ _ aAk (pv 0) (@aAb _ _ _ _) (fun _ _=>rfl)) (@aAj _ _ _ _ _ _ _ aAk (pv 0) (@aAb _ _ _ _) (fun _ _=>rfl)) (aAw _)))))) (@aAg _ _ _ (@aAo _ _ _ _ (@aOz _ _ _ _))) (@aA0 _)) (@aAg _ _ _ (@aAo _ _ _ _ (@aEh _ _ _ _ _ _ _ (@aAi _ _ _ _ _ _ _ _ _ _ o_is_fraction hr rfl (@aAa _ _ _ _ _ (@aAj _ _ _ _ _ _ _ aAk (pv 0) (@aAb _ _ _ _) (fun _ _=>rfl)) (@aAd _) (by rfl)) (by decide) (by rfl) (by rfl)) (@aFn _ _ _ _ _ (@aAi _ _ _ _ _ _ _ _ _ _ o_is_less hr rfl (@aAa _ _ _ _ _ (@aBp _ _ _ _ _ (@aAa _ _ _ _ _ (@aAb _ _ _ _) (@aAa _ _ _ _ _ (@aAb _ _ _ _) (@aAd _) (by rfl)) (by rfl))) (@aAa _ _ _ _ _ (@aAj _ _ _ _ _ _ _ aAk (pv 0) (@aAb _ _ _ _) (fun _ _=>rfl)) (@aAd _) (by rfl)) (by rfl)) (by decide) (by rfl) (by rfl)))))))),?_⟩
  try dsimp only [aAz,aA4]
  cases h with
  | nt h =>
   obtain ⟨t,ty,e⟩:=h
   walk_at "go"
   refine aCp ty e ?_
   walk_at "go"
   exact q _ (aAn.refl _)
  | len h n =>
   walk_at "go"
   refine aCp (.tup h) aA7 ?_
   walk_at "go"
   exact q _ (aAn.refl _)
  | @one p u v t h hu =>
   walk_at "go"
   refine aCp (.tup h) aA7 ?_
   walk_at "go"
   refine i_d (fun c=>?_) (fun c=>absurd rfl c)
   walk_at "go"
   refine ⟨u,false,rfl,hu,fun H1 s1=>?_⟩
   walk_at "go"
   exact q _ s1
  | @two p u v t h hu hv =>
   walk_at "go"
   refine aCp (.tup h) aA7 ?_
   walk_at "go"
   refine i_d (fun c=>?_) (fun c=>absurd rfl c)
   walk_at "go"
   refine ⟨u,true,rfl,hu,fun H1 s1=>?_⟩
   have h1:=s1 _ _ h
   walk_at "go"
   refine ⟨v,false,rfl,hv.sm s1,fun H2 s2=>?_⟩
   walk_at "go"
   exact q _ (s1.trans s2)
  | @same p z t h hu =>
   walk_at "go"
   refine aCp (.tup h) aA7 ?_
   walk_at "go"
   refine i_d (fun c=>?_) (fun c=>absurd rfl c)
   walk_at "go"
   refine ⟨_,true,rfl,hu,fun H1 s1=>?_⟩
   have h1:=s1 _ _ h
   walk_at "go"
   refine ⟨_,true,rfl,hu.sm s1,fun H2 s2=>?_⟩
   have h2:=s2 _ _ h1
   walk_at "go"
   refine i_d (fun _=>?_) (fun c=>absurd rfl c)
   walk_at "go"
   exact q _ (s1.trans s2)
  | @time p z z' t h hu hv hn ht =>
   walk_at "go"
   refine aCp (.tup h) aA7 ?_
   walk_at "go"
   refine i_d (fun c=>?_) (fun c=>absurd rfl c)
   walk_at "go"
   refine ⟨_,true,rfl,hu,fun H1 s1=>?_⟩
   have h1:=s1 _ _ h
   walk_at "go"
   refine ⟨_,true,rfl,hv.sm s1,fun H2 s2=>?_⟩
   have h2:=s2 _ _ h1
   walk_at "go"
   refine i_d (fun c=>absurd c hn) (fun _=>?_)
   walk_at "go"
   refine ⟨_,false,rfl,ht _ (s1.trans s2),?_⟩
   walk_at "go"
   exact q _ (s1.trans s2)
  | @run p tp z z' a c h hu hv hn ht hf sa sc =>
   walk_at "go"
   refine aCp (.tup h) aA7 ?_
   walk_at "go"
   refine i_d (fun _=>?_) (fun e=>absurd rfl e)
   walk_at "go"
   refine ⟨_,true,rfl,hu,fun H1 s1=>?_⟩
   have h1:=s1 _ _ h
   walk_at "go"
   refine ⟨_,true,rfl,hv.sm s1,fun H2 s2=>?_⟩
   have h2:=s2 _ _ h1
   have ht2:=s2 _ _ (s1 _ _ ht)
   walk_at "go"
   refine i_d (fun e=>absurd e hn) (fun _=>?_)
   walk_at "go"
   refine ⟨_,true,rfl,.inr (.inr ⟨tp,_,_,rfl,ht2,rfl,rfl,?_,hf.symm⟩),?_⟩
   ·intro a' c' e1 e2
    cases e1
    cases e2
    exact ⟨sa,sc⟩
   walk_at "go"
   refine aBi fun p0 hp0=>?_
   walk_at "go"
   refine ⟨_,_,0,1,a,c,rfl,⟨p0,rfl,aAe⟩,⟨tp,rfl,aFz hp0 ht2⟩,aEj.l (by omega) (by omega),aEj.r (by omega) (by omega),?_⟩
   walk_at "go"
   rw [Int.zero_mul,Int.mul_one]
   exact q _ ((s1.trans s2).trans (aAn.new hp0))
theorem aRb (T:Bl mg) (d:Df K mg "net_of" aEp ["runs"] ) (W:XmS mg xt x1 x4 x5) (R_NoNet:XrS K xt x1 x4 x5 x1 1) (R_TooMany:XrS K xt x1 x4 x5 x4 4) {tk_MOST_RUNS:Tok} (g_MOST_RUNS:mg "MOST_RUNS"=some (.int 120 tk_MOST_RUNS)) (o_is_run:Okf P w K mg base k "is_run" ["thing"] (aL9 K)):aPj P w K mg base (k+1) "net_of" ["runs"] [] (aP3 K x1):=by
 refine aPj.of d aHl (fun vs H Q E h=>?_) (fun f cdv A outer s H vs Q E hr h=>?_)
 ·obtain ⟨v,rfl,_⟩:=h
  rfl
 ·obtain ⟨v,rfl,h⟩:=h
  refine ⟨_,(@aAc _ _ _ _ _ (@aBc _ _ _ _ _ _ _ _ (@PW.pt _ _ _ (@aH7 _ _ _ _ _ _ _ (@aDp _ _ _ _ (@aDo _ _ _ (@aAl _ _ _ _ _ _ _ _ _ (aDl (T:="list")) rfl T.z_isinstance aA5 (@aAa _ _ _ _ _ (pv 0) (@aAa _ _ _ _ _ (@aEg _ _ (v:=.ty "list") _ _ rfl T.z_list aSv rfl (by decide) (by decide)) (@aAd _) (by rfl)) (by rfl)) (by decide) (by decide) (by rfl) (by rfl)) (by intro _; rfl))) (@aFm _ _ _ _ (@aDp _ _ _ _ (@aTr _ _ _ _ _ _ _ _ _ _ _ _ aJt aJt (@aAb _ _ _ _) (@aAl _ _ _ _ _ _ _ _ _ aDr rfl T.z_len aB4 (@aAa _ _ _ _ _ (pv 0) (@aAd _) (by rfl)) (by decide) (by decide) (by rfl) (by rfl)) (@aCe _ _ (v:=(.int 120)) _ _ rfl g_MOST_RUNS ⟨_,rfl⟩ (by decide)) (by with_unfolding_all rfl)))))) (@aAg _ _ _ (@aHp _ _ _ _ _ _ _ _ _ _ (fun _ _ _ _ _ _ _ _ I m q=>aPo I m q) rfl rfl W.m_NoNet R_NoNet.e (@aAa _ _ _ _ _ (@aQx _ _ _ _ _ _ (@aC4 _ _ _ _ _ (@aAt _ _ _ _) (@aC4 _ _ _ _ _ (@aQy _ _ _ _ (@aCe _ _ (v:=(.int 120)) _ _ rfl g_MOST_RUNS ⟨_,rfl⟩ (by decide))) (@aC4 _ _ _ _ _ (@aAt _ _ _ _) (@aNy _)))) (by decide)) (@aAd _) (by rfl)) (by decide) (by rfl) (by rfl))) (@aA0 _)) (@aAc _ _ _ _ _ (@aDz _ _ _ _ _ _ _ _ PassesOwn.leaving rfl (@aWn _ _ _ _ _ _ _ _ rfl T.z_enumerate (@aAa _ _ _ _ _ (pv 0) (@aAd _) (by rfl)) (by rfl)) (@aN1 _ _ _ _ _ (n:=2) rfl (@aC0 _ _ _ _ _ (@aA2 _ _ (i:=1) _ aHl.nd rfl (by first | exact Or.inl rfl | exact Or.inr rfl) (by first | exact .inl rfl | exact .inr rfl | assumption)) (@aC0 _ _ _ _ _ (@aA2 _ _ (i:=2) _ aHl.nd rfl (by first | exact Or.inl rfl | exact Or.inr rfl) (by first | exact .inl rfl | exact .inr rfl | assumption)) (@aJq _) (by rfl)) (by rfl)) (by rfl) (by rfl)) (@aAg _ _ _ (@aBc _ _ _ _ _ _ _ _ (@aDp _ _ _ _ (@aDo _ _ _ (@aAi _ _ _ _ _ _ _ _ _ _ o_is_run hr rfl (@aAa _ _ _ _ _ (pv 2) (@aAd _) (by rfl)) (by decide) (by rfl) (by rfl)) (by intro _; rfl))) (@aAg _ _ _ (@aHp _ _ _ _ _ _ _ _ _ _ (fun _ _ _ _ _ _ _ _ I m q=>aPo I m q) rfl rfl W.m_NoNet R_NoNet.e (@aAa _ _ _ _ _ (@aQx _ _ _ _ _ _ (@aC4 _ _ _ _ _ (@aAt _ _ _ _) (@aC4 _ _ _ _ _ (@aQy _ _ _ _ (pv 1)) (@aC4 _ _ _ _ _ (@aAt _ _ _ _) (@aNy _)))) (by decide)) (@aAd _) (by rfl)) (by decide) (by rfl) (by rfl))) (@aA0 _))) (by intro _; rfl)) (@aAg _ _ _ (@aAo _ _ _ _ (@aBj _ _ _ _ _ _ _ _ _ bB7 rfl T.z_list aSv (@aAa _ _ _ _ _ (pv 0) (@aAd _) (by rfl)) (by decide) (by decide) (by rfl) (by rfl)))))),?_⟩
  try dsimp only [aAz,aA4]
  rcases h with ⟨l,vs',bs,rfl,hl,pb,h1,h2,hall,q⟩ | ⟨h,q⟩
  ·walk_at "go"
   refine aCp (.lst hl) aFs ?_
   walk_at "go"
   refine e_K hl ?_
   refine aU8 (xs:=vs') (fun i σ G=>∃ o1 o2,σ=[some (.ref l),o1,o2]/\aAn H G) ⟨_,_,rfl,aAn.refl _⟩ ?_ ?_ ?_
   ·rintro i σ G _ ⟨o1,o2,rfl,sG⟩
    exact SqL.of (sG _ _ hl)
   ·rintro i x T0 σ G hx hT ⟨o1,o2,rfl,sG⟩
    obtain ⟨b,hb,qb⟩:=Paired.at pb hx
    have hbt:=hall b (List.mem_of_getElem? hb)
    subst hbt
    have s1:=sG.trans (aAn.new (o:=.tup [.int i,x]) hT)
    have hT2:=aAe (H:=G) (a:=T0) (o:=.tup [.int i,x])
    generalize upd G T0 (.tup [.int i,x])=G1 at s1 hT2 ⊢
    walk_at "go"
    refine ⟨_,true,rfl,qb.sm s1,fun G2 s2=>?_⟩
    walk_at "go"
    exact ⟨_,_,rfl,s1.trans s2⟩
   ·rintro σ G ⟨o1,o2,rfl,sG⟩
    walk_at "go"
    refine l_lst (sG _ _ hl) fun l' g'=>?_
    walk_at "go"
    exact q l' _ (sG.free g') (sG.trans (aAn.new g')) aAe
  ·rcases h with ⟨l,vs',bs,rfl,hl,pb,hlen,hbad⟩ | ⟨t,ty,e⟩
   ·walk_at "go"
    refine aCp (.lst hl) aFs ?_
    walk_at "go"
    refine i_d (fun c1=>?_) (fun c1=>?_)
    ·walk_at "go"
     refine i_d (fun c2=>?_) (fun c2=>?_)
     ·walk_at "go"
      refine e_K hl ?_
      refine aU8 (xs:=vs') (fun i σ G=>∃ o1 o2,σ=[some (.ref l),o1,o2]/\aAn H G/\∀ j,j < i->bs[j]?≠some false) ⟨_,_,rfl,aAn.refl _,fun j hj=>absurd hj (Nat.not_lt_zero _)⟩ ?_ ?_ ?_
      ·rintro i σ G _ ⟨o1,o2,rfl,sG,_⟩
       exact SqL.of (sG _ _ hl)
      ·rintro i x T0 σ G hx hT ⟨o1,o2,rfl,sG,hno⟩
       obtain ⟨b,hb,qb⟩:=Paired.at pb hx
       have s1:=sG.trans (aAn.new (o:=.tup [.int i,x]) hT)
       have hT2:=aAe (H:=G) (a:=T0) (o:=.tup [.int i,x])
       generalize upd G T0 (.tup [.int i,x])=G1 at s1 hT2 ⊢
       have hi:i < vs'.length:=(List.getElem?_eq_some_iff.mp hx).1
       walk_at "go"
       refine ⟨_,b,rfl,qb.sm s1,fun G2 s2=>?_⟩
       cases b with
       | false =>
        walk_at "go"
        refine aQl (i:=i) (by omega) fun z hz=>?_
        walk_at "go"
        intro z'
        walk_at "go"
        exact ⟨by rw [sizeLine_eq]; exact (show 1<=16777216 by decide),q _ (s1.trans s2)⟩
       | true =>
        walk_at "go"
        refine ⟨_,_,rfl,s1.trans s2,fun j hj=>?_⟩
        by_cases e:j=i
        ·subst e
         rw [hb]
         intro z
         cases z
        ·exact hno j (by omega)
      ·rintro σ G ⟨o1,o2,rfl,sG,hno⟩
       rcases hbad with hbad | hbad | hbad
       ·omega
       ·omega
       ·obtain ⟨j,hj,e⟩:=List.getElem_of_mem hbad
        have:=hno j (by rw [Paired.length pb]; exact hj)
        rw [List.getElem?_eq_getElem hj,e] at this
        exact absurd rfl this
     ·walk_at "go"
      refine aQl (i:=120) (by decide) fun z hz=>?_
      walk_at "go"
      intro z'
      walk_at "go"
      exact ⟨by rw [sizeLine_eq]; exact (show 1<=16777216 by decide),q _ (aAn.refl _)⟩
    ·walk_at "go"
     refine aQl (i:=120) (by decide) fun z hz=>?_
     walk_at "go"
     intro z'
     walk_at "go"
     exact ⟨by rw [sizeLine_eq]; exact (show 1<=16777216 by decide),q _ (aAn.refl _)⟩
   ·walk_at "go"
    refine aCp ty e ?_
    walk_at "go"
    refine aQl (i:=120) (by decide) fun z hz=>?_
    walk_at "go"
    intro z'
    walk_at "go"
    exact ⟨by rw [sizeLine_eq]; exact (show 1<=16777216 by decide),q _ (aAn.refl _)⟩
theorem aMt (T:Bl mg) (d:Df K mg "count_in" aDa ["row","counts"]  ) (W:XmS mg xt x1 x4 x5) (R_NoNet:XrS K xt x1 x4 x5 x1 1) (R_TooMany:XrS K xt x1 x4 x5 x4 4):Okf P w K mg base (k+1) "count_in" ["row","counts"] aMc:=by
 refine Okf.of d aMg (fun vs H Q E h=>?_) (fun f cdv A outer s H vs Q E hr h=>?_)
 ·obtain ⟨v,d,E,r,rfl,_⟩:=h
  rfl
 ·obtain ⟨v,d,E,r,rfl,hro,hc,hE,hw,q⟩:=h
  refine ⟨_,(@aAc _ _ _ _ _ (@aBc _ _ _ _ _ _ _ _ (@aAr _ _ _ _ _ _ _ _ (aA9 hr.units) (@aAj _ _ _ _ _ _ _ aAk (pv 0) (@aAb _ _ _ _) (fun _ _=>rfl)) (@aAt _ _ _ _) (aAw _)) (@aAg _ _ _ (@aAo _ _ _ _ (@aAb _ _ _ _))) (@aA0 _)) (@aAc _ _ _ _ _ (@aBc _ _ _ _ _ _ _ _ (@aAr _ _ _ _ _ _ _ _ (aA9 hr.units) (@aAj _ _ _ _ _ _ _ aAk (pv 0) (@aAb _ _ _ _) (fun _ _=>rfl)) (@aAt _ _ _ _) (aAw _)) (@aAg _ _ _ (@aAo _ _ _ _ (@aJr _ _ _ _ _ _ hr.u1 (pv 1) (@aAj _ _ _ _ _ _ _ aAk (pv 0) (@aAb _ _ _ _) (fun _ _=>rfl)) (fun _ _=>rfl)))) (@aA0 _)) (@aAg _ _ _ (@aA8 _ _)))),?_⟩
  try dsimp only [aAz,aA4]
  cases r with
  | plain r =>
   rw [aCw] at q
   replace hro:aGs H v r:=hro
   replace hw:okP r:=hw
   cases r with
   | run a b t =>
    obtain ⟨p,u,rfl,hp,_⟩:=hro
    walk_at "go"
    exact q
  | put nm cl as =>
   obtain ⟨p,q',rfl,hp,hq⟩:=hro
   obtain ⟨_,_,_,x,hx,rfl,_⟩:=hw
   obtain ⟨kvs,hk,_,hv⟩:=hc
   rw [(hE.put hx cl as).1,List.length_map] at q
   walk_at "go"
   refine aTn (.inl hk) (hv x hx) ?_
   walk_at "go"
   exact q
set_option maxHeartbeats 0 in
theorem aO6 (T:Bl mg) (d:Df K mg "counted" aDg ["rows"]  ) (W:XmS mg xt x1 x4 x5) (R_NoNet:XrS K xt x1 x4 x5 x1 1) (R_TooMany:XrS K xt x1 x4 x5 x4 4) (o_count_in:Okf P w K mg base k "count_in" ["row","counts"] aMc):Okf P w K mg base (k+1) "counted" ["rows"] (aEz K):=by
 refine Okf.of d aDu (fun vs H Q E h=>?_) (fun f cdv A outer s H vs Q E hr h=>?_)
 ·obtain ⟨l,gs,rfl,_⟩:=h
  rfl
 ·obtain ⟨l,gs,rfl,hl,hb,q⟩:=h
  refine ⟨_,(@aAc _ _ _ _ _ (@aAs _ _ (i:=1) _ _ _ _ aDu.nd rfl (by first | exact Or.inl rfl | exact Or.inr rfl) (@aAb _ _ _ _) (by rfl) (by first | exact .inl rfl | exact .inr rfl | assumption)) (@aAc _ _ _ _ _ (@aAs _ _ (i:=2) _ _ _ _ aDu.nd rfl (by first | exact Or.inl rfl | exact Or.inr rfl) (@aG1 _ _) (by rfl) (by first | exact .inl rfl | exact .inr rfl | assumption)) (@aAc _ _ _ _ _ (@aDz _ _ _ _ _ _ _ _ PassesOwn.never rfl (@aCm _ _ _ _ (pv 0)) (@aA2 _ _ (i:=3) _ aDu.nd rfl (by first | exact Or.inl rfl | exact Or.inr rfl) (by first | exact .inl rfl | exact .inr rfl | assumption)) (@aAg _ _ _ (@aBc _ _ _ _ _ _ _ _ (@aAr _ _ _ _ _ _ _ _ (aA9 hr.units) (@aAj _ _ _ _ _ _ _ aAk (pv 3) (@aAb _ _ _ _) (fun _ _=>rfl)) (@aAt _ _ _ _) (aAw _)) (@aAg _ _ _ (@aJp _ _ _ _ _ _ _ _ _ hr.u1 (pv 2) (@aAj _ _ _ _ _ _ _ aAk (pv 3) (@aAb _ _ _ _) (fun _ _=>rfl)) (@aAl _ _ _ _ _ _ _ _ _ (aVl rfl) rfl T.z_sum aVm (@aAa _ _ _ _ _ (@aDh _ _ _ _ _ _ _ _ _ _ _ _ _ _ (@aCz _ _ (sc:=aAf aDg) (N:=["rows","count","counts","row"]) (tn:=["inner"]) (names:=["counts"]) (is:=[2]) rfl rfl (by decide +kernel) (by decide +kernel) rfl (by decide +kernel) rfl (by decide +kernel) (by decide +kernel) (by decide +kernel)) rfl (@aNz _ _ _ _ (@aAj _ _ _ _ _ _ _ aAk (pv 3) (@aAb _ _ _ _) (fun _ _=>rfl))) (fun _ _ _ _=>(@aA2 _ _ (i:=0) _ (show (["inner","counts"]:List Str).Nodup by decide +kernel) rfl (Or.inl rfl) (Or.inr rfl))) (fun _ _ _ _=>(@aAi _ _ _ _ _ _ _ _ _ _ o_count_in hr rfl (@aAa _ _ _ _ _ (pv 0) (@aAa _ _ _ _ _ (pv 1) (@aAd _) (by rfl)) (by rfl)) (by decide) (by rfl) (by rfl))) (fun _ _ _ _=>(@aCb _)) (by intro _; rfl)) (@aAd _) (by rfl)) (by decide) (by decide) (by rfl) (by rfl)) rfl)) (@aAg _ _ _ (@aVc _ _ (i:=1) _ _ _ _ _ _ aDu.nd rfl (by first | exact Or.inl rfl | exact Or.inr rfl) (@aAi _ _ _ _ _ _ _ _ _ _ o_count_in hr rfl (@aAa _ _ _ _ _ (pv 3) (@aAa _ _ _ _ _ (pv 2) (@aAd _) (by rfl)) (by rfl)) (by decide) (by rfl) (by rfl)) aVf (by first | exact .inl rfl | exact .inr rfl))))) (by intro _; rfl)) (@aAg _ _ _ (@aAo _ _ _ _ (pv 1)))))),?_⟩
  try dsimp only [aAz,aA4]
  obtain ⟨xs,hxs,pr⟩:=hl
  have hlen:=Paired.length pr
  have few:=hb.few
  walk_at "go"
  refine aNx fun dc hdc=>?_
  have s0:=aAn.new (o:=.dK []) hdc
  have g0:=aAe (H:=H) (a:=dc) (o:=.dK [])
  generalize L2.upd H dc (.dK [])=H0 at s0 g0 ⊢
  have ndl:l≠dc:=aAh hxs hdc
  walk_at "go"
  refine aCk (SqL.of (s0 _ _ hxs)) ?_
  refine aK2 (xs:=xs) (fun i σ G=>∃ (E:List aAu) (A:List aD3) (o3:Option V),σ=[some (.ref l),some (.int (A.length:Int)),some (.ref dc),o3]/\Kp dc H0 G/\TK H0 G/\aVr G dc E/\WfE E/\WfG E (gs.drop i)/\goG [] gs=A++goG E (gs.drop i)/\aGi E (gs.drop i)=aGi [] gs) ⟨[],[],_,rfl,Kp.refl _ _,TK.refl _,⟨[],g0,Nat.le_refl _,fun _ h=>nomatch h⟩,trivial,hb.wf,rfl,rfl⟩ ?_ ?_ ?_
  ·rintro i σ G _ ⟨E,A,o3,rfl,kp,_⟩
   exact SqL.of (kp _ _ ndl (s0 _ _ hxs))
  ·rintro i x σ G hx ⟨E,A,o3,rfl,kp,tk,cq,hE,hW,eA,eE⟩
   obtain ⟨g,hg0,gq⟩:=Paired.at pr hx
   rw [aE6 hg0] at hW eA eE
   replace gq:=(gq.tk s0.tk).tk tk
   have h8:E.length<=20:=hb.le20 hE eE
   cases g with
   | one r =>
    replace gq:aBz G x r:=gq
    obtain ⟨p,k,ys,rfl,hp,npc⟩:=gq.head
    walk_at "go"
    refine aOu hp (aBv (show (V.str k::ys)[0]?=some (V.str k) from rfl)) ?_
    walk_at "go"
    rw [if_neg (show ¬ (k=="piece")=true by simpa using npc)]
    walk_at "go"
    refine bAb rfl ?_
    walk_at "go"
    refine ⟨_,dc,E,r,rfl,gq,cq,hE,hW.1,?_⟩
    walk_at "go"
    refine ⟨_,_,rfl,rfl,⟨E,A++aAy E r,some (.ref p),?_,kp,tk,cq,hE,hW.2,by rw [eA,List.append_assoc]; rfl,eE⟩⟩
    rw [List.length_append,Int.natCast_add]
    rfl
   | piece pc =>
    obtain ⟨p,q',z,ys,rfl,hp,hq,hz,prs⟩:=(show aDm G x pc from gq)
    obtain ⟨hWp,hWr⟩:=hW
    walk_at "go"
    refine aJj (SqT.of hz) ?_
    have hyl:=Paired.length prs
    have hy60:=hWp.2.2.1
    refine aWh (xs:=ys) (by omega) (fun acc i ws G'=>Kp acc G G'/\ws=((pc.2.2.take i).map fun r=>((aAy E r).length:Int)).map V.int) ?_ ?_ ?_ ?_
    ·intro acc h0
     exact ⟨Kp.new h0,rfl⟩
    ·rintro acc j ws G' h0 hj ⟨kp',_⟩
     exact SqT.of (kp' _ _ (aAh hz h0) hz)
    ·rintro acc j ws G' x' h0 hx' hwl hG' ⟨kp',rfl⟩
     obtain ⟨r,hr0,rq⟩:=Paired.at prs hx'
     have sG':aAn G G':=fun b o h=>kp' _ _ (aAh h h0) h
     walk_at "go"
     refine ⟨_,dc,E,r,rfl,rq.tk sG'.tk,cq.sm sG',hE,hWp.1 r (List.mem_of_getElem? hr0),?_⟩
     refine aD9 (by have:=(List.getElem?_eq_some_iff.mp hx').1; exact this) hwl hG' ⟨kp'.trans Kp.upd,?_⟩
     rw [List.take_add_one,hr0,List.map_append,List.map_append]
     rfl
    ·rintro acc ws G' h0 hG' hwl ⟨kp',rfl⟩
     rw [hyl,List.take_length] at hG'
     have sG':aAn G G':=fun b o h=>kp' _ _ (aAh h h0) h
     have esum:((pc.2.2.map fun r=>((aAy E r).length:Int)).sum)=((pc.2.2.flatMap (aAy E)).length:Int):=aUz pc.2.2
     have hbnd:=aQw hE hWp.1 (by have:wE E+pc.2.2.length+2<=60:=hb.wE (E:=pc::E) eE; omega)
     walk_at "go"
     refine ⟨acc,_,rfl,SqL.of hG',fun n hn=>?_,?_,?_⟩
     ·obtain ⟨r,_,rfl⟩:=List.mem_map.mp hn
      exact Int.natCast_nonneg _
     ·rw [esum]
      omega
     rw [esum]
     have hpG:=sG' _ _ hp
     walk_at "go"
     obtain ⟨kvs,hk,hkl,hv⟩:=cq.sm sG'
     refine aTm hk (by omega) ?_
     walk_at "go"
     have kd:Kp dc H0 (L2.upd G' dc (.dK (aD7 kvs (Sum.inr pc.1) (.int ((pc.2.2.flatMap (aAy E)).length:Int))))):=(kp.trans sG'.kp).trans Kp.upd
     exact ⟨pc::E,A,_,rfl,kd,(tk.trans sG'.tk).trans (TK.dic hk),aVr.put hE hWp hkl hv,⟨hWp,hE⟩,hWr,eA,eE⟩
  rintro σ G ⟨E,A,o3,rfl,kp,tk,cq,hE,hW,eA,eE⟩
  walk_at "go"
  rw [hlen,List.drop_length] at eA
  rw [eA,show goG E []=[] from rfl,List.append_nil] at q
  exact q _ fun b o h=>kp _ _ (aAh h hdc) (s0 _ _ h)
theorem aMq (T:Bl mg) (d:Df K mg "name_put" aC8 ["post","names","called"]  ) (W:XmS mg xt x1 x4 x5) (R_NoNet:XrS K xt x1 x4 x5 x1 1) (R_TooMany:XrS K xt x1 x4 x5 x4 4):Okf P w K mg base (k+1) "name_put" ["post","names","called"] aHh:=by
 refine Okf.of d aMe (fun vs H Q E h=>?_) (fun f cdv A outer s H vs Q E hr h=>?_)
 ·obtain ⟨x,cl,d,ps,as,rfl,_⟩:=h
  rfl
 ·obtain ⟨x,cl,d,ps,as,rfl,hd,hx,hc,q⟩:=h
  refine ⟨_,(@aAg _ _ _ (@aAo _ _ _ _ (@aTw _ _ _ _ _ _ _ _ _ hr.u1 (pv 1) (pv 0) (@bAw _ _ _ _ _ _ (@aC4 _ _ _ _ _ (@aVd _ _ _ _ (pv 2)) (@aC4 _ _ _ _ _ (@aAt _ _ _ _) (@aC4 _ _ _ _ _ (@aVd _ _ _ _ (pv 0)) (@aNy _)))) (by decide)) ⟨rfl,rfl,rfl,rfl⟩))),?_⟩
  try dsimp only [aAz,aA4]
  have ep:(".":Str)=⟨#[46]⟩:=by decide +kernel
  have e0:∀ z:Str,Str.empty++z=z:=fun z=>aI4 (by show ((#[]:Array Nat)++z.cps).toList=_; simp)
  walk_at "go"
  refine ⟨d,rfl,.inl ⟨_,.inl hd⟩,?_⟩
  walk_at "go"
  refine aZy hc ?_
  refine aV9 hc ?_
  walk_at "go"
  refine aV9 (by decide) ?_
  walk_at "go"
  refine aZy hx ?_
  refine aV9 hx ?_
  walk_at "go"
  refine ⟨_,.inl ⟨_,Sum.inr x,.inl hd,rfl,rfl⟩,?_⟩
  rw [e0,ep,aPm]
  exact q
set_option maxHeartbeats 0 in
theorem aIw (T:Bl mg) (d:Df K mg "runs_of" aDw ["row","pieces"]  ) {dd:Nat} (W:XmS mg xt x1 x4 x5) (R_NoNet:XrS K xt x1 x4 x5 x1 1) (R_TooMany:XrS K xt x1 x4 x5 x4 4) (o_runs_put:Okf P w K mg base k "runs_put" ["row","pieces"] (aFb K dd)):Okf P w K mg base (k+1) "runs_of" ["row","pieces"] (aDs K dd):=by
 refine Okf.of d aOp (fun vs H Q E h=>?_) (fun f cdv A outer s H vs Q E hr h=>?_)
 ·obtain ⟨v,d,E,r,rfl,_⟩:=h
  rfl
 ·obtain ⟨v,d,E,r,rfl,hro,hpc,hE,hw,hrk,hn,q⟩:=h
  refine ⟨_,(@aAc _ _ _ _ _ (@aBc _ _ _ _ _ _ _ _ (@aAr _ _ _ _ _ _ _ _ (aA9 hr.units) (@aAj _ _ _ _ _ _ _ aAk (pv 0) (@aAb _ _ _ _) (fun _ _=>rfl)) (@aAt _ _ _ _) (aAw _)) (@aAg _ _ _ (@aAo _ _ _ _ (@aBw _ _ _ _ (@aAa _ _ _ _ _ (@aBp _ _ _ _ _ (@aAa _ _ _ _ _ (@aAj _ _ _ _ _ _ _ aAk (pv 0) (@aAb _ _ _ _) (fun _ _=>rfl)) (@aAa _ _ _ _ _ (@aAj _ _ _ _ _ _ _ aAk (pv 0) (@aAb _ _ _ _) (fun _ _=>rfl)) (@aAa _ _ _ _ _ (@aAj _ _ _ _ _ _ _ aAk (pv 0) (@aAb _ _ _ _) (fun _ _=>rfl)) (@aAd _) (by rfl)) (by rfl)) (by rfl))) (@aAd _) (by rfl))))) (@aA0 _)) (@aAc _ _ _ _ _ (@aBc _ _ _ _ _ _ _ _ (@aAr _ _ _ _ _ _ _ _ (aA9 hr.units) (@aAj _ _ _ _ _ _ _ aAk (pv 0) (@aAb _ _ _ _) (fun _ _=>rfl)) (@aAt _ _ _ _) (aAw _)) (@aAg _ _ _ (@aAo _ _ _ _ (@aAi _ _ _ _ _ _ _ _ _ _ o_runs_put hr rfl (@aAa _ _ _ _ _ (pv 0) (@aAa _ _ _ _ _ (pv 1) (@aAd _) (by rfl)) (by rfl)) (by decide) (by rfl) (by rfl)))) (@aA0 _)) (@aAc _ _ _ _ _ (@aBc _ _ _ _ _ _ _ _ (@aAr _ _ _ _ _ _ _ _ (aA9 hr.units) (@aAj _ _ _ _ _ _ _ aAk (pv 0) (@aAb _ _ _ _) (fun _ _=>rfl)) (@aAt _ _ _ _) (aAw _)) (@aAg _ _ _ (@aA8 _ _)) (@aA0 _)) (@aAg _ _ _ (@aA8 _ _))))),?_⟩
  try dsimp only [aAz,aA4]
  cases r with
  | put nm cl as =>
   obtain ⟨p,q',rfl,hp,hq⟩:=id hro
   walk_at "go"
   exact ⟨_,d,E,nm,cl,as,rfl,hro,hpc,hE,hw,hrk,hn,q⟩
  | plain r =>
   rw [aCw] at q
   replace hro:aGs H v r:=hro
   replace hw:okP r:=hw
   cases r with
   | run a b t =>
    obtain ⟨p,u,rfl,hp,hu⟩:=hro
    walk_at "go"
    refine aBi fun p1 hp1=>?_
    have t1:=aAn.new (o:=.tup [.str a,.str b,u]) hp1
    walk_at "go"
    refine aBo fun l1 hl1=>?_
    have t2:=t1.trans (aAn.new (o:=.lst [.ref p1]) hl1)
    walk_at "go"
    exact q l1 _ (t1.free hl1) t2 ⟨_,aAe,.cons (aCg.mk3 (aFz hl1 aAe) (hu.tk t2.tk)) .nil⟩
set_option maxHeartbeats 0 in
theorem aMm (T:Bl mg) (d:Df K mg "runs_put" aCr ["row","pieces"]  ) {dd:Nat} (W:XmS mg xt x1 x4 x5) (R_NoNet:XrS K xt x1 x4 x5 x1 1) (R_TooMany:XrS K xt x1 x4 x5 x4 4) (o_runs_of:Okf P w K mg base k "runs_of" ["row","pieces"] (aDs K dd)) (o_name_put:Okf P w K mg base k "name_put" ["post","names","called"] aHh):Okf P w K mg base (k+1) "runs_put" ["row","pieces"] (aFb K (dd+1)):=by
 refine Okf.of d aBm (fun vs H Q E h=>?_) (fun f cdv A outer s H vs Q E hr h=>?_)
 ·obtain ⟨v,d,E,nm,cl,as,rfl,_⟩:=h
  rfl
 ·obtain ⟨v,d,E,nm,cl,as,rfl,hro,hpc,hE,hw,hrk,hn,q⟩:=h
  refine ⟨_,(@aAc _ _ _ _ _ (@aAs _ _ (i:=2) _ _ _ _ aBm.nd rfl (by first | exact Or.inl rfl | exact Or.inr rfl) (@aJr _ _ _ _ _ _ hr.u1 (pv 1) (@aAj _ _ _ _ _ _ _ aAk (pv 0) (@aAb _ _ _ _) (fun _ _=>rfl)) (fun _ _=>rfl)) (by rfl) (by first | exact .inl rfl | exact .inr rfl | assumption)) (@aAc _ _ _ _ _ (@aAs _ _ (i:=3) _ _ _ _ aBm.nd rfl (by first | exact Or.inl rfl | exact Or.inr rfl) (@aWq _ _ _ _ _ _ _ _ rfl rfl T.z_dict rfl T.z_zip (@aAa _ _ _ _ _ (@aAj _ _ _ _ _ _ _ aAk (pv 2) (@aAb _ _ _ _) (fun _ _=>rfl)) (@aAa _ _ _ _ _ (@aAj _ _ _ _ _ _ _ aAk (pv 0) (@aAb _ _ _ _) (fun _ _=>rfl)) (@aAd _) (by rfl)) (by rfl)) (by rfl) (by rfl) (by rfl)) (by rfl) (by first | exact .inl rfl | exact .inr rfl | assumption)) (@aAc _ _ _ _ _ (@aAs _ _ (i:=4) _ _ _ _ aBm.nd rfl (by first | exact Or.inl rfl | exact Or.inr rfl) (@aBw _ _ _ _ (@aAd _)) (by rfl) (by first | exact .inl rfl | exact .inr rfl | assumption)) (@aAc _ _ _ _ _ (@aDz _ _ _ _ _ _ _ _ PassesOwn.never rfl (@aNz _ _ _ _ (@aAj _ _ _ _ _ _ _ aAk (pv 2) (@aAb _ _ _ _) (fun _ _=>rfl))) (@aA2 _ _ (i:=5) _ aBm.nd rfl (by first | exact Or.inl rfl | exact Or.inr rfl) (by first | exact .inl rfl | exact .inr rfl | assumption)) (@aAg _ _ _ (@aDz _ _ _ _ _ _ _ _ PassesOwn.never rfl (@aCm _ _ _ _ (@aAi _ _ _ _ _ _ _ _ _ _ o_runs_of hr rfl (@aAa _ _ _ _ _ (pv 5) (@aAa _ _ _ _ _ (pv 1) (@aAd _) (by rfl)) (by rfl)) (by decide) (by rfl) (by rfl))) (@aN1 _ _ _ _ _ (n:=3) rfl (@aC0 _ _ _ _ _ (@aA2 _ _ (i:=6) _ aBm.nd rfl (by first | exact Or.inl rfl | exact Or.inr rfl) (by first | exact .inl rfl | exact .inr rfl | assumption)) (@aC0 _ _ _ _ _ (@aA2 _ _ (i:=7) _ aBm.nd rfl (by first | exact Or.inl rfl | exact Or.inr rfl) (by first | exact .inl rfl | exact .inr rfl | assumption)) (@aC0 _ _ _ _ _ (@aA2 _ _ (i:=8) _ aBm.nd rfl (by first | exact Or.inl rfl | exact Or.inr rfl) (by first | exact .inl rfl | exact .inr rfl | assumption)) (@aJq _) (by rfl)) (by rfl)) (by rfl)) (by rfl) (by rfl)) (@aAg _ _ _ (@aB7 _ _ _ _ (@aEf _ _ _ _ _ _ _ _ _ _ _ _ PySem.F.plainAttrs_list PySem.F.slot_list_append PySem.F.type_list_append aDi (pv 4) (@aAa _ _ _ _ _ (@aBp _ _ _ _ _ (@aAa _ _ _ _ _ (@aAi _ _ _ _ _ _ _ _ _ _ o_name_put hr rfl (@aAa _ _ _ _ _ (pv 6) (@aAa _ _ _ _ _ (pv 3) (@aAa _ _ _ _ _ (@aAj _ _ _ _ _ _ _ aAk (pv 0) (@aAb _ _ _ _) (fun _ _=>rfl)) (@aAd _) (by rfl)) (by rfl)) (by rfl)) (by decide) (by rfl) (by rfl)) (@aAa _ _ _ _ _ (@aAi _ _ _ _ _ _ _ _ _ _ o_name_put hr rfl (@aAa _ _ _ _ _ (pv 7) (@aAa _ _ _ _ _ (pv 3) (@aAa _ _ _ _ _ (@aAj _ _ _ _ _ _ _ aAk (pv 0) (@aAb _ _ _ _) (fun _ _=>rfl)) (@aAd _) (by rfl)) (by rfl)) (by rfl)) (by decide) (by rfl) (by rfl)) (@aAa _ _ _ _ _ (pv 8) (@aAd _) (by rfl)) (by rfl)) (by rfl))) (@aAd _) (by rfl)) (by rfl) (by rfl) (by rfl) (by rfl) (by rfl)) (by rfl))) (by intro _; rfl))) (by intro _; rfl)) (@aAg _ _ _ (@aAo _ _ _ _ (pv 4))))))),?_⟩
  try dsimp only [aAz,aA4]
  obtain ⟨hE,h60⟩:=hE
  obtain ⟨p,q',rfl,hp,hq⟩:=hro
  obtain ⟨kvs,hk,_,hv⟩:=id hpc
  obtain ⟨w1,w2,w3,x,hx,rfl,wl⟩:=id hw
  obtain ⟨u,eu,pp,qq,zz,ys,rfl,hpp,hqq,hzz,prs⟩:=hv x hx
  obtain ⟨eput,erk⟩:=hE.put hx cl as
  obtain ⟨_,w60,wnd,w8,w88,_⟩:=hE.at hx
  rw [eput] at q hn
  rw [List.length_map] at hn
  have hyl:=Paired.length prs
  have cl8:=(aDb w1).2.1
  walk_at "go"
  refine aTn (.inl hk) eu ?_
  walk_at "go"
  have asl:as.length=x.2.1.length:=wl.symm
  refine ⟨qq,q',x.2.1,as.map V.str,rfl,hqq,hq,by rw [List.length_map,asl],w8,by omega,fun dn hdn=>?_⟩
  rw [aYj wnd wl]
  have s1:=aAn.new (o:=.dK ((x.2.1.map Sum.inr).zip (as.map V.str))) hdn
  have g1:=aAe (H:=H) (a:=dn) (o:=.dK ((x.2.1.map Sum.inr).zip (as.map V.str)))
  generalize L2.upd H dn (.dK ((x.2.1.map Sum.inr).zip (as.map V.str)))=H1 at s1 g1 ⊢
  walk_at "go"
  refine aBo fun lr hlr=>?_
  have hlr0:=s1.free hlr
  have hpp1:=s1 _ _ hpp
  walk_at "go"
  refine aJj (SqT.of (aFz hlr (s1 _ _ hzz))) ?_
  refine aMi (xs:=ys) (fun i σ G=>∃ o5 o6 o7 o8,σ=[some (.ref p),some (.ref d),some (.ref pp),some (.ref dn),some (.ref lr),o5,o6,o7,o8]/\Kp lr H1 G/\TK H1 G/\LQ aCg G lr (kn (((x.2.2.take i).flatMap (aAy E)).map (aL1 x.2.1 as cl)))) ⟨_,_,_,_,rfl,Kp.new hlr,TK.new hlr,[],aAe,.nil⟩ ?_ ?_ ?_
  ·rintro i σ G _ ⟨o5,o6,o7,o8,rfl,kp,_⟩
   exact SqT.of (kp _ _ (aAh (s1 _ _ hzz) hlr) (s1 _ _ hzz))
  ·rintro i y σ G hy ⟨o5,o6,o7,o8,rfl,kp,tk,vs,hvs,pv⟩
   obtain ⟨r,hr0,rq⟩:=Paired.at prs hy
   have hrm:=List.mem_of_getElem? hr0
   have rq':=(rq.tk s1.tk).tk tk
   have epart:(x.2.2.take (i+1)).flatMap (aAy E)=(x.2.2.take i).flatMap (aAy E)++aAy E r:=by
    rw [List.take_add_one,hr0,List.flatMap_append]
    simp
   have hle:((x.2.2.take i).flatMap (aAy E)).length+(aAy E r).length<=120:=by
    have e1:x.2.2=x.2.2.take (i+1)++x.2.2.drop (i+1):=(List.take_append_drop _ _).symm
    rw [e1,List.flatMap_append,List.length_append,epart,List.length_append] at hn
    omega
   have sHG:aAn H G:=fun b o h=>kp _ _ (aAh (s1 _ _ h) hlr) (s1 _ _ h)
   walk_at "go"
   refine ⟨_,d,E,r,rfl,rq',hpc.sm sHG,⟨hE,h60⟩,hE.row hx r hrm,by have:=erk r hrm; omega,by omega,fun l2 G1 hl2 t1 lq=>?_⟩
   obtain ⟨v2,hv2,pv2⟩:=lq
   have el2:v2.length=(aAy E r).length:=(Paired.length pv2).trans (by simp [kn])
   have evs:vs.length=((x.2.2.take i).flatMap (aAy E)).length:=(Paired.length pv).trans (by simp [kn])
   have okr:=aHo hE (hE.row hx r hrm)
   have nl2:l2≠lr:=fun z=>by rw [z,hvs] at hl2; cases hl2
   walk_at "go"
   refine aCk (SqL.of hv2) ?_
   refine aK2 (xs:=v2) (fun j σ G'=>∃ o6 o7 o8,σ=[some (.ref p),some (.ref d),some (.ref pp),some (.ref dn),some (.ref lr),some y,o6,o7,o8]/\Kp lr G1 G'/\TK G1 G'/\LQ aCg G' lr (kn ((((x.2.2.take i).flatMap (aAy E))++(aAy E r).take j).map (aL1 x.2.1 as cl)))) ⟨_,_,_,rfl,Kp.refl _ _,TK.refl _,?_⟩ ?_ ?_ ?_
   ·rw [List.take_zero,List.append_nil]
    exact ⟨vs,t1 _ _ hvs,Pd.imp pv fun v b f=>aCg.tk f t1.tk⟩
   ·rintro j σ G' _ ⟨o6,o7,o8,rfl,kp',_⟩
    exact SqL.of (kp' _ _ nl2 hv2)
   ·rintro j w σ G' hw' ⟨o6,o7,o8,rfl,kp',tk',vs',hvs',pv'⟩
    obtain ⟨rr,hrr,p3,ut,rfl,hp3,ft⟩:=Paired.at pv2 hw'
    obtain ⟨r3,hr3,rfl⟩:=aXf hrr
    replace hp3:G1 p3=some (.tup [.str r3.1,.str r3.2.1,ut]):=hp3
    have hp3':=tk' _ _ hp3
    obtain ⟨n1,n2,_⟩:=okr r3 (List.mem_of_getElem? hr3)
    have l1:=n1.2.2
    have l2':=n2.2.2
    have ndn:dn≠lr:=fun z=>by rw [z] at g1; rw [g1] at hlr; cases hlr
    have gdn:G' dn=some (.dK ((x.2.1.map Sum.inr).zip (as.map V.str))):=kp' _ _ ndn (t1 _ _ (kp _ _ ndn g1))
    have hpG':=tk' _ _ (t1.tk _ _ (tk _ _ (s1 _ _ hp)))
    walk_at "go"
    refine ⟨r3.1,cl,dn,x.2.1,as,rfl,gdn,by omega,by omega,?_⟩
    walk_at "go"
    refine ⟨r3.2.1,cl,dn,x.2.1,as,rfl,gdn,by omega,by omega,?_⟩
    walk_at "go"
    refine aBi fun p9 hp9=>?_
    have t9:=aAn.new (o:=.tup [.str (aCn x.2.1 as cl r3.1),.str (aCn x.2.1 as cl r3.2.1),ut]) hp9
    have g9:=aAe (H:=G') (a:=p9) (o:=.tup [.str (aCn x.2.1 as cl r3.1),.str (aCn x.2.1 as cl r3.2.1),ut])
    generalize L2.upd G' p9 (.tup [.str (aCn x.2.1 as cl r3.1),.str (aCn x.2.1 as cl r3.2.1),ut])=G2 at t9 g9 ⊢
    have evs':vs'.length=((x.2.2.take i).flatMap (aAy E)).length+((aAy E r).take j).length:=by
     rw [(Paired.length pv'),← List.length_append]
     simp [kn]
    have tkl:=List.length_take_le j (aAy E r)
    have tkl2:=List.length_take_le' j (aAy E r)
    walk_at "go"
    refine aOv (t9 _ _ hvs') (by omega) ?_
    have tk2:=TK.lst (o:=.lst (vs'++[.ref p9])) (t9 _ _ hvs')
    walk_at "go"
    refine ⟨_,_,_,rfl,(kp'.trans t9.kp).trans Kp.upd,(tk'.trans t9.tk).trans tk2,_,aAe,?_⟩
    rw [List.take_add_one,hr3,← List.append_assoc,List.map_append]
    rw [show kn (List.map (aL1 x.2.1 as cl) (List.flatMap (aAy E) (x.2.2.take i)++(aAy E r).take j)++List.map (aL1 x.2.1 as cl) (some r3).toList)=kn (List.map (aL1 x.2.1 as cl) (List.flatMap (aAy E) (x.2.2.take i)++(aAy E r).take j))++[(Sum.inr (aCn x.2.1 as cl r3.1),Sum.inr (aCn x.2.1 as cl r3.2.1),r3.2.2)] by simp [kn,aL1]]
    exact Pd.snoc (Pd.imp pv' fun v b f=>(aCg.tk f t9.tk).tk tk2) (aCg.mk3 (tk2 _ _ g9) (((ft.tk tk').tk t9.tk).tk tk2))
   rintro σ G' ⟨o6,o7,o8,rfl,kp',tk',lq'⟩
   rw [el2,List.take_length,← epart] at lq'
   walk_at "go"
   exact ⟨_,_,_,_,rfl,(kp.trans t1.kp).trans kp',(tk.trans t1.tk).trans tk',lq'⟩
  rintro σ G ⟨o5,o6,o7,o8,rfl,kp,tk,lq⟩
  rw [hyl,List.take_length] at lq
  walk_at "go"
  exact q lr G hlr0 (fun b o h=>kp _ _ (aAh (s1 _ _ h) hlr) (s1 _ _ h)) lq
set_option maxHeartbeats 0 in
theorem aQ9 (T:Bl mg) (d:Df K mg "opened" aEn ["rows"] ) (W:XmS mg xt x1 x4 x5) (R_NoNet:XrS K xt x1 x4 x5 x1 1) (R_TooMany:XrS K xt x1 x4 x5 x4 4) {tk_MOST_RUNS:Tok} (g_MOST_RUNS:mg "MOST_RUNS"=some (.int 120 tk_MOST_RUNS)) (o_net_of:aPj P w K mg base k "net_of" ["runs"] [] (aP3 K x1)) (o_runs_of:Okf P w K mg base k "runs_of" ["row","pieces"] (aDs K 23)) (o_counted:Okf P w K mg base k "counted" ["rows"] (aEz K)):aPj P w K mg base (k+1) "opened" ["rows"] [] (aIg x1 x4):=by
 refine aPj.of d aFg (fun vs H Q E h=>?_) (fun f cdv A outer s H vs Q E hr h=>?_)
 ·obtain ⟨l,gs,rfl,_⟩:=h
  rfl
 ·obtain ⟨l,gs,rfl,hl,hb,q1,q2,q3⟩:=h
  refine ⟨_,(@aAc _ _ _ _ _ (@aBc _ _ _ _ _ _ _ _ (@aAr _ _ _ _ _ _ _ _ aMl (@aAi _ _ _ _ _ _ _ _ _ _ o_counted hr rfl (@aAa _ _ _ _ _ (pv 0) (@aAd _) (by rfl)) (by decide) (by rfl) (by rfl)) (@aCe _ _ (v:=(.int 120)) _ _ rfl g_MOST_RUNS ⟨_,rfl⟩ (by decide)) (aAw _)) (@aAg _ _ _ (@aHp _ _ _ _ _ _ _ _ _ _ (fun _ _ _ _ _ _ _ _ I m q=>aPo I m q) rfl rfl W.m_TooMany R_TooMany.e (@aAa _ _ _ _ _ (@aQx _ _ _ _ _ _ (@aC4 _ _ _ _ _ (@aAt _ _ _ _) (@aC4 _ _ _ _ _ (@aQy _ _ _ _ (@aCe _ _ (v:=(.int 120)) _ _ rfl g_MOST_RUNS ⟨_,rfl⟩ (by decide))) (@aC4 _ _ _ _ _ (@aAt _ _ _ _) (@aNy _)))) (by decide)) (@aAd _) (by rfl)) (by decide) (by rfl) (by rfl))) (@aA0 _)) (@aAc _ _ _ _ _ (@aAs _ _ (i:=1) _ _ _ _ aFg.nd rfl (by first | exact Or.inl rfl | exact Or.inr rfl) (@aG1 _ _) (by rfl) (by first | exact .inl rfl | exact .inr rfl | assumption)) (@aAc _ _ _ _ _ (@aAs _ _ (i:=2) _ _ _ _ aFg.nd rfl (by first | exact Or.inl rfl | exact Or.inr rfl) (@aBw _ _ _ _ (@aAd _)) (by rfl) (by first | exact .inl rfl | exact .inr rfl | assumption)) (@aAc _ _ _ _ _ (@aDz _ _ _ _ _ _ _ _ PassesOwn.leaving rfl (@aCm _ _ _ _ (pv 0)) (@aA2 _ _ (i:=3) _ aFg.nd rfl (by first | exact Or.inl rfl | exact Or.inr rfl) (by first | exact .inl rfl | exact .inr rfl | assumption)) (@aAg _ _ _ (@aBc _ _ _ _ _ _ _ _ (@aAr _ _ _ _ _ _ _ _ (aA9 hr.units) (@aAj _ _ _ _ _ _ _ aAk (pv 3) (@aAb _ _ _ _) (fun _ _=>rfl)) (@aAt _ _ _ _) (aAw _)) (@aAg _ _ _ (@aJp _ _ _ _ _ _ _ _ _ hr.u1 (pv 1) (@aAj _ _ _ _ _ _ _ aAk (pv 3) (@aAb _ _ _ _) (fun _ _=>rfl)) (pv 3) rfl)) (@aAg _ _ _ (@aB7 _ _ _ _ (@aEf _ _ _ _ _ _ _ _ _ _ _ _ PySem.F.plainAttrs_list PySem.F.slot_list_extend PySem.F.type_list_extend aRl (pv 2) (@aAa _ _ _ _ _ (@aAi _ _ _ _ _ _ _ _ _ _ o_runs_of hr rfl (@aAa _ _ _ _ _ (pv 3) (@aAa _ _ _ _ _ (pv 1) (@aAd _) (by rfl)) (by rfl)) (by decide) (by rfl) (by rfl)) (@aAd _) (by rfl)) (by rfl) (by rfl) (by rfl) (by rfl) (by rfl)) (by rfl))))) (by intro _; rfl)) (@aAg _ _ _ (@aAo _ _ _ _ (@aTx _ _ _ _ _ _ _ _ _ _ _ _ o_net_of hr rfl passX (@aAa _ _ _ _ _ (pv 2) (@aAd _) (by rfl)) (by decide) (by rfl) (by rfl)))))))),?_⟩
  try dsimp only [aAz,aA4]
  obtain ⟨xs,hxs,pr⟩:=id hl
  have hlen:=Paired.length pr
  have few:=hb.few
  walk_at "go"
  refine ⟨l,gs,rfl,hl,hb,fun H1 s1=>?_⟩
  walk_at "go"
  refine i_d (fun hcm=>?_) (fun hcm=>?_)
  ·replace hcm:120 < (goG [] gs).length:=by omega
   walk_at "go"
   refine aQl (i:=120) (by decide) fun z hz=>?_
   walk_at "go"
   intro z'
   walk_at "go"
   exact ⟨by rw [sizeLine_eq]; exact (show 1<=16777216 by decide),q1 hcm _ s1⟩
  replace hcm:(goG [] gs).length<=120:=by omega
  walk_at "go"
  refine aNx fun dc hdc=>?_
  have s12:=aAn.new (o:=.dK []) hdc
  have s2:=s1.trans s12
  have g2:=aAe (H:=H1) (a:=dc) (o:=.dK [])
  generalize L2.upd H1 dc (.dK [])=H2 at s12 s2 g2 ⊢
  walk_at "go"
  refine aBo fun lr hlr=>?_
  have ndr:dc≠lr:=aAh g2 hlr
  walk_at "go"
  refine aCk (SqL.of (aFz hlr (s2 _ _ hxs))) ?_
  have hlr0:=s2.free hlr
  have hdc0:=s1.free hdc
  have nl1:l≠lr:=aAh (s2 _ _ hxs) hlr
  have nl2:l≠dc:=aAh hxs hdc0
  have old:∀ {G:Hp},(∀ b o,b≠lr->b≠dc->H2 b=some o->G b=some o)->aAn H G:=fun k b o h=>k b o (aAh h hlr0) (aAh h hdc0) (s2 _ _ h)
  refine aK2 (xs:=xs) (fun i σ G=>∃ (E:List aAu) (A:List aD3) (o3:Option V),σ=[some (.ref l),some (.ref dc),some (.ref lr),o3]/\(∀ b o,b≠lr->b≠dc->H2 b=some o->G b=some o)/\TK H2 G/\LQ aCg G lr (kn A)/\aUr G dc E/\WfE E/\WfG E (gs.drop i)/\goG [] gs=A++goG E (gs.drop i)/\aGi E (gs.drop i)=aGi [] gs) ⟨[],[],_,rfl,fun b o n1 _ h=>by rw [aA1 n1]; exact h,TK.new hlr,⟨[],aAe,.nil⟩,⟨[],by rw [aA1 ndr]; exact g2,Nat.le_refl _,fun _ h=>nomatch h⟩,trivial,hb.wf,rfl,rfl⟩ ?_ ?_ ?_
  ·rintro i σ G _ ⟨E,A,o3,rfl,kp,_⟩
   exact SqL.of (kp _ _ nl1 nl2 (s2 _ _ hxs))
  ·rintro i x σ G hx ⟨E,A,o3,rfl,kp,tk,⟨vs,hvs,pv⟩,pq,hE,hW,eA,eE⟩
   obtain ⟨g,hg0,gq⟩:=Paired.at pr hx
   rw [aE6 hg0] at hW eA eE
   replace gq:=(gq.tk s2.tk).tk tk
   have h8:E.length<=20:=hb.le20 hE eE
   cases g with
   | one r =>
    replace gq:aBz G x r:=gq
    obtain ⟨p,k,ys,rfl,hp,npc⟩:=gq.head
    have hcnt:A.length+(aAy E r).length<=120:=by
     have:=congrArg List.length eA
     rw [List.length_append,show goG E (.one r::gs.drop (i+1))=aAy E r++goG E (gs.drop (i+1)) from rfl,List.length_append] at this
     omega
    have hrk:=aY8 E r
    walk_at "go"
    refine aOu hp (aBv (show (V.str k::ys)[0]?=some (V.str k) from rfl)) ?_
    walk_at "go"
    rw [if_neg (show ¬ (k=="piece")=true by simpa using npc)]
    walk_at "go"
    refine ⟨_,dc,E,r,rfl,gq,pq,⟨hE,by omega⟩,hW.1,by omega,by omega,fun l2 G1 hl2 t1 lq=>?_⟩
    obtain ⟨v2,hv2,pv2⟩:=lq
    have e1:vs.length=A.length:=(Paired.length pv).trans (by simp [kn])
    have e2:v2.length=(aAy E r).length:=(Paired.length pv2).trans (by simp [kn])
    walk_at "go"
    refine r_ext (t1 _ _ hvs) hv2 (by omega) ?_
    have tk2:=TK.lst (o:=.lst (vs++v2)) (t1 _ _ hvs)
    walk_at "go"
    refine ⟨E,A++aAy E r,_,rfl,fun b o n1 n2 h=>by rw [aA1 n1]; exact t1 _ _ (kp b o n1 n2 h),(tk.trans t1.tk).trans tk2,⟨_,aAe,?_⟩,?_,hE,hW.2,by rw [eA,List.append_assoc]; rfl,eE⟩
    ·rw [show kn (A++aAy E r)=kn A++kn (aAy E r) by simp [kn]]
     exact Pd.app (Pd.imp pv fun v b f=>(aCg.tk f t1.tk).tk tk2) (Pd.imp pv2 fun v b f=>aCg.tk f tk2)
    ·obtain ⟨kvs,hk,hkl,hv⟩:=pq.sm t1
     exact ⟨kvs,by rw [aA1 ndr]; exact hk,hkl,fun p hp=>let ⟨v,e,f⟩:=hv p hp; ⟨v,e,f.tk tk2⟩⟩
   | piece pc =>
    have gq':aDm G x pc:=gq
    obtain ⟨p,q',z,ys,rfl,hp,hq,hz,prs⟩:=gq'
    obtain ⟨hWp,hWr⟩:=hW
    obtain ⟨kvs,hk,hkl,hv⟩:=id pq
    walk_at "go"
    refine aTm hk (by omega) ?_
    have tk2:=TK.dic (o:=.dK (aD7 kvs (Sum.inr pc.1) (.ref p))) hk
    walk_at "go"
    refine ⟨pc::E,A,_,rfl,fun b o n1 n2 h=>by rw [aA1 n2]; exact kp b o n1 n2 h,tk.trans tk2,⟨vs,by rw [aA1 ndr.symm]; exact hvs,Pd.imp pv fun v b f=>aCg.tk f tk2⟩,aUr.put hWp hkl hv gq tk2 aAe,⟨hWp,hE⟩,hWr,eA,eE⟩
  rintro σ G ⟨E,A,o3,rfl,kp,tk,⟨vs,hvs,pv⟩,pq,hE,hW,eA,eE⟩
  rw [hlen,List.drop_length,show goG E []=[] from rfl,List.append_nil] at eA
  subst eA
  have hok:=aOa (E:=[]) trivial hb.wf
  have e1:vs.length=(goG [] gs).length:=(Paired.length pv).trans (by simp [kn])
  have pb:=aU1 (K:=K) (by rw [List.length_nil]; omega) pv hok
  have sG:=old kp
  walk_at "go"
  by_cases hbd:aUt (goG [] gs)
  ·refine ⟨_,rfl,.inr ⟨.inl ⟨lr,vs,_,rfl,hvs,pb,by omega,?_⟩,fun H' sm=>q2 hcm hbd _ (sG.trans sm)⟩⟩
   rcases hbd with h | ⟨r,hr,e⟩
   ·rw [h] at e1
    exact .inl e1
   ·exact .inr (.inr (List.mem_map.mpr ⟨r,hr,by rw [decide_eq_false (fun z=>z e)]⟩))
  ·have h1:goG [] gs≠[]:=fun z=>hbd (.inl z)
   have h2:1<=vs.length:=by rw [e1]; exact List.length_pos_iff.mpr h1
   refine ⟨_,rfl,.inl ⟨lr,vs,_,rfl,hvs,pb,h2,by omega,fun b hm=>?_,fun l' H' hl' sm hv'=>q3 hcm hbd l' H' (sG.free hl') (sG.trans sm) ⟨vs,hv',Pd.imp pv fun v b f=>aCg.tk f sm.tk⟩⟩⟩
   obtain ⟨r,hr,rfl⟩:=List.mem_map.mp hm
   exact decide_eq_true fun e=>hbd (.inr ⟨r,hr,e⟩)
theorem aJv (T:Bl mg) (d:Df K mg "is_written" aBy ["word","most"]  ) (W:XmS mg xt x1 x4 x5) (R_NoNet:XrS K xt x1 x4 x5 x1 1) (R_TooMany:XrS K xt x1 x4 x5 x4 4) {tk_FIGURES:Tok} (g_FIGURES:mg "FIGURES"=some (.str "0123456789" tk_FIGURES)):Okf P w K mg base (k+1) "is_written" ["word","most"] aP2:=by
 refine Okf.of d aJg (fun vs H Q E h=>?_) (fun f cdv A outer s H vs Q E hr h=>?_)
 ·obtain ⟨z,rfl,_⟩:=h
  rfl
 ·obtain ⟨z,rfl,hd,h1,h12,⟨c0,r0,e0,hc0⟩,q⟩:=h
  refine ⟨_,(@aAg _ _ _ (@aAo _ _ _ _ (@aEh _ _ _ _ _ _ _ (@aJs _ _ _ _ _ _ _ _ _ _ _ _ aJt aJt (@aAb _ _ _ _) (@aAl _ _ _ _ _ _ _ _ _ aDr rfl T.z_len aB4 (@aAa _ _ _ _ _ (pv 0) (@aAd _) (by rfl)) (by decide) (by decide) (by rfl) (by rfl)) (pv 1) (by with_unfolding_all rfl)) (@aEh _ _ _ _ _ _ _ (@aAl _ _ _ _ _ _ _ _ _ (aI0 rfl) rfl T.z_all aI1 (@aAa _ _ _ _ _ (@aDh _ _ _ _ _ _ _ _ _ _ _ _ _ _ (@aCz _ _ (sc:=aAf aBy) (N:=["word","most"]) (tn:=["sign"]) (names:=[]) (is:=[]) rfl rfl (by decide +kernel) (by decide +kernel) rfl (by decide +kernel) rfl (by decide +kernel) (by decide +kernel) (by decide +kernel)) rfl (@aN0 _ _ _ _ (pv 0)) (fun _ _ _ _=>(@aA2 _ _ (i:=0) _ (show (["sign"]:List Str).Nodup by decide +kernel) rfl (Or.inl rfl) (Or.inr rfl))) (fun _ _ _ _=>(@aCf _ _ _ _ _ _ _ _ aQ6 (pv 0) (@aCe _ _ (v:=(.str "0123456789")) _ _ rfl g_FIGURES ⟨_,rfl⟩ (by decide)) (by with_unfolding_all rfl))) (fun _ _ _ _=>(@aCb _)) (by intro _; rfl)) (@aAd _) (by rfl)) (by decide) (by decide) (by rfl) (by rfl)) (@aFn _ _ _ _ _ (@aCf _ _ _ _ _ _ _ _ (aFo hr.units) (@aAj _ _ _ _ _ _ _ aAk (pv 0) (@aAb _ _ _ _) (fun _ _=>rfl)) (@aAt _ _ _ _) (aAw _))))))),?_⟩
  try dsimp only [aAz,aA4]
  walk_at "go"
  have hzs:z.length<=sizeLine:=by rw [sizeLine_eq]; omega
  refine aU4 hzs ?_
  walk_at "go"
  refine ⟨z,rfl,?_⟩
  refine aQn (by omega) (fun acc i ys G=>Kp acc H G/\ys=(z.cps.toList.take i).map fun c=>V.bl (decide (48<=c)&&decide (c < 58))) (fun acc h0=>⟨Kp.new h0,rfl⟩) ?_ ?_
  ·intro acc i ys G c h0 hx hyl hG ⟨kp,e⟩
   walk_at "go"
   have hx':z.cps.toList[i]?=some c:=by simpa using hx
   have hi:i < z.cps.toList.length:=(List.getElem?_eq_some_iff.mp hx').1
   refine aD9 (by rw [aBa]; exact hi) hyl hG ⟨Kp.trans kp Kp.upd,?_⟩
   have e2:z.cps.toList[i]=c:=by
    rw [List.getElem?_eq_getElem hi] at hx'
    exact Option.some.inj hx'
   rw [List.take_succ_eq_append_getElem hi,List.map_append,← e,e2,aM4]
   rfl
  ·intro acc ys G h0 hG hl ⟨kp,e⟩
   walk_at "go"
   rw [aBa,List.take_length] at e
   subst e
   have e3:(z.cps.toList.map fun c=>V.bl (decide (48<=c)&&decide (c < 58)))=(z.cps.toList.map fun c=>(decide (48<=c)&&decide (c < 58))).map V.bl:=by rw [List.map_map]; rfl
   rw [e3] at hG
   refine aIt hG ?_
   have e4:(z.cps.toList.map fun c=>(decide (48<=c)&&decide (c < 58))).all id=true:=by
    rw [List.all_map,List.all_eq_true]
    intro c hc
    have:=hd c hc
    show (decide (48<=c)&&decide (c < 58))=true
    rw [decide_eq_true this.1,decide_eq_true this.2]
    rfl
   rw [e4]
   walk_at "go"
   refine aQk (by omega) (c:=c0) (by rw [e0]; exact (show atI (c0::r0) ((0:Nat):Int)=some c0 from aBv rfl)) ?_
   walk_at "go"
   have e5:((⟨#[c0]⟩:Str)==Str.ofString "0")=false:=by
    rw [show Str.ofString "0"=⟨#[48]⟩ by decide +kernel]
    exact beq_eq_false_iff_ne.mpr fun z=>hc0 (by simpa using z)
   rw [e5]
   exact q _ (aAn.kpn h0 (aAn.refl _) kp)
set_option maxHeartbeats 0 in
theorem aK9 (T:Bl mg) (d:Df K mg "read_time" aCd ["word"]  ) (W:XmS mg xt x1 x4 x5) (R_NoNet:XrS K xt x1 x4 x5 x1 1) (R_TooMany:XrS K xt x1 x4 x5 x4 4) {tk_MOST_FIGURES:Tok} (g_MOST_FIGURES:mg "MOST_FIGURES"=some (.int 12 tk_MOST_FIGURES)) (o_is_fraction:Okf P w K mg base k "is_fraction" ["thing"] (aGy K)) (o_is_written:Okf P w K mg base k "is_written" ["word","most"] aP2):Okf P w K mg base (k+1) "read_time" ["word"] aL7:=by
 refine Okf.of d aEe (fun vs H Q E h=>?_) (fun f cdv A outer s H vs Q E hr h=>?_)
 ·obtain ⟨t,rfl,_⟩:=h
  rfl
 ·obtain ⟨t,rfl,ht,q⟩:=h
  refine ⟨_,(@aAc _ _ _ _ _ (@aAs _ _ (i:=1) _ _ _ _ aEe.nd rfl (by first | exact Or.inl rfl | exact Or.inr rfl) (@aEf _ _ _ _ _ _ _ _ _ _ _ _ PySem.F.plainAttrs_str PySem.F.slot_str_split PySem.F.type_str_split aG2 (pv 0) (@aAa _ _ _ _ _ (@aAt _ _ _ _) (@aAd _) (by rfl)) (by rfl) (by rfl) (by rfl) (by rfl) (by rfl)) (by rfl) (by first | exact .inl rfl | exact .inr rfl | assumption)) (@aAc _ _ _ _ _ (@aBc _ _ _ _ _ _ _ _ (@PW.pt _ _ _ (@aH7 _ _ _ _ _ _ _ (@aAr _ _ _ _ _ _ _ _ aMl (@aAl _ _ _ _ _ _ _ _ _ aDr rfl T.z_len aB4 (@aAa _ _ _ _ _ (pv 1) (@aAd _) (by rfl)) (by decide) (by decide) (by rfl) (by rfl)) (@aAb _ _ _ _) (aAw _)) (@aFm _ _ _ _ (@aDp _ _ _ _ (@aDo _ _ _ (@aAl _ _ _ _ _ _ _ _ _ (aI0 rfl) rfl T.z_all aI1 (@aAa _ _ _ _ _ (@aDh _ _ _ _ _ _ _ _ _ _ _ _ _ _ (@aCz _ _ (sc:=aAf aCd) (N:=["word","parts","time"]) (tn:=["part"]) (names:=[]) (is:=[]) rfl rfl (by decide +kernel) (by decide +kernel) rfl (by decide +kernel) rfl (by decide +kernel) (by decide +kernel) (by decide +kernel)) rfl (@aCm _ _ _ _ (pv 1)) (fun _ _ _ _=>(@aA2 _ _ (i:=0) _ (show (["part"]:List Str).Nodup by decide +kernel) rfl (Or.inl rfl) (Or.inr rfl))) (fun _ _ _ _=>(@aAi _ _ _ _ _ _ _ _ _ _ o_is_written hr rfl (@aAa _ _ _ _ _ (pv 0) (@aAa _ _ _ _ _ (@aCe _ _ (v:=(.int 12)) _ _ rfl g_MOST_FIGURES ⟨_,rfl⟩ (by decide)) (@aAd _) (by rfl)) (by rfl)) (by decide) (by rfl) (by rfl))) (fun _ _ _ _=>(@aCb _)) (by intro _; rfl)) (@aAd _) (by rfl)) (by decide) (by decide) (by rfl) (by rfl)) (by intro _; rfl)))))) (@aAg _ _ _ (@aAo _ _ _ _ (@aIv _ _ _))) (@aA0 _)) (@aAc _ _ _ _ _ (@aBc _ _ _ _ _ _ _ _ (@aAr _ _ _ _ _ _ _ _ (aA9 hr.units) (@aAl _ _ _ _ _ _ _ _ _ aDr rfl T.z_len aB4 (@aAa _ _ _ _ _ (pv 1) (@aAd _) (by rfl)) (by decide) (by decide) (by rfl) (by rfl)) (@aAb _ _ _ _) (aAw _)) (@aAg _ _ _ (@aAo _ _ _ _ (@aBp _ _ _ _ _ (@aAa _ _ _ _ _ (@aBj _ _ _ _ _ _ _ _ _ aSu rfl T.z_int aLq (@aAa _ _ _ _ _ (pv 0) (@aAd _) (by rfl)) (by decide) (by decide) (by rfl) (by rfl)) (@aAa _ _ _ _ _ (@aAb _ _ _ _) (@aAd _) (by rfl)) (by rfl))))) (@aA0 _)) (@aAc _ _ _ _ _ (@aAs _ _ (i:=2) _ _ _ _ aEe.nd rfl (by first | exact Or.inl rfl | exact Or.inr rfl) (@aBp _ _ _ _ _ (@aAa _ _ _ _ _ (@aBj _ _ _ _ _ _ _ _ _ aSu rfl T.z_int aLq (@aAa _ _ _ _ _ (@aAj _ _ _ _ _ _ _ aAk (pv 1) (@aAb _ _ _ _) (fun _ _=>rfl)) (@aAd _) (by rfl)) (by decide) (by decide) (by rfl) (by rfl)) (@aAa _ _ _ _ _ (@aBj _ _ _ _ _ _ _ _ _ aSu rfl T.z_int aLq (@aAa _ _ _ _ _ (@aAj _ _ _ _ _ _ _ aAk (pv 1) (@aAb _ _ _ _) (fun _ _=>rfl)) (@aAd _) (by rfl)) (by decide) (by decide) (by rfl) (by rfl)) (@aAd _) (by rfl)) (by rfl))) (by rfl) (by first | exact .inl rfl | exact .inr rfl | assumption)) (@aAg _ _ _ (@aAo _ _ _ _ (@aTv _ _ _ _ _ _ _ _ (@PW.pt _ _ _ (@aVb _ _ _ _ _ _ _ (@aAr _ _ _ _ _ _ _ _ aMl (@aAj _ _ _ _ _ _ _ aAk (pv 2) (@aAb _ _ _ _) (fun _ _=>rfl)) (@aAb _ _ _ _) (aAw _)) (@aQr _ _ _ _ (@aDo _ _ _ (@aAi _ _ _ _ _ _ _ _ _ _ o_is_fraction hr rfl (@aAa _ _ _ _ _ (pv 2) (@aAd _) (by rfl)) (by decide) (by rfl) (by rfl)) (by intro _; rfl))))) (pv 2) (@aIv _ _ _)))))))),?_⟩
  try dsimp only [aAz,aA4]
  have n1:=ht.num
  have n2:=ht.den
  have w:=aS7 ht
  have ep:("/":Str)=⟨#[47]⟩:=by decide +kernel
  have es:=aS8 ht
  have wr:∀ {z:Int},1<=z->z < 10 ^ 12->aYh (aEa z)/\1<=(aEa z).length/\(aEa z).length<=12/\∃ c r,(aEa z).cps.toList=c::r/\c≠48:=fun h1 h2=>⟨aF7 (by omega),(aDq (by omega) h2).1,(aDq (by omega) h2).2,bA8 h1⟩
  walk_at "go"
  rw [ep]
  refine aJk (z:=tmS t) (y:=⟨#[47]⟩) (by decide) (by have:=w.2.2; omega) fun l hl=>?_
  rw [es]
  obtain ⟨ps,eps,hpl,hall⟩:∃ ps:List Str,(if t.den=1 then [aEa t.num] else [aEa t.num,aEa (t.den:Int)])=ps/\(1<=ps.length/\ps.length<=2)/\∀ p∈ps,aYh p/\1<=p.length/\p.length<=12/\∃ c r,p.cps.toList=c::r/\c≠48:=by
   refine ⟨_,rfl,?_,?_⟩
   ·split
    ·exact ⟨Nat.le_refl 1,by show 1<=2; decide⟩
    ·exact ⟨by show 1<=2; decide,Nat.le_refl 2⟩
   ·intro p hp
    split at hp
    ·rw [List.mem_singleton.mp hp]
     exact wr n1.1 n1.2
    ·rcases List.mem_cons.mp hp with rfl | hp
     ·exact wr n1.1 n1.2
     ·rw [List.mem_singleton.mp hp]
      exact wr n2.1 n2.2
  rw [eps]
  have s1:=aAn.new (o:=.lst (ps.map V.str)) hl
  have g1:=aAe (H:=H) (a:=l) (o:=.lst (ps.map V.str))
  generalize L2.upd H l (.lst (ps.map V.str))=H1 at s1 g1 ⊢
  have hml:(ps.map V.str).length=ps.length:=List.length_map _
  walk_at "go"
  refine aCk (SqL.of g1) ?_
  refine aE3 (xs:=ps.map V.str) (by omega) (fun acc i ys G=>Kp acc H1 G/\ys=(List.replicate i true).map V.bl) (fun acc h0=>⟨Kp.new h0,rfl⟩) ?_ ?_ ?_
  ·intro acc i ys G h0 _ ⟨kp,_⟩
   exact SqL.of (kp _ _ (aAh g1 h0) g1)
  ·intro acc i ys G x h0 hx hyl hG ⟨kp,e⟩
   rw [List.getElem?_map] at hx
   cases hy:ps[i]? with
   | none=>rw [hy] at hx; cases hx
   | some y =>
    rw [hy] at hx
    cases (Option.some.inj hx:V.str y=x)
    obtain ⟨a1,a2,a3,a4⟩:=hall y (List.mem_of_getElem? hy)
    walk_at "go"
    refine ⟨y,rfl,a1,a2,a3,a4,fun G1 t1=>?_⟩
    have hi:i < ps.length:=(List.getElem?_eq_some_iff.mp hy).1
    refine aD9 (by omega) hyl (t1 _ _ hG) ⟨Kp.trans (Kp.trans kp t1.kp) Kp.upd,?_⟩
    rw [e,List.replicate_succ',List.map_append]
    rfl
  intro acc ys G h0 hG hyl ⟨kp,e⟩
  subst e
  have sG:aAn H1 G:=fun b o h=>kp _ _ (aAh h h0) h
  have gG:=sG _ _ g1
  walk_at "go"
  refine aIt hG ?_
  rw [show (List.replicate (ps.map V.str).length true).all id=true by rw [List.all_eq_true]; intro b hb; rw [List.eq_of_mem_replicate hb]; rfl]
  walk_at "go"
  by_cases hd:t.den=1
  ·have e1:ps=[aEa t.num]:=by rw [← eps,if_pos hd]
   subst e1
   have hl1:(List.map V.str [aEa t.num]).length=1:=rfl
   walk_at "go"
   refine ⟨_,t.num,rfl,?_,by have:=w.2.2; omega,?_⟩
   ·rw [show tmS t=aEa t.num by unfold tmS; rw [if_pos hd]]
    exact aMu (by omega) n1.2
   walk_at "go"
   refine aBi fun p hp=>?_
   walk_at "go"
   exact q _ _ ((s1.trans sG).trans (aAn.new hp)) ⟨p,rfl,by rw [aAe,hd]; rfl⟩
  ·have e1:ps=[aEa t.num,aEa (t.den:Int)]:=by rw [← eps,if_neg hd]
   subst e1
   have hl1:(List.map V.str [aEa t.num,aEa (t.den:Int)]).length=2:=rfl
   have l1:=(aDq (n:=t.num) (by omega) n1.2).2
   have l2:=(aDq (n:=(t.den:Int)) (by omega) n2.2).2
   walk_at "go"
   refine ⟨_,t.num,rfl,aMu (by omega) n1.2,by omega,?_⟩
   walk_at "go"
   refine ⟨_,(t.den:Int),rfl,aMu (by omega) n2.2,by omega,?_⟩
   walk_at "go"
   refine aBi fun p hp=>?_
   have s2:=aAn.new (o:=.tup [.int t.num,.int (t.den:Int)]) hp
   have g2:=aAe (H:=G) (a:=p) (o:=.tup [.int t.num,.int (t.den:Int)])
   generalize L2.upd G p (.tup [.int t.num,.int (t.den:Int)])=G2 at s2 g2 ⊢
   walk_at "go"
   have hf:Frq K G2 (.ref p) true:=.inr (.inr ⟨p,_,_,rfl,g2,rfl,rfl,(fun a b ea eb=>by cases ea; cases eb; exact ⟨(Sm.of (n:=64) (by omega) (by omega)).mono (by decide),(Sm.of (n:=64) (by omega) (by omega)).mono (by decide)⟩),(aR0 t).symm⟩)
   refine ⟨_,true,rfl,hf,?_⟩
   walk_at "go"
   exact q _ _ ((s1.trans sG).trans s2) ⟨p,rfl,g2⟩
theorem aGm (T:Bl mg) (d:Df K mg "refuse_unless" aBh ["holds","words"]  ) (W:XmS mg xt x1 x4 x5) (R_NoNet:XrS K xt x1 x4 x5 x1 1) (R_TooMany:XrS K xt x1 x4 x5 x4 4):Okf P w K mg base (k+1) "refuse_unless" ["holds","words"] aGe:=by
 refine Okf.of d aGl (fun vs H Q E h=>?_) (fun f cdv A outer s H vs Q E hr h=>?_)
 ·obtain ⟨v,rfl,_⟩:=h
  rfl
 ·obtain ⟨v,rfl,q⟩:=h
  refine ⟨_,(@aAg _ _ _ (@aBc _ _ _ _ _ _ _ _ (@aDp _ _ _ _ (@aDo _ _ _ (pv 0) (by intro _; rfl))) (@aAc _ _ _ _ _ (@aA8 _ _) (@aAg _ _ _ (@aA8 _ _))) (@aA0 _))),?_⟩
  try dsimp only [aAz,aA4]
  walk_at "go"
  exact q
set_option maxHeartbeats 0 in
theorem aMo (T:Bl mg) (d:Df K mg "posts_in" aCu ["words","told"]  ) (W:XmS mg xt x1 x4 x5) (R_NoNet:XrS K xt x1 x4 x5 x1 1) (R_TooMany:XrS K xt x1 x4 x5 x4 4) (o_is_post:Okf P w K mg base k "is_post" ["thing"] (aNm K)) (o_refuse_unless:Okf P w K mg base k "refuse_unless" ["holds","words"] aGe):Okf P w K mg base (k+1) "posts_in" ["words","told"] (aFd K):=by
 refine Okf.of d aMd (fun vs H Q E h=>?_) (fun f cdv A outer s H vs Q E hr h=>?_)
 ·obtain ⟨v,l,ps,rfl,_⟩:=h
  rfl
 ·obtain ⟨v,l,ps,rfl,hl,hps,hn,q⟩:=h
  refine ⟨_,(@aAc _ _ _ _ _ (@aB7 _ _ _ _ (@aAi _ _ _ _ _ _ _ _ _ _ o_refuse_unless hr rfl (@aAa _ _ _ _ _ (@aAl _ _ _ _ _ _ _ _ _ (aI0 rfl) rfl T.z_all aI1 (@aAa _ _ _ _ _ (@aDh _ _ _ _ _ _ _ _ _ _ _ _ _ _ (@aCz _ _ (sc:=aAf aCu) (N:=["words","told"]) (tn:=["word"]) (names:=[]) (is:=[]) rfl rfl (by decide +kernel) (by decide +kernel) rfl (by decide +kernel) rfl (by decide +kernel) (by decide +kernel) (by decide +kernel)) rfl (@aCm _ _ _ _ (pv 1)) (fun _ _ _ _=>(@aA2 _ _ (i:=0) _ (show (["word"]:List Str).Nodup by decide +kernel) rfl (Or.inl rfl) (Or.inr rfl))) (fun _ _ _ _=>(@aAi _ _ _ _ _ _ _ _ _ _ o_is_post hr rfl (@aAa _ _ _ _ _ (pv 0) (@aAd _) (by rfl)) (by decide) (by rfl) (by rfl))) (fun _ _ _ _=>(@aCb _)) (by intro _; rfl)) (@aAd _) (by rfl)) (by decide) (by decide) (by rfl) (by rfl)) (@aAa _ _ _ _ _ (pv 0) (@aAd _) (by rfl)) (by rfl)) (by decide) (by rfl) (by rfl)) (by rfl)) (@aAg _ _ _ (@aAo _ _ _ _ (@aBj _ _ _ _ _ _ _ _ _ aC7 rfl T.z_tuple aEw (@aAa _ _ _ _ _ (pv 1) (@aAd _) (by rfl)) (by decide) (by decide) (by rfl) (by rfl))))),?_⟩
  try dsimp only [aAz,aA4]
  have hml:(ps.map V.str).length=ps.length:=List.length_map _
  walk_at "go"
  refine aCk (SqL.of hl) ?_
  refine aE3 (xs:=ps.map V.str) (by omega) (fun acc i ys G=>Kp acc H G/\ys=(List.replicate i true).map V.bl) (fun acc h0=>⟨Kp.new h0,rfl⟩) ?_ ?_ ?_
  ·intro acc i ys G h0 _ ⟨kp,_⟩
   exact SqL.of (kp _ _ (aAh hl h0) hl)
  ·intro acc i ys G x h0 hx hyl hG ⟨kp,e⟩
   rw [List.getElem?_map] at hx
   cases hy:ps[i]? with
   | none=>rw [hy] at hx; cases hx
   | some y =>
    rw [hy] at hx
    cases (Option.some.inj hx:V.str y=x)
    walk_at "go"
    refine ⟨_,true,rfl,(hps y (List.mem_of_getElem? hy)).q,fun G1 t1=>?_⟩
    have hi:i < ps.length:=(List.getElem?_eq_some_iff.mp hy).1
    refine aD9 (by omega) hyl (t1 _ _ hG) ⟨Kp.trans (Kp.trans kp t1.kp) Kp.upd,?_⟩
    rw [e,List.replicate_succ',List.map_append]
    rfl
  intro acc ys G h0 hG hyl ⟨kp,e⟩
  subst e
  have sG:aAn H G:=fun b o h=>kp _ _ (aAh h h0) h
  have gG:=sG _ _ hl
  walk_at "go"
  refine aIt hG ?_
  rw [show (List.replicate (ps.map V.str).length true).all id=true by rw [List.all_eq_true]; intro b hb; rw [List.eq_of_mem_replicate hb]; rfl]
  walk_at "go"
  refine ⟨v,rfl,?_⟩
  walk_at "go"
  refine ⟨l,_,rfl,.inl ⟨SqL.of gG,fun p hp=>?_⟩⟩
  walk_at "go"
  exact q p _ (sG.trans (aAn.new hp)) aAe
theorem aO1 (T:Bl mg) (d:Df K mg "time_in" aDv ["words","word"]  ) (W:XmS mg xt x1 x4 x5) (R_NoNet:XrS K xt x1 x4 x5 x1 1) (R_TooMany:XrS K xt x1 x4 x5 x4 4) (o_refuse_unless:Okf P w K mg base k "refuse_unless" ["holds","words"] aGe) (o_read_time:Okf P w K mg base k "read_time" ["word"] aL7):Okf P w K mg base (k+1) "time_in" ["words","word"] aI6:=by
 refine Okf.of d aIl (fun vs H Q E h=>?_) (fun f cdv A outer s H vs Q E hr h=>?_)
 ·obtain ⟨v,t,rfl,_⟩:=h
  rfl
 ·obtain ⟨v,t,rfl,ht,q⟩:=h
  refine ⟨_,(@aAc _ _ _ _ _ (@aAs _ _ (i:=2) _ _ _ _ aIl.nd rfl (by first | exact Or.inl rfl | exact Or.inr rfl) (@aAi _ _ _ _ _ _ _ _ _ _ o_read_time hr rfl (@aAa _ _ _ _ _ (pv 1) (@aAd _) (by rfl)) (by decide) (by rfl) (by rfl)) (by rfl) (by first | exact .inl rfl | exact .inr rfl | assumption)) (@aAc _ _ _ _ _ (@aB7 _ _ _ _ (@aAi _ _ _ _ _ _ _ _ _ _ o_refuse_unless hr rfl (@aAa _ _ _ _ _ (@aCf _ _ _ _ _ _ _ _ aTy (pv 2) (@aIv _ _ _) (aAw _)) (@aAa _ _ _ _ _ (pv 0) (@aAd _) (by rfl)) (by rfl)) (by decide) (by rfl) (by rfl)) (by rfl)) (@aAg _ _ _ (@aAo _ _ _ _ (pv 2))))),?_⟩
  try dsimp only [aAz,aA4]
  walk_at "go"
  refine ⟨t,rfl,ht,fun u H1 s1 fu=>?_⟩
  obtain ⟨p,rfl,hp⟩:=id fu
  walk_at "go"
  refine ⟨v,rfl,?_⟩
  walk_at "go"
  exact q _ _ s1 fu
set_option maxHeartbeats 0 in
theorem aQ7 (T:Bl mg) (d:Df K mg "run_in" aEl ["words"]  ) (W:XmS mg xt x1 x4 x5) (R_NoNet:XrS K xt x1 x4 x5 x1 1) (R_TooMany:XrS K xt x1 x4 x5 x4 4) (o_time_in:Okf P w K mg base k "time_in" ["words","word"] aI6) (o_posts_in:Okf P w K mg base k "posts_in" ["words","told"] (aFd K)) (o_refuse_unless:Okf P w K mg base k "refuse_unless" ["holds","words"] aGe):Okf P w K mg base (k+1) "run_in" ["words"] (aL6 K):=by
 refine Okf.of d aK0 (fun vs H Q E h=>?_) (fun f cdv A outer s H vs Q E hr h=>?_)
 ·obtain ⟨l,a,b,t,rfl,_⟩:=h
  rfl
 ·obtain ⟨l,a,b,t,rfl,hl,ha,hb,ht,q⟩:=h
  refine ⟨_,(@aAc _ _ _ _ _ (@aB7 _ _ _ _ (@aAi _ _ _ _ _ _ _ _ _ _ o_refuse_unless hr rfl (@aAa _ _ _ _ _ (@aCf _ _ _ _ _ _ _ _ (aA9 hr.units) (@aAl _ _ _ _ _ _ _ _ _ aDr rfl T.z_len aB4 (@aAa _ _ _ _ _ (pv 0) (@aAd _) (by rfl)) (by decide) (by decide) (by rfl) (by rfl)) (@aAb _ _ _ _) (aAw _)) (@aAa _ _ _ _ _ (pv 0) (@aAd _) (by rfl)) (by rfl)) (by decide) (by rfl) (by rfl)) (by rfl)) (@aAc _ _ _ _ _ (@aAs _ _ (i:=1) _ _ _ _ aK0.nd rfl (by first | exact Or.inl rfl | exact Or.inr rfl) (@aAi _ _ _ _ _ _ _ _ _ _ o_posts_in hr rfl (@aAa _ _ _ _ _ (pv 0) (@aAa _ _ _ _ _ (@aBf _ _ _ _ _ _ _ _ _ _ aDd (pv 0) (@aBt _ _ _ (@aAb _ _ _ _)) (@aBt _ _ _ (@aAb _ _ _ _))) (@aAd _) (by rfl)) (by rfl)) (by decide) (by rfl) (by rfl)) (by rfl) (by first | exact .inl rfl | exact .inr rfl | assumption)) (@aAg _ _ _ (@aAo _ _ _ _ (@aBp _ _ _ _ _ (@aAa _ _ _ _ _ (@aAt _ _ _ _) (@aAa _ _ _ _ _ (@aAj _ _ _ _ _ _ _ aAk (pv 1) (@aAb _ _ _ _) (fun _ _=>rfl)) (@aAa _ _ _ _ _ (@aAj _ _ _ _ _ _ _ aAk (pv 1) (@aAb _ _ _ _) (fun _ _=>rfl)) (@aAa _ _ _ _ _ (@aAi _ _ _ _ _ _ _ _ _ _ o_time_in hr rfl (@aAa _ _ _ _ _ (pv 0) (@aAa _ _ _ _ _ (@aAj _ _ _ _ _ _ _ aAk (pv 0) (@aAb _ _ _ _) (fun _ _=>rfl)) (@aAd _) (by rfl)) (by rfl)) (by decide) (by rfl) (by rfl)) (@aAd _) (by rfl)) (by rfl)) (by rfl)) (by rfl))))))),?_⟩
  try dsimp only [aAz,aA4]
  replace hl:H l=some (.lst [.str "run",.str a,.str b,.str (tmS t)]):=hl
  have hl4:([V.str "run",.str a,.str b,.str (tmS t)]:List V).length=4:=rfl
  walk_at "go"
  refine ⟨_,rfl,?_⟩
  walk_at "go"
  refine aJh hl fun l1 hl1=>?_
  have s1:=aAn.new (o:=.lst (aGq [.str "run",.str a,.str b,.str (tmS t)] (some 1) (some 3))) hl1
  have g1:=aAe (H:=H) (a:=l1) (o:=.lst (aGq [.str "run",.str a,.str b,.str (tmS t)] (some 1) (some 3)))
  generalize L2.upd H l1 (.lst (aGq [.str "run",.str a,.str b,.str (tmS t)] (some 1) (some 3)))=H1 at s1 g1 ⊢
  replace g1:H1 l1=some (.lst ([a,b].map V.str)):=g1
  walk_at "go"
  refine ⟨_,l1,[a,b],rfl,g1,fun s hs=>?_,(by show 2<=100; decide),fun p H2 s2 hp=>?_⟩
  ·rcases List.mem_cons.mp hs with rfl | hs
   ·exact ha
   ·rw [List.mem_singleton.mp hs]; exact hb
  replace hp:H2 p=some (.tup [.str a,.str b]):=hp
  have hl2:=s2 _ _ (s1 _ _ hl)
  walk_at "go"
  refine ⟨_,t,rfl,ht,fun v H3 s3 fv=>?_⟩
  walk_at "go"
  refine aBi fun p9 hp9=>?_
  walk_at "go"
  exact q _ _ (((s1.trans s2).trans s3).trans (aAn.new hp9)) ⟨p9,v,rfl,aAe,fv.tk (TK.new hp9)⟩
set_option maxHeartbeats 0 in
theorem aQ8 (T:Bl mg) (d:Df K mg "put_in" aEm ["words","counts"]  ) (W:XmS mg xt x1 x4 x5) (R_NoNet:XrS K xt x1 x4 x5 x1 1) (R_TooMany:XrS K xt x1 x4 x5 x4 4) (o_posts_in:Okf P w K mg base k "posts_in" ["words","told"] (aFd K)) (o_refuse_unless:Okf P w K mg base k "refuse_unless" ["holds","words"] aGe) (o_is_part:Okf P w K mg base k "is_part" ["text"] aKr):Okf P w K mg base (k+1) "put_in" ["words","counts"] (aL8 K):=by
 refine Okf.of d aQe (fun vs H Q E h=>?_) (fun f cdv A outer s H vs Q E hr h=>?_)
 ·obtain ⟨l,d,kd,nm,cl,as,rfl,_⟩:=h
  rfl
 ·obtain ⟨l,d,kd,nm,cl,as,rfl,hl,hd,hv,hcl,has,hn,q⟩:=h
  refine ⟨_,(@aAc _ _ _ _ _ (@aB7 _ _ _ _ (@aAi _ _ _ _ _ _ _ _ _ _ o_refuse_unless hr rfl (@aAa _ _ _ _ _ (@aEh _ _ _ _ _ _ _ (@aCf _ _ _ _ _ _ _ _ aWv (@aAl _ _ _ _ _ _ _ _ _ aDr rfl T.z_len aB4 (@aAa _ _ _ _ _ (pv 0) (@aAd _) (by rfl)) (by decide) (by decide) (by rfl) (by rfl)) (@aAb _ _ _ _) (aAw _)) (@aEh _ _ _ _ _ _ _ (@aVe _ _ _ _ _ _ (@bAz _ _ _ _ _ hr.u1 (@aAj _ _ _ _ _ _ _ aAk (pv 0) (@aAb _ _ _ _) (fun _ _=>rfl)) (pv 1)) (by first | exact nobehind _ (by decide) (by decide) | rfl)) (@aFn _ _ _ _ _ (@aAi _ _ _ _ _ _ _ _ _ _ o_is_part hr rfl (@aAa _ _ _ _ _ (@aAj _ _ _ _ _ _ _ aAk (pv 0) (@aAb _ _ _ _) (fun _ _=>rfl)) (@aAd _) (by rfl)) (by decide) (by rfl) (by rfl))))) (@aAa _ _ _ _ _ (pv 0) (@aAd _) (by rfl)) (by rfl)) (by decide) (by rfl) (by rfl)) (by rfl)) (@aAc _ _ _ _ _ (@aB7 _ _ _ _ (@aAi _ _ _ _ _ _ _ _ _ _ o_refuse_unless hr rfl (@aAa _ _ _ _ _ (@aCf _ _ _ _ _ _ _ _ (aA9 hr.units) (@aAq _ _ _ _ _ _ _ _ aQ3 (@aAl _ _ _ _ _ _ _ _ _ aDr rfl T.z_len aB4 (@aAa _ _ _ _ _ (pv 0) (@aAd _) (by rfl)) (by decide) (by decide) (by rfl) (by rfl)) (@aAb _ _ _ _)) (@aJr _ _ _ _ _ _ hr.u1 (pv 1) (@aAj _ _ _ _ _ _ _ aAk (pv 0) (@aAb _ _ _ _) (fun _ _=>rfl)) (fun _ _=>rfl)) (aAw _)) (@aAa _ _ _ _ _ (pv 0) (@aAd _) (by rfl)) (by rfl)) (by decide) (by rfl) (by rfl)) (by rfl)) (@aAg _ _ _ (@aAo _ _ _ _ (@aBp _ _ _ _ _ (@aAa _ _ _ _ _ (@aAt _ _ _ _) (@aAa _ _ _ _ _ (@aAj _ _ _ _ _ _ _ aAk (pv 0) (@aAb _ _ _ _) (fun _ _=>rfl)) (@aAa _ _ _ _ _ (@aAj _ _ _ _ _ _ _ aAk (pv 0) (@aAb _ _ _ _) (fun _ _=>rfl)) (@aAa _ _ _ _ _ (@aAi _ _ _ _ _ _ _ _ _ _ o_posts_in hr rfl (@aAa _ _ _ _ _ (pv 0) (@aAa _ _ _ _ _ (@aBf _ _ _ _ _ _ _ _ _ _ aDd (pv 0) (@aBt _ _ _ (@aAb _ _ _ _)) (@aCl _)) (@aAd _) (by rfl)) (by rfl)) (by decide) (by rfl) (by rfl)) (@aAd _) (by rfl)) (by rfl)) (by rfl)) (by rfl))))))),?_⟩
  try dsimp only [aAz,aA4]
  replace hl:H l=some (.lst (.str "put"::.str nm::.str cl::as.map V.str)):=hl
  have hl4:(V.str "put"::.str nm::.str cl::as.map V.str:List V).length=as.length+3:=by rw [List.length_cons,List.length_cons,List.length_cons,List.length_map]
  have cl8:=(aDb hcl).2.1
  have a1:atI (V.str "put"::.str nm::.str cl::as.map V.str) 1=some (.str nm):=show atI _ ((1:Nat):Int)=_ from aBv rfl
  have a2:atI (V.str "put"::.str nm::.str cl::as.map V.str) 2=some (.str cl):=show atI _ ((2:Nat):Int)=_ from aBv rfl
  walk_at "go"
  refine aC3 hl a1 ?_
  walk_at "go"
  refine r_dIs (.inl hd) ?_
  rw [hv]
  walk_at "go"
  refine aC3 hl a2 ?_
  walk_at "go"
  refine ⟨cl,rfl,by omega,fun H1 s1=>?_⟩
  rw [hcl]
  walk_at "go"
  refine ⟨_,rfl,?_⟩
  have hl1:=s1 _ _ hl
  walk_at "go"
  refine aC3 hl1 a1 ?_
  walk_at "go"
  refine aTn (.inl (s1 _ _ hd)) hv ?_
  walk_at "go"
  rw [show decide (((V.str "put"::.str nm::.str cl::as.map V.str).length:Int) - 3=(as.length:Int))=true from decide_eq_true (by omega)]
  refine ⟨_,rfl,?_⟩
  walk_at "go"
  refine aC3 hl1 a1 ?_
  walk_at "go"
  refine aC3 hl1 a2 ?_
  walk_at "go"
  refine aJh hl1 fun l2 hl2=>?_
  rw [show aGq (V.str "put"::.str nm::.str cl::as.map V.str) (some 3) none=as.map V.str from aG5 (xs:=V.str "put"::.str nm::.str cl::as.map V.str) 3 (by omega)]
  have s2:=aAn.new (o:=.lst (as.map V.str)) hl2
  have g2:=aAe (H:=H1) (a:=l2) (o:=.lst (as.map V.str))
  generalize L2.upd H1 l2 (.lst (as.map V.str))=H2 at s2 g2 ⊢
  walk_at "go"
  refine ⟨_,l2,as,rfl,g2,has,by omega,fun p H3 s3 hp=>?_⟩
  walk_at "go"
  refine aBi fun p9 hp9=>?_
  walk_at "go"
  have s9:=aAn.new (o:=.tup [.str "put",.str nm,.str cl,.ref p]) hp9
  exact q _ _ (((s1.trans s2).trans s3).trans s9) ⟨p9,p,rfl,aAe,s9 _ _ hp⟩
set_option maxHeartbeats 0 in
theorem aHt (T:Bl mg) (d:Df K mg "plain_row_in" aBs ["words","counts"]  ) (W:XmS mg xt x1 x4 x5) (R_NoNet:XrS K xt x1 x4 x5 x1 1) (R_TooMany:XrS K xt x1 x4 x5 x4 4) {ad_FEWEST_POSTS:Addr} (gd_FEWEST_POSTS:mg "FEWEST_POSTS"=some (.ref ad_FEWEST_POSTS)) (kd_FEWEST_POSTS:aYg P w K ad_FEWEST_POSTS [(Sum.inr "row",.int 2),(Sum.inr "star",.int 2),(Sum.inr "ring",.int 3)]) (o_put_in:Okf P w K mg base k "put_in" ["words","counts"] (aL8 K)) (o_refuse_unless:Okf P w K mg base k "refuse_unless" ["holds","words"] aGe) (o_run_in:Okf P w K mg base k "run_in" ["words"] (aL6 K)):Okf P w K mg base (k+1) "plain_row_in" ["words","counts"] (aFe K):=by
 refine Okf.of d aHk (fun vs H Q E h=>?_) (fun f cdv A outer s H vs Q E hr h=>?_)
 ·obtain ⟨l,d,E,r,rfl,_⟩:=h
  rfl
 ·obtain ⟨l,d,E,r,rfl,hl,hd,hw,q⟩:=h
  refine ⟨_,(@aAc _ _ _ _ _ (@aBc _ _ _ _ _ _ _ _ (@aAr _ _ _ _ _ _ _ _ (aA9 hr.units) (@aAj _ _ _ _ _ _ _ aAk (pv 0) (@aAb _ _ _ _) (fun _ _=>rfl)) (@aAt _ _ _ _) (aAw _)) (@aAg _ _ _ (@aAo _ _ _ _ (@aAi _ _ _ _ _ _ _ _ _ _ o_run_in hr rfl (@aAa _ _ _ _ _ (pv 0) (@aAd _) (by rfl)) (by decide) (by rfl) (by rfl)))) (@aA0 _)) (@aAc _ _ _ _ _ (@aBc _ _ _ _ _ _ _ _ (@bAp _ _ _ _ _ _ (@bAy _ _ _ _ _ _ _ rfl gd_FEWEST_POSTS kd_FEWEST_POSTS (@aAj _ _ _ _ _ _ _ aAk (pv 0) (@aAb _ _ _ _) (fun _ _=>rfl)) (by decide)) (by first | exact nobehind _ (by decide) (by decide) | rfl)) (@aAg _ _ _ (@aA8 _ _)) (@aA0 _)) (@aAc _ _ _ _ _ (@aB7 _ _ _ _ (@aAi _ _ _ _ _ _ _ _ _ _ o_refuse_unless hr rfl (@aAa _ _ _ _ _ (@aCf _ _ _ _ _ _ _ _ (aA9 hr.units) (@aAj _ _ _ _ _ _ _ aAk (pv 0) (@aAb _ _ _ _) (fun _ _=>rfl)) (@aAt _ _ _ _) (aAw _)) (@aAa _ _ _ _ _ (pv 0) (@aAd _) (by rfl)) (by rfl)) (by decide) (by rfl) (by rfl)) (by rfl)) (@aAg _ _ _ (@aAo _ _ _ _ (@aAi _ _ _ _ _ _ _ _ _ _ o_put_in hr rfl (@aAa _ _ _ _ _ (pv 0) (@aAa _ _ _ _ _ (pv 1) (@aAd _) (by rfl)) (by rfl)) (by decide) (by rfl) (by rfl))))))),?_⟩
  try dsimp only [aAz,aA4]
  cases r with
  | plain r =>
   cases r with
   | run a b t =>
    have hl':H l=some (.lst [.str "run",.str a,.str b,.str (tmS t)]):=hl
    walk_at "go"
    exact ⟨l,a,b,t,rfl,hl,hw.1,hw.2.1,hw.2.2,fun v H' s rq=>q v H' s rq⟩
  | put nm cl as =>
   have hl':H l=some (.lst (.str "put"::.str nm::.str cl::as.map V.str)):=hl
   have a0:atI (V.str "put"::.str nm::.str cl::as.map V.str) 0=some (.str "put"):=show atI _ ((0:Nat):Int)=_ from aBv rfl
   obtain ⟨w1,w2,w3,x,hx,rfl,wl⟩:=hw
   obtain ⟨kd,hk,_,hv,_⟩:=hd
   walk_at "go"
   refine aC3 hl' a0 ?_
   walk_at "go"
   refine aC3 hl' a0 ?_
   refine r_kiS (b:=false) (by show (aD2 fpK _).isSome=_; rw [bBw]; rfl) ?_
   walk_at "go"
   refine aC3 hl' a0 ?_
   walk_at "go"
   refine ⟨_,rfl,?_⟩
   walk_at "go"
   exact ⟨l,d,kd,x.1,cl,as,rfl,hl,hk,by rw [hv x hx,wl],w1,w2,w3,q⟩
set_option maxHeartbeats 0 in
theorem aMp (T:Bl mg) (d:Df K mg "piece_in" aCh ["lines","counts"]  ) (W:XmS mg xt x1 x4 x5) (R_NoNet:XrS K xt x1 x4 x5 x1 1) (R_TooMany:XrS K xt x1 x4 x5 x4 4) {tk_MOST_PARAMS:Tok} (g_MOST_PARAMS:mg "MOST_PARAMS"=some (.int 8 tk_MOST_PARAMS)) (o_plain_row_in:Okf P w K mg base k "plain_row_in" ["words","counts"] (aFe K)) (o_refuse_unless:Okf P w K mg base k "refuse_unless" ["holds","words"] aGe) (o_is_part:Okf P w K mg base k "is_part" ["text"] aKr):Okf P w K mg base (k+1) "piece_in" ["lines","counts"] (aHb K):=by
 refine Okf.of d aE1 (fun vs H Q E h=>?_) (fun f cdv A outer s H vs Q E hr h=>?_)
 ·obtain ⟨l,d,E,x,rfl,_⟩:=h
  rfl
 ·obtain ⟨l,d,E,x,rfl,hl,hd,hw,h60,q⟩:=h
  refine ⟨_,(@aAc _ _ _ _ _ (@aAs _ _ (i:=2) _ _ _ _ aE1.nd rfl (by first | exact Or.inl rfl | exact Or.inr rfl) (@aAj _ _ _ _ _ _ _ aAk (pv 0) (@aAb _ _ _ _) (fun _ _=>rfl)) (by rfl) (by first | exact .inl rfl | exact .inr rfl | assumption)) (@aAc _ _ _ _ _ (@aAs _ _ (i:=3) _ _ _ _ aE1.nd rfl (by first | exact Or.inl rfl | exact Or.inr rfl) (@aBf _ _ _ _ _ _ _ _ _ _ aDd (pv 2) (@aBt _ _ _ (@aAb _ _ _ _)) (@aCl _)) (by rfl) (by first | exact .inl rfl | exact .inr rfl | assumption)) (@aAc _ _ _ _ _ (@aB7 _ _ _ _ (@aAi _ _ _ _ _ _ _ _ _ _ o_refuse_unless hr rfl (@aAa _ _ _ _ _ (@aEh _ _ _ _ _ _ _ (@aJs _ _ _ _ _ _ _ _ _ _ _ _ aJt aJt (@aAb _ _ _ _) (@aAl _ _ _ _ _ _ _ _ _ aDr rfl T.z_len aB4 (@aAa _ _ _ _ _ (pv 3) (@aAd _) (by rfl)) (by decide) (by decide) (by rfl) (by rfl)) (@aCe _ _ (v:=(.int 8)) _ _ rfl g_MOST_PARAMS ⟨_,rfl⟩ (by decide)) (by with_unfolding_all rfl)) (@aFn _ _ _ _ _ (@aAl _ _ _ _ _ _ _ _ _ (aI0 rfl) rfl T.z_all aI1 (@aAa _ _ _ _ _ (@aDh _ _ _ _ _ _ _ _ _ _ _ _ _ _ (@aCz _ _ (sc:=aAf aCh) (N:=["lines","counts","words","params"]) (tn:=["word"]) (names:=[]) (is:=[]) rfl rfl (by decide +kernel) (by decide +kernel) rfl (by decide +kernel) rfl (by decide +kernel) (by decide +kernel) (by decide +kernel)) rfl (@aCm _ _ _ _ (@aBf _ _ _ _ _ _ _ _ _ _ aDd (pv 2) (@aBt _ _ _ (@aAb _ _ _ _)) (@aCl _))) (fun _ _ _ _=>(@aA2 _ _ (i:=0) _ (show (["word"]:List Str).Nodup by decide +kernel) rfl (Or.inl rfl) (Or.inr rfl))) (fun _ _ _ _=>(@aAi _ _ _ _ _ _ _ _ _ _ o_is_part hr rfl (@aAa _ _ _ _ _ (pv 0) (@aAd _) (by rfl)) (by decide) (by rfl) (by rfl))) (fun _ _ _ _=>(@aCb _)) (by intro _; rfl)) (@aAd _) (by rfl)) (by decide) (by decide) (by rfl) (by rfl)))) (@aAa _ _ _ _ _ (pv 2) (@aAd _) (by rfl)) (by rfl)) (by decide) (by rfl) (by rfl)) (by rfl)) (@aAc _ _ _ _ _ (@aB7 _ _ _ _ (@aAi _ _ _ _ _ _ _ _ _ _ o_refuse_unless hr rfl (@aAa _ _ _ _ _ (@aEh _ _ _ _ _ _ _ (@aCf _ _ _ _ _ _ _ _ (aA9 hr.units) (@aAl _ _ _ _ _ _ _ _ _ bB9 rfl T.z_len aB4 (@aAa _ _ _ _ _ (@aBj _ _ _ _ _ _ _ _ _ (aSq rfl) rfl T.z_set bCc (@aAa _ _ _ _ _ (pv 3) (@aAd _) (by rfl)) (by decide) (by decide) (by rfl) (by rfl)) (@aAd _) (by rfl)) (by decide) (by decide) (by rfl) (by rfl)) (@aAl _ _ _ _ _ _ _ _ _ aDr rfl T.z_len aB4 (@aAa _ _ _ _ _ (pv 3) (@aAd _) (by rfl)) (by decide) (by decide) (by rfl) (by rfl)) (aAw _)) (@aFn _ _ _ _ _ (@aVe _ _ _ _ _ _ (@aQ1 _ _ _ _ _ hr.u1 (@aAj _ _ _ _ _ _ _ aAk (pv 2) (@aAb _ _ _ _) (fun _ _=>rfl)) (pv 1)) (by first | exact nobehind _ (by decide) (by decide) | rfl)))) (@aAa _ _ _ _ _ (pv 2) (@aAd _) (by rfl)) (by rfl)) (by decide) (by rfl) (by rfl)) (by rfl)) (@aAc _ _ _ _ _ (@aB7 _ _ _ _ (@aAi _ _ _ _ _ _ _ _ _ _ o_refuse_unless hr rfl (@aAa _ _ _ _ _ (@aCf _ _ _ _ _ _ _ _ aMl (@aAl _ _ _ _ _ _ _ _ _ aDr rfl T.z_len aB4 (@aAa _ _ _ _ _ (pv 0) (@aAd _) (by rfl)) (by decide) (by decide) (by rfl) (by rfl)) (@aAb _ _ _ _) (aAw _)) (@aAa _ _ _ _ _ (pv 2) (@aAd _) (by rfl)) (by rfl)) (by decide) (by rfl) (by rfl)) (by rfl)) (@aAg _ _ _ (@aAo _ _ _ _ (@aBp _ _ _ _ _ (@aAa _ _ _ _ _ (@aAt _ _ _ _) (@aAa _ _ _ _ _ (@aAj _ _ _ _ _ _ _ aAk (pv 2) (@aAb _ _ _ _) (fun _ _=>rfl)) (@aAa _ _ _ _ _ (@aBj _ _ _ _ _ _ _ _ _ aC7 rfl T.z_tuple aEw (@aAa _ _ _ _ _ (pv 3) (@aAd _) (by rfl)) (by decide) (by decide) (by rfl) (by rfl)) (@aAa _ _ _ _ _ (@aBj _ _ _ _ _ _ _ _ _ aC7 rfl T.z_tuple aEw (@aAa _ _ _ _ _ (@aDh _ _ _ _ _ _ _ _ _ _ _ _ _ _ (@aCz _ _ (sc:=aAf aCh) (N:=["lines","counts","words","params"]) (tn:=["line"]) (names:=["counts"]) (is:=[1]) rfl rfl (by decide +kernel) (by decide +kernel) rfl (by decide +kernel) rfl (by decide +kernel) (by decide +kernel) (by decide +kernel)) rfl (@aCm _ _ _ _ (@aBf _ _ _ _ _ _ _ _ _ _ aDd (pv 0) (@aBt _ _ _ (@aAb _ _ _ _)) (@aCl _))) (fun _ _ _ _=>(@aA2 _ _ (i:=0) _ (show (["line","counts"]:List Str).Nodup by decide +kernel) rfl (Or.inl rfl) (Or.inr rfl))) (fun _ _ _ _=>(@aAi _ _ _ _ _ _ _ _ _ _ o_plain_row_in hr rfl (@aAa _ _ _ _ _ (pv 0) (@aAa _ _ _ _ _ (pv 1) (@aAd _) (by rfl)) (by rfl)) (by decide) (by rfl) (by rfl))) (fun _ _ _ _=>(@aCb _)) (by intro _; rfl)) (@aAd _) (by rfl)) (by decide) (by decide) (by rfl) (by rfl)) (@aAd _) (by rfl)) (by rfl)) (by rfl)) (by rfl)))))))))),?_⟩
  try dsimp only [aAz,aA4]
  obtain ⟨w1,w2,w3,w4,⟨w5,w6,w7⟩,w8⟩:=hw
  obtain ⟨vs,hvs,pv⟩:=hl
  obtain ⟨v0,vr,rfl,⟨a0,rfl,ha0⟩,pr⟩:∃ v0 vr,vs=v0::vr/\LnQ H v0 ("piece"::x.1::x.2.1)/\Paired (LnQ H) vr (x.2.2.map aE9):=by
   cases pv with
   | cons h t=>exact ⟨_,_,rfl,h,t⟩
  replace ha0:H a0=some (.lst (.str "piece"::.str x.1::x.2.1.map V.str)):=ha0
  have hrl:=Paired.length pr
  rw [List.length_map] at hrl
  have rpos:1<=x.2.2.length:=List.length_pos_iff.mpr w2
  have hml:(V.str "piece"::.str x.1::x.2.1.map V.str:List V).length=x.2.1.length+2:=by rw [List.length_cons,List.length_cons,List.length_map]
  have hpl:(x.2.1.map V.str).length=x.2.1.length:=List.length_map _
  have i0:atI (V.ref a0::vr) 0=some (.ref a0):=show atI _ ((0:Nat):Int)=_ from aBv rfl
  have i1:atI (V.str "piece"::.str x.1::x.2.1.map V.str) 1=some (.str x.1):=show atI _ ((1:Nat):Int)=_ from aBv rfl
  obtain ⟨kd,hk,hkl,hkv,hkn⟩:=id hd
  walk_at "go"
  refine aC3 hvs i0 ?_
  walk_at "go"
  refine aJh ha0 fun l1 hl1=>?_
  rw [show aGq (V.str "piece"::.str x.1::x.2.1.map V.str) (some 2) none=x.2.1.map V.str from aG5 (xs:=V.str "piece"::.str x.1::x.2.1.map V.str) 2 (by omega)]
  have s1:=aAn.new (o:=.lst (x.2.1.map V.str)) hl1
  have g1:=aAe (H:=H) (a:=l1) (o:=.lst (x.2.1.map V.str))
  generalize L2.upd H l1 (.lst (x.2.1.map V.str))=H1 at s1 g1 ⊢
  have ha1:=s1 _ _ ha0
  walk_at "go"
  refine aJh ha1 fun l2 hl2=>?_
  rw [show aGq (V.str "piece"::.str x.1::x.2.1.map V.str) (some 1) none=(x.1::x.2.1).map V.str from aG5 (xs:=V.str "piece"::.str x.1::x.2.1.map V.str) 1 (by omega)]
  have s2:=aAn.new (o:=.lst ((x.1::x.2.1).map V.str)) hl2
  have g2:=aAe (H:=H1) (a:=l2) (o:=.lst ((x.1::x.2.1).map V.str))
  generalize L2.upd H1 l2 (.lst ((x.1::x.2.1).map V.str))=H2 at s2 g2 ⊢
  have hcl:((x.1::x.2.1).map V.str).length=x.2.1.length+1:=by rw [List.length_map,List.length_cons]
  refine aCk (SqL.of g2) ?_
  refine aE3 (xs:=(x.1::x.2.1).map V.str) (by omega) (fun acc i ys G=>Kp acc H2 G/\ys=(List.replicate i true).map V.bl) (fun acc h0=>⟨Kp.new h0,rfl⟩) ?_ ?_ ?_
  ·intro acc i ys G h0 _ ⟨kp,_⟩
   exact SqL.of (kp _ _ (aAh g2 h0) g2)
  ·intro acc i ys G y h0 hy hyl hG ⟨kp,e⟩
   rw [List.getElem?_map] at hy
   cases hz:(x.1::x.2.1)[i]? with
   | none=>rw [hz] at hy; cases hy
   | some z =>
    rw [hz] at hy
    cases (Option.some.inj hy:V.str z=y)
    have hzp:=w7 z (List.mem_of_getElem? hz)
    walk_at "go"
    refine ⟨z,rfl,by have:=(aDb hzp).2.1; omega,fun G1 t1=>?_⟩
    rw [hzp]
    have hi:i < (x.1::x.2.1).length:=(List.getElem?_eq_some_iff.mp hz).1
    refine aD9 (by rw [List.length_map]; exact hi) hyl (t1 _ _ hG) ⟨Kp.trans (Kp.trans kp t1.kp) Kp.upd,?_⟩
    rw [e,List.replicate_succ',List.map_append]
    rfl
  intro acc ys G h0 hG hyl ⟨kp,e⟩
  subst e
  have sG:aAn H2 G:=fun b o h=>kp _ _ (aAh h h0) h
  have s3:=(s1.trans s2).trans sG
  walk_at "go"
  refine aIt hG ?_
  rw [show (List.replicate ((x.1::x.2.1).map V.str).length true).all id=true by rw [List.all_eq_true]; intro b hb; rw [List.eq_of_mem_replicate hb]; rfl]
  walk_at "go"
  refine ⟨_,rfl,?_⟩
  have g1G:=sG _ _ (s2 _ _ g1)
  have ha3:=s3 _ _ ha0
  walk_at "go"
  refine aZe g1G (by omega) fun l5 ys5 G5 hl5 s5 g5 nd5 mem5=>?_
  have e5:=aW6 nd5 w4 mem5
  walk_at "go"
  refine ⟨l5,ys5,rfl,g5,?_⟩
  have s35:=s3.trans s5
  have g15:=s5 _ _ g1G
  have ha5:=s35 _ _ ha0
  have hk5:=s35 _ _ hk
  walk_at "go"
  refine aC3 ha5 i1 ?_
  walk_at "go"
  refine r_dNs (.inl hk5) ?_
  rw [hkn x.1 w8]
  walk_at "go"
  refine ⟨_,rfl,?_⟩
  have hvs5:=s35 _ _ hvs
  have hvl:(V.ref a0::vr).length=x.2.2.length+1:=by rw [List.length_cons,hrl]
  walk_at "go"
  rw [decide_eq_true (show (1:Int) < ((V.ref a0::vr).length:Int) by omega)]
  refine ⟨_,rfl,?_⟩
  walk_at "go"
  refine aC3 ha5 i1 ?_
  walk_at "go"
  refine ⟨l1,_,rfl,.inl ⟨SqL.of g15,fun qa hqa=>?_⟩⟩
  have s6:=aAn.new (o:=.tup (x.2.1.map V.str)) hqa
  have g6:=aAe (H:=G5) (a:=qa) (o:=.tup (x.2.1.map V.str))
  generalize L2.upd G5 qa (.tup (x.2.1.map V.str))=G6 at s6 g6 ⊢
  have hvs6:=s6 _ _ hvs5
  walk_at "go"
  refine aJh hvs6 fun l7 hl7=>?_
  rw [show aGq (V.ref a0::vr) (some 1) none=vr from aG5 (xs:=V.ref a0::vr) 1 (by omega)]
  have s7:=aAn.new (o:=.lst vr) hl7
  have g7:=aAe (H:=G6) (a:=l7) (o:=.lst vr)
  generalize L2.upd G6 l7 (.lst vr)=G7 at s7 g7 ⊢
  have s37:=s35.trans (s6.trans s7)
  refine aCk (SqL.of g7) ?_
  refine aE3 (xs:=vr) (by omega) (fun acc i ys G=>Kp acc G7 G/\Paired (aBz G) ys (x.2.2.take i)) (fun acc h0=>⟨Kp.new h0,.nil⟩) ?_ ?_ ?_
  ·rintro acc i ys G h0 _ ⟨kp,_⟩
   exact SqL.of (kp _ _ (aAh g7 h0) g7)
  ·rintro acc i ys G y h0 hy hyl hG ⟨kp,pt⟩
   obtain ⟨ws,hws,a,rfl,ha⟩:=Paired.at pr hy
   rw [List.getElem?_map] at hws
   cases hr:x.2.2[i]? with
   | none=>rw [hr] at hws; cases hws
   | some r =>
    rw [hr] at hws
    cases (Option.some.inj hws:aE9 r=ws)
    have sG7:aAn G7 G:=fun b o h=>kp _ _ (aAh h h0) h
    have sHG:=s37.trans sG7
    walk_at "go"
    refine ⟨a,d,E,r,rfl,sHG _ _ ha,hd.sm sHG,w1 r (List.mem_of_getElem? hr),fun v G8 s8 rq=>?_⟩
    have tk:=TK.lst (o:=.lst (ys++[v])) (s8 _ _ hG)
    refine aD9 (by have:=(List.getElem?_eq_some_iff.mp hy).1; exact this) hyl (s8 _ _ hG) ⟨(kp.trans s8.kp).trans Kp.upd,?_⟩
    rw [List.take_add_one,hr]
    exact Pd.snoc (Pd.imp pt fun v b f=>(aBz.tk f s8.tk).tk tk) (rq.tk tk)
  rintro acc ys G h0 hG hyl ⟨kp,pt⟩
  rw [hrl,List.take_length] at pt
  have sG7:aAn G7 G:=fun b o h=>kp _ _ (aAh h h0) h
  have sHG:=s37.trans sG7
  walk_at "go"
  refine ⟨acc,_,rfl,.inl ⟨SqL.of hG,fun p8 hp8=>?_⟩⟩
  have s8:=aAn.new (o:=.tup ys) hp8
  have g8:=aAe (H:=G) (a:=p8) (o:=.tup ys)
  generalize L2.upd G p8 (.tup ys)=G8 at s8 g8 ⊢
  walk_at "go"
  refine aBi fun p9 hp9=>?_
  have s9:=aAn.new (o:=.tup [.str "piece",.str x.1,.ref qa,.ref p8]) hp9
  walk_at "go"
  exact q _ _ ((sHG.trans s8).trans s9) ⟨p9,qa,p8,ys,rfl,aAe,s9 _ _ (s8 _ _ (sG7 _ _ (s7 _ _ g6))),s9 _ _ g8,Pd.imp pt fun v b f=>(aBz.tk f s8.tk).tk s9.tk⟩
set_option maxHeartbeats 0 in
theorem aJw (T:Bl mg) (d:Df K mg "end_behind" aCi ["lines","place"]  ) (W:XmS mg xt x1 x4 x5) (R_NoNet:XrS K xt x1 x4 x5 x1 1) (R_TooMany:XrS K xt x1 x4 x5 x4 4):Okf P w K mg base (k+1) "end_behind" ["lines","place"] (aP7 K):=by
 refine Okf.of d aFk (fun vs H Q E h=>?_) (fun f cdv A outer s H vs Q E hr h=>?_)
 ·obtain ⟨l,ls,a,b,rfl,_⟩:=h
  rfl
 ·obtain ⟨l,ls,a,b,rfl,hl,hn,hab,he,hno,q⟩:=h
  refine ⟨_,(@aAc _ _ _ _ _ (@aDz _ _ _ _ _ _ _ _ PassesOwn.never rfl (@aK6 _ _ _ _ _ _ _ rfl T.z_range (@aAa _ _ _ _ _ (pv 1) (@aAa _ _ _ _ _ (@aAl _ _ _ _ _ _ _ _ _ aDr rfl T.z_len aB4 (@aAa _ _ _ _ _ (pv 0) (@aAd _) (by rfl)) (by decide) (by decide) (by rfl) (by rfl)) (@aAd _) (by rfl)) (by rfl)) (by rfl) (by rfl)) (@aA2 _ _ (i:=2) _ aFk.nd rfl (by first | exact Or.inl rfl | exact Or.inr rfl) (by first | exact .inl rfl | exact .inr rfl | assumption)) (@aAg _ _ _ (@aBc _ _ _ _ _ _ _ _ (@aAr _ _ _ _ _ _ _ _ (aA9 hr.units) (@aAj _ _ _ _ _ _ _ aAk (pv 0) (pv 2) (fun _ _=>rfl)) (@aBw _ _ _ _ (@aAa _ _ _ _ _ (@aAt _ _ _ _) (@aAd _) (by rfl))) (aAw _)) (@aAg _ _ _ (@aAo _ _ _ _ (pv 2))) (@aA0 _))) (by intro _; rfl)) (@aAg _ _ _ (@aA8 _ _))),?_⟩
  try dsimp only [aAz,aA4]
  obtain ⟨vs,hvs,pv⟩:=hl
  have hvl:=Paired.length pv
  have hb:b < ls.length:=(List.getElem?_eq_some_iff.mp he).1
  walk_at "go"
  refine aQi (by omega) (by omega) (by omega) (by omega) ?_
  refine aNw (n:=((vs.length:Int) - (a:Int)).toNat) (fun i σ G=>∃ (o2:Option V),σ=[some (.ref l),some (.int (a:Int)),o2]/\aAn H G/\a+i<=b) ⟨_,rfl,aAn.refl _,hab⟩ ?_ ?_
  ·rintro i σ G hi ⟨o2,rfl,sG,hib⟩
   obtain ⟨ws,hws⟩:∃ ws,ls[a+i]?=some ws:=⟨_,List.getElem?_eq_getElem (by omega)⟩
   obtain ⟨v,hv⟩:∃ v,vs[a+i]?=some v:=⟨_,List.getElem?_eq_getElem (by omega)⟩
   obtain ⟨ws',hws',a1,rfl,ha1⟩:=Paired.at pv hv
   rw [hws] at hws'
   cases hws'
   walk_at "go"
   rw [show ((a:Int)+(i:Int))=((a+i:Nat):Int) by omega]
   refine aC3 (sG _ _ hvs) (aBv hv) ?_
   walk_at "go"
   refine aBo fun l9 hl9=>?_
   have s9:=aAn.new (o:=.lst [V.str "end"]) hl9
   have g9:=aAe (H:=G) (a:=l9) (o:=.lst [V.str "end"])
   generalize L2.upd G l9 (.lst [V.str "end"])=G9 at s9 g9 ⊢
   refine bB2 (xs:=ws) (ys:=[("end":Str)]) (s9 _ _ (sG _ _ ha1)) g9 ?_
   by_cases e:ws=[("end":Str)]
   ·have hj:a+i=b:=by
     rcases Nat.lt_or_ge (a+i) b with h | h
     ·exact absurd e (hno _ (by omega) h ws hws)
     ·omega
    rw [decide_eq_true e]
    walk_at "go"
    rw [hj]
    exact q _ (sG.trans s9)
   ·rw [decide_eq_false e]
    walk_at "go"
    refine ⟨_,rfl,sG.trans s9,?_⟩
    rcases Nat.lt_or_ge (a+i) b with h | h
    ·omega
    ·have:a+i=b:=by omega
     rw [this,he] at hws
     exact absurd (Option.some.inj hws).symm e
  rintro σ G ⟨o2,rfl,sG,hib⟩
  omega
set_option maxHeartbeats 0 in
theorem aMr (T:Bl mg) (d:Df K mg "lines_in" aCv ["text"]  ) (W:XmS mg xt x1 x4 x5) (R_NoNet:XrS K xt x1 x4 x5 x1 1) (R_TooMany:XrS K xt x1 x4 x5 x4 4) {tk_MOST_ROWS:Tok} (g_MOST_ROWS:mg "MOST_ROWS"=some (.int 60 tk_MOST_ROWS)):Okf P w K mg base (k+1) "lines_in" ["text"] (aHj K):=by
 refine Okf.of d aHm (fun vs H Q E h=>?_) (fun f cdv A outer s H vs Q E hr h=>?_)
 ·obtain ⟨ls,rfl,_⟩:=h
  rfl
 ·obtain ⟨ls,rfl,hne,hn,hw,hz,q⟩:=h
  refine ⟨_,(@aAc _ _ _ _ _ (@aBc _ _ _ _ _ _ _ _ (@aDp _ _ _ _ (@aDo _ _ _ (@aAl _ _ _ _ _ _ _ _ _ (aDl (T:="str")) rfl T.z_isinstance aA5 (@aAa _ _ _ _ _ (pv 0) (@aAa _ _ _ _ _ (@aEg _ _ (v:=.ty "str") _ _ rfl T.z_str aLp rfl (by decide) (by decide)) (@aAd _) (by rfl)) (by rfl)) (by decide) (by decide) (by rfl) (by rfl)) (by intro _; rfl))) (@aAg _ _ _ (@aA8 _ _)) (@aA0 _)) (@aAc _ _ _ _ _ (@aQt _ _ _ _ _ _ _ _ _ _ _ _ _ _ (i:=1) _ _ _ aHm.nd rfl (by first | exact Or.inl rfl | exact Or.inr rfl) (@aCz _ _ (sc:=aAf aCv) (N:=["text","lines"]) (tn:=["line"]) (names:=[]) (is:=[]) rfl rfl (by decide +kernel) (by decide +kernel) rfl (by decide +kernel) rfl (by decide +kernel) (by decide +kernel) (by decide +kernel)) rfl (@aCm _ _ _ _ (@aEf _ _ _ _ _ _ _ _ _ _ _ _ PySem.F.plainAttrs_str PySem.F.slot_str_split PySem.F.type_str_split aG2 (pv 0) (@aAa _ _ _ _ _ (@aAt _ _ _ _) (@aAd _) (by rfl)) (by rfl) (by rfl) (by rfl) (by rfl) (by rfl))) (fun _ _ _ _=>(@aA2 _ _ (i:=0) _ (show (["line"]:List Str).Nodup by decide +kernel) rfl (Or.inl rfl) (Or.inr rfl))) (fun _ _ _ _=>(@aQ0 _ _ _ _ _ _ _ _ _ _ _ _ _ _ _ _ _ _ _ PySem.F.plainAttrs_str PySem.F.slot_str_split PySem.F.type_str_split aG2 (pv 0) (@aAa _ _ _ _ _ (@aAt _ _ _ _) (@aAd _) (by rfl)) (by rfl) (by rfl) (by rfl) (by rfl) (by rfl))) (fun _ _ _ _=>(@aCb _)) (by intro _; rfl) (by rfl) (by first | exact .inl rfl | exact .inr rfl | assumption)) (@aAc _ _ _ _ _ (@aBc _ _ _ _ _ _ _ _ (@aAr _ _ _ _ _ _ _ _ aMl (@aAl _ _ _ _ _ _ _ _ _ aDr rfl T.z_len aB4 (@aAa _ _ _ _ _ (pv 1) (@aAd _) (by rfl)) (by decide) (by decide) (by rfl) (by rfl)) (@aCe _ _ (v:=(.int 60)) _ _ rfl g_MOST_ROWS ⟨_,rfl⟩ (by decide)) (aAw _)) (@aAg _ _ _ (@aA8 _ _)) (@aA0 _)) (@aAg _ _ _ (@aAo _ _ _ _ (pv 1)))))),?_⟩
  try dsimp only [aAz,aA4]
  have e1:=aOo hne fun ws hws=>(hw ws hws).2.1
  walk_at "go"
  refine aCp (.str _) aHw ?_
  walk_at "go"
  refine aJk (z:=aH3 ls) (y:=sp3) (by decide +kernel) hz fun l1 hl1=>?_
  rw [e1]
  have hml:((ls.map (Str.join sp1)).map V.str).length=ls.length:=by rw [List.length_map,List.length_map]
  have s1:=aAn.new (o:=.lst ((ls.map (Str.join sp1)).map V.str)) hl1
  have g1:=aAe (H:=H) (a:=l1) (o:=.lst ((ls.map (Str.join sp1)).map V.str))
  generalize L2.upd H l1 (.lst ((ls.map (Str.join sp1)).map V.str))=H1 at s1 g1 ⊢
  refine aCk (SqL.of g1) ?_
  refine aE3 (xs:=(ls.map (Str.join sp1)).map V.str) (by omega) (fun acc i ys G=>Kp acc H1 G/\Paired (LnQ G) ys (ls.take i)/\∀ v∈ys,v≠.ref acc) (fun acc h0=>⟨Kp.new h0,.nil,fun _ h=>nomatch h⟩) ?_ ?_ ?_
  ·rintro acc i ys G h0 _ ⟨kp,_⟩
   exact SqL.of (kp _ _ (aAh g1 h0) g1)
  ·rintro acc i ys G y h0 hy hyl hG ⟨kp,pt,hna⟩
   rw [List.getElem?_map,List.getElem?_map] at hy
   cases hr:ls[i]? with
   | none=>rw [hr] at hy; cases hy
   | some ws =>
    rw [hr] at hy
    cases (Option.some.inj hy:V.str (Str.join sp1 ws)=y)
    obtain ⟨q1,q2,q3⟩:=hw ws (List.mem_of_getElem? hr)
    walk_at "go"
    refine aJk (z:=Str.join sp1 ws) (y:=sp1) (by decide +kernel) (by omega) fun l2 hl2=>?_
    rw [aPb q1 q2]
    have s2:=aAn.new (o:=.lst (ws.map V.str)) hl2
    have g2:=aAe (H:=G) (a:=l2) (o:=.lst (ws.map V.str))
    generalize L2.upd G l2 (.lst (ws.map V.str))=G2 at s2 g2 ⊢
    have n2:l2≠acc:=fun e=>by rw [e,hG] at hl2; cases hl2
    refine aD9 (by have:=(List.getElem?_eq_some_iff.mp hr).1; omega) hyl (s2 _ _ hG) ⟨(kp.trans s2.kp).trans Kp.upd,?_,?_⟩
    ·rw [List.take_add_one,hr]
     refine Pd.snoc (Pd.keep pt fun v b hv ⟨a,e,f⟩=>⟨a,e,?_⟩) ⟨l2,rfl,by rw [aA1 n2]; exact g2⟩
     rw [aA1 fun z=>hna v hv (by rw [e,z])]
     exact s2 _ _ f
    ·intro v hv
     rcases List.mem_append.mp hv with h | h
     ·exact hna v h
     ·rw [List.mem_singleton.mp h]
      exact fun z=>n2 (by cases z; rfl)
  rintro acc ys G h0 hG hyl ⟨kp,pt,hna⟩
  rw [hml,List.take_length] at pt
  have sG:aAn H1 G:=fun b o h=>kp _ _ (aAh h h0) h
  have hyl':ys.length<=60:=by omega
  walk_at "go"
  exact q acc G (s1.trans sG) ⟨ys,hG,pt⟩
set_option maxHeartbeats 0 in
theorem aLa (T:Bl mg) (d:Df K mg "read_rows" aCt ["text"]  ) (W:XmS mg xt x1 x4 x5) (R_NoNet:XrS K xt x1 x4 x5 x1 1) (R_TooMany:XrS K xt x1 x4 x5 x4 4) (o_piece_in:Okf P w K mg base k "piece_in" ["lines","counts"] (aHb K)) (o_end_behind:Okf P w K mg base k "end_behind" ["lines","place"] (aP7 K)) (o_plain_row_in:Okf P w K mg base k "plain_row_in" ["words","counts"] (aFe K)) (o_lines_in:Okf P w K mg base k "lines_in" ["text"] (aHj K)):Okf P w K mg base (k+1) "read_rows" ["text"] (aF0 K):=by
 refine Okf.of d aBe (fun vs H Q E h=>?_) (fun f cdv A outer s H vs Q E hr h=>?_)
 ·obtain ⟨gs,rfl,_⟩:=h
  rfl
 ·obtain ⟨gs,rfl,hne,hb,hn,hz,q⟩:=h
  refine ⟨_,(@aAc _ _ _ _ _ (@aAs _ _ (i:=1) _ _ _ _ aBe.nd rfl (by first | exact Or.inl rfl | exact Or.inr rfl) (@aAi _ _ _ _ _ _ _ _ _ _ o_lines_in hr rfl (@aAa _ _ _ _ _ (pv 0) (@aAd _) (by rfl)) (by decide) (by rfl) (by rfl)) (by rfl) (by first | exact .inl rfl | exact .inr rfl | assumption)) (@aAc _ _ _ _ _ (@aAs _ _ (i:=2) _ _ _ _ aBe.nd rfl (by first | exact Or.inl rfl | exact Or.inr rfl) (@aBw _ _ _ _ (@aAd _)) (by rfl) (by first | exact .inl rfl | exact .inr rfl | assumption)) (@aAc _ _ _ _ _ (@aAs _ _ (i:=3) _ _ _ _ aBe.nd rfl (by first | exact Or.inl rfl | exact Or.inr rfl) (@aG1 _ _) (by rfl) (by first | exact .inl rfl | exact .inr rfl | assumption)) (@aAc _ _ _ _ _ (@aAs _ _ (i:=4) _ _ _ _ aBe.nd rfl (by first | exact Or.inl rfl | exact Or.inr rfl) (@aAb _ _ _ _) (by rfl) (by first | exact .inl rfl | exact .inr rfl | assumption)) (@aAc _ _ _ _ _ (@aJo _ _ _ _ _ _ PassesOwn.never (@aAr _ _ _ _ _ _ _ _ aTz (pv 4) (@aAl _ _ _ _ _ _ _ _ _ aDr rfl T.z_len aB4 (@aAa _ _ _ _ _ (pv 1) (@aAd _) (by rfl)) (by decide) (by decide) (by rfl) (by rfl)) (aAw _)) (@aAg _ _ _ (@aBc _ _ _ _ _ _ _ _ (@aAr _ _ _ _ _ _ _ _ (aA9 hr.units) (@aAj _ _ _ _ _ _ _ aAk (@aAj _ _ _ _ _ _ _ aAk (pv 1) (pv 4) (fun _ _=>rfl)) (@aAb _ _ _ _) (fun _ _=>rfl)) (@aAt _ _ _ _) (aAw _)) (@aAc _ _ _ _ _ (@aAs _ _ (i:=5) _ _ _ _ aBe.nd rfl (by first | exact Or.inl rfl | exact Or.inr rfl) (@aAi _ _ _ _ _ _ _ _ _ _ o_end_behind hr rfl (@aAa _ _ _ _ _ (pv 1) (@aAa _ _ _ _ _ (pv 4) (@aAd _) (by rfl)) (by rfl)) (by decide) (by rfl) (by rfl)) (by rfl) (by first | exact .inl rfl | exact .inr rfl | assumption)) (@aAc _ _ _ _ _ (@aAs _ _ (i:=6) _ _ _ _ aBe.nd rfl (by first | exact Or.inl rfl | exact Or.inr rfl) (@aAi _ _ _ _ _ _ _ _ _ _ o_piece_in hr rfl (@aAa _ _ _ _ _ (@aBf _ _ _ _ _ _ _ _ _ _ aDd (pv 1) (@aBt _ _ _ (pv 4)) (@aBt _ _ _ (pv 5))) (@aAa _ _ _ _ _ (pv 3) (@aAd _) (by rfl)) (by rfl)) (by decide) (by rfl) (by rfl)) (by rfl) (by first | exact .inl rfl | exact .inr rfl | assumption)) (@aAc _ _ _ _ _ (@aJp _ _ _ _ _ _ _ _ _ hr.u1 (pv 3) (@aAj _ _ _ _ _ _ _ aAk (pv 6) (@aAb _ _ _ _) (fun _ _=>rfl)) (@aAl _ _ _ _ _ _ _ _ _ aDr rfl T.z_len aB4 (@aAa _ _ _ _ _ (@aAj _ _ _ _ _ _ _ aAk (pv 6) (@aAb _ _ _ _) (fun _ _=>rfl)) (@aAd _) (by rfl)) (by decide) (by decide) (by rfl) (by rfl)) rfl) (@aAc _ _ _ _ _ (@aB7 _ _ _ _ (@aEf _ _ _ _ _ _ _ _ _ _ _ _ PySem.F.plainAttrs_list PySem.F.slot_list_append PySem.F.type_list_append aDi (pv 2) (@aAa _ _ _ _ _ (pv 6) (@aAd _) (by rfl)) (by rfl) (by rfl) (by rfl) (by rfl) (by rfl)) (by rfl)) (@aAg _ _ _ (@aAs _ _ (i:=4) _ _ _ _ aBe.nd rfl (by first | exact Or.inl rfl | exact Or.inr rfl) (@aAq _ _ _ _ _ _ _ _ aA3 (pv 5) (@aAb _ _ _ _)) (by rfl) (by first | exact .inl rfl | exact .inr rfl | assumption))))))) (@aAc _ _ _ _ _ (@aB7 _ _ _ _ (@aEf _ _ _ _ _ _ _ _ _ _ _ _ PySem.F.plainAttrs_list PySem.F.slot_list_append PySem.F.type_list_append aDi (pv 2) (@aAa _ _ _ _ _ (@aAi _ _ _ _ _ _ _ _ _ _ o_plain_row_in hr rfl (@aAa _ _ _ _ _ (@aAj _ _ _ _ _ _ _ aAk (pv 1) (pv 4) (fun _ _=>rfl)) (@aAa _ _ _ _ _ (pv 3) (@aAd _) (by rfl)) (by rfl)) (by decide) (by rfl) (by rfl)) (@aAd _) (by rfl)) (by rfl) (by rfl) (by rfl) (by rfl) (by rfl)) (by rfl)) (@aAg _ _ _ (@aVc _ _ (i:=4) _ _ _ _ _ _ aBe.nd rfl (by first | exact Or.inl rfl | exact Or.inr rfl) (@aAb _ _ _ _) aVf (by first | exact .inl rfl | exact .inr rfl))))))) (@aAg _ _ _ (@aAo _ _ _ _ (pv 2)))))))),?_⟩
  try dsimp only [aAz,aA4]
  have hok:=aFq (E:=[]) trivial hb.wf
  have hll:=aDj gs
  have hpos:∀ g:aDc,1<=(aAx g).length:=fun g=>by cases g <;> exact Nat.succ_pos _
  have hlne:gs.flatMap aAx≠[]:=fun e=>by
   rw [e] at hll
   have:=aPa gs
   have:=List.length_pos_iff.mpr hne
   simp at hll
   omega
  walk_at "go"
  refine ⟨gs.flatMap aAx,rfl,hlne,by omega,hok,hz,fun ll H1 s1 hls=>?_⟩
  obtain ⟨vs,hvs,pv⟩:=id hls
  have hvl:=Paired.length pv
  walk_at "go"
  refine aBo fun lr hlr=>?_
  have a2:=aAn.new (o:=.lst []) hlr
  have b2:=aAe (H:=H1) (a:=lr) (o:=.lst [])
  generalize L2.upd H1 lr (.lst [])=H2 at a2 b2 ⊢
  walk_at "go"
  refine aNx fun dc hdc=>?_
  have a3:=aAn.new (o:=.dK []) hdc
  have b3:=aAe (H:=H2) (a:=dc) (o:=.dK [])
  generalize L2.upd H2 dc (.dK [])=H3 at a3 b3 ⊢
  have ndr:lr≠dc:=aAh b2 hdc
  have hdc1:H1 dc=none:=a2.free hdc
  walk_at "go"
  refine aTj (fun m σ G=>∃ (i:Nat) (E:List aAu) (o5 o6:Option V),m+i=gs.length/\σ=[some (.str (aH3 (gs.flatMap aAx))),some (.ref ll),some (.ref lr),some (.ref dc),some (.int ((((gs.take i).flatMap aAx).length:Nat):Int)),o5,o6]/\(∀ b o,b≠lr->b≠dc->H1 b=some o->G b=some o)/\TK H1 G/\GsQ G lr (gs.take i)/\CdQ G dc E/\WfE E/\WfG E (gs.drop i)/\aGi E (gs.drop i)=aGi [] gs) (m0:=gs.length) ⟨0,[],_,_,rfl,rfl,fun b o _ _ h=>a3 _ _ (a2 _ _ h),a2.tk.trans a3.tk,⟨[],a3 _ _ b2,.nil⟩,⟨[],b3,Nat.le_refl _,fun _ h=>(nomatch h),fun _ _=>rfl⟩,trivial,hb.wf,rfl⟩ ?_
  rintro m σ G ⟨i,E,o5,o6,him,rfl,kp,tk,⟨xs,hxs,px⟩,cd,hE,hW,eE⟩
  have sG:aAn H1 G:=fun b o h=>kp b o (aAh h hlr) (aAh h hdc1) h
  have hvsG:=sG _ _ hvs
  have hxl:=Paired.length px
  rw [List.length_take] at hxl
  have few:=hb.few
  have tot:((gs.take i).flatMap aAx).length<=(gs.flatMap aAx).length:=by
   have e:=congrArg (fun l=>(List.flatMap aAx l).length) (List.take_append_drop i gs)
   simp only [List.flatMap_append,List.length_append] at e
   omega
  walk_at "go"
  refine i_d (fun c1=>?_) (fun c1=>?_)
  ·have hi:i < gs.length:=by
    rcases Nat.lt_or_ge i gs.length with h | h
    ·exact h
    ·rw [List.take_of_length_le h] at c1
     omega
   obtain ⟨g,hg⟩:∃ g,gs[i]?=some g:=⟨_,List.getElem?_eq_getElem hi⟩
   refine ⟨fun σ' G'=>∃ m',m' < m/\∃ (i:Nat) (E:List aAu) (o5 o6:Option V),m'+i=gs.length/\σ'=[some (.str (aH3 (gs.flatMap aAx))),some (.ref ll),some (.ref lr),some (.ref dc),some (.int ((((gs.take i).flatMap aAx).length:Nat):Int)),o5,o6]/\(∀ b o,b≠lr->b≠dc->H1 b=some o->G' b=some o)/\TK H1 G'/\GsQ G' lr (gs.take i)/\CdQ G' dc E/\WfE E/\WfG E (gs.drop i)/\aGi E (gs.drop i)=aGi [] gs,fun σ' G' h=>h,?_⟩
   rw [aE6 hg] at hW eE
   have h8:E.length<=20:=hb.le20 hE eE
   have tk1:gs.take (i+1)=gs.take i++[g]:=by rw [List.take_add_one,hg]; rfl
   have pl1:((gs.take (i+1)).flatMap aAx).length=((gs.take i).flatMap aAx).length+(aAx g).length:=by rw [tk1,List.flatMap_append,List.length_append]; simp
   have at0:=fun (j:Nat) (hj:j < (aAx g).length)=>aXe hg hj
   have lle:((gs.take i).flatMap aAx).length+(aAx g).length<=(gs.flatMap aAx).length:=by
    rw [← pl1]
    have e:=congrArg (fun l=>(List.flatMap aAx l).length) (List.take_append_drop (i+1) gs)
    simp only [List.flatMap_append,List.length_append] at e
    omega
   generalize hpl:((gs.take i).flatMap aAx).length=pl at *
   obtain ⟨v,hv⟩:∃ v,vs[pl]?=some v:=⟨_,List.getElem?_eq_getElem (by have:=hpos g; omega)⟩
   obtain ⟨ws,hws,a,rfl,ha⟩:=Paired.at pv hv
   have hws0:(aAx g)[0]?=some ws:=by rw [← at0 0 (hpos g)]; exact hws
   have haG:=sG _ _ ha
   cases g with
   | one r =>
    have e0:ws=aE9 r:=(Option.some.inj hws0).symm
    subst e0
    obtain ⟨kw,wr,ew,nk⟩:=aK1 r
    walk_at "go"
    refine aC3 hvsG (aBv hv) ?_
    walk_at "go"
    refine aC3 haG (v:=.str kw) (by rw [ew]; exact show atI (V.str kw::wr.map V.str) ((0:Nat):Int)=_ from aBv rfl) ?_
    walk_at "go"
    rw [if_neg (show ¬ (kw=="piece")=true by simpa using nk)]
    walk_at "go"
    refine aC3 hvsG (aBv hv) ?_
    walk_at "go"
    refine ⟨a,dc,E,r,rfl,haG,cd,hW.1,fun u G2 s2 rq=>?_⟩
    walk_at "go"
    refine aOv (s2 _ _ hxs) (by omega) ?_
    have k3:Kp lr G2 (L2.upd G2 lr (.lst (xs++[u]))):=Kp.upd
    have tk3:=TK.lst (o:=.lst (xs++[u])) (s2 _ _ hxs)
    have g3:=aAe (H:=G2) (a:=lr) (o:=.lst (xs++[u]))
    generalize L2.upd G2 lr (.lst (xs++[u]))=G3 at k3 tk3 g3 ⊢
    have g3r:GsQ G3 lr (gs.take (i+1)):=⟨_,g3,by rw [tk1]; exact Pd.snoc (Pd.imp px fun v b f=>(aGt.tk f s2.tk).tk tk3) (aBz.tk rq tk3)⟩
    have e9:((pl:Int)+1)=(((((gs.take (i+1)).flatMap aAx).length:Nat)):Int):=by rw [pl1]; rfl
    walk_at "go"
    refine bAb rfl ?_
    refine ⟨_,_,rfl,rfl,?_⟩
    dsimp only [List.set]
    rw [e9]
    refine ⟨m - 1,by omega,i+1,E,_,_,by omega,rfl,fun b o h1 h2 h=>k3 _ _ h1 (s2 _ _ (kp b o h1 h2 h)),(tk.trans s2.tk).trans tk3,g3r,?_,hE,hW.2,eE⟩
    obtain ⟨kd,hk,hkl,hkv⟩:=cd.sm s2
    exact ⟨kd,k3 _ _ (fun e=>ndr e.symm) hk,hkl,hkv⟩
   | piece p =>
    have e0:ws=("piece":Str)::p.1::p.2.1:=(Option.some.inj hws0).symm
    subst e0
    have plen:=aK5 p
    have rne:=List.length_pos_iff.mpr hW.1.2.1
    have hend:(gs.flatMap aAx)[pl+1+p.2.2.length]?=some [("end":Str)]:=by rw [Nat.add_assoc,at0 (1+p.2.2.length) (by omega),Nat.add_comm 1]; exact aQv p
    have hnoe:∀ j,pl<=j->j < pl+1+p.2.2.length->∀ ws,(gs.flatMap aAx)[j]?=some ws->ws≠[("end":Str)]:=by
     intro j hj1 hj2 ws hj
     rw [show j=pl+(j - pl) by omega,at0 (j - pl) (by omega)] at hj
     exact aK4 (by omega) hj
    walk_at "go"
    refine aC3 hvsG (aBv hv) ?_
    walk_at "go"
    refine aC3 haG (v:=.str "piece") (show atI (V.str "piece"::_) ((0:Nat):Int)=_ from aBv rfl) ?_
    walk_at "go"
    refine ⟨ll,_,pl,pl+1+p.2.2.length,rfl,hls.sm sG,by omega,by omega,hend,hnoe,fun G1 t1=>?_⟩
    have hvs1:=t1 _ _ hvsG
    walk_at "go"
    refine aJh hvs1 fun l2 hl2=>?_
    have ec:=aXx (xs:=vs) (a:=pl) (b:=pl+1+p.2.2.length) (by omega) (by omega)
    rw [show pl+1+p.2.2.length - pl=p.2.2.length+1 by omega] at ec
    rw [ec]
    have pc2:Paired (LnQ H1) ((vs.drop pl).take (p.2.2.length+1)) (("piece"::p.1::p.2.1)::p.2.2.map aE9):=by
     have:=Pd.cut pv pl (p.2.2.length+1)
     rw [← hpl,aMk hg,hpl] at this
     exact this
    generalize (vs.drop pl).take (p.2.2.length+1)=ys at pc2 ⊢
    have t2:=aAn.new (o:=.lst ys) hl2
    have g2:=aAe (H:=G1) (a:=l2) (o:=.lst ys)
    generalize L2.upd G1 l2 (.lst ys)=G2 at t2 g2 ⊢
    have s12:=t1.trans t2
    walk_at "go"
    refine ⟨l2,dc,E,p,rfl,⟨ys,g2,Pd.imp pc2 fun _ _ f=>f.sm (sG.trans s12)⟩,cd.sm s12,hW.1,by omega,fun u G3 t3 pq=>?_⟩
    obtain ⟨pp,q0,z0,xs0,rfl,h1,h2,h3,pt⟩:=id pq
    have s13:=s12.trans t3
    obtain ⟨kd,hk,hkl,hkv,hkn⟩:=cd.sm s13
    walk_at "go"
    refine aTm hk (by omega) ?_
    have tk4:=TK.dic (o:=.dK (aD7 kd (Sum.inr p.1) (.int ((p.2.1.map V.str).length:Int)))) hk
    have k4:Kp dc G3 (L2.upd G3 dc (.dK (aD7 kd (Sum.inr p.1) (.int ((p.2.1.map V.str).length:Int))))):=Kp.upd
    have g4:=aAe (H:=G3) (a:=dc) (o:=.dK (aD7 kd (Sum.inr p.1) (.int ((p.2.1.map V.str).length:Int))))
    generalize L2.upd G3 dc (.dK (aD7 kd (Sum.inr p.1) (.int ((p.2.1.map V.str).length:Int))))=G4 at tk4 k4 g4 ⊢
    have hx4:=k4 _ _ ndr (s13 _ _ hxs)
    walk_at "go"
    refine aOv hx4 (by omega) ?_
    have k5:Kp lr G4 (L2.upd G4 lr (.lst (xs++[.ref pp]))):=Kp.upd
    have tk5:=TK.lst (o:=.lst (xs++[.ref pp])) hx4
    have g5:=aAe (H:=G4) (a:=lr) (o:=.lst (xs++[.ref pp]))
    generalize L2.upd G4 lr (.lst (xs++[.ref pp]))=G5 at k5 tk5 g5 ⊢
    have tk35:=tk4.trans tk5
    have g5r:GsQ G5 lr (gs.take (i+1)):=⟨_,g5,by rw [tk1]; exact Pd.snoc (Pd.imp px fun v b f=>(aGt.tk f s13.tk).tk tk35) (aGt.tk (r:=.piece p) pq tk35)⟩
    have g5d:=k5 _ _ (fun e=>ndr e.symm) g4
    rw [List.length_map] at g5d
    have e9:(((pl+1+p.2.2.length:Nat):Int)+1)=(((((gs.take (i+1)).flatMap aAx).length:Nat)):Int):=by rw [pl1,plen]; omega
    walk_at "go"
    rw [e9]
    exact ⟨m - 1,by omega,i+1,p::E,_,_,by omega,rfl,fun b o h1 h2 h=>k5 _ _ h1 (k4 _ _ h2 (s13 _ _ (kp b o h1 h2 h))),(tk.trans s13.tk).trans tk35,g5r,CdQ.put hW.1 hkl hkv hkn g5d,⟨hW.1,hE⟩,hW.2,eE⟩
  walk_at "go"
  have hi:gs.length<=i:=by
   rcases Nat.lt_or_ge i gs.length with h | h
   ·exfalso
    obtain ⟨g,hg⟩:∃ g,gs[i]?=some g:=⟨_,List.getElem?_eq_getElem h⟩
    have e:=congrArg List.length (aXj hg)
    rw [List.length_drop,List.length_append] at e
    have:=hpos g
    omega
   ·exact h
  rw [List.take_of_length_le hi] at px
  exact q lr G (s1.free hlr) (s1.trans sG) ⟨xs,hxs,px⟩
theorem aO7 (T:Bl mg) (d:Df K mg "_law_cell_at" aDy ["_law_script","_law_k"]  ) (W:XmS mg xt x1 x4 x5) (R_NoNet:XrS K xt x1 x4 x5 x1 1) (R_TooMany:XrS K xt x1 x4 x5 x4 4):Okf P w K mg base (k+1) "_law_cell_at" ["_law_script","_law_k"] (aP8 K):=by
 refine Okf.of d aOs (fun vs H Q E h=>?_) (fun f cdv A outer s H vs Q E hr h=>?_)
 ·obtain ⟨a,ns,k',rfl,_⟩:=h
  rfl
 ·obtain ⟨a,ns,k',rfl,hS,h0,q⟩:=h
  refine ⟨_,(@aAc _ _ _ _ _ (@aBc _ _ _ _ _ _ _ _ (@aAr _ _ _ _ _ _ _ _ aTz (pv 1) (@aAl _ _ _ _ _ _ _ _ _ aDr rfl T.z_len aB4 (@aAa _ _ _ _ _ (pv 0) (@aAd _) (by rfl)) (by decide) (by decide) (by rfl) (by rfl)) (aAw _)) (@aAg _ _ _ (@aAo _ _ _ _ (@aAj _ _ _ _ _ _ _ aAk (pv 0) (pv 1) (fun _ _=>rfl)))) (@aA0 _)) (@aAg _ _ _ (@aAo _ _ _ _ (@aAb _ _ _ _)))),?_⟩
  try dsimp only [aAz,aA4]
  walk_at "go"
  refine aU6 hS ?_
  walk_at "go"
  refine i_d (fun c=>?_) (fun c=>?_)
  ·rw [List.length_map] at c
   obtain ⟨z,_,hz⟩:=pick (ns:=ns) h0 c
   walk_at "go"
   refine r_ixs hS hz ?_
   walk_at "go"
   exact q z
  ·walk_at "go"
   exact q 0
set_option maxHeartbeats 0 in
theorem aRa (T:Bl mg) (d:Df K mg "_law_number" aEo ["_law_script","_law_k"]  ) (W:XmS mg xt x1 x4 x5) (R_NoNet:XrS K xt x1 x4 x5 x1 1) (R_TooMany:XrS K xt x1 x4 x5 x4 4) (o_cell_at:Okf P w K mg base k "_law_cell_at" ["_law_script","_law_k"] (aP8 K)):Okf P w K mg base (k+1) "_law_number" ["_law_script","_law_k"] (aNp K):=by
 refine Okf.of d aDt (fun vs H Q E h=>?_) (fun f cdv A outer s H vs Q E hr h=>?_)
 ·obtain ⟨a,ns,k',rfl,_⟩:=h
  rfl
 ·obtain ⟨a,ns,k',rfl,hS,h0,hk,q⟩:=h
  refine ⟨_,(@aAc _ _ _ _ _ (@aAs _ _ (i:=2) _ _ _ _ aDt.nd rfl (by first | exact Or.inl rfl | exact Or.inr rfl) (@aAi _ _ _ _ _ _ _ _ _ _ o_cell_at hr rfl (@aAa _ _ _ _ _ (pv 0) (@aAa _ _ _ _ _ (pv 1) (@aAd _) (by rfl)) (by rfl)) (by decide) (by rfl) (by rfl)) (by rfl) (by first | exact .inl rfl | exact .inr rfl | assumption)) (@aAc _ _ _ _ _ (@aBc _ _ _ _ _ _ _ _ (@PW.pt _ _ _ (@aVb _ _ _ _ _ _ _ (@aAr _ _ _ _ _ _ _ _ (aA9 hr.units) (@aAq _ _ _ _ _ _ _ _ aBl (@aAi _ _ _ _ _ _ _ _ _ _ o_cell_at hr rfl (@aAa _ _ _ _ _ (pv 0) (@aAa _ _ _ _ _ (@aAb _ _ _ _) (@aAd _) (by rfl)) (by rfl)) (by decide) (by rfl) (by rfl)) (@aAb _ _ _ _)) (@aAb _ _ _ _) (aAw _)) (@aQr _ _ _ _ (@aAr _ _ _ _ _ _ _ _ aWv (pv 2) (@aAq _ _ _ _ _ _ _ _ aQ4 (@aAb _ _ _ _) (@aAb _ _ _ _)) (aAw _))))) (@aAg _ _ _ (@aAo _ _ _ _ (pv 2))) (@aA0 _)) (@aAc _ _ _ _ _ (@aAs _ _ (i:=3) _ _ _ _ aDt.nd rfl (by first | exact Or.inl rfl | exact Or.inr rfl) (@aAq _ _ _ _ _ _ _ _ aBl (@aAq _ _ _ _ _ _ _ _ aCx (@aAq _ _ _ _ _ _ _ _ aA3 (@aAq _ _ _ _ _ _ _ _ aA3 (@aAq _ _ _ _ _ _ _ _ aBl (pv 2) (@aAb _ _ _ _)) (@aAq _ _ _ _ _ _ _ _ aCx (@aAq _ _ _ _ _ _ _ _ aCx (@aAb _ _ _ _) (pv 1)) (pv 1))) (@aAb _ _ _ _)) (@aAb _ _ _ _)) (@aAb _ _ _ _)) (by rfl) (by first | exact .inl rfl | exact .inr rfl | assumption)) (@aAc _ _ _ _ _ (@aAs _ _ (i:=4) _ _ _ _ aDt.nd rfl (by first | exact Or.inl rfl | exact Or.inr rfl) (@aAq _ _ _ _ _ _ _ _ aBl (@aAq _ _ _ _ _ _ _ _ aCx (pv 3) (@aAq _ _ _ _ _ _ _ _ aA3 (@aAq _ _ _ _ _ _ _ _ aBl (pv 3) (@aAb _ _ _ _)) (@aAb _ _ _ _))) (@aAb _ _ _ _)) (by rfl) (by first | exact .inl rfl | exact .inr rfl | assumption)) (@aAc _ _ _ _ _ (@aAs _ _ (i:=5) _ _ _ _ aDt.nd rfl (by first | exact Or.inl rfl | exact Or.inr rfl) (@aAq _ _ _ _ _ _ _ _ aBl (@aAq _ _ _ _ _ _ _ _ aCx (@aAq _ _ _ _ _ _ _ _ aA3 (pv 4) (@aAq _ _ _ _ _ _ _ _ aCx (@aAq _ _ _ _ _ _ _ _ aCx (@aAb _ _ _ _) (pv 1)) (pv 1))) (@aAq _ _ _ _ _ _ _ _ aA3 (@aAq _ _ _ _ _ _ _ _ aBl (pv 3) (@aAb _ _ _ _)) (@aAb _ _ _ _))) (@aAb _ _ _ _)) (by rfl) (by first | exact .inl rfl | exact .inr rfl | assumption)) (@aAc _ _ _ _ _ (@aAs _ _ (i:=6) _ _ _ _ aDt.nd rfl (by first | exact Or.inl rfl | exact Or.inr rfl) (@aAq _ _ _ _ _ _ _ _ aA3 (@aAq _ _ _ _ _ _ _ _ aCx (@aAq _ _ _ _ _ _ _ _ aA3 (@aAq _ _ _ _ _ _ _ _ aCx (pv 3) (@aAb _ _ _ _)) (pv 4)) (@aAb _ _ _ _)) (pv 5)) (by rfl) (by first | exact .inl rfl | exact .inr rfl | assumption)) (@aAc _ _ _ _ _ (@aBc _ _ _ _ _ _ _ _ (@aAr _ _ _ _ _ _ _ _ (aA9 hr.units) (@aAq _ _ _ _ _ _ _ _ aBl (@aAi _ _ _ _ _ _ _ _ _ _ o_cell_at hr rfl (@aAa _ _ _ _ _ (pv 0) (@aAa _ _ _ _ _ (@aAb _ _ _ _) (@aAd _) (by rfl)) (by rfl)) (by decide) (by rfl) (by rfl)) (@aAb _ _ _ _)) (@aAb _ _ _ _) (aAw _)) (@aAg _ _ _ (@aAo _ _ _ _ (@aAq _ _ _ _ _ _ _ _ aA3 (@aAq _ _ _ _ _ _ _ _ aCx (pv 6) (@aAq _ _ _ _ _ _ _ _ aQ4 (@aAb _ _ _ _) (@aAb _ _ _ _))) (@aAq _ _ _ _ _ _ _ _ aBl (pv 2) (@aAq _ _ _ _ _ _ _ _ aQ4 (@aAb _ _ _ _) (@aAb _ _ _ _)))))) (@aA0 _)) (@aAg _ _ _ (@aAo _ _ _ _ (pv 6)))))))))),?_⟩
  try dsimp only [aAz,aA4]
  walk_at "go"
  refine ⟨a,ns,k',rfl,hS,h0,fun c=>?_⟩
  walk_at "go"
  refine ⟨a,ns,0,rfl,hS,Int.le_refl 0,fun c0=>?_⟩
  walk_at "go"
  refine i_d (fun e1=>?_) (fun e1=>?_)
  ·walk_at "go"
   refine i_d (fun e2=>?_) (fun e2=>?_)
   ·walk_at "go"
    exact q _ (by omega)
   ·walk_at "go"
    refine ⟨a,ns,0,rfl,hS,Int.le_refl 0,fun c1=>?_⟩
    walk_at "go"
    have hone:∀ z:Int,0<=z % 2147483629:=fun z=>Int.emod_nonneg z (by decide)
    have htwo:∀ z:Int,0<=z % 2147483587:=fun z=>Int.emod_nonneg z (by decide)
    have hthr:∀ z:Int,0<=z % 2147483543:=fun z=>Int.emod_nonneg z (by decide)
    have h1:=hone ((c % 2147483647+7919 * k' * k'+11) * 69621)
    generalize (c % 2147483647+7919 * k' * k'+11) * 69621 % 2147483629=one at h1 ⊢
    have h2:=htwo (one * (one % 65521+48271))
    generalize one * (one % 65521+48271) % 2147483587=two at h2 ⊢
    have h3:=hthr ((two+40692 * k' * k') * (one % 7919+39373))
    generalize (two+40692 * k' * k') * (one % 7919+39373) % 2147483543=thr at h3 ⊢
    refine i_d (fun e3=>?_) (fun e3=>?_)
    ·walk_at "go"
     exact q _ (nn_b (nn_a h1 h2 h3))
    ·walk_at "go"
     exact q _ (nn_a h1 h2 h3)
  ·walk_at "go"
   refine ⟨a,ns,0,rfl,hS,Int.le_refl 0,fun c1=>?_⟩
   walk_at "go"
   have hone:∀ z:Int,0<=z % 2147483629:=fun z=>Int.emod_nonneg z (by decide)
   have htwo:∀ z:Int,0<=z % 2147483587:=fun z=>Int.emod_nonneg z (by decide)
   have hthr:∀ z:Int,0<=z % 2147483543:=fun z=>Int.emod_nonneg z (by decide)
   have h1:=hone ((c % 2147483647+7919 * k' * k'+11) * 69621)
   generalize (c % 2147483647+7919 * k' * k'+11) * 69621 % 2147483629=one at h1 ⊢
   have h2:=htwo (one * (one % 65521+48271))
   generalize one * (one % 65521+48271) % 2147483587=two at h2 ⊢
   have h3:=hthr ((two+40692 * k' * k') * (one % 7919+39373))
   generalize (two+40692 * k' * k') * (one % 7919+39373) % 2147483543=thr at h3 ⊢
   refine i_d (fun e3=>?_) (fun e3=>?_)
   ·walk_at "go"
    exact q _ (nn_b (nn_a h1 h2 h3))
   ·walk_at "go"
    exact q _ (nn_a h1 h2 h3)
theorem aRc (T:Bl mg) (d:Df K mg "_law_lowest" aEq ["_law_top","_law_bottom"]  ) (W:XmS mg xt x1 x4 x5) (R_NoNet:XrS K xt x1 x4 x5 x1 1) (R_TooMany:XrS K xt x1 x4 x5 x4 4):Okf P w K mg base (k+1) "_law_lowest" ["_law_top","_law_bottom"] aJb:=by
 refine Okf.of d aFi (fun vs H Q E h=>?_) (fun f cdv A outer s H vs Q E hr h=>?_)
 ·obtain ⟨t,b,rfl,_⟩:=h
  rfl
 ·obtain ⟨t,b,rfl,hb,hs1,hs2,q⟩:=h
  refine ⟨_,(@aAc _ _ _ _ _ (@aAs _ _ (i:=2) _ _ _ _ aFi.nd rfl (by first | exact Or.inl rfl | exact Or.inr rfl) (@aAl _ _ _ _ _ _ _ _ _ bCa rfl T.z_abs aVn (@aAa _ _ _ _ _ (pv 0) (@aAd _) (by rfl)) (by decide) (by decide) (by rfl) (by rfl)) (by rfl) (by first | exact .inl rfl | exact .inr rfl | assumption)) (@aAc _ _ _ _ _ (@aAs _ _ (i:=3) _ _ _ _ aFi.nd rfl (by first | exact Or.inl rfl | exact Or.inr rfl) (pv 1) (by rfl) (by first | exact .inl rfl | exact .inr rfl | assumption)) (@aAc _ _ _ _ _ (@aJo _ _ _ _ _ _ PassesOwn.never (@aAr _ _ _ _ _ _ _ _ (aFo hr.units) (pv 3) (@aAb _ _ _ _) (aAw _)) (@aAg _ _ _ (@bAr _ _ (i:=2) (j:=3) _ _ _ _ _ _ _ _ _ _ _ rfl aFi.nd rfl rfl (by decide) rfl rfl (@aAa _ _ _ _ _ (pv 3) (@aAa _ _ _ _ _ (@aAq _ _ _ _ _ _ _ _ aBl (pv 2) (pv 3)) (@aAd _) (by rfl)) (by rfl)) rfl (by rfl)))) (@aAg _ _ _ (@aAo _ _ _ _ (@aBp _ _ _ _ _ (@aAa _ _ _ _ _ (@aAq _ _ _ _ _ _ _ _ aBg (pv 0) (pv 2)) (@aAa _ _ _ _ _ (@aAq _ _ _ _ _ _ _ _ aBg (pv 1) (pv 2)) (@aAd _) (by rfl)) (by rfl)))))))),?_⟩
  try dsimp only [aAz,aA4]
  walk_at "go"
  refine aNd (fun σ H'=>∃ one other:Int,σ=[some (.int t),some (.int b),some (.int one),some (.int other)]/\H'=H/\0<=one/\0<=other/\Int.gcd one other=Int.gcd t b)
   (fun σ _=>match σ with | [_,_,_,some (.int z)]=>z.toNat | _=>0) ⟨_,_,rfl,rfl,by split <;> omega,by omega,?_⟩ ?_ ?_
  ·have e:∀ z:Int,(if z < 0 then -z else z)=(z.natAbs:Int):=fun z=>by split <;> omega
   rw [e]
   simp [Int.gcd]
  ·rintro σ H' ⟨one,other,rfl,rfl,h1,h2,hg⟩
   walk_at "go"
   refine i_d (fun c=>?_) (fun c=>?_)
   ·subst c
    have e1:one=(Int.gcd t b:Int):=by rw [← hg,Int.gcd_zero_right]; omega
    have hb0:b≠0:=by omega
    have hgb:(Int.gcd t b:Int).natAbs<=b.natAbs:=by
     have:=Nat.le_of_dvd (by omega) (Int.gcd_dvd_natAbs_right t b)
     omega
    subst e1
    walk_at "go"
    have es:(Int.gcd t b:Int)=sg t b:=by unfold sg; rw [if_neg (by omega)]
    rw [es]
    have hc:∀ z,aL0 z (sg t b):=fun _=>⟨aQb hb0,Sm.le (by rw [aKy]; omega) hs2⟩
    refine aQm (hc _) ?_
    walk_at "go"
    refine aQm (hc _) ?_
    walk_at "go"
    refine aBi fun p hp=>?_
    walk_at "go"
    exact q p hp
   ·walk_at "go"
    refine ⟨⟨_,_,rfl,rfl,h2,Int.emod_nonneg _ (by omega),by rw [aUc (by omega)]; exact hg⟩,?_⟩
    have:=Int.emod_lt_of_pos one (show 0 < other by omega)
    show (one % other).toNat < other.toNat
    omega
  ·intro σ H Q Q' hQ h
   obtain ⟨v,e1,h⟩:=h
   rcases h with ⟨e2,b',e3,q'⟩ | ⟨d,e,e2,e3,e4,e5,b',e6,q'⟩
   ·exact ⟨v,e1,.inl ⟨e2,b',e3,hQ _ _ q'⟩⟩
   ·exact ⟨v,e1,.inr ⟨d,e,e2,e3,e4,e5,b',e6,hQ _ _ q'⟩⟩
set_option maxHeartbeats 0 in
theorem aT1 (T:Bl mg) (d:Df K mg "_law_names" aE2 ["_law_script"]  ) (W:XmS mg xt x1 x4 x5) (R_NoNet:XrS K xt x1 x4 x5 x1 1) (R_TooMany:XrS K xt x1 x4 x5 x4 4) (o_number:Okf P w K mg base k "_law_number" ["_law_script","_law_k"] (aNp K)):Okf P w K mg base (k+1) "_law_names" ["_law_script"] (aHf K):=by
 refine Okf.of d aFh (fun vs H Q E h=>?_) (fun f cdv A outer s H vs Q E hr h=>?_)
 ·obtain ⟨a,ns,rfl,_⟩:=h
  rfl
 ·obtain ⟨a,ns,rfl,hS,q⟩:=h
  refine ⟨_,(@aAc _ _ _ _ _ (@aAs _ _ (i:=1) _ _ _ _ aFh.nd rfl (by first | exact Or.inl rfl | exact Or.inr rfl) (@aAt _ _ _ _) (by rfl) (by first | exact .inl rfl | exact .inr rfl | assumption)) (@aAc _ _ _ _ _ (@aAs _ _ (i:=2) _ _ _ _ aFh.nd rfl (by first | exact Or.inl rfl | exact Or.inr rfl) (@aAi _ _ _ _ _ _ _ _ _ _ o_number hr rfl (@aAa _ _ _ _ _ (pv 0) (@aAa _ _ _ _ _ (@aAb _ _ _ _) (@aAd _) (by rfl)) (by rfl)) (by decide) (by rfl) (by rfl)) (by rfl) (by first | exact .inl rfl | exact .inr rfl | assumption)) (@aAc _ _ _ _ _ (@aAs _ _ (i:=3) _ _ _ _ aFh.nd rfl (by first | exact Or.inl rfl | exact Or.inr rfl) (@aBf _ _ _ _ _ _ _ _ _ _ aYz (pv 1) (@aCl _) (@aBt _ _ _ (@aAq _ _ _ _ _ _ _ _ aBl (pv 2) (@aAb _ _ _ _)))) (by rfl) (by first | exact .inl rfl | exact .inr rfl | assumption)) (@aAc _ _ _ _ _ (@aAs _ _ (i:=4) _ _ _ _ aFh.nd rfl (by first | exact Or.inl rfl | exact Or.inr rfl) (@aAq _ _ _ _ _ _ _ _ aWs (@aAj _ _ _ _ _ _ _ aAk (pv 1) (@aAq _ _ _ _ _ _ _ _ aBl (@aAq _ _ _ _ _ _ _ _ aBg (pv 2) (@aAb _ _ _ _)) (@aAb _ _ _ _)) (fun _ _=>rfl)) (@aAq _ _ _ _ _ _ _ _ aBl (@aAq _ _ _ _ _ _ _ _ aBg (pv 2) (@aAb _ _ _ _)) (@aAb _ _ _ _))) (by rfl) (by first | exact .inl rfl | exact .inr rfl | assumption)) (@aAg _ _ _ (@aAo _ _ _ _ (@aDh _ _ _ _ _ _ _ _ _ _ _ _ _ _ (@aCz _ _ (sc:=aAf aE2) (N:=["_law_script","_law_letters","_law_number_here","_law_before","_law_behind"]) (tn:=["_law_k"]) (names:=["_law_number_here","_law_letters","_law_behind","_law_before"]) (is:=[2,1,4,3]) rfl rfl (by decide +kernel) (by decide +kernel) rfl (by decide +kernel) rfl (by decide +kernel) (by decide +kernel) (by decide +kernel)) rfl (@aHr _ _ _ _ _ _ rfl T.z_range (@aAa _ _ _ _ _ (@aAb _ _ _ _) (@aAd _) (by rfl)) (by rfl)) (fun _ _ _ _=>(@aA2 _ _ (i:=0) _ (show (["_law_k","_law_number_here","_law_letters","_law_behind","_law_before"]:List Str).Nodup by decide +kernel) rfl (Or.inl rfl) (Or.inr rfl))) (fun _ _ _ _=>(@aAq _ _ _ _ _ _ _ _ aJu (@aAq _ _ _ _ _ _ _ _ aJu (pv 4) (@aAj _ _ _ _ _ _ _ aLj (pv 2) (@aAq _ _ _ _ _ _ _ _ aBl (@aAq _ _ _ _ _ _ _ _ aJu (@aAq _ _ _ _ _ _ _ _ aBg (pv 1) (@aAb _ _ _ _)) (@aAq _ _ _ _ _ _ _ _ aCx (@aAb _ _ _ _) (pv 0))) (@aAb _ _ _ _)) (fun _ _=>rfl))) (pv 3))) (fun _ _ _ _=>(@aCb _)) (by intro _; rfl)))))))),?_⟩
  try dsimp only [aAz,aA4]
  have h26:abc.length<=100000:=by rw [aSx]; decide
  walk_at "go"
  refine ⟨a,ns,1,rfl,hS,by decide,by decide,fun r hr=>?_⟩
  walk_at "go"
  obtain ⟨i,hi,ei⟩:∃ i:Nat,i < 4/\r % 4=i:=⟨(r % 4).toNat,by omega,by omega⟩
  rw [ei]
  refine aZd h26 ?_
  obtain ⟨lb,Lb⟩:=sl4 i hi
  generalize Txt.slice abc none (some (i:Int))=bef at lb Lb ⊢
  walk_at "go"
  obtain ⟨j,hj,ej⟩:∃ j:Nat,j < 26/\r.fdiv 4 % 26=(j:Int):=⟨(r.fdiv 4 % 26).toNat,by omega,by omega⟩
  rw [ej]
  refine aQk h26 (aOi j hj) ?_
  walk_at "go"
  have m0:0<=r.fdiv 104 % 5/\r.fdiv 104 % 5 < 5:=by omega
  generalize r.fdiv 104 % 5=mm at m0 ⊢
  have l1:∀ c:Nat,(⟨#[c]⟩:Str).length=1:=fun _=>rfl
  refine ⟨_,_,rfl,rfl,m0.1,by omega,by rw [l1]; decide,fun beh hb=>?_⟩
  obtain ⟨lh,Lh⟩:=aV4 hb (l1 _) (aOj.one (by omega) (by omega))
  clear hb
  walk_at "go"
  refine ⟨8,rfl,by decide,by decide,?_⟩
  refine aWi (n:=8) (by omega) (fun acc k ys G=>Kp acc H G/\ys=((List.range k).map (aT4 bef beh (r.fdiv 520))).map V.str) ?_ ?_ ?_
  ·intro acc h0
   exact ⟨Kp.new h0,rfl⟩
  ·rintro acc k ys G h0 hk hyl hG ⟨kp,rfl⟩
   walk_at "go"
   obtain ⟨o,ho,eo⟩:∃ j:Nat,j < 26/\(r.fdiv 520+3 * (0+(k:Int))) % 26=(j:Int):=⟨((r.fdiv 520+3 * (0+(k:Int))) % 26).toNat,by omega,by omega⟩
   have e1:aT4 bef beh (r.fdiv 520) k=bef++⟨#[97+o]⟩++beh:=by
    unfold aT4
    rw [show ((r.fdiv 520+3 * (k:Int)) % 26).toNat=o by rw [Int.zero_add] at eo; omega]
   rw [eo]
   refine aQk h26 (aOi o ho) ?_
   refine aEx (by rw [l1]; omega) ?_
   walk_at "go"
   refine aEx (by rw [aCy,l1]; omega) ?_
   refine aD9 hk hyl hG ⟨kp.trans Kp.upd,?_⟩
   rw [List.range_succ,List.map_append,List.map_append]
   show _=_++[V.str (aT4 bef beh (r.fdiv 520) k)]
   rw [e1]
  rintro acc ys G h0 hG hyl ⟨kp,rfl⟩
  walk_at "go"
  refine q acc G _ h0 (fun b o h=>kp _ _ (aAh h h0) h) hG (by simp) (fun s hs=>?_) (nm_nd _ _ _)
  obtain ⟨k,hk,rfl⟩:=List.mem_map.mp hs
  have ho:((r.fdiv 520+3 * (k:Int)) % 26).toNat < 26:=by omega
  unfold aT4
  exact aN3 (by rw [aCy,aCy,l1]; omega) (by rw [aCy,aCy,l1]; omega) ((Lb.app (aOj.one (by omega) (by omega))).app Lh)
set_option maxHeartbeats 0 in
theorem aWz (T:Bl mg) (d:Df K mg "_law_time" aIo ["_law_number_here"]  ) (W:XmS mg xt x1 x4 x5) (R_NoNet:XrS K xt x1 x4 x5 x1 1) (R_TooMany:XrS K xt x1 x4 x5 x4 4) (o_lowest:Okf P w K mg base k "_law_lowest" ["_law_top","_law_bottom"] aJb):Okf P w K mg base (k+1) "_law_time" ["_law_number_here"] aI7:=by
 refine Okf.of d aJe (fun vs H Q E h=>?_) (fun f cdv A outer s H vs Q E hr h=>?_)
 ·obtain ⟨c,rfl,_⟩:=h
  rfl
 ·obtain ⟨c,rfl,hc,q⟩:=h
  refine ⟨_,(@aAc _ _ _ _ _ (@aAs _ _ (i:=1) _ _ _ _ aJe.nd rfl (by first | exact Or.inl rfl | exact Or.inr rfl) (@aAj _ _ _ _ _ _ _ aAk (@aBw _ _ _ _ (@aAa _ _ _ _ _ (@aAb _ _ _ _) (@aAa _ _ _ _ _ (@aAb _ _ _ _) (@aAa _ _ _ _ _ (@aAb _ _ _ _) (@aAd _) (by rfl)) (by rfl)) (by rfl))) (@aAq _ _ _ _ _ _ _ _ aBl (pv 0) (@aAb _ _ _ _)) (fun _ _=>rfl)) (by rfl) (by first | exact .inl rfl | exact .inr rfl | assumption)) (@aAc _ _ _ _ _ (@aAs _ _ (i:=2) _ _ _ _ aJe.nd rfl (by first | exact Or.inl rfl | exact Or.inr rfl) (@aAb _ _ _ _) (by rfl) (by first | exact .inl rfl | exact .inr rfl | assumption)) (@aAc _ _ _ _ _ (@aBc _ _ _ _ _ _ _ _ (@aAr _ _ _ _ _ _ _ _ (aA9 hr.units) (@aAq _ _ _ _ _ _ _ _ aBl (@aAq _ _ _ _ _ _ _ _ aBg (pv 0) (@aAb _ _ _ _)) (@aAb _ _ _ _)) (@aAb _ _ _ _) (aAw _)) (@aAg _ _ _ (@aAs _ _ (i:=2) _ _ _ _ aJe.nd rfl (by first | exact Or.inl rfl | exact Or.inr rfl) (@aAq _ _ _ _ _ _ _ _ aA3 (@aAb _ _ _ _) (@aAq _ _ _ _ _ _ _ _ aBl (@aAq _ _ _ _ _ _ _ _ aBg (@aAq _ _ _ _ _ _ _ _ aBg (pv 0) (@aAb _ _ _ _)) (pv 1)) (pv 1))) (by rfl) (by first | exact .inl rfl | exact .inr rfl | assumption))) (@aA0 _)) (@aAg _ _ _ (@aAo _ _ _ _ (@aAi _ _ _ _ _ _ _ _ _ _ o_lowest hr rfl (@aAa _ _ _ _ _ (@aAq _ _ _ _ _ _ _ _ aA3 (@aAb _ _ _ _) (@aAq _ _ _ _ _ _ _ _ aBl (@aAq _ _ _ _ _ _ _ _ aBg (pv 0) (@aAb _ _ _ _)) (pv 1))) (@aAa _ _ _ _ _ (pv 2) (@aAd _) (by rfl)) (by rfl)) (by decide) (by rfl) (by rfl))))))),?_⟩
  try dsimp only [aAz,aA4]
  walk_at "go"
  refine aBo fun l4 hl4=>?_
  have s1:=aAn.new (o:=.lst [V.int 9,V.int 30,V.int 999999999999]) hl4
  have hl':=aAe (H:=H) (a:=l4) (o:=.lst [V.int 9,V.int 30,V.int 999999999999])
  generalize L2.upd H l4 (.lst [V.int 9,V.int 30,V.int 999999999999])=G2 at s1 hl' ⊢
  walk_at "go"
  obtain ⟨t,et,ht⟩:=at3 (x0:=9) (x1:=30) (x2:=999999999999) (fun z=>0 < z/\z<=999999999999) (by decide) (by decide) (by decide) (c % 3) (Int.emod_nonneg _ (by decide)) (Int.emod_lt_of_pos _ (by decide))
  refine aC3 hl' et ?_
  have fin:∀ b:Int,0 < b->b<=999999999999->∀ (p:Addr),G2 p=none->Q (.ref p) (L2.upd G2 p (.tup [.int (aJ2 (1+c.fdiv 6 % t) b),.int (aIx (1+c.fdiv 6 % t) b)])):=fun b h1 h2 p hp=>by
   have m0:=Int.emod_nonneg (c.fdiv 6) (show t≠0 by omega)
   have m1:=Int.emod_lt_of_pos (c.fdiv 6) ht.1
   exact q _ _ _ (s1.trans (aAn.new hp)) (FrQ.low (by omega) aAe) (aVv (by omega) (by omega) h1 h2)
  have sm:∀ {z:Int},0<=z->z<=10 ^ 12->Sm 8000 z:=fun {z} h0 h1=>Nat.lt_of_le_of_lt (show z.natAbs<=10 ^ 12 by omega) (by decide)
  have m0:=Int.emod_nonneg (c.fdiv 6) (show t≠0 by omega)
  have m1:=Int.emod_lt_of_pos (c.fdiv 6) ht.1
  walk_at "go"
  refine i_d (fun c1=>?_) (fun c1=>?_)
  ·walk_at "go"
   have n0:=Int.emod_nonneg ((c.fdiv 6).fdiv t) (show t≠0 by omega)
   have n1:=Int.emod_lt_of_pos ((c.fdiv 6).fdiv t) ht.1
   generalize (c.fdiv 6).fdiv t % t=bb at n0 n1 ⊢
   exact ⟨_,_,rfl,by omega,sm (by omega) (by omega),sm (by omega) (by omega),fin _ (by omega) (by omega)⟩
  ·walk_at "go"
   exact ⟨_,_,rfl,by omega,sm (by omega) (by omega),sm (by omega) (by omega),fin _ (by omega) (by omega)⟩
theorem aK7 (T:Bl mg) (d:Df K mg "_law_time_text" aCq ["_law_time_here"]  ) (W:XmS mg xt x1 x4 x5) (R_NoNet:XrS K xt x1 x4 x5 x1 1) (R_TooMany:XrS K xt x1 x4 x5 x4 4):Okf P w K mg base (k+1) "_law_time_text" ["_law_time_here"] aGx:=by
 refine Okf.of d aKz (fun vs H Q E h=>?_) (fun f cdv A outer s H vs Q E hr h=>?_)
 ·obtain ⟨v,t,rfl,_⟩:=h
  rfl
 ·obtain ⟨v,t,rfl,⟨p,rfl,hp⟩,ht,q⟩:=h
  refine ⟨_,(@aAc _ _ _ _ _ (@aBc _ _ _ _ _ _ _ _ (@aAr _ _ _ _ _ _ _ _ (aA9 hr.units) (@aAj _ _ _ _ _ _ _ aAk (pv 0) (@aAb _ _ _ _) (fun _ _=>rfl)) (@aAb _ _ _ _) (aAw _)) (@aAg _ _ _ (@aAo _ _ _ _ (@aBj _ _ _ _ _ _ _ _ _ aSt rfl T.z_str aLp (@aAa _ _ _ _ _ (@aAj _ _ _ _ _ _ _ aAk (pv 0) (@aAb _ _ _ _) (fun _ _=>rfl)) (@aAd _) (by rfl)) (by decide) (by decide) (by rfl) (by rfl)))) (@aA0 _)) (@aAg _ _ _ (@aAo _ _ _ _ (@aAq _ _ _ _ _ _ _ _ aA3 (@aAq _ _ _ _ _ _ _ _ aA3 (@aBj _ _ _ _ _ _ _ _ _ aSt rfl T.z_str aLp (@aAa _ _ _ _ _ (@aAj _ _ _ _ _ _ _ aAk (pv 0) (@aAb _ _ _ _) (fun _ _=>rfl)) (@aAd _) (by rfl)) (by decide) (by decide) (by rfl) (by rfl)) (@aAt _ _ _ _)) (@aBj _ _ _ _ _ _ _ _ _ aSt rfl T.z_str aLp (@aAa _ _ _ _ _ (@aAj _ _ _ _ _ _ _ aAk (pv 0) (@aAb _ _ _ _) (fun _ _=>rfl)) (@aAd _) (by rfl)) (by decide) (by decide) (by rfl) (by rfl)))))),?_⟩
  try dsimp only [aAz,aA4]
  have hn:=ht.num
  have hd:=ht.den
  have b1:(Str.ofString (toString t.num)).length<=12:=(aDq (by omega:0<=t.num) hn.2).2
  have b2:(Str.ofString (toString (t.den:Int))).length<=12:=(aDq (by omega:0<=(t.den:Int)) hd.2).2
  have b3:(Str.ofString "/").length=1:=by decide +kernel
  have es:Str.ofString "/"=⟨#[47]⟩:=by decide +kernel
  walk_at "go"
  refine i_d (fun c1=>?_) (fun c1=>?_)
  ·walk_at "go"
   refine ⟨t.num,rfl,by omega,?_⟩
   walk_at "go"
   rw [show tmS t=aEa t.num from if_pos (by omega)] at q
   exact q
  walk_at "go"
  refine ⟨t.num,rfl,by omega,?_⟩
  refine aEx (by omega) ?_
  walk_at "go"
  refine ⟨(t.den:Int),rfl,by omega,?_⟩
  refine aEx (by rw [aCy]; omega) ?_
  walk_at "go"
  rw [show tmS t=aEa t.num++⟨#[47]⟩++aEa (t.den:Int) from if_neg (by omega)] at q
  rw [es]
  exact q
set_option maxHeartbeats 0 in
theorem aHs (T:Bl mg) (d:Df K mg "_law_row_texts" aCc ["_law_row_here"]) (W:XmS mg xt x1 x4 x5) (R_NoNet:XrS K xt x1 x4 x5 x1 1) (R_TooMany:XrS K xt x1 x4 x5 x4 4) (o_time_text:Okf P w K mg base k "_law_time_text" ["_law_time_here"] aGx):Okf P w K mg base (k+1) "_law_row_texts" ["_law_row_here"] (aNj K):=by
 refine Okf.of d aC2 (fun vs H Q E h=>?_) (fun f cdv A outer s H vs Q E hr h=>?_)
 ·obtain ⟨v,r,E,rfl,_⟩:=h
  rfl
 ·obtain ⟨v,r,E,rfl,hro,hw,hE,q⟩:=h
  refine ⟨_,(@aAc _ _ _ _ _ (@aBc _ _ _ _ _ _ _ _ (@aAr _ _ _ _ _ _ _ _ (aA9 hr.units) (@aAj _ _ _ _ _ _ _ aAk (pv 0) (@aAb _ _ _ _) (fun _ _=>rfl)) (@aAt _ _ _ _) (aAw _)) (@aAg _ _ _ (@aAo _ _ _ _ (@aBw _ _ _ _ (@aAa _ _ _ _ _ (@aAq _ _ _ _ _ _ _ _ aA3 (@aAq _ _ _ _ _ _ _ _ aA3 (@aEf _ _ _ _ _ _ _ _ _ _ _ _ PySem.F.plainAttrs_str PySem.F.slot_str_join PySem.F.type_str_join aFp (@aAt _ _ _ _) (@aAa _ _ _ _ _ (@aBf _ _ _ _ _ _ _ _ _ _ aDd (pv 0) (@aCl _) (@aBt _ _ _ (@aAb _ _ _ _))) (@aAd _) (by rfl)) (by rfl) (by rfl) (by rfl) (by rfl) (by rfl)) (@aAt _ _ _ _)) (@aAi _ _ _ _ _ _ _ _ _ _ o_time_text hr rfl (@aAa _ _ _ _ _ (@aAj _ _ _ _ _ _ _ aAk (pv 0) (@aAb _ _ _ _) (fun _ _=>rfl)) (@aAd _) (by rfl)) (by decide) (by rfl) (by rfl))) (@aAd _) (by rfl))))) (@aA0 _)) (@aAc _ _ _ _ _ (@aBc _ _ _ _ _ _ _ _ (@aAr _ _ _ _ _ _ _ _ (aA9 hr.units) (@aAj _ _ _ _ _ _ _ aAk (pv 0) (@aAb _ _ _ _) (fun _ _=>rfl)) (@aAt _ _ _ _) (aAw _)) (@aAg _ _ _ (@aAo _ _ _ _ (@aBw _ _ _ _ (@aAa _ _ _ _ _ (@aEf _ _ _ _ _ _ _ _ _ _ _ _ PySem.F.plainAttrs_str PySem.F.slot_str_join PySem.F.type_str_join aFp (@aAt _ _ _ _) (@aAa _ _ _ _ _ (@aAq _ _ _ _ _ _ _ _ aA3 (@aBf _ _ _ _ _ _ _ _ _ _ aDd (pv 0) (@aCl _) (@aBt _ _ _ (@aAb _ _ _ _))) (@aAj _ _ _ _ _ _ _ aAk (pv 0) (@aAb _ _ _ _) (fun _ _=>rfl))) (@aAd _) (by rfl)) (by rfl) (by rfl) (by rfl) (by rfl) (by rfl)) (@aAd _) (by rfl))))) (@aA0 _)) (@aAc _ _ _ _ _ (@aBc _ _ _ _ _ _ _ _ (@aAr _ _ _ _ _ _ _ _ (aFo hr.units) (@aAj _ _ _ _ _ _ _ aAk (pv 0) (@aAb _ _ _ _) (fun _ _=>rfl)) (@aAt _ _ _ _) (aAw _)) (@aAg _ _ _ (@aA8 _ _)) (@aA0 _)) (@aAc _ _ _ _ _ (@aA8 _ _) (@aAc _ _ _ _ _ (@aA8 _ _) (@aAg _ _ _ (@aA8 _ _))))))),?_⟩
  try dsimp only [aAz,aA4]
  have es:(Str.ofString " ").length=1:=by decide +kernel
  have cap:∀ {ys:List Str},ys.length<=40->(∀ s∈ys,WdS s)->(ys.map (·.length)).sum+ys.length * (Str.ofString " ").length<=16777216:=fun {ys} hl hs=>by
   have h1:=aI3 fun s h=>(hs s h).2.2
   have h2:ys.length * 100<=40 * 100:=Nat.mul_le_mul_right _ hl
   rw [es]
   omega
  cases r with
  | plain r =>
   cases r with
   | run a b t =>
    obtain ⟨p,u,rfl,hp,hu⟩:=hro
    obtain ⟨h1,h2,h3⟩:=(show aB8 a/\aB8 b/\aLw t from hw)
    have lok:=aIq hE (r:=.plain (.run a b t)) hw
    have c1:=cap (ys:=["run",a,b]) (by show 3<=40; decide) (fun s hs=>lok.2.1 s (by
     show s∈[("run":Str),a,b]++[tmS t]
     exact List.mem_append_left _ hs))
    have jl:(Str.join (Str.ofString " ") ["run",a,b]).length<=10000:=aJ6 (ws:=["run",a,b]) (fun s hs=>(lok.2.1 s (by
     show s∈[("run":Str),a,b]++[tmS t]
     exact List.mem_append_left _ hs)).2.2) (by show 3<=50; decide)
    have tl:=(aS7 h3).2.2
    walk_at "go"
    refine aNt hp fun l1 hl1=>?_
    have t1:=aAn.new (o:=.tup [.str "run",.str a,.str b]) hl1
    have g1:=aAe (H:=H) (a:=l1) (o:=.tup [.str "run",.str a,.str b])
    generalize L2.upd H l1 (.tup [.str "run",.str a,.str b])=H1 at t1 g1 ⊢
    have hp1:=t1 _ _ hp
    walk_at "go"
    refine ⟨_,l1,["run",a,b],rfl,rfl,g1,c1,?_⟩
    refine aEx (by omega) ?_
    walk_at "go"
    refine ⟨u,t,rfl,hu.tk t1.tk,h3,?_⟩
    refine aEx (by rw [aCy]; omega) ?_
    walk_at "go"
    refine aBo fun l2 hl2=>?_
    rw [aNu a b (tmS t)]
    walk_at "go"
    exact q l2 _ (t1.free hl2) (t1.trans (aAn.new hl2)) aAe
  | put nm cl as =>
   have lok:=aIq hE (r:=.put nm cl as) hw
   obtain ⟨p,q',rfl,hp,hq⟩:=hro
   obtain ⟨w1,w2,w3,x,hx,rfl,wl⟩:=hw
   have c1:=cap (ys:="put"::x.1::cl::as) (by rw [List.length_cons,List.length_cons,List.length_cons]; omega) (fun s hs=>lok.2.1 s hs)
   walk_at "go"
   refine aNt hp fun l1 hl1=>?_
   have t1:=aAn.new (o:=.tup [.str "put",.str x.1,.str cl]) hl1
   have g1:=aAe (H:=H) (a:=l1) (o:=.tup [.str "put",.str x.1,.str cl])
   generalize L2.upd H l1 (.tup [.str "put",.str x.1,.str cl])=H1 at t1 g1 ⊢
   have hp1:=t1 _ _ hp
   walk_at "go"
   have has:as≠[]:=fun e=>by rw [e] at w3; exact absurd w3.1 (by decide)
   refine aX4 g1 (t1 _ _ hq) (by rw [List.length_map]; show 3+_<=_; omega) (List.cons_ne_nil _ _) (fun e=>has (List.map_eq_nil_iff.mp e)) fun l2 hl2=>?_
   have t2:=t1.trans (aAn.new (o:=.tup ([.str "put",.str x.1,.str cl]++as.map V.str)) hl2)
   walk_at "go"
   refine ⟨_,l2,"put"::x.1::cl::as,rfl,rfl,aAe,c1,?_⟩
   walk_at "go"
   refine aBo fun l3 hl3=>?_
   walk_at "go"
   exact q l3 _ (t2.free hl3) (t2.trans (aAn.new hl3)) aAe
set_option maxHeartbeats 0 in
theorem aK8 (T:Bl mg) (d:Df K mg "_law_row_texts" aCc ["_law_row_here"]  ) (W:XmS mg xt x1 x4 x5) (R_NoNet:XrS K xt x1 x4 x5 x1 1) (R_TooMany:XrS K xt x1 x4 x5 x4 4) (o_row_texts:Okf P w K mg base k "_law_row_texts" ["_law_row_here"] (aNj K)) (o_time_text:Okf P w K mg base k "_law_time_text" ["_law_time_here"] aGx):Okf P w K mg base (k+1) "_law_row_texts" ["_law_row_here"] (aJa K):=by
 refine Okf.of d aC2 (fun vs H Q E h=>?_) (fun f cdv A outer s H vs Q E hr h=>?_)
 ·obtain ⟨v,g,E,rfl,_⟩:=h
  rfl
 ·obtain ⟨v,g,E,rfl,hg,hw,hE,q⟩:=h
  refine ⟨_,(@aAc _ _ _ _ _ (@aBc _ _ _ _ _ _ _ _ (@aAr _ _ _ _ _ _ _ _ (aA9 hr.units) (@aAj _ _ _ _ _ _ _ aAk (pv 0) (@aAb _ _ _ _) (fun _ _=>rfl)) (@aAt _ _ _ _) (aAw _)) (@aAg _ _ _ (@aAo _ _ _ _ (@aBw _ _ _ _ (@aAa _ _ _ _ _ (@aAq _ _ _ _ _ _ _ _ aA3 (@aAq _ _ _ _ _ _ _ _ aA3 (@aEf _ _ _ _ _ _ _ _ _ _ _ _ PySem.F.plainAttrs_str PySem.F.slot_str_join PySem.F.type_str_join aFp (@aAt _ _ _ _) (@aAa _ _ _ _ _ (@aBf _ _ _ _ _ _ _ _ _ _ aDd (pv 0) (@aCl _) (@aBt _ _ _ (@aAb _ _ _ _))) (@aAd _) (by rfl)) (by rfl) (by rfl) (by rfl) (by rfl) (by rfl)) (@aAt _ _ _ _)) (@aAi _ _ _ _ _ _ _ _ _ _ o_time_text hr rfl (@aAa _ _ _ _ _ (@aAj _ _ _ _ _ _ _ aAk (pv 0) (@aAb _ _ _ _) (fun _ _=>rfl)) (@aAd _) (by rfl)) (by decide) (by rfl) (by rfl))) (@aAd _) (by rfl))))) (@aA0 _)) (@aAc _ _ _ _ _ (@aBc _ _ _ _ _ _ _ _ (@aAr _ _ _ _ _ _ _ _ (aA9 hr.units) (@aAj _ _ _ _ _ _ _ aAk (pv 0) (@aAb _ _ _ _) (fun _ _=>rfl)) (@aAt _ _ _ _) (aAw _)) (@aAg _ _ _ (@aAo _ _ _ _ (@aBw _ _ _ _ (@aAa _ _ _ _ _ (@aEf _ _ _ _ _ _ _ _ _ _ _ _ PySem.F.plainAttrs_str PySem.F.slot_str_join PySem.F.type_str_join aFp (@aAt _ _ _ _) (@aAa _ _ _ _ _ (@aAq _ _ _ _ _ _ _ _ aA3 (@aBf _ _ _ _ _ _ _ _ _ _ aDd (pv 0) (@aCl _) (@aBt _ _ _ (@aAb _ _ _ _))) (@aAj _ _ _ _ _ _ _ aAk (pv 0) (@aAb _ _ _ _) (fun _ _=>rfl))) (@aAd _) (by rfl)) (by rfl) (by rfl) (by rfl) (by rfl) (by rfl)) (@aAd _) (by rfl))))) (@aA0 _)) (@aAc _ _ _ _ _ (@aBc _ _ _ _ _ _ _ _ (@aAr _ _ _ _ _ _ _ _ (aFo hr.units) (@aAj _ _ _ _ _ _ _ aAk (pv 0) (@aAb _ _ _ _) (fun _ _=>rfl)) (@aAt _ _ _ _) (aAw _)) (@aAg _ _ _ (@aA8 _ _)) (@aA0 _)) (@aAc _ _ _ _ _ (@aAs _ _ (i:=1) _ _ _ _ aC2.nd rfl (by first | exact Or.inl rfl | exact Or.inr rfl) (@aBw _ _ _ _ (@aAa _ _ _ _ _ (@aEf _ _ _ _ _ _ _ _ _ _ _ _ PySem.F.plainAttrs_str PySem.F.slot_str_join PySem.F.type_str_join aFp (@aAt _ _ _ _) (@aAa _ _ _ _ _ (@aAq _ _ _ _ _ _ _ _ aA3 (@aBf _ _ _ _ _ _ _ _ _ _ aDd (pv 0) (@aCl _) (@aBt _ _ _ (@aAb _ _ _ _))) (@aAj _ _ _ _ _ _ _ aAk (pv 0) (@aAb _ _ _ _) (fun _ _=>rfl))) (@aAd _) (by rfl)) (by rfl) (by rfl) (by rfl) (by rfl) (by rfl)) (@aAd _) (by rfl))) (by rfl) (by first | exact .inl rfl | exact .inr rfl | assumption)) (@aAc _ _ _ _ _ (@aDz _ _ _ _ _ _ _ _ PassesOwn.never rfl (@aNz _ _ _ _ (@aAj _ _ _ _ _ _ _ aAk (pv 0) (@aAb _ _ _ _) (fun _ _=>rfl))) (@aA2 _ _ (i:=2) _ aC2.nd rfl (by first | exact Or.inl rfl | exact Or.inr rfl) (by first | exact .inl rfl | exact .inr rfl | assumption)) (@aAg _ _ _ (@aAs _ _ (i:=1) _ _ _ _ aC2.nd rfl (by first | exact Or.inl rfl | exact Or.inr rfl) (@aAq _ _ _ _ _ _ _ _ aA3 (pv 1) (@aAi _ _ _ _ _ _ _ _ _ _ o_row_texts hr rfl (@aAa _ _ _ _ _ (pv 2) (@aAd _) (by rfl)) (by decide) (by rfl) (by rfl))) (by rfl) (by first | exact .inl rfl | exact .inr rfl | assumption))) (by intro _; rfl)) (@aAg _ _ _ (@aAo _ _ _ _ (@aAq _ _ _ _ _ _ _ _ aA3 (pv 1) (@aBw _ _ _ _ (@aAa _ _ _ _ _ (@aAt _ _ _ _) (@aAd _) (by rfl))))))))))),?_⟩
  try dsimp only [aAz,aA4]
  have es:(Str.ofString " ").length=1:=by decide +kernel
  have cap:∀ {ys:List Str},ys.length<=40->(∀ s∈ys,WdS s)->(ys.map (·.length)).sum+ys.length * (Str.ofString " ").length<=16777216:=fun {ys} hl hs=>by
   have h1:=aI3 fun s h=>(hs s h).2.2
   have h2:ys.length * 100<=40 * 100:=Nat.mul_le_mul_right _ hl
   rw [es]
   omega
  cases g with
  | one r =>
   replace hw:=hw.1
   have hro:aBz H v r:=hg
   cases r with
   | plain r =>
    cases r with
    | run a b t =>
     obtain ⟨p,u,rfl,hp,hu⟩:=hro
     obtain ⟨h1,h2,h3⟩:=(show aB8 a/\aB8 b/\aLw t from hw)
     have lok:=aIq hE (r:=.plain (.run a b t)) hw
     have c1:=cap (ys:=["run",a,b]) (by show 3<=40; decide) (fun s hs=>lok.2.1 s (by
      show s∈[("run":Str),a,b]++[tmS t]
      exact List.mem_append_left _ hs))
     have jl:(Str.join (Str.ofString " ") ["run",a,b]).length<=10000:=aJ6 (ws:=["run",a,b]) (fun s hs=>(lok.2.1 s (by
      show s∈[("run":Str),a,b]++[tmS t]
      exact List.mem_append_left _ hs)).2.2) (by show 3<=50; decide)
     have tl:=(aS7 h3).2.2
     walk_at "go"
     refine aNt hp fun l1 hl1=>?_
     have t1:=aAn.new (o:=.tup [.str "run",.str a,.str b]) hl1
     have g1:=aAe (H:=H) (a:=l1) (o:=.tup [.str "run",.str a,.str b])
     generalize L2.upd H l1 (.tup [.str "run",.str a,.str b])=H1 at t1 g1 ⊢
     have hp1:=t1 _ _ hp
     walk_at "go"
     refine ⟨_,l1,["run",a,b],rfl,rfl,g1,c1,?_⟩
     refine aEx (by omega) ?_
     walk_at "go"
     refine ⟨u,t,rfl,hu.tk t1.tk,h3,?_⟩
     refine aEx (by rw [aCy]; omega) ?_
     walk_at "go"
     refine aBo fun l2 hl2=>?_
     rw [aNu a b (tmS t)]
     walk_at "go"
     exact q l2 _ (t1.free hl2) (t1.trans (aAn.new hl2)) aAe
   | put nm cl as =>
    have lok:=aIq hE (r:=.put nm cl as) hw
    obtain ⟨p,q',rfl,hp,hq⟩:=hro
    obtain ⟨w1,w2,w3,x,hx,rfl,wl⟩:=hw
    have c1:=cap (ys:="put"::x.1::cl::as) (by rw [List.length_cons,List.length_cons,List.length_cons]; omega) (fun s hs=>lok.2.1 s hs)
    walk_at "go"
    refine aNt hp fun l1 hl1=>?_
    have t1:=aAn.new (o:=.tup [.str "put",.str x.1,.str cl]) hl1
    have g1:=aAe (H:=H) (a:=l1) (o:=.tup [.str "put",.str x.1,.str cl])
    generalize L2.upd H l1 (.tup [.str "put",.str x.1,.str cl])=H1 at t1 g1 ⊢
    have hp1:=t1 _ _ hp
    walk_at "go"
    have has:as≠[]:=fun e=>by rw [e] at w3; exact absurd w3.1 (by decide)
    refine aX4 g1 (t1 _ _ hq) (by rw [List.length_map]; show 3+_<=_; omega) (List.cons_ne_nil _ _) (fun e=>has (List.map_eq_nil_iff.mp e)) fun l2 hl2=>?_
    have t2:=t1.trans (aAn.new (o:=.tup ([.str "put",.str x.1,.str cl]++as.map V.str)) hl2)
    walk_at "go"
    refine ⟨_,l2,"put"::x.1::cl::as,rfl,rfl,aAe,c1,?_⟩
    walk_at "go"
    refine aBo fun l3 hl3=>?_
    walk_at "go"
    exact q l3 _ (t2.free hl3) (t2.trans (aAn.new hl3)) aAe
  | piece x =>
   have lok:=aFq (E:=E) hE hw
   obtain ⟨p,q',z,xs,rfl,hp,hq,hz,px⟩:=hg
   obtain ⟨w1,w2,w3,w4,⟨w5,w6,w7⟩,w8⟩:=hw.1
   have hxl:=Paired.length px
   have c1:=cap (ys:="piece"::x.1::x.2.1) (by rw [List.length_cons,List.length_cons]; omega) (fun s hs=>(lok ("piece"::x.1::x.2.1) (List.mem_append_left _ (List.mem_cons_self ..))).2.1 s hs)
   walk_at "go"
   refine aY1 hp fun l1 hl1=>?_
   have t1:=aAn.new (o:=.tup [.str "piece",.str x.1]) hl1
   have g1:=aAe (H:=H) (a:=l1) (o:=.tup [.str "piece",.str x.1])
   generalize L2.upd H l1 (.tup [.str "piece",.str x.1])=H1 at t1 g1 ⊢
   have hp1:=t1 _ _ hp
   walk_at "go"
   have has:x.2.1≠[]:=fun e=>by rw [e] at w5; exact absurd w5 (by decide)
   refine aX4 g1 (t1 _ _ hq) (by rw [List.length_map]; show 2+_<=_; omega) (List.cons_ne_nil _ _) (fun e=>has (List.map_eq_nil_iff.mp e)) fun l2 hl2=>?_
   have t2:=t1.trans (aAn.new (o:=.tup ([.str "piece",.str x.1]++x.2.1.map V.str)) hl2)
   have g2:=aAe (H:=H1) (a:=l2) (o:=.tup ([.str "piece",.str x.1]++x.2.1.map V.str))
   generalize L2.upd H1 l2 (.tup ([.str "piece",.str x.1]++x.2.1.map V.str))=H2 at t2 g2 ⊢
   have hp2:=t2 _ _ hp
   walk_at "go"
   refine ⟨_,l2,"piece"::x.1::x.2.1,rfl,rfl,g2,c1,?_⟩
   walk_at "go"
   refine aBo fun l3 hl3=>?_
   have t3:=t2.trans (aAn.new (o:=.lst [lnV ("piece"::x.1::x.2.1)]) hl3)
   have g3:=aAe (H:=H2) (a:=l3) (o:=.lst [lnV ("piece"::x.1::x.2.1)])
   change (fun H3=>_) (L2.upd H2 l3 (.lst [lnV ("piece"::x.1::x.2.1)]))
   generalize L2.upd H2 l3 (.lst [lnV ("piece"::x.1::x.2.1)])=H3 at t3 g3 ⊢
   have hp3:=t3 _ _ hp
   walk_at "go"
   refine aJj (SqT.of (t3 _ _ hz)) ?_
   refine aMi (xs:=xs) (fun i σ G=>∃ o2 lf,σ=[some (.ref p),some (.ref lf),o2]/\aAn H G/\H lf=none/\G lf=some (.lst (((("piece":Str)::x.1::x.2.1)::(x.2.2.take i).map aE9).map lnV))) ⟨_,_,rfl,t3,t2.free hl3,g3⟩ ?_ ?_ ?_
   ·rintro i σ G _ ⟨o2,lf,rfl,sG,_⟩
    exact SqT.of (sG _ _ hz)
   ·rintro i y σ G hy ⟨o2,lf,rfl,sG,hlf,glf⟩
    obtain ⟨r,hr0,rq⟩:=Paired.at px hy
    have hil:i < x.2.2.length:=(List.getElem?_eq_some_iff.mp hr0).1
    walk_at "go"
    refine ⟨y,r,E,rfl,aBz.tk rq sG.tk,w1 r (List.mem_of_getElem? hr0),hE,fun l4 G4 hl4 t4 g4=>?_⟩
    refine aSy (t4 _ _ glf) g4 (by simp; omega) fun l5 hl5=>?_
    have t5:=sG.trans t4
    walk_at "go"
    refine ⟨_,l5,rfl,t5.trans (aAn.new hl5),t5.free hl5,?_⟩
    rw [aAe,List.take_add_one,hr0]
    simp
   rintro σ G ⟨o2,lf,rfl,sG,hlf,glf⟩
   rw [hxl,List.take_length] at glf
   walk_at "go"
   refine aBo fun l4 hl4=>?_
   have t4:=aAn.new (o:=.lst [V.str "end"]) hl4
   have g4:=aAe (H:=G) (a:=l4) (o:=.lst [V.str "end"])
   generalize L2.upd G l4 (.lst [V.str "end"])=G4 at t4 g4 ⊢
   refine aSy (t4 _ _ glf) g4 (by simp; omega) fun l5 hl5=>?_
   have t5:=sG.trans t4
   walk_at "go"
   refine q l5 _ (t5.free hl5) (t5.trans (aAn.new hl5)) ?_
   rw [aAe]
   show some (HO.lst ((((("piece":Str)::x.1::x.2.1)::x.2.2.map aE9).map lnV)++[V.str "end"]))=some (HO.lst ((((("piece":Str)::x.1::x.2.1)::(x.2.2.map aE9++[[("end":Str)]])).map lnV)))
   rw [List.map_cons,List.map_cons,List.map_append]
   rfl
set_option maxHeartbeats 0 in
theorem aW0 (T:Bl mg) (d:Df K mg "_law_text" aIp ["_law_rows"]  ) (W:XmS mg xt x1 x4 x5) (R_NoNet:XrS K xt x1 x4 x5 x1 1) (R_TooMany:XrS K xt x1 x4 x5 x4 4) (o_row_texts:Okf P w K mg base k "_law_row_texts" ["_law_row_here"] (aJa K)):Okf P w K mg base (k+1) "_law_text" ["_law_rows"] (aI8 K):=by
 refine Okf.of d aJf (fun vs H Q E h=>?_) (fun f cdv A outer s H vs Q E hr h=>?_)
 ·obtain ⟨l,gs,rfl,_⟩:=h
  rfl
 ·obtain ⟨l,gs,rfl,hl,hb,hn,q⟩:=h
  refine ⟨_,(@aAc _ _ _ _ _ (@aAs _ _ (i:=1) _ _ _ _ aJf.nd rfl (by first | exact Or.inl rfl | exact Or.inr rfl) (@aBw _ _ _ _ (@aAd _)) (by rfl) (by first | exact .inl rfl | exact .inr rfl | assumption)) (@aAc _ _ _ _ _ (@aDz _ _ _ _ _ _ _ _ PassesOwn.never rfl (@aCm _ _ _ _ (pv 0)) (@aA2 _ _ (i:=2) _ aJf.nd rfl (by first | exact Or.inl rfl | exact Or.inr rfl) (by first | exact .inl rfl | exact .inr rfl | assumption)) (@aAg _ _ _ (@aAs _ _ (i:=1) _ _ _ _ aJf.nd rfl (by first | exact Or.inl rfl | exact Or.inr rfl) (@aAq _ _ _ _ _ _ _ _ aA3 (pv 1) (@aAi _ _ _ _ _ _ _ _ _ _ o_row_texts hr rfl (@aAa _ _ _ _ _ (pv 2) (@aAd _) (by rfl)) (by decide) (by rfl) (by rfl))) (by rfl) (by first | exact .inl rfl | exact .inr rfl | assumption))) (by intro _; rfl)) (@aAg _ _ _ (@aAo _ _ _ _ (@aEf _ _ _ _ _ _ _ _ _ _ _ _ PySem.F.plainAttrs_str PySem.F.slot_str_join PySem.F.type_str_join aW8 (@aAt _ _ _ _) (@aAa _ _ _ _ _ (pv 1) (@aAd _) (by rfl)) (by rfl) (by rfl) (by rfl) (by rfl) (by rfl)))))),?_⟩
  try dsimp only [aAz,aA4]
  obtain ⟨xs,hxs,px⟩:=hl
  have hxl:=Paired.length px
  have hll:=aDj gs
  walk_at "go"
  refine aBo fun l0 hl0=>?_
  have s0:=aAn.new (o:=.lst []) hl0
  have g0:=aAe (H:=H) (a:=l0) (o:=.lst [])
  generalize L2.upd H l0 (.lst [])=H0 at s0 g0 ⊢
  walk_at "go"
  refine aCk (SqL.of (s0 _ _ hxs)) ?_
  refine aK2 (xs:=xs) (fun i σ G=>∃ (E:List aAu) (o2:Option V) (lf:Addr),σ=[some (.ref l),some (.ref lf),o2]/\aAn H G/\H lf=none/\G lf=some (.lst (((gs.take i).flatMap aAx).map lnV))/\WfE E/\WfG E (gs.drop i)) ⟨[],_,_,rfl,s0,hl0,g0,trivial,hb.wf⟩ ?_ ?_ ?_
  ·rintro i σ G _ ⟨E,o2,lf,rfl,sG,_⟩
   exact SqL.of (sG _ _ hxs)
  ·rintro i y σ G hy ⟨E,o2,lf,rfl,sG,hlf,glf,hE,hW⟩
   obtain ⟨g,hg,gq⟩:=Paired.at px hy
   rw [aE6 hg] at hW
   have tk1:gs.take (i+1)=gs.take i++[g]:=by rw [List.take_add_one,hg]; rfl
   have hd:WfG E [g]/\∃ E',WfE E'/\WfG E' (gs.drop (i+1)):=by
    cases g with
    | one r=>exact ⟨⟨hW.1,trivial⟩,E,hE,hW.2⟩
    | piece p=>exact ⟨⟨hW.1,trivial⟩,p::E,⟨hW.1,hE⟩,hW.2⟩
   obtain ⟨hd,E',hE',hW'⟩:=hd
   have cnt:((gs.take i).flatMap aAx).length+(aAx g).length<=(gs.flatMap aAx).length:=by
    have e:=congrArg List.length (aXj hg)
    rw [List.length_drop,List.length_append] at e
    have e2:=congrArg (fun l=>(List.flatMap aAx l).length) (List.take_append_drop i gs)
    simp only [List.flatMap_append,List.length_append] at e2
    omega
   walk_at "go"
   refine ⟨y,g,E,rfl,aGt.tk gq sG.tk,hd,hE,fun l4 G4 hl4 t4 g4=>?_⟩
   refine aSy (t4 _ _ glf) g4 (by rw [List.length_map,List.length_map]; omega) fun l5 hl5=>?_
   have t5:=sG.trans t4
   walk_at "go"
   refine ⟨E',_,l5,rfl,t5.trans (aAn.new hl5),t5.free hl5,?_,hE',hW'⟩
   rw [aAe,tk1,List.flatMap_append,List.map_append]
   simp
  rintro σ G ⟨E,o2,lf,rfl,sG,hlf,glf,_⟩
  rw [hxl,List.take_length] at glf
  have glf2:G lf=some (.lst (((gs.flatMap aAx).map (Str.join sp1)).map V.str)):=by rw [glf,List.map_map]; rfl
  walk_at "go"
  refine ⟨_,lf,_,rfl,rfl,glf2,(aLd hb hn).1,?_⟩
  walk_at "go"
  exact q G sG
theorem aRe (T:Bl mg) (d:Df K mg "_law_called" aEs ["_law_name","_law_row_here","_law_params"]  ) (W:XmS mg xt x1 x4 x5) (R_NoNet:XrS K xt x1 x4 x5 x1 1) (R_TooMany:XrS K xt x1 x4 x5 x4 4):Okf P w K mg base (k+1) "_law_called" ["_law_name","_law_row_here","_law_params"] (aJc K):=by
 refine Okf.of d aQh (fun vs H Q E h=>?_) (fun f cdv A outer s H vs Q E hr h=>?_)
 ·obtain ⟨x,v,q',nm,cl,as,ps,rfl,_⟩:=h
  rfl
 ·obtain ⟨x,v,q',nm,cl,as,ps,rfl,hro,hq,hl,hx,hc,q⟩:=h
  refine ⟨_,(@aAc _ _ _ _ _ (@aBc _ _ _ _ _ _ _ _ (@aAr _ _ _ _ _ _ _ _ aQ5 (pv 0) (pv 2) (by with_unfolding_all rfl)) (@aAg _ _ _ (@aAo _ _ _ _ (@aAj _ _ _ _ _ _ _ aAk (@aAj _ _ _ _ _ _ _ aAk (pv 1) (@aAb _ _ _ _) (fun _ _=>rfl)) (@bAx _ _ _ _ _ _ _ _ _ _ _ PySem.F.plainAttrs_tuple PySem.F.slot_tuple_index PySem.F.type_tuple_index bBd (pv 2) (@aAa _ _ _ _ _ (pv 0) (@aAd _) (by rfl)) (by rfl) (by rfl) (by rfl) (by rfl) (by rfl)) (fun _ _=>rfl)))) (@aA0 _)) (@aAg _ _ _ (@aAo _ _ _ _ (@aAq _ _ _ _ _ _ _ _ aA3 (@aAq _ _ _ _ _ _ _ _ aA3 (@aAj _ _ _ _ _ _ _ aAk (pv 1) (@aAb _ _ _ _) (fun _ _=>rfl)) (@aAt _ _ _ _)) (pv 0))))),?_⟩
  try dsimp only [aAz,aA4]
  have ep:(".":Str)=⟨#[46]⟩:=by decide +kernel
  have l1:(⟨#[46]⟩:Str).length=1:=rfl
  obtain ⟨p,a,rfl,hp,ha⟩:=hro
  walk_at "go"
  refine aZv hq ?_
  by_cases hm:x∈ps
  ·obtain ⟨j,hj,hno⟩:=aUg hm
   obtain ⟨y,hy⟩:∃ y,as[j]?=some y:=⟨_,List.getElem?_eq_getElem (by have:=(List.getElem?_eq_some_iff.mp hj).1; omega)⟩
   rw [aRk hj hno hy] at q
   rw [decide_eq_true hm]
   walk_at "go"
   refine ⟨q',ps,x,j,rfl,rfl,hq,hj,hno,?_⟩
   walk_at "go"
   refine aOu ha (aBv (show (as.map V.str)[j]?=some (.str y) by rw [List.getElem?_map,hy]; rfl)) ?_
   walk_at "go"
   exact q
  ·rw [aRj hm] at q
   rw [decide_eq_false hm]
   walk_at "go"
   rw [ep]
   refine aEx (by rw [l1]; omega) ?_
   walk_at "go"
   refine aEx (by rw [aCy,l1]; omega) ?_
   walk_at "go"
   exact q
set_option maxHeartbeats 0 in
theorem aMn (T:Bl mg) (d:Df K mg "_law_row_runs" aCs ["_law_row_here","_law_pieces"]  ) (W:XmS mg xt x1 x4 x5) (R_NoNet:XrS K xt x1 x4 x5 x1 1) (R_TooMany:XrS K xt x1 x4 x5 x4 4) (o_called:Okf P w K mg base k "_law_called" ["_law_name","_law_row_here","_law_params"] (aJc K)):Okf P w K mg base (k+1) "_law_row_runs" ["_law_row_here","_law_pieces"] (aD5 K):=by
 refine Okf.of d aE0 (fun vs H Q E h=>?_) (fun f cdv A outer s H vs Q E hr h=>?_)
 ·obtain ⟨v,d,E,r,rfl,_⟩:=h
  rfl
 ·obtain ⟨v,d,E,r,rfl,hro,hpc,hE,h60,hw,q⟩:=h
  refine ⟨_,(@aAc _ _ _ _ _ (@aBc _ _ _ _ _ _ _ _ (@aAr _ _ _ _ _ _ _ _ (aA9 hr.units) (@aAj _ _ _ _ _ _ _ aAk (pv 0) (@aAb _ _ _ _) (fun _ _=>rfl)) (@aAt _ _ _ _) (aAw _)) (@aAg _ _ _ (@aAo _ _ _ _ (@aBw _ _ _ _ (@aAa _ _ _ _ _ (@aBf _ _ _ _ _ _ _ _ _ _ aDd (pv 0) (@aBt _ _ _ (@aAb _ _ _ _)) (@aCl _)) (@aAd _) (by rfl))))) (@aA0 _)) (@aAc _ _ _ _ _ (@aBc _ _ _ _ _ _ _ _ (@aAr _ _ _ _ _ _ _ _ (aA9 hr.units) (@aAj _ _ _ _ _ _ _ aAk (pv 0) (@aAb _ _ _ _) (fun _ _=>rfl)) (@aAt _ _ _ _) (aAw _)) (@aAc _ _ _ _ _ (@bAs _ _ _ _ _ _ (@aJr _ _ _ _ _ _ hr.u1 (pv 1) (@aAj _ _ _ _ _ _ _ aAk (pv 0) (@aAb _ _ _ _) (fun _ _=>rfl)) (fun _ _=>rfl)) (@aN1 _ _ _ _ _ (n:=2) rfl (@aC0 _ _ _ _ _ (@aA2 _ _ (i:=2) _ aE0.nd rfl (by first | exact Or.inl rfl | exact Or.inr rfl) (by first | exact .inl rfl | exact .inr rfl | assumption)) (@aC0 _ _ _ _ _ (@aA2 _ _ (i:=3) _ aE0.nd rfl (by first | exact Or.inl rfl | exact Or.inr rfl) (by first | exact .inl rfl | exact .inr rfl | assumption)) (@aJq _) (by rfl)) (by rfl)) (by rfl) (by rfl)) (by rfl) (by rfl) (by rfl)) (@aAg _ _ _ (@aAo _ _ _ _ (@aDh _ _ _ _ _ _ _ _ _ _ _ _ _ _ (@aCz _ _ (sc:=aAf aCs) (N:=["_law_row_here","_law_pieces","_law_params","_law_inner","_law_posts_here","_law_found","_law_k"]) (tn:=["_law_one","_law_other","_law_time_here"]) (names:=["_law_row_here","_law_params"]) (is:=[0,2]) rfl rfl (by decide +kernel) (by decide +kernel) rfl (by decide +kernel) rfl (by decide +kernel) (by decide +kernel) (by decide +kernel)) rfl (@aCm _ _ _ _ (pv 3)) (fun _ _ _ _=>(@aWo _ _ _ _ _ _ _ _ _ _ _ (n:=3) _ rfl (@aC0 _ _ _ _ _ (@aA2 _ _ (i:=0) _ (show (["_law_one","_law_other","_law_time_here","_law_row_here","_law_params"]:List Str).Nodup by decide +kernel) rfl (Or.inl rfl) (Or.inr rfl)) (@aC0 _ _ _ _ _ (@aA2 _ _ (i:=1) _ (show (["_law_one","_law_other","_law_time_here","_law_row_here","_law_params"]:List Str).Nodup by decide +kernel) rfl (Or.inl rfl) (Or.inr rfl)) (@aC0 _ _ _ _ _ (@aA2 _ _ (i:=2) _ (show (["_law_one","_law_other","_law_time_here","_law_row_here","_law_params"]:List Str).Nodup by decide +kernel) rfl (Or.inl rfl) (Or.inr rfl)) (@aJq _) (by rfl)) (by rfl)) (by rfl)) (by rfl) (by rfl))) (fun _ _ _ _=>(@aBp _ _ _ _ _ (@aAa _ _ _ _ _ (@aAi _ _ _ _ _ _ _ _ _ _ o_called hr rfl (@aAa _ _ _ _ _ (pv 0) (@aAa _ _ _ _ _ (pv 3) (@aAa _ _ _ _ _ (pv 4) (@aAd _) (by rfl)) (by rfl)) (by rfl)) (by decide) (by rfl) (by rfl)) (@aAa _ _ _ _ _ (@aAi _ _ _ _ _ _ _ _ _ _ o_called hr rfl (@aAa _ _ _ _ _ (pv 1) (@aAa _ _ _ _ _ (pv 3) (@aAa _ _ _ _ _ (pv 4) (@aAd _) (by rfl)) (by rfl)) (by rfl)) (by decide) (by rfl) (by rfl)) (@aAa _ _ _ _ _ (pv 2) (@aAd _) (by rfl)) (by rfl)) (by rfl)))) (fun _ _ _ _=>(@aCb _)) (by intro _; rfl))))) (@aA0 _)) (@aAc _ _ _ _ _ (@aA8 _ _) (@aAc _ _ _ _ _ (@aA8 _ _) (@aAc _ _ _ _ _ (@aA8 _ _) (@aAc _ _ _ _ _ (@aA8 _ _) (@aAg _ _ _ (@aA8 _ _)))))))),?_⟩
  try dsimp only [aAz,aA4]
  cases r with
  | put nm cl as =>
   obtain ⟨p,q',rfl,hp,hq⟩:=id hro
   obtain ⟨w1,w2,w3,x,hx,rfl,wl⟩:=id hw
   obtain ⟨kvs,hk,_,hv⟩:=hpc
   obtain ⟨t,a,li,et,ht,ha,vs,hvs,pv⟩:=hv x hx
   have hrun:=(hE.put hx cl as).1
   have okx:∀ y∈(x.2.2.flatMap (aAy E)).take 121,okN (3+E.length) y:=fun y hy=>by
    obtain ⟨r,hr,hy⟩:=List.mem_flatMap.mp (List.mem_of_mem_take hy)
    exact aHo hE (hE.row hx r hr) y hy
   have cl8:=(aDb w1).2.1
   have evs:vs.length=((x.2.2.flatMap (aAy E)).take 121).length:=(Paired.length pv).trans (by simp [kn])
   have tl:=List.length_take_le 121 (x.2.2.flatMap (aAy E))
   walk_at "go"
   refine aTn (.inl hk) et ?_
   walk_at "go"
   refine aCk (SqL.of hvs) ?_
   refine aTo (xs:=vs) (by omega) (fun acc i ys G=>Kp acc H G/\Paired (aCg G) ys (kn ((((x.2.2.flatMap (aAy E)).take 121).take i).map (aL1 x.2.1 as cl)))) ?_ ?_ ?_ ?_
   ·intro acc h0
    exact ⟨Kp.new h0,.nil⟩
   ·rintro acc i ys G h0 hi ⟨kp,_⟩
    exact SqL.of (kp _ _ (aAh hvs h0) hvs)
   ·rintro acc i ys G y h0 hy hyl hG ⟨kp,pr⟩
    obtain ⟨rr,hrr,p3,ut,rfl,hp3,ft⟩:=Paired.at pv hy
    obtain ⟨r3,hr3,rfl⟩:=aXf hrr
    replace hp3:H p3=some (.tup [.str r3.1,.str r3.2.1,ut]):=hp3
    have sG:aAn H G:=fun b o h=>kp _ _ (aAh h h0) h
    obtain ⟨n1,n2,_⟩:=okx r3 (List.mem_of_getElem? hr3)
    have l1:=n1.2.2
    have l2':=n2.2.2
    refine ⟨p3,_,_,_,rfl,sG _ _ hp3,?_⟩
    walk_at "go"
    refine ⟨r3.1,_,a,x.1,cl,as,x.2.1,rfl,aBz.tk (r:=.put x.1 cl as) hro sG.tk,sG _ _ ha,wl,by omega,by omega,?_⟩
    walk_at "go"
    refine ⟨r3.2.1,_,a,x.1,cl,as,x.2.1,rfl,aBz.tk (r:=.put x.1 cl as) hro sG.tk,sG _ _ ha,wl,by omega,by omega,?_⟩
    walk_at "go"
    refine aBi fun p9 hp9=>?_
    have t9:=aAn.new (o:=.tup [.str (aCn x.2.1 as cl r3.1),.str (aCn x.2.1 as cl r3.2.1),ut]) hp9
    have g9:=aAe (H:=G) (a:=p9) (o:=.tup [.str (aCn x.2.1 as cl r3.1),.str (aCn x.2.1 as cl r3.2.1),ut])
    generalize L2.upd G p9 (.tup [.str (aCn x.2.1 as cl r3.1),.str (aCn x.2.1 as cl r3.2.1),ut])=G2 at t9 g9 ⊢
    have hG2:=t9 _ _ hG
    have tk:=TK.lst (o:=.lst (ys++[.ref p9])) hG2
    refine aD9 (by have:=(List.getElem?_eq_some_iff.mp hy).1; exact this) hyl hG2 ⟨(kp.trans t9.kp).trans Kp.upd,?_⟩
    rw [List.take_add_one,hr3,List.map_append]
    generalize ((x.2.2.flatMap (aAy E)).take 121).take i=m at pr
    rw [show kn (List.map (aL1 x.2.1 as cl) m++List.map (aL1 x.2.1 as cl) (some r3).toList)=kn (List.map (aL1 x.2.1 as cl) m)++[(Sum.inr (aCn x.2.1 as cl r3.1),Sum.inr (aCn x.2.1 as cl r3.2.1),r3.2.2)] by simp [kn,aL1]]
    exact Pd.snoc (Pd.imp pr fun v b f=>(aCg.tk f t9.tk).tk tk) (aCg.mk3 (tk _ _ g9) (((ft.tk sG.tk).tk t9.tk).tk tk))
   ·rintro acc ys G h0 hG hyl ⟨kp,pr⟩
    rw [evs,List.take_length] at pr
    walk_at "go"
    exact q acc G _ h0 (fun b o h=>kp _ _ (aAh h h0) h) ⟨ys,hG,pr⟩ (by rw [hrun,← List.map_take,List.take_take,Nat.min_self,List.map_take]) (by rw [List.length_map]; omega)
  | plain r =>
   replace hro:aGs H v r:=hro
   replace hw:okP r:=hw
   rw [aCw] at q
   have hl31:=aK3 hw
   replace q:∀ l H',H l=none->aAn H H'->LQ aCg H' l (kn r.runs)->Q (.ref l) H':=fun l H' h0 s lq=>q l H' r.runs h0 s lq rfl (by omega)
   cases r with
   | run a b t =>
    obtain ⟨p,u,rfl,hp,hu⟩:=hro
    walk_at "go"
    refine aY0 hp (show 1<=4 by decide) fun p1 hp1=>?_
    have t1:=aAn.new (o:=.tup [.str a,.str b,u]) hp1
    walk_at "go"
    refine aBo fun l1 hl1=>?_
    have t2:=t1.trans (aAn.new (o:=.lst [.ref p1]) hl1)
    walk_at "go"
    exact q l1 _ (t1.free hl1) t2 ⟨_,aAe,.cons (aCg.mk3 (aFz hl1 aAe) (hu.tk t2.tk)) .nil⟩
set_option maxHeartbeats 0 in
theorem aO2 (T:Bl mg) (d:Df K mg "_law_runs" aHn ["_law_rows","_law_pieces"]) (W:XmS mg xt x1 x4 x5) (R_NoNet:XrS K xt x1 x4 x5 x1 1) (R_TooMany:XrS K xt x1 x4 x5 x4 4) (o_row_runs:Okf P w K mg base k "_law_row_runs" ["_law_row_here","_law_pieces"] (aD5 K)):Okf P w K mg base (k+1) "_law_runs" ["_law_rows","_law_pieces"] (aNi K):=by
 refine Okf.of d aEd (fun vs H Q E h=>?_) (fun f cdv A outer s H vs Q E hr h=>?_)
 ·obtain ⟨z,rs,ys,dc,E,rfl,_⟩:=h
  rfl
 ·obtain ⟨z,rs,ys,dc,E,rfl,hz,prs,lpc,hE,h60,hws,q⟩:=h
  refine ⟨_,(@aAc _ _ _ _ _ (@aAs _ _ (i:=2) _ _ _ _ aEd.nd rfl (by first | exact Or.inl rfl | exact Or.inr rfl) (@aBw _ _ _ _ (@aAd _)) (by rfl) (by first | exact .inl rfl | exact .inr rfl | assumption)) (@aAc _ _ _ _ _ (@aDz _ _ _ _ _ _ _ _ PassesOwn.never rfl (@aNz _ _ _ _ (pv 0)) (@aA2 _ _ (i:=3) _ aEd.nd rfl (by first | exact Or.inl rfl | exact Or.inr rfl) (by first | exact .inl rfl | exact .inr rfl | assumption)) (@aAg _ _ _ (@aBc _ _ _ _ _ _ _ _ (@aAr _ _ _ _ _ _ _ _ (aA9 hr.units) (@aAj _ _ _ _ _ _ _ aAk (pv 3) (@aAb _ _ _ _) (fun _ _=>rfl)) (@aAt _ _ _ _) (aAw _)) (@aAg _ _ _ (@aA8 _ _)) (@aAg _ _ _ (@aAs _ _ (i:=2) _ _ _ _ aEd.nd rfl (by first | exact Or.inl rfl | exact Or.inr rfl) (@aBf _ _ _ _ _ _ _ _ _ _ aDd (@aAq _ _ _ _ _ _ _ _ aA3 (pv 2) (@aAi _ _ _ _ _ _ _ _ _ _ o_row_runs hr rfl (@aAa _ _ _ _ _ (pv 3) (@aAa _ _ _ _ _ (pv 1) (@aAd _) (by rfl)) (by rfl)) (by decide) (by rfl) (by rfl))) (@aCl _) (@aBt _ _ _ (@aAb _ _ _ _))) (by rfl) (by first | exact .inl rfl | exact .inr rfl | assumption))))) (by intro _; rfl)) (@aAg _ _ _ (@aAo _ _ _ _ (pv 2))))),?_⟩
  try dsimp only [aAz,aA4]
  have hyl:=Paired.length prs
  walk_at "go"
  refine aBo fun l0 hl0=>?_
  walk_at "go"
  have s0:=aAn.new (o:=.lst []) hl0
  refine aJj (SqT.of (s0 _ _ hz)) ?_
  refine aMi (xs:=ys) (fun i σ G=>∃ o3 lf,σ=[some (.ref z),some (.ref dc),some (.ref lf),o3]/\aAn H G/\H lf=none/\LQ aCg G lf (kn (((rs.take i).flatMap (aAy E)).take 121))) ⟨_,_,rfl,s0,hl0,[],aAe,.nil⟩ ?_ ?_ ?_
  ·rintro i σ G _ ⟨o3,lf,rfl,sG,_⟩
   exact SqT.of (sG _ _ hz)
  ·rintro i x σ G hx ⟨o3,lf,rfl,sG,hlf,vs,hvs,pv⟩
   obtain ⟨r,hr0,rq⟩:=Paired.at prs hx
   replace rq:=rq.tk sG.tk
   have hwr:=hws r (List.mem_of_getElem? hr0)
   replace lpc:=lpc.sm sG
   have eA:(rs.take (i+1)).flatMap (aAy E)=(rs.take i).flatMap (aAy E)++aAy E r:=by
    rw [List.take_add_one,hr0,List.flatMap_append,show List.flatMap (aAy E) (some r).toList=aAy E r by simp]
   generalize (rs.take i).flatMap (aAy E)=A at pv eA
   obtain ⟨p,k,zs,rfl,hp,npc⟩:=rq.head
   walk_at "go"
   refine aOu hp (aBv (show (V.str k::zs)[0]?=some (V.str k) from rfl)) ?_
   walk_at "go"
   rw [if_neg (show ¬ (k=="piece")=true by simpa using npc)]
   walk_at "go"
   refine ⟨_,dc,E,r,rfl,rq,lpc,hE,h60,hwr,fun l2 G1 n2 hl2 t1 lq en2 hn2=>?_⟩
   obtain ⟨v2,hv2,pv2⟩:=lq
   have e1:vs.length=(A.take 121).length:=(Paired.length pv).trans (by simp [kn])
   have e2:v2.length=n2.length:=(Paired.length pv2).trans (by simp [kn])
   have e3:=List.length_take_le 121 A
   walk_at "go"
   refine aSy (t1 _ _ hvs) hv2 (by omega) fun l3 hl3=>?_
   have t12:=aAn.new (o:=.lst (vs++v2)) hl3
   have g3:=aAe (H:=G1) (a:=l3) (o:=.lst (vs++v2))
   generalize L2.upd G1 l3 (.lst (vs++v2))=G2 at t12 g3 ⊢
   have t2:=t1.trans t12
   walk_at "go"
   refine aJh g3 fun l4 hl4=>?_
   rw [show (121:Int)=((121:Nat):Int) from rfl,aSk]
   have t13:=t12.trans (aAn.new (o:=.lst ((vs++v2).take 121)) hl4)
   have t3:=t1.trans t13
   have pnew:Paired (aCg (L2.upd G2 l4 (.lst ((vs++v2).take 121)))) ((vs++v2).take 121) (kn ((A++aAy E r).take 121)):=by
    rw [aI2 A (aAy E r),← en2,show (A.take 121++n2.take 121).take 121=(A.take 121++n2).take 121 by
     rw [aI2 (A.take 121) n2,List.take_take,Nat.min_self]]
    generalize A.take 121=n1 at pv
    rw [show kn ((n1++n2).take 121)=(kn n1++kn n2).take 121 by simp [kn]]
    exact Pd.tak (Pd.app (Pd.imp pv fun v b f=>aCg.tk f t3.tk) (Pd.imp pv2 fun v b f=>aCg.tk f t13.tk)) 121
   walk_at "go"
   exact ⟨_,l4,rfl,sG.trans t3,(sG.trans t2).free hl4,_,aAe,by rw [eA]; exact pnew⟩
  rintro σ G ⟨o3,lf,rfl,sG,hlf,lq⟩
  rw [hyl,List.take_length] at lq
  walk_at "go"
  exact q lf G hlf sG lq
set_option maxHeartbeats 0 in
theorem aW1 (T:Bl mg) (d:Df K mg "_law_runs" aHn ["_law_rows","_law_pieces"]  ) (W:XmS mg xt x1 x4 x5) (R_NoNet:XrS K xt x1 x4 x5 x1 1) (R_TooMany:XrS K xt x1 x4 x5 x4 4) (o_runs:Okf P w K mg base k "_law_runs" ["_law_rows","_law_pieces"] (aNi K)) (o_row_runs:Okf P w K mg base k "_law_row_runs" ["_law_row_here","_law_pieces"] (aD5 K)):Okf P w K mg base (k+1) "_law_runs" ["_law_rows","_law_pieces"] (aI9 K):=by
 refine Okf.of d aEd (fun vs H Q E h=>?_) (fun f cdv A outer s H vs Q E hr h=>?_)
 ·obtain ⟨l,gs,dc,rfl,_⟩:=h
  rfl
 ·obtain ⟨l,gs,dc,rfl,hl,hb,hdc,q⟩:=h
  refine ⟨_,(@aAc _ _ _ _ _ (@aAs _ _ (i:=2) _ _ _ _ aEd.nd rfl (by first | exact Or.inl rfl | exact Or.inr rfl) (@aBw _ _ _ _ (@aAd _)) (by rfl) (by first | exact .inl rfl | exact .inr rfl | assumption)) (@aAc _ _ _ _ _ (@aDz _ _ _ _ _ _ _ _ PassesOwn.never rfl (@aCm _ _ _ _ (pv 0)) (@aA2 _ _ (i:=3) _ aEd.nd rfl (by first | exact Or.inl rfl | exact Or.inr rfl) (by first | exact .inl rfl | exact .inr rfl | assumption)) (@aAg _ _ _ (@aBc _ _ _ _ _ _ _ _ (@aAr _ _ _ _ _ _ _ _ (aA9 hr.units) (@aAj _ _ _ _ _ _ _ aAk (pv 3) (@aAb _ _ _ _) (fun _ _=>rfl)) (@aAt _ _ _ _) (aAw _)) (@aAg _ _ _ (@aJp _ _ _ _ _ _ _ _ _ hr.u1 (pv 1) (@aAj _ _ _ _ _ _ _ aAk (pv 3) (@aAb _ _ _ _) (fun _ _=>rfl)) (@aBp _ _ _ _ _ (@aAa _ _ _ _ _ (@aAj _ _ _ _ _ _ _ aAk (pv 3) (@aAb _ _ _ _) (fun _ _=>rfl)) (@aAa _ _ _ _ _ (@aBf _ _ _ _ _ _ _ _ _ _ aDd (@aAi _ _ _ _ _ _ _ _ _ _ o_runs hr rfl (@aAa _ _ _ _ _ (@aAj _ _ _ _ _ _ _ aAk (pv 3) (@aAb _ _ _ _) (fun _ _=>rfl)) (@aAa _ _ _ _ _ (pv 1) (@aAd _) (by rfl)) (by rfl)) (by decide) (by rfl) (by rfl)) (@aCl _) (@aBt _ _ _ (@aAb _ _ _ _))) (@aAd _) (by rfl)) (by rfl))) rfl)) (@aAg _ _ _ (@aAs _ _ (i:=2) _ _ _ _ aEd.nd rfl (by first | exact Or.inl rfl | exact Or.inr rfl) (@aBf _ _ _ _ _ _ _ _ _ _ aDd (@aAq _ _ _ _ _ _ _ _ aA3 (pv 2) (@aAi _ _ _ _ _ _ _ _ _ _ o_row_runs hr rfl (@aAa _ _ _ _ _ (pv 3) (@aAa _ _ _ _ _ (pv 1) (@aAd _) (by rfl)) (by rfl)) (by decide) (by rfl) (by rfl))) (@aCl _) (@aBt _ _ _ (@aAb _ _ _ _))) (by rfl) (by first | exact .inl rfl | exact .inr rfl | assumption))))) (by intro _; rfl)) (@aAg _ _ _ (@aAo _ _ _ _ (pv 2))))),?_⟩
  try dsimp only [aAz,aA4]
  obtain ⟨xs,hxs,pr⟩:=hl
  have hlen:=Paired.length pr
  have few:=hb.few
  have ndl:l≠dc:=fun z=>by rw [z,hdc] at hxs; cases hxs
  walk_at "go"
  refine aBo fun l0 hl0=>?_
  walk_at "go"
  have s0:=aAn.new (o:=.lst []) hl0
  refine aCk (SqL.of (s0 _ _ hxs)) ?_
  refine aK2 (xs:=xs) (fun i σ G=>∃ (E:List aAu) (A:List aD3) (o3:Option V) (lf:Addr),σ=[some (.ref l),some (.ref dc),some (.ref lf),o3]/\Kp dc H G/\TK H G/\H lf=none/\LQ aCg G lf (kn (A.take 121))/\aUs G dc E/\WfE E/\WfG E (gs.drop i)/\goG [] gs=A++goG E (gs.drop i)/\aGi E (gs.drop i)=aGi [] gs) ⟨[],[],_,_,rfl,s0.kp,s0.tk,hl0,⟨[],aAe,.nil⟩,⟨[],s0 _ _ hdc,Nat.le_refl _,fun _ h=>nomatch h⟩,trivial,hb.wf,rfl,rfl⟩ ?_ ?_ ?_
  ·rintro i σ G _ ⟨E,A,o3,lf,rfl,kp,_⟩
   exact SqL.of (kp _ _ ndl hxs)
  ·rintro i x σ G hx ⟨E,A,o3,lf,rfl,kp,tk,hlf,⟨vs,hvs,pv⟩,lpc,hE,hW,eA,eE⟩
   obtain ⟨g,hg0,gq⟩:=Paired.at pr hx
   rw [aE6 hg0] at hW eA eE
   replace gq:=gq.tk tk
   have h8:E.length<=20:=hb.le20 hE eE
   have h60:E.length<=60:=by omega
   have fr:∀ {b:Addr} {G':Hp},Kp dc H G'->G' b=none->b≠dc->H b=none:=fun {b G'} k h n=>by
    cases e:H b with
    | none=>rfl
    | some o=>rw [k _ _ n e] at h; cases h
   cases g with
   | one r =>
    have rq:aBz G x r:=gq
    have hwr:=hW.1
    obtain ⟨p,k,zs,rfl,hp,npc⟩:=rq.head
    walk_at "go"
    refine aOu hp (aBv (show (V.str k::zs)[0]?=some (V.str k) from rfl)) ?_
    walk_at "go"
    rw [if_neg (show ¬ (k=="piece")=true by simpa using npc)]
    walk_at "go"
    refine ⟨_,dc,E,r,rfl,rq,lpc,hE,h60,hwr,fun l2 G1 n2 hl2 t1 lq en2 hn2=>?_⟩
    obtain ⟨v2,hv2,pv2⟩:=lq
    have e1:vs.length=(A.take 121).length:=(Paired.length pv).trans (by simp [kn])
    have e2:v2.length=n2.length:=(Paired.length pv2).trans (by simp [kn])
    have e3:=List.length_take_le 121 A
    walk_at "go"
    refine aSy (t1 _ _ hvs) hv2 (by omega) fun l3 hl3=>?_
    have t12:=aAn.new (o:=.lst (vs++v2)) hl3
    have g3:=aAe (H:=G1) (a:=l3) (o:=.lst (vs++v2))
    generalize L2.upd G1 l3 (.lst (vs++v2))=G2 at t12 g3 ⊢
    have t2:=t1.trans t12
    walk_at "go"
    refine aJh g3 fun l4 hl4=>?_
    rw [show (121:Int)=((121:Nat):Int) from rfl,aSk]
    have t13:=t12.trans (aAn.new (o:=.lst ((vs++v2).take 121)) hl4)
    have t3:=t1.trans t13
    have pnew:Paired (aCg (L2.upd G2 l4 (.lst ((vs++v2).take 121)))) ((vs++v2).take 121) (kn ((A++aAy E r).take 121)):=by
     rw [aI2 A (aAy E r),← en2,show (A.take 121++n2.take 121).take 121=(A.take 121++n2).take 121 by
      rw [aI2 (A.take 121) n2,List.take_take,Nat.min_self]]
     generalize A.take 121=n1 at pv
     rw [show kn ((n1++n2).take 121)=(kn n1++kn n2).take 121 by simp [kn]]
     exact Pd.tak (Pd.app (Pd.imp pv fun v b f=>aCg.tk f t3.tk) (Pd.imp pv2 fun v b f=>aCg.tk f t13.tk)) 121
    walk_at "go"
    have nd4:l4≠dc:=fun z=>by
     obtain ⟨kvs,hk,_⟩:=lpc.sm t2
     rw [z,hk] at hl4
     cases hl4
    exact ⟨E,A++aAy E r,_,l4,rfl,kp.trans t3.kp,tk.trans t3.tk,fr (kp.trans t2.kp) hl4 nd4,⟨_,aAe,pnew⟩,lpc.sm t3,hE,hW.2,by rw [eA,List.append_assoc]; rfl,eE⟩
   | piece pc =>
    obtain ⟨p,q',z,ys,rfl,hp,hq,hz,prs⟩:=(show aDm G x pc from gq)
    obtain ⟨hWp,hWr⟩:=hW
    walk_at "go"
    refine ⟨z,pc.2.2,ys,dc,E,rfl,hz,prs,lpc,hE,h60,hWp.1,fun l2 G1 hl2 t1 lq=>?_⟩
    obtain ⟨v2,hv2,pv2⟩:=lq
    have e2:v2.length=((pc.2.2.flatMap (aAy E)).take 121).length:=(Paired.length pv2).trans (by simp [kn])
    have e3:=List.length_take_le 121 (pc.2.2.flatMap (aAy E))
    walk_at "go"
    refine aJh hv2 fun l4 hl4=>?_
    rw [show (121:Int)=((121:Nat):Int) from rfl,aSk,List.take_of_length_le (by omega)]
    have t2:=aAn.new (o:=.lst v2) hl4
    have g4:=aAe (H:=G1) (a:=l4) (o:=.lst v2)
    generalize L2.upd G1 l4 (.lst v2)=G2 at t2 g4 ⊢
    walk_at "go"
    refine aBi fun p5 hp5=>?_
    have t3:=aAn.new (o:=.tup [.ref q',.ref l4]) hp5
    have g5:=aAe (H:=G2) (a:=p5) (o:=.tup [.ref q',.ref l4])
    generalize L2.upd G2 p5 (.tup [.ref q',.ref l4])=G3 at t3 g5 ⊢
    have t23:=t2.trans t3
    have t13:=t1.trans t23
    have hp3:=t13 _ _ hp
    have lpc3:=lpc.sm t13
    obtain ⟨kvs,hk,hkl,hv⟩:=id lpc3
    walk_at "go"
    refine aTm hk (by omega) ?_
    have tk2:=TK.dic (o:=.dK (aD7 kvs (Sum.inr pc.1) (.ref p5))) hk
    have kp2:Kp dc G3 (L2.upd G3 dc (.dK (aD7 kvs (Sum.inr pc.1) (.ref p5)))):=Kp.upd
    have nlf:lf≠dc:=fun e=>by rw [e,hdc] at hlf; cases hlf
    walk_at "go"
    refine ⟨pc::E,A,_,lf,rfl,(kp.trans t13.kp).trans kp2,(tk.trans t13.tk).trans tk2,hlf,⟨vs,kp2 _ _ nlf (t13 _ _ hvs),Pd.imp pv fun v b f=>(aCg.tk f t13.tk).tk tk2⟩,?_,⟨hWp,hE⟩,hWr,eA,eE⟩
    exact aUs.put hE hWp hk hkl hv g5 (t13 _ _ hq) ⟨v2,t3 _ _ g4,Pd.imp pv2 fun v b f=>aCg.tk f t23.tk⟩
  rintro σ G ⟨E,A,o3,lf,rfl,kp,tk,hlf,lq,lpc,hE,hW,eA,eE⟩
  rw [hlen,List.drop_length,show goG E []=[] from rfl,List.append_nil] at eA
  subst eA
  walk_at "go"
  exact q lf G hlf kp lq
set_option maxHeartbeats 0 in
theorem bA7 (T:Bl mg) (d:Df K mg "_law_due" aMh ["_law_rows"]  ) (W:XmS mg xt x1 x4 x5) (R_NoNet:XrS K xt x1 x4 x5 x1 1) (R_TooMany:XrS K xt x1 x4 x5 x4 4) (o_runs:Okf P w K mg base k "_law_runs" ["_law_rows","_law_pieces"] (aI9 K)):Okf P w K mg base (k+1) "_law_due" ["_law_rows"] (aMb K):=by
 refine Okf.of d aQg (fun vs H Q E h=>?_) (fun f cdv A outer s H vs Q E hr h=>?_)
 ·obtain ⟨l,gs,rfl,_⟩:=h
  rfl
 ·obtain ⟨l,gs,rfl,hl,hn,q⟩:=h
  refine ⟨_,(@aAc _ _ _ _ _ (@aAs _ _ (i:=1) _ _ _ _ aQg.nd rfl (by first | exact Or.inl rfl | exact Or.inr rfl) (@aAi _ _ _ _ _ _ _ _ _ _ o_runs hr rfl (@aAa _ _ _ _ _ (pv 0) (@aAa _ _ _ _ _ (@aG1 _ _) (@aAd _) (by rfl)) (by rfl)) (by decide) (by rfl) (by rfl)) (by rfl) (by first | exact .inl rfl | exact .inr rfl | assumption)) (@aAc _ _ _ _ _ (@aBc _ _ _ _ _ _ _ _ (@aAr _ _ _ _ _ _ _ _ aMl (@aAl _ _ _ _ _ _ _ _ _ aDr rfl T.z_len aB4 (@aAa _ _ _ _ _ (pv 1) (@aAd _) (by rfl)) (by decide) (by decide) (by rfl) (by rfl)) (@aAb _ _ _ _) (aAw _)) (@aAg _ _ _ (@aAo _ _ _ _ (@aAt _ _ _ _))) (@aA0 _)) (@aAc _ _ _ _ _ (@aQt _ _ _ _ _ _ _ _ _ _ _ _ _ _ (i:=2) _ _ _ aQg.nd rfl (by first | exact Or.inl rfl | exact Or.inr rfl) (@aCz _ _ (sc:=aAf aMh) (N:=["_law_rows","_law_found","_law_bad"]) (tn:=["_law_run"]) (names:=[]) (is:=[]) rfl rfl (by decide +kernel) (by decide +kernel) rfl (by decide +kernel) rfl (by decide +kernel) (by decide +kernel) (by decide +kernel)) rfl (@aCm _ _ _ _ (pv 1)) (fun _ _ _ _=>(@aA2 _ _ (i:=0) _ (show (["_law_run"]:List Str).Nodup by decide +kernel) rfl (Or.inl rfl) (Or.inr rfl))) (fun _ _ _ _=>(pv 0)) (fun _ _ _ _=>(@aWm _ _ _ (@PW.pt _ _ _ (@aH7 _ _ _ _ _ _ _ (@aAr _ _ _ _ _ _ _ _ (aA9 hr.units) (@aAj _ _ _ _ _ _ _ aLj (pv 0) (@aAb _ _ _ _) (fun _ _=>rfl)) (@aAj _ _ _ _ _ _ _ aLj (pv 0) (@aAb _ _ _ _) (fun _ _=>rfl)) (aAw _)) (@aFm _ _ _ _ (@aAr _ _ _ _ _ _ _ _ aMl (@aAl _ _ _ _ _ _ _ _ _ (c_max rfl) rfl T.z_max bCd (@aAa _ _ _ _ _ (@aQ0 _ _ _ _ _ _ _ _ _ _ _ _ _ _ _ _ _ _ _ PySem.F.plainAttrs_str PySem.F.slot_str_count PySem.F.type_str_count aRm (@aAj _ _ _ _ _ _ _ aLj (pv 0) (@aAb _ _ _ _) (fun _ _=>rfl)) (@aAa _ _ _ _ _ (@aAt _ _ _ _) (@aAd _) (by rfl)) (by rfl) (by rfl) (by rfl) (by rfl) (by rfl)) (@aAa _ _ _ _ _ (@aQ0 _ _ _ _ _ _ _ _ _ _ _ _ _ _ _ _ _ _ _ PySem.F.plainAttrs_str PySem.F.slot_str_count PySem.F.type_str_count aRm (@aAj _ _ _ _ _ _ _ aLj (pv 0) (@aAb _ _ _ _) (fun _ _=>rfl)) (@aAa _ _ _ _ _ (@aAt _ _ _ _) (@aAd _) (by rfl)) (by rfl) (by rfl) (by rfl) (by rfl) (by rfl)) (@aAd _) (by rfl)) (by rfl)) (by decide) (by decide) (by rfl) (by rfl)) (@aAb _ _ _ _) (aAw _))))))) (by intro _; rfl) (by rfl) (by first | exact .inl rfl | exact .inr rfl | assumption)) (@aAc _ _ _ _ _ (@aBc _ _ _ _ _ _ _ _ (@PW.pt _ _ _ (@aH7 _ _ _ _ _ _ _ (@aAr _ _ _ _ _ _ _ _ (aFo hr.units) (pv 2) (@aBw _ _ _ _ (@aAd _)) (aAw _)) (@aFm _ _ _ _ (@aAr _ _ _ _ _ _ _ _ (aA9 hr.units) (pv 1) (@aBw _ _ _ _ (@aAd _)) (aAw _))))) (@aAg _ _ _ (@aAo _ _ _ _ (@aAt _ _ _ _))) (@aA0 _)) (@aAg _ _ _ (@aAo _ _ _ _ (pv 1))))))),?_⟩
  try dsimp only [aAz,aA4]
  have q1:=fun (hc:120 < (goG [] gs).length) H' s=>q (.str "many") H' s (.inl ⟨hc,rfl⟩)
  have q2:=fun (hc:(goG [] gs).length<=120) (hb:aUt (goG [] gs)) H' s=>q (.str "none") H' s (.inr (.inl ⟨hc,hb,rfl⟩))
  have q3:=fun (hc:(goG [] gs).length<=120) (hb:¬ aUt (goG [] gs)) l' H' (h0:H l'=none) s lq=>q (.ref l') H' s (.inr (.inr ⟨hc,hb,l',rfl,h0,lq⟩))
  clear q
  have few:=hn.few
  have hok:=aOa (E:=[]) trivial hn.wf
  walk_at "go"
  refine aNx fun dc hdc=>?_
  have s0:=aAn.new (o:=.dK []) hdc
  have g0:=aAe (H:=H) (a:=dc) (o:=.dK [])
  generalize L2.upd H dc (.dK [])=H0 at s0 g0 ⊢
  walk_at "go"
  refine ⟨l,gs,dc,rfl,hl.sm s0,hn,g0,fun lf G hlf kp lq=>?_⟩
  have s1:aAn H G:=fun b o h=>kp _ _ (aAh h hdc) (s0 _ _ h)
  have hlf0:=s0.free hlf
  generalize goG [] gs=N at *
  obtain ⟨vs,hvs,pv⟩:=lq
  have e1:vs.length=(N.take 121).length:=(Paired.length pv).trans (by simp [kn])
  rw [List.length_take] at e1
  walk_at "go"
  refine i_d (fun hc=>?_) (fun hc=>?_)
  ·walk_at "go"
   exact q1 (by omega) _ s1
  have hc':N.length<=120:=by omega
  rw [List.take_of_length_le (by omega)] at pv
  replace e1:vs.length=N.length:=by omega
  walk_at "go"
  refine aCk (SqL.of hvs) ?_
  refine aTp (xs:=vs) (by omega) (fun acc i ys G'=>Kp acc G G'/\TK G G'/\∃ m,Paired (aCg G') ys (kn m)/\(m=[] ↔ ∀ r∈N.take i,¬ aS2 r)) ?_ ?_ ?_ ?_
  ·intro acc h0
   exact ⟨Kp.new h0,TK.new h0,[],.nil,fun _ r h=>(nomatch h),fun _=>rfl⟩
  ·rintro acc i ys G' h0 hi ⟨kp',_⟩
   exact SqL.of (kp' _ _ (aAh hvs h0) hvs)
  ·rintro acc i ys G' x h0 hx hyl hG' ⟨kp',tk,m,pm,hys⟩
   obtain ⟨rr,hrr,p,ut,rfl,hp,ft⟩:=Paired.at pv hx
   obtain ⟨r,hr0,rfl⟩:=aXf hrr
   replace hp:G p=some (.tup [.str r.1,.str r.2.1,ut]):=hp
   have hpG:=tk _ _ hp
   have hiv:=(List.getElem?_eq_some_iff.mp hx).1
   have hta:∀ x∈N.take (i+1),x∈N.take i∨x=r:=fun x hx=>by
    rw [List.take_add_one,hr0] at hx
    simpa using hx
   have hr1:r∈N.take (i+1):=by
    rw [List.take_add_one,hr0]
    simp
   have hsub:∀ x∈N.take i,x∈N.take (i+1):=fun x hx=>by
    rw [List.take_add_one]
    exact List.mem_append.mpr (.inl hx)
   have tk2:=TK.lst (o:=.lst (ys++[.ref p])) hG'
   have bad:aS2 r->aXp vs.length acc (fun i ys G'=>Kp acc G G'/\TK G G'/\∃ m,Paired (aCg G') ys (kn m)/\(m=[] ↔ ∀ r∈N.take i,¬ aS2 r)) ys i (.ref p) G':=fun e=>by
    refine bBz hiv hyl hG' ⟨kp'.trans Kp.upd,tk.trans tk2,m++[r],?_,?_,fun h=>absurd e (h r hr1)⟩
    ·rw [show kn (m++[r])=kn m++[(Sum.inr r.1,Sum.inr r.2.1,r.2.2)] by simp [kn]]
     exact Pd.snoc (Pd.imp pm fun v b f=>aCg.tk f tk2) (aCg.mk3 (tk2 _ _ hpG) ((ft.tk tk).tk tk2))
    ·intro h
     exact absurd (congrArg List.length h) (by simp)
   have good:¬ aS2 r->aXo vs.length acc (fun i ys G'=>Kp acc G G'/\TK G G'/\∃ m,Paired (aCg G') ys (kn m)/\(m=[] ↔ ∀ r∈N.take i,¬ aS2 r)) ys i G':=fun e =>
    bBy hiv hyl hG' ⟨kp',tk,m,pm,fun h x hx=>(hta x hx).elim (hys.mp h x) fun z=>by rw [z]; exact e,fun h=>hys.mpr fun x hx=>h x (hsub x hx)⟩
   walk_at "go"
   by_cases e:r.1=r.2.1
   ·rw [if_pos (show (r.1==r.2.1)=true by rw [e]; simp)]
    walk_at "go"
    exact bad (.inl e)
   ·rw [if_neg (show ¬ (r.1==r.2.1)=true by simpa using e)]
    walk_at "go"
    refine ⟨r.1,rfl,by rw [show (".":Str)=⟨#[46]⟩ by decide +kernel],fun n1 en1=>?_⟩
    walk_at "go"
    refine ⟨r.2.1,rfl,by rw [show (".":Str)=⟨#[46]⟩ by decide +kernel],fun n2 en2=>?_⟩
    have f1:n1=aSa r.1:=by unfold aSa; omega
    have f2:n2=aSa r.2.1:=by unfold aSa; omega
    walk_at "go"
    refine i_d (fun c=>?_) (fun c=>?_)
    ·walk_at "go"
     refine bad (.inr ?_)
     split at c <;> omega
    ·walk_at "go"
     refine good fun z=>?_
     rcases z with z | z | z
     ·exact e z
     ·split at c <;> omega
     ·split at c <;> omega
  rintro acc ys G' h0 hG' hyl ⟨kp',tk,m,pm,hys⟩
  rw [e1,List.take_length] at hys
  have sG':aAn G G':=fun b o h=>kp' _ _ (aAh h h0) h
  have hvs':=sG' _ _ hvs
  have s2:=s1.trans sG'
  walk_at "go"
  refine aBo fun l9 hl9=>?_
  have t9:=aAn.new (o:=.lst []) hl9
  refine bBa (n:=m) ⟨ys,t9 _ _ hG',Pd.imp pm fun v b f=>aCg.tk f t9.tk⟩ aAe ?_
  by_cases hm:m=[]
  ·rw [decide_eq_true hm]
   walk_at "go"
   refine aBo fun l8 hl8=>?_
   have t8:=t9.trans (aAn.new (o:=.lst []) hl8)
   refine bB3 (n:=N) ⟨vs,t8 _ _ hvs',Pd.imp pv fun v b f=>aCg.tk f (sG'.trans t8).tk⟩ aAe ?_
   by_cases ha:N=[]
   ·rw [decide_eq_true ha]
    walk_at "go"
    exact q2 hc' (.inl ha) _ (s2.trans t8)
   ·rw [decide_eq_false ha]
    walk_at "go"
    refine q3 hc' ?_ lf _ hlf0 (s2.trans t8) ⟨vs,t8 _ _ hvs',Pd.imp pv fun v b f=>aCg.tk f (sG'.trans t8).tk⟩
    rintro (h | ⟨r,hr,e⟩)
    ·exact ha h
    ·exact hys.mp hm r hr e
  ·rw [decide_eq_false hm]
   walk_at "go"
   refine q2 hc' (.inr ?_) _ (s2.trans t9)
   exact Classical.byContradiction fun h=>hm (hys.mpr fun r hr e=>h ⟨r,hr,e⟩)
set_option maxHeartbeats 0 in
theorem aWy (T:Bl mg) (d:Df K mg "_law_told" aIn ["_law_rows"]  ) (W:XmS mg xt x1 x4 x5) (R_NoNet:XrS K xt x1 x4 x5 x1 1) (R_TooMany:XrS K xt x1 x4 x5 x4 4) (o_opened:aPj P w K mg base k "opened" ["rows"] [] (aIg x1 x4)):Okf P w K mg base (k+1) "_law_told" ["_law_rows"] (aI5 K):=by
 refine Okf.of d aF1 (fun vs H Q E h=>?_) (fun f cdv A outer s H vs Q E hr h=>?_)
 ·obtain ⟨l,gs,rfl,_⟩:=h
  rfl
 ·obtain ⟨l,gs,rfl,hl,hn,q⟩:=h
  refine ⟨_,(@aAc _ _ _ _ _ (@aAs _ _ (i:=1) _ _ _ _ aF1.nd rfl (by first | exact Or.inl rfl | exact Or.inr rfl) (@aIv _ _ _) (by rfl) (by first | exact .inl rfl | exact .inr rfl | assumption)) (@aAc _ _ _ _ _ (@aAs _ _ (i:=2) _ _ _ _ aF1.nd rfl (by first | exact Or.inl rfl | exact Or.inr rfl) (@aIv _ _ _) (by rfl) (by first | exact .inl rfl | exact .inr rfl | assumption)) (@aAc _ _ _ _ _ (@bAq _ _ _ _ (i:=3) _ _ _ _ _ _ _ _ rfl rfl rfl rfl W.t aF1.nd rfl rfl (@bAo _ _ _ _ (i:=1) _ _ aF1.nd rfl (by first | exact Or.inl rfl | exact Or.inr rfl) (@aTu _ _ _ _ _ _ _ _ _ _ _ o_opened rfl (fun _ _ z=>z) hr rfl (@aAa _ _ _ _ _ (pv 0) (@aAd _) (by rfl)) (by decide) (by rfl) (by rfl)) (by rfl) (by first | exact .inl rfl | exact .inr rfl)) (fun y=>(@aAg _ _ _ (@aAs _ _ (i:=2) _ _ _ _ aF1.nd rfl (by first | exact Or.inl rfl | exact Or.inr rfl) (pv 3) (by rfl) (by first | exact .inl rfl | exact .inr rfl | assumption)))) (by decide)) (@aAc _ _ _ _ _ (@aBc _ _ _ _ _ _ _ _ (@aAr _ _ _ _ _ _ _ _ aWu (pv 2) (@aIv _ _ _) (aAw _)) (@aAg _ _ _ (@aAo _ _ _ _ (pv 1))) (@aA0 _)) (@aAc _ _ _ _ _ (@aBc _ _ _ _ _ _ _ _ (@PW.pt _ _ _ (@aH7 _ _ _ _ _ _ _ (@aDp _ _ _ _ (@aDo _ _ _ (@aAl _ _ _ _ _ _ _ _ _ aG6 rfl T.z_isinstance aA5 (@aAa _ _ _ _ _ (pv 2) (@aAa _ _ _ _ _ (@aEg _ _ (v:=.ty "ValueError") _ _ rfl W.zV aKf rfl (by decide) (by decide)) (@aAd _) (by rfl)) (by rfl)) (by decide) (by decide) (by rfl) (by rfl)) (by intro _; rfl))) (@aFm _ _ _ _ (@aAr _ _ _ _ _ _ _ _ (aA9 hr.units) (@aAl _ _ _ _ _ _ _ _ _ aG6 rfl T.z_isinstance aA5 (@aAa _ _ _ _ _ (pv 2) (@aAa _ _ _ _ _ (@aCe _ _ (v:=.ref x4) _ _ rfl W.m_TooMany rfl (by decide)) (@aAd _) (by rfl)) (by rfl)) (by decide) (by decide) (by rfl) (by rfl)) (@aAl _ _ _ _ _ _ _ _ _ aG6 rfl T.z_isinstance aA5 (@aAa _ _ _ _ _ (pv 2) (@aAa _ _ _ _ _ (@aCe _ _ (v:=.ref x1) _ _ rfl W.m_NoNet rfl (by decide)) (@aAd _) (by rfl)) (by rfl)) (by decide) (by decide) (by rfl) (by rfl)) (aAw _))))) (@aAg _ _ _ (@aAo _ _ _ _ (@aAt _ _ _ _))) (@aA0 _)) (@aAg _ _ _ (@aAo _ _ _ _ (@aAj _ _ _ _ _ _ _ aAk (@aBw _ _ _ _ (@aAa _ _ _ _ _ (@aAt _ _ _ _) (@aAa _ _ _ _ _ (@aAt _ _ _ _) (@aAd _) (by rfl)) (by rfl))) (@aBj _ _ _ _ _ _ _ _ _ c_int rfl T.z_int aLq (@aAa _ _ _ _ _ (@aAl _ _ _ _ _ _ _ _ _ aG6 rfl T.z_isinstance aA5 (@aAa _ _ _ _ _ (pv 2) (@aAa _ _ _ _ _ (@aCe _ _ (v:=.ref x4) _ _ rfl W.m_TooMany rfl (by decide)) (@aAd _) (by rfl)) (by rfl)) (by decide) (by decide) (by rfl) (by rfl)) (@aAd _) (by rfl)) (by decide) (by decide) (by rfl) (by rfl)) (fun _ _=>rfl))))))))),?_⟩
  try dsimp only [aAz,aA4]
  have q1:=fun (hc:120 < (goG [] gs).length) H' s=>q (.str "many") H' s (.inl ⟨hc,rfl⟩)
  have q2:=fun (hc:(goG [] gs).length<=120) (hb:aUt (goG [] gs)) H' s=>q (.str "none") H' s (.inr (.inl ⟨hc,hb,rfl⟩))
  have q3:=fun (hc:(goG [] gs).length<=120) (hb:¬ aUt (goG [] gs)) l' H' (h0:H l'=none) s lq=>q (.ref l') H' s (.inr (.inr ⟨hc,hb,l',rfl,h0,lq⟩))
  clear q
  walk_at "go"
  refine ⟨l,gs,rfl,hl,hn,fun hc H1 s1=>?_,fun hc hb H1 s1=>?_,fun hc hb l' H' hl' sm lq=>?_⟩
  ·refine aU3 R_TooMany.t fun y hy=>?_
   have t1:=s1.trans (aAn.new (o:=aPe y x4) hy)
   have y1:=aAe (H:=H1) (a:=y) (o:=aPe y x4)
   generalize L2.upd H1 y (aPe y x4)=H2 at t1 y1 ⊢
   walk_at "go"
   refine aU7 y1 R_TooMany.x R_TooMany.v ?_
   walk_at "go"
   refine aIs y1 R_TooMany.x R_TooMany.k4 ?_
   walk_at "go"
   refine aIs y1 R_TooMany.x R_TooMany.k1 ?_
   walk_at "go"
   refine aBo fun l9 hl9=>?_
   have t9:=aAn.new (o:=.lst [V.str "none",V.str "many"]) hl9
   have y9:=t9 _ _ y1
   walk_at "go"
   refine aIs y9 R_TooMany.x R_TooMany.k4 ?_
   walk_at "go"
   exact q1 hc _ (t1.trans t9)
  ·refine aU3 R_NoNet.t fun y hy=>?_
   have t1:=s1.trans (aAn.new (o:=aPe y x1) hy)
   have y1:=aAe (H:=H1) (a:=y) (o:=aPe y x1)
   generalize L2.upd H1 y (aPe y x1)=H2 at t1 y1 ⊢
   walk_at "go"
   refine aU7 y1 R_NoNet.x R_NoNet.v ?_
   walk_at "go"
   refine aIs y1 R_NoNet.x R_NoNet.k4 ?_
   walk_at "go"
   refine aIs y1 R_NoNet.x R_NoNet.k1 ?_
   walk_at "go"
   refine aBo fun l9 hl9=>?_
   have t9:=aAn.new (o:=.lst [V.str "none",V.str "many"]) hl9
   have y9:=t9 _ _ y1
   walk_at "go"
   refine aIs y9 R_NoNet.x R_NoNet.k4 ?_
   walk_at "go"
   exact q2 hc hb _ (t1.trans t9)
  ·walk_at "go"
   exact q3 hc hb l' H' hl' sm lq
set_option maxHeartbeats 0 in
theorem aT2 (T:Bl mg) (d:Df K mg "_law_first" aF3 ["_law_number_here","_law_names_here"]  ) (W:XmS mg xt x1 x4 x5) (R_NoNet:XrS K xt x1 x4 x5 x1 1) (R_TooMany:XrS K xt x1 x4 x5 x4 4) (o_time:Okf P w K mg base k "_law_time" ["_law_number_here"] aI7):Okf P w K mg base (k+1) "_law_first" ["_law_number_here","_law_names_here"] aMa:=by
 refine Okf.of d aGz (fun vs H Q E h=>?_) (fun f cdv A outer s H vs Q E hr h=>?_)
 ·obtain ⟨c,ln,U,rfl,_⟩:=h
  rfl
 ·obtain ⟨c,ln,U,rfl,hc,hln,hUl,hU,hUn,q⟩:=h
  refine ⟨_,(@aAc _ _ _ _ _ (@aAs _ _ (i:=2) _ _ _ _ aGz.nd rfl (by first | exact Or.inl rfl | exact Or.inr rfl) (@aBp _ _ _ _ _ (@aAa _ _ _ _ _ (@aAj _ _ _ _ _ _ _ aAk (pv 1) (@aAb _ _ _ _) (fun _ _=>rfl)) (@aAa _ _ _ _ _ (@aAj _ _ _ _ _ _ _ aAk (pv 1) (@aAb _ _ _ _) (fun _ _=>rfl)) (@aAd _) (by rfl)) (by rfl))) (by rfl) (by first | exact .inl rfl | exact .inr rfl | assumption)) (@aAc _ _ _ _ _ (@aAs _ _ (i:=3) _ _ _ _ aGz.nd rfl (by first | exact Or.inl rfl | exact Or.inr rfl) (@aBp _ _ _ _ _ (@aAa _ _ _ _ _ (@aAt _ _ _ _) (@aAa _ _ _ _ _ (@aAj _ _ _ _ _ _ _ aAk (pv 1) (@aAb _ _ _ _) (fun _ _=>rfl)) (@aAa _ _ _ _ _ (@aAj _ _ _ _ _ _ _ aAk (pv 1) (@aAb _ _ _ _) (fun _ _=>rfl)) (@aAa _ _ _ _ _ (@aAi _ _ _ _ _ _ _ _ _ _ o_time hr rfl (@aAa _ _ _ _ _ (pv 0) (@aAd _) (by rfl)) (by decide) (by rfl) (by rfl)) (@aAd _) (by rfl)) (by rfl)) (by rfl)) (by rfl))) (by rfl) (by first | exact .inl rfl | exact .inr rfl | assumption)) (@aAc _ _ _ _ _ (@aBc _ _ _ _ _ _ _ _ (@aAr _ _ _ _ _ _ _ _ (aA9 hr.units) (@aAq _ _ _ _ _ _ _ _ aBl (@aAq _ _ _ _ _ _ _ _ aBg (pv 0) (@aAb _ _ _ _)) (@aAb _ _ _ _)) (@aAb _ _ _ _) (aAw _)) (@aAg _ _ _ (@aAs _ _ (i:=3) _ _ _ _ aGz.nd rfl (by first | exact Or.inl rfl | exact Or.inr rfl) (@aBp _ _ _ _ _ (@aAa _ _ _ _ _ (@aAt _ _ _ _) (@aAa _ _ _ _ _ (@aAj _ _ _ _ _ _ _ aAk (pv 1) (@aAq _ _ _ _ _ _ _ _ aBl (@aAq _ _ _ _ _ _ _ _ aBg (pv 0) (@aAb _ _ _ _)) (@aAb _ _ _ _)) (fun _ _=>rfl)) (@aAa _ _ _ _ _ (@aAj _ _ _ _ _ _ _ aAk (pv 1) (@aAb _ _ _ _) (fun _ _=>rfl)) (@aAa _ _ _ _ _ (@aAi _ _ _ _ _ _ _ _ _ _ o_time hr rfl (@aAa _ _ _ _ _ (pv 0) (@aAd _) (by rfl)) (by decide) (by rfl) (by rfl)) (@aAd _) (by rfl)) (by rfl)) (by rfl)) (by rfl))) (by rfl) (by first | exact .inl rfl | exact .inr rfl | assumption))) (@aA0 _)) (@aAg _ _ _ (@aAo _ _ _ _ (@aBp _ _ _ _ _ (@aAa _ _ _ _ _ (@aAt _ _ _ _) (@aAa _ _ _ _ _ (@aAt _ _ _ _) (@aAa _ _ _ _ _ (pv 2) (@aAa _ _ _ _ _ (@aBp _ _ _ _ _ (@aAa _ _ _ _ _ (pv 3) (@aAd _) (by rfl))) (@aAd _) (by rfl)) (by rfl)) (by rfl)) (by rfl)))))))),?_⟩
  try dsimp only [aAz,aA4]
  obtain ⟨u0,u1,u2,u3,u4,u5,u6,u7,rfl⟩:=aXs hUl
  replace hln:H ln=some (.lst [.str u0,.str u1,.str u2,.str u3,.str u4,.str u5,.str u6,.str u7]):=hln
  have ne01:u0≠u1:=fun e=>by rw [e] at hUn; simp at hUn
  have P':∀ {s:Str},s∈[u0,u1,u2,u3,u4,u5,u6,u7]->aB8 s:=fun h=>aE4.part (hU _ h)
  have ea:("a":Str)=ltr 0:=by decide +kernel
  walk_at "go"
  refine aBi fun p1 hp1=>?_
  have s1:=aAn.new (o:=.tup [.str u0,.str u1]) hp1
  have g1:=aAe (H:=H) (a:=p1) (o:=.tup [.str u0,.str u1])
  generalize L2.upd H p1 (.tup [.str u0,.str u1])=G1 at s1 g1 ⊢
  have hln1:=s1 _ _ hln
  have fin:∀ (p4 p5:Addr) (v:V) (G4:Hp) {r:aE8},aAn G1 G4->G4 p4=some (.tup [v])->G4 p5=none->aBz G4 v r->WfT [] r->Q (.ref p5) (L2.upd G4 p5 (.tup [.str "piece",.str "a",.ref p1,.ref p4])):=fun p4 p5 v G4 r s4 g4 hp5 rq ok=>by
   have s5:=aAn.new (o:=.tup [.str "piece",.str "a",.ref p1,.ref p4]) hp5
   refine q _ _ ("a",[u0,u1],[r]) (s1.trans (s4.trans s5)) ⟨p5,p1,p4,[v],rfl,aAe,s5 _ _ (s4 _ _ g1),s5 _ _ g4,.cons (rq.tk s5.tk) .nil⟩ ea rfl rfl ?_
   exact ⟨fun r' h=>by rw [List.mem_singleton.mp h]; exact ok,List.cons_ne_nil _ _,(show 1<=60 by decide),by simp [ne01],⟨(show 1<=2 by decide),(show 2<=8 by decide),fun s hs=>(List.mem_cons.mp hs).elim (fun e=>by rw [e,ea]; exact aN4 (by decide)) fun h=>hU s (by simp at h ⊢; rcases h with h | h <;> simp [h])⟩,fun _ h=>nomatch h⟩
  walk_at "go"
  refine ⟨c,rfl,hc,fun vt t G2 s2 ft tr=>?_⟩
  have hln2:=s2 _ _ hln1
  walk_at "go"
  refine aBi fun p3 hp3=>?_
  have s3:=aAn.new (o:=.tup [.str "run",.str u0,.str u1,vt]) hp3
  have g3:=aAe (H:=G2) (a:=p3) (o:=.tup [.str "run",.str u0,.str u1,vt])
  generalize L2.upd G2 p3 (.tup [.str "run",.str u0,.str u1,vt])=G3 at s3 g3 ⊢
  have hln3:=s3 _ _ hln2
  walk_at "go"
  refine i_d (fun c1=>?_) (fun c1=>?_)
  ·walk_at "go"
   obtain ⟨w,hw,ew⟩:∃ w,w∈[u0,u1,u2,u3,u4,u5,u6,u7]/\atI [.str u0,.str u1,.str u2,.str u3,.str u4,.str u5,.str u6,.str u7] (c.fdiv 21 % 2)=some (V.str w):=by
    have:c.fdiv 21 % 2=0∨c.fdiv 21 % 2=1:=by omega
    rcases this with e | e <;> rw [e]
    ·exact ⟨u0,by simp,rfl⟩
    ·exact ⟨u1,by simp,rfl⟩
   refine aC3 hln3 ew ?_
   walk_at "go"
   refine ⟨c,rfl,hc,fun v6 t6 G5 s5 ft6 tr6=>?_⟩
   walk_at "go"
   refine aBi fun p6 hp6=>?_
   have s6:=aAn.new (o:=.tup [.str "run",.str w,.str u2,v6]) hp6
   have g6:=aAe (H:=G5) (a:=p6) (o:=.tup [.str "run",.str w,.str u2,v6])
   generalize L2.upd G5 p6 (.tup [.str "run",.str w,.str u2,v6])=G6 at s6 g6 ⊢
   walk_at "go"
   refine aBi fun p4 hp4=>?_
   have s4:=aAn.new (o:=.tup [.ref p6]) hp4
   have g4:=aAe (H:=G6) (a:=p4) (o:=.tup [.ref p6])
   generalize L2.upd G6 p4 (.tup [.ref p6])=G4 at s4 g4 ⊢
   walk_at "go"
   refine aBi fun p5 hp5=>?_
   exact fin _ _ _ _ ((((s2.trans s3).trans s5).trans s6).trans s4) g4 hp5 ((show aBz G6 (.ref p6) (.plain (.run w u2 t6)) from ⟨p6,v6,rfl,g6,ft6.tk s6.tk⟩).tk s4.tk) ⟨P' hw,P' (by simp),tr6⟩
  ·walk_at "go"
   refine aBi fun p4 hp4=>?_
   have s4:=aAn.new (o:=.tup [.ref p3]) hp4
   have g4:=aAe (H:=G3) (a:=p4) (o:=.tup [.ref p3])
   generalize L2.upd G3 p4 (.tup [.ref p3])=G4 at s4 g4 ⊢
   walk_at "go"
   refine aBi fun p5 hp5=>?_
   exact fin _ _ _ _ ((s2.trans s3).trans s4) g4 hp5 ((show aBz G3 (.ref p3) (.plain (.run u0 u1 t)) from ⟨p3,vt,rfl,g3,ft.tk s3.tk⟩).tk s4.tk) ⟨P' (by simp),P' (by simp),tr⟩
set_option maxHeartbeats 0 in
theorem aT0 (T:Bl mg) (d:Df K mg "_law_piece" aF2 ["_law_number_here","_law_k","_law_names_here"]  ) (W:XmS mg xt x1 x4 x5) (R_NoNet:XrS K xt x1 x4 x5 x1 1) (R_TooMany:XrS K xt x1 x4 x5 x4 4):Okf P w K mg base (k+1) "_law_piece" ["_law_number_here","_law_k","_law_names_here"] aHd:=by
 refine Okf.of d aD6 (fun vs H Q E h=>?_) (fun f cdv A outer s H vs Q E hr h=>?_)
 ·obtain ⟨c,k,ln,U,rfl,_⟩:=h
  rfl
 ·obtain ⟨c,k,ln,U,rfl,hc,hk1,hk,hln,hUl,hU,hUn,q⟩:=h
  refine ⟨_,(@aAc _ _ _ _ _ (@aAs _ _ (i:=3) _ _ _ _ aD6.nd rfl (by first | exact Or.inl rfl | exact Or.inr rfl) (@aBw _ _ _ _ (@aAd _)) (by rfl) (by first | exact .inl rfl | exact .inr rfl | assumption)) (@aAc _ _ _ _ _ (@aDz _ _ _ _ _ _ _ _ PassesOwn.never rfl (@aHr _ _ _ _ _ _ rfl T.z_range (@aAa _ _ _ _ _ (@aAj _ _ _ _ _ _ _ aAk (@aBw _ _ _ _ (@aAa _ _ _ _ _ (@aAb _ _ _ _) (@aAa _ _ _ _ _ (@aAb _ _ _ _) (@aAa _ _ _ _ _ (@aAb _ _ _ _) (@aAa _ _ _ _ _ (@aAb _ _ _ _) (@aAd _) (by rfl)) (by rfl)) (by rfl)) (by rfl))) (@aAq _ _ _ _ _ _ _ _ aBl (pv 0) (@aAb _ _ _ _)) (fun _ _=>rfl)) (@aAd _) (by rfl)) (by rfl)) (@aA2 _ _ (i:=4) _ aD6.nd rfl (by first | exact Or.inl rfl | exact Or.inr rfl) (by first | exact .inl rfl | exact .inr rfl | assumption)) (@aAc _ _ _ _ _ (@aAs _ _ (i:=0) _ _ _ _ aD6.nd rfl (by first | exact Or.inl rfl | exact Or.inr rfl) (@aAq _ _ _ _ _ _ _ _ aBg (pv 0) (@aAb _ _ _ _)) (by rfl) (by first | exact .inl rfl | exact .inr rfl | assumption)) (@aAc _ _ _ _ _ (@aAs _ _ (i:=5) _ _ _ _ aD6.nd rfl (by first | exact Or.inl rfl | exact Or.inr rfl) (@aAj _ _ _ _ _ _ _ aAk (@aBw _ _ _ _ (@aAa _ _ _ _ _ (@aBp _ _ _ _ _ (@aAa _ _ _ _ _ (@aAj _ _ _ _ _ _ _ aAk (pv 2) (@aAb _ _ _ _) (fun _ _=>rfl)) (@aAa _ _ _ _ _ (@aAj _ _ _ _ _ _ _ aAk (pv 2) (@aAb _ _ _ _) (fun _ _=>rfl)) (@aAd _) (by rfl)) (by rfl))) (@aAa _ _ _ _ _ (@aBp _ _ _ _ _ (@aAa _ _ _ _ _ (@aAj _ _ _ _ _ _ _ aAk (pv 2) (@aAb _ _ _ _) (fun _ _=>rfl)) (@aAa _ _ _ _ _ (@aAj _ _ _ _ _ _ _ aAk (pv 2) (@aAb _ _ _ _) (fun _ _=>rfl)) (@aAd _) (by rfl)) (by rfl))) (@aAa _ _ _ _ _ (@aBp _ _ _ _ _ (@aAa _ _ _ _ _ (@aAj _ _ _ _ _ _ _ aAk (pv 2) (@aAb _ _ _ _) (fun _ _=>rfl)) (@aAa _ _ _ _ _ (@aAj _ _ _ _ _ _ _ aAk (pv 2) (@aAb _ _ _ _) (fun _ _=>rfl)) (@aAd _) (by rfl)) (by rfl))) (@aAa _ _ _ _ _ (@aBp _ _ _ _ _ (@aAa _ _ _ _ _ (@aAj _ _ _ _ _ _ _ aAk (pv 2) (@aAb _ _ _ _) (fun _ _=>rfl)) (@aAa _ _ _ _ _ (@aAj _ _ _ _ _ _ _ aAk (pv 2) (@aAb _ _ _ _) (fun _ _=>rfl)) (@aAd _) (by rfl)) (by rfl))) (@aAd _) (by rfl)) (by rfl)) (by rfl)) (by rfl))) (@aAq _ _ _ _ _ _ _ _ aBl (pv 0) (@aAb _ _ _ _)) (fun _ _=>rfl)) (by rfl) (by first | exact .inl rfl | exact .inr rfl | assumption)) (@aAc _ _ _ _ _ (@aAs _ _ (i:=6) _ _ _ _ aD6.nd rfl (by first | exact Or.inl rfl | exact Or.inr rfl) (@aAq _ _ _ _ _ _ _ _ aQ3 (@aAq _ _ _ _ _ _ _ _ aQ3 (pv 1) (@aAb _ _ _ _)) (@aAj _ _ _ _ _ _ _ aAk (@aBw _ _ _ _ (@aAa _ _ _ _ _ (@aAb _ _ _ _) (@aAa _ _ _ _ _ (@aAb _ _ _ _) (@aAa _ _ _ _ _ (@aAb _ _ _ _) (@aAa _ _ _ _ _ (@aAq _ _ _ _ _ _ _ _ aBl (@aAq _ _ _ _ _ _ _ _ aBg (pv 0) (@aAb _ _ _ _)) (pv 1)) (@aAd _) (by rfl)) (by rfl)) (by rfl)) (by rfl))) (@aAq _ _ _ _ _ _ _ _ aBl (@aAq _ _ _ _ _ _ _ _ aBg (pv 0) (@aAb _ _ _ _)) (@aAb _ _ _ _)) (fun _ _=>rfl))) (by rfl) (by first | exact .inl rfl | exact .inr rfl | assumption)) (@aAc _ _ _ _ _ (@aB7 _ _ _ _ (@aEf _ _ _ _ _ _ _ _ _ _ _ _ PySem.F.plainAttrs_list PySem.F.slot_list_append PySem.F.type_list_append aDi (pv 3) (@aAa _ _ _ _ _ (@aBp _ _ _ _ _ (@aAa _ _ _ _ _ (@aAt _ _ _ _) (@aAa _ _ _ _ _ (@aAj _ _ _ _ _ _ _ aAk (@aAt _ _ _ _) (pv 6) (fun _ _=>rfl)) (@aAa _ _ _ _ _ (@aAj _ _ _ _ _ _ _ aAk (pv 2) (@aAq _ _ _ _ _ _ _ _ aA3 (@aAb _ _ _ _) (pv 4)) (fun _ _=>rfl)) (@aAa _ _ _ _ _ (pv 5) (@aAd _) (by rfl)) (by rfl)) (by rfl)) (by rfl))) (@aAd _) (by rfl)) (by rfl) (by rfl) (by rfl) (by rfl) (by rfl)) (by rfl)) (@aAg _ _ _ (@aAs _ _ (i:=0) _ _ _ _ aD6.nd rfl (by first | exact Or.inl rfl | exact Or.inr rfl) (@aAq _ _ _ _ _ _ _ _ aBg (pv 0) (@aAb _ _ _ _)) (by rfl) (by first | exact .inl rfl | exact .inr rfl | assumption))))))) (by intro _; rfl)) (@aAg _ _ _ (@aAo _ _ _ _ (@aBp _ _ _ _ _ (@aAa _ _ _ _ _ (@aAt _ _ _ _) (@aAa _ _ _ _ _ (@aAj _ _ _ _ _ _ _ aAk (@aAt _ _ _ _) (pv 1) (fun _ _=>rfl)) (@aAa _ _ _ _ _ (@aBp _ _ _ _ _ (@aAa _ _ _ _ _ (@aAj _ _ _ _ _ _ _ aAk (pv 2) (@aAb _ _ _ _) (fun _ _=>rfl)) (@aAa _ _ _ _ _ (@aAj _ _ _ _ _ _ _ aAk (pv 2) (@aAb _ _ _ _) (fun _ _=>rfl)) (@aAd _) (by rfl)) (by rfl))) (@aAa _ _ _ _ _ (@aBj _ _ _ _ _ _ _ _ _ aC7 rfl T.z_tuple aEw (@aAa _ _ _ _ _ (pv 3) (@aAd _) (by rfl)) (by decide) (by decide) (by rfl) (by rfl)) (@aAd _) (by rfl)) (by rfl)) (by rfl)) (by rfl))))))),?_⟩
  try dsimp only [aAz,aA4]
  obtain ⟨u0,u1,u2,u3,u4,u5,u6,u7,rfl⟩:=aXs hUl
  replace hln:H ln=some (.lst [.str u0,.str u1,.str u2,.str u3,.str u4,.str u5,.str u6,.str u7]):=hln
  have ne01:u0≠u1:=fun e=>by rw [e] at hUn; simp at hUn
  have P':∀ {s:Str},s∈[u0,u1,u2,u3,u4,u5,u6,u7]->aB8 s:=fun h=>aE4.part (hU _ h)
  have h26:abc.length<=100000:=by rw [aSx]; decide
  walk_at "go"
  refine aBo fun l0 hl0=>?_
  have k0:Kp l0 H (L2.upd H l0 (.lst [])):=Kp.new hl0
  have g0:=aAe (H:=H) (a:=l0) (o:=.lst [])
  generalize L2.upd H l0 (.lst [])=G0 at k0 g0 ⊢
  walk_at "go"
  refine aBo fun l1 hl1=>?_
  have s1:=aAn.new (o:=.lst [V.int 1,V.int 1,V.int 2,V.int 3]) hl1
  have g1:=aAe (H:=G0) (a:=l1) (o:=.lst [V.int 1,V.int 1,V.int 2,V.int 3])
  generalize L2.upd G0 l1 (.lst [V.int 1,V.int 1,V.int 2,V.int 3])=G1 at s1 g1 ⊢
  walk_at "go"
  obtain ⟨_,em,m,rfl,hm1,hm3⟩:=at4 (x0:=.int 1) (x1:=.int 1) (x2:=.int 2) (x3:=.int 3) (fun t=>∃ m:Nat,t=.int (m:Int)/\1<=m/\m<=3) ⟨1,rfl,by decide,by decide⟩ ⟨1,rfl,by decide,by decide⟩ ⟨2,rfl,by decide,by decide⟩ ⟨3,rfl,by decide,by decide⟩ (c % 4) (Int.emod_nonneg _ (by decide)) (Int.emod_lt_of_pos _ (by decide))
  refine aC3 g1 em ?_
  walk_at "go"
  refine aQj (by omega) (by omega) ?_
  rw [Int.toNat_natCast]
  have nln:ln≠l0:=aAh hln hl0
  refine aNw (n:=m) (fun i σ G=>∃ (c:Int) (ys:List V) (rs:List aE8) (o4 o5 o6:Option V),σ=[some (.int c),some (.int (k:Int)),some (.ref ln),some (.ref l0),o4,o5,o6]/\0<=c/\Kp l0 H G/\G l0=some (.lst ys)/\Paired (aBz G) ys rs/\rs.length=i/\∀ r∈rs,aW2 k r) ⟨c,[],[],_,_,_,rfl,hc,k0.trans s1.kp,s1 _ _ g0,.nil,rfl,fun _ h=>nomatch h⟩ ?_ ?_
  ·rintro i σ G hi ⟨c,ys,rs,o4,o5,o6,rfl,hc,kp,hG,pr,hrl,hrs⟩
   have hlnG:=kp _ _ nln hln
   walk_at "go"
   refine aBi fun pa hpa=>?_
   have t1:=aAn.new (o:=.tup [.str u0,.str u1]) hpa
   have ga:=aAe (H:=G) (a:=pa) (o:=.tup [.str u0,.str u1])
   generalize L2.upd G pa (.tup [.str u0,.str u1])=J1 at t1 ga ⊢
   have hln1:=t1 _ _ hlnG
   walk_at "go"
   refine aBi fun pb hpb=>?_
   have t2:=aAn.new (o:=.tup [.str u1,.str u0]) hpb
   have gb:=aAe (H:=J1) (a:=pb) (o:=.tup [.str u1,.str u0])
   generalize L2.upd J1 pb (.tup [.str u1,.str u0])=J2 at t2 gb ⊢
   have hln2:=t2 _ _ hln1
   walk_at "go"
   refine aBi fun pc hpc=>?_
   have t3:=aAn.new (o:=.tup [.str u0,.str u3]) hpc
   have gc:=aAe (H:=J2) (a:=pc) (o:=.tup [.str u0,.str u3])
   generalize L2.upd J2 pc (.tup [.str u0,.str u3])=J3 at t3 gc ⊢
   have hln3:=t3 _ _ hln2
   walk_at "go"
   refine aBi fun pd hpd=>?_
   have t4:=aAn.new (o:=.tup [.str u4,.str u1]) hpd
   have gd:=aAe (H:=J3) (a:=pd) (o:=.tup [.str u4,.str u1])
   generalize L2.upd J3 pd (.tup [.str u4,.str u1])=J4 at t4 gd ⊢
   have hln4:=t4 _ _ hln3
   walk_at "go"
   refine aBo fun l5 hl5=>?_
   have t5:=aAn.new (o:=.lst [.ref pa,.ref pb,.ref pc,.ref pd]) hl5
   have g5:=aAe (H:=J4) (a:=l5) (o:=.lst [.ref pa,.ref pb,.ref pc,.ref pd])
   generalize L2.upd J4 l5 (.lst [.ref pa,.ref pb,.ref pc,.ref pd])=J5 at t5 g5 ⊢
   have hln5:=t5 _ _ hln4
   obtain ⟨_,ee,pe,as,rfl,ge,hal,has⟩:=at4 (x0:=.ref pa) (x1:=.ref pb) (x2:=.ref pc) (x3:=.ref pd) (fun t=>∃ p as,t=.ref p/\J5 p=some (.tup (List.map V.str as))/\as.length=2/\∀ s∈as,aB8 s)
    ⟨pa,[u0,u1],rfl,t5 _ _ (t4 _ _ (t3 _ _ (t2 _ _ ga))),rfl,fun s hs=>P' (by simp at hs ⊢; rcases hs with h | h <;> simp [h])⟩
    ⟨pb,[u1,u0],rfl,t5 _ _ (t4 _ _ (t3 _ _ gb)),rfl,fun s hs=>P' (by simp at hs ⊢; rcases hs with h | h <;> simp [h])⟩
    ⟨pc,[u0,u3],rfl,t5 _ _ (t4 _ _ gc),rfl,fun s hs=>P' (by simp at hs ⊢; rcases hs with h | h <;> simp [h])⟩
    ⟨pd,[u4,u1],rfl,t5 _ _ gd,rfl,fun s hs=>P' (by simp at hs ⊢; rcases hs with h | h <;> simp [h])⟩ (c.fdiv 4 % 4) (Int.emod_nonneg _ (by decide)) (Int.emod_lt_of_pos _ (by decide))
   have hc4:0<=c.fdiv 4:=aR9 hc (by decide)
   generalize c.fdiv 4=c' at ee hc4 ⊢
   walk_at "go"
   refine aC3 g5 ee ?_
   walk_at "go"
   have m0:=Int.emod_nonneg (c'.fdiv 16) (show (k:Int)≠0 by omega)
   have m1:=Int.emod_lt_of_pos (c'.fdiv 16) (show (0:Int) < (k:Int) by omega)
   generalize c'.fdiv 16 % (k:Int)=w at m0 m1 ⊢
   refine aBo fun l6 hl6=>?_
   have t6:=aAn.new (o:=.lst [V.int 0,V.int 0,V.int 0,V.int w]) hl6
   have g6:=aAe (H:=J5) (a:=l6) (o:=.lst [V.int 0,V.int 0,V.int 0,V.int w])
   generalize L2.upd J5 l6 (.lst [V.int 0,V.int 0,V.int 0,V.int w])=J6 at t6 g6 ⊢
   have hln6:=t6 _ _ hln5
   walk_at "go"
   obtain ⟨_,et,b,rfl,hb⟩:=at4 (x0:=.int 0) (x1:=.int 0) (x2:=.int 0) (x3:=.int w) (fun t=>∃ b:Nat,t=.int ((k:Int) - 1 - (b:Int))/\b < k) ⟨k - 1,by congr 1; omega,by omega⟩ ⟨k - 1,by congr 1; omega,by omega⟩ ⟨k - 1,by congr 1; omega,by omega⟩ ⟨((k:Int) - 1 - w).toNat,by congr 1; omega,by omega⟩ (c'.fdiv 4 % 4) (Int.emod_nonneg _ (by decide)) (Int.emod_lt_of_pos _ (by decide))
   refine aC3 g6 et ?_
   have hG6:=t6 _ _ (t5 _ _ (t4 _ _ (t3 _ _ (t2 _ _ (t1 _ _ hG)))))
   walk_at "go"
   rw [show (k:Int) - 1 - ((k:Int) - 1 - (b:Int))=(b:Int) by omega]
   walk_at "go"
   refine aQk h26 (aOi b (by omega)) ?_
   walk_at "go"
   obtain ⟨u,hu,eu⟩:∃ u,u∈[u0,u1,u2,u3,u4,u5,u6,u7]/\atI [.str u0,.str u1,.str u2,.str u3,.str u4,.str u5,.str u6,.str u7] (5+(0+(i:Int)))=some (V.str u):=by
    have:i=0∨i=1∨i=2:=by omega
    rcases this with rfl | rfl | rfl
    ·exact ⟨u5,by simp,rfl⟩
    ·exact ⟨u6,by simp,rfl⟩
    ·exact ⟨u7,by simp,rfl⟩
   refine aC3 hln6 eu ?_
   walk_at "go"
   refine aBi fun p7 hp7=>?_
   have t7:=aAn.new (o:=.tup [.str "put",.str ⟨#[97+b]⟩,.str u,.ref pe]) hp7
   have g7:=aAe (H:=J6) (a:=p7) (o:=.tup [.str "put",.str ⟨#[97+b]⟩,.str u,.ref pe])
   generalize L2.upd J6 p7 (.tup [.str "put",.str ⟨#[97+b]⟩,.str u,.ref pe])=J7 at t7 g7 ⊢
   have t67:=t6.trans t7
   have tt:=(((t1.trans t2).trans t3).trans t4).trans (t5.trans t67)
   walk_at "go"
   have hG7:=tt _ _ hG
   have hyl:=Paired.length pr
   refine aOv hG7 (by omega) ?_
   have tk8:=TK.lst (o:=.lst (ys++[.ref p7])) hG7
   walk_at "go"
   have rq:aBz (L2.upd J7 l0 (.lst (ys++[.ref p7]))) (.ref p7) (.put (ltr b) u as):=⟨p7,pe,rfl,tk8 _ _ g7,tk8 _ _ (t67 _ _ ge)⟩
   refine ⟨c'.fdiv 256,ys++[.ref p7],rs++[.put (ltr b) u as],_,_,_,rfl,aR9 hc4 (by decide),(kp.trans tt.kp).trans Kp.upd,aAe,Pd.snoc (Pd.imp pr fun v r f=>(aBz.tk f tt.tk).tk tk8) rq,by rw [List.length_append,hrl]; rfl,fun r hr=>?_⟩
   rcases List.mem_append.mp hr with h | h
   ·exact hrs r h
   ·rw [List.mem_singleton.mp h]
    exact ⟨b,u,as,hb,rfl,hU u hu,has,hal⟩
  rintro σ G ⟨c,ys,rs,o4,o5,o6,rfl,hc,kp,hG,pr,hrl,hrs⟩
  have sG:aAn H G:=fun b o h=>kp _ _ (aAh h hl0) h
  have hlnG:=sG _ _ hln
  walk_at "go"
  refine aQk h26 (aOi k (by omega)) ?_
  walk_at "go"
  refine aBi fun p1 hp1=>?_
  have t1:=aAn.new (o:=.tup [.str u0,.str u1]) hp1
  have h1:=aAe (H:=G) (a:=p1) (o:=.tup [.str u0,.str u1])
  generalize L2.upd G p1 (.tup [.str u0,.str u1])=J1 at t1 h1 ⊢
  walk_at "go"
  refine ⟨l0,_,rfl,.inl ⟨SqL.of (t1 _ _ hG),fun p2 hp2=>?_⟩⟩
  have t2:=aAn.new (o:=.tup ys) hp2
  have h2:=aAe (H:=J1) (a:=p2) (o:=.tup ys)
  generalize L2.upd J1 p2 (.tup ys)=J2 at t2 h2 ⊢
  walk_at "go"
  refine aBi fun p3 hp3=>?_
  have t3:=aAn.new (o:=.tup [.str "piece",.str ⟨#[97+k]⟩,.ref p1,.ref p2]) hp3
  walk_at "go"
  have t23:=t2.trans t3
  refine q _ _ (ltr k,[u0,u1],rs) (sG.trans (t1.trans t23)) ⟨p3,p1,p2,ys,rfl,aAe,t23 _ _ h1,t3 _ _ h2,Pd.imp pr fun v r f=>aBz.tk f (t1.trans t23).tk⟩ rfl rfl (by simp [ne01]) (fun s hs=>hU s (by simp at hs ⊢; rcases hs with h | h <;> simp [h])) (by show 1<=rs.length; omega) (by show rs.length<=3; omega) hrs
set_option maxHeartbeats 0 in
theorem bA6 {f:Addr} {fd:FuncData} (T:Bl mg) (F:Fun K "law" "law" aH6 f fd) (W:XmS mg xt x1 x4 x5) (R_NoNet:XrS K xt x1 x4 x5 x1 1) (R_TooMany:XrS K xt x1 x4 x5 x4 4) (o_text:Okf P w K mg base k "_law_text" ["_law_rows"] (aI8 K)) (o_read_rows:Okf P w K mg base k "read_rows" ["text"] (aF0 K)) (o_told:Okf P w K mg base k "_law_told" ["_law_rows"] (aI5 K)) (o_due:Okf P w K mg base k "_law_due" ["_law_rows"] (aMb K)) (o_row_texts:Okf P w K mg base k "_law_row_texts" ["_law_row_here"] (aJa K)) (o_number:Okf P w K mg base k "_law_number" ["_law_script","_law_k"] (aNp K)) (o_piece:Okf P w K mg base k "_law_piece" ["_law_number_here","_law_k","_law_names_here"] aHd) (o_first:Okf P w K mg base k "_law_first" ["_law_number_here","_law_names_here"] aMa) (o_names:Okf P w K mg base k "_law_names" ["_law_script"] (aHf K)):aNb P w K mg base CX0 (k+1) f fd ["_law_script"] (aTc K):=by
 refine F.ok aFj (fun vs H Q E h=>?_) (fun cdv A outer s H vs Q E hr h=>?_)
 ·obtain ⟨a,ns,rfl,_⟩:=h
  rfl
 ·obtain ⟨a,ns,rfl,hS,h63,q⟩:=h
  refine ⟨_,(@aAc _ _ _ _ _ (@aAs _ _ (i:=1) _ _ _ _ aFj.nd rfl (by first | exact Or.inl rfl | exact Or.inr rfl) (@aAi _ _ _ _ _ _ _ _ _ _ o_names hr rfl (@aAa _ _ _ _ _ (pv 0) (@aAd _) (by rfl)) (by decide) (by rfl) (by rfl)) (by rfl) (by first | exact .inl rfl | exact .inr rfl | assumption)) (@aAc _ _ _ _ _ (@aAs _ _ (i:=2) _ _ _ _ aFj.nd rfl (by first | exact Or.inl rfl | exact Or.inr rfl) (@aAi _ _ _ _ _ _ _ _ _ _ o_number hr rfl (@aAa _ _ _ _ _ (pv 0) (@aAa _ _ _ _ _ (@aAb _ _ _ _) (@aAd _) (by rfl)) (by rfl)) (by decide) (by rfl) (by rfl)) (by rfl) (by first | exact .inl rfl | exact .inr rfl | assumption)) (@aAc _ _ _ _ _ (@aAs _ _ (i:=3) _ _ _ _ aFj.nd rfl (by first | exact Or.inl rfl | exact Or.inr rfl) (@aBw _ _ _ _ (@aAa _ _ _ _ _ (@aAi _ _ _ _ _ _ _ _ _ _ o_first hr rfl (@aAa _ _ _ _ _ (pv 2) (@aAa _ _ _ _ _ (pv 1) (@aAd _) (by rfl)) (by rfl)) (by decide) (by rfl) (by rfl)) (@aAd _) (by rfl))) (by rfl) (by first | exact .inl rfl | exact .inr rfl | assumption)) (@aAc _ _ _ _ _ (@aAs _ _ (i:=4) _ _ _ _ aFj.nd rfl (by first | exact Or.inl rfl | exact Or.inr rfl) (@aAq _ _ _ _ _ _ _ _ aA3 (@aAb _ _ _ _) (@aAq _ _ _ _ _ _ _ _ aBl (@aAi _ _ _ _ _ _ _ _ _ _ o_number hr rfl (@aAa _ _ _ _ _ (pv 0) (@aAa _ _ _ _ _ (@aAb _ _ _ _) (@aAd _) (by rfl)) (by rfl)) (by decide) (by rfl) (by rfl)) (@aAb _ _ _ _))) (by rfl) (by first | exact .inl rfl | exact .inr rfl | assumption)) (@aAc _ _ _ _ _ (@aDz _ _ _ _ _ _ _ _ PassesOwn.never rfl (@aK6 _ _ _ _ _ _ _ rfl T.z_range (@aAa _ _ _ _ _ (@aAb _ _ _ _) (@aAa _ _ _ _ _ (@aAq _ _ _ _ _ _ _ _ aA3 (@aAb _ _ _ _) (pv 4)) (@aAd _) (by rfl)) (by rfl)) (by rfl) (by rfl)) (@aA2 _ _ (i:=5) _ aFj.nd rfl (by first | exact Or.inl rfl | exact Or.inr rfl) (by first | exact .inl rfl | exact .inr rfl | assumption)) (@aAg _ _ _ (@aBc _ _ _ _ _ _ _ _ (@aAr _ _ _ _ _ _ _ _ aTz (@aAl _ _ _ _ _ _ _ _ _ (aVl rfl) rfl T.z_sum aVm (@aAa _ _ _ _ _ (@aDh _ _ _ _ _ _ _ _ _ _ _ _ _ _ (@aCz _ _ (sc:=aAf aH6) (N:=["_law_script","_law_names_here","_law_number_here","_law_rows","_law_many","_law_k","_law_last","_law_j","_law_due_here"]) (tn:=["_law_row_here"]) (names:=[]) (is:=[]) rfl rfl (by decide +kernel) (by decide +kernel) rfl (by decide +kernel) rfl (by decide +kernel) (by decide +kernel) (by decide +kernel)) rfl (@aCm _ _ _ _ (pv 3)) (fun _ _ _ _=>(@aA2 _ _ (i:=0) _ (show (["_law_row_here"]:List Str).Nodup by decide +kernel) rfl (Or.inl rfl) (Or.inr rfl))) (fun _ _ _ _=>(@aAl _ _ _ _ _ _ _ _ _ bB8 rfl T.z_len aB4 (@aAa _ _ _ _ _ (@aAi _ _ _ _ _ _ _ _ _ _ o_row_texts hr rfl (@aAa _ _ _ _ _ (pv 0) (@aAd _) (by rfl)) (by decide) (by rfl) (by rfl)) (@aAd _) (by rfl)) (by decide) (by decide) (by rfl) (by rfl))) (fun _ _ _ _=>(@aCb _)) (by intro _; rfl)) (@aAd _) (by rfl)) (by decide) (by decide) (by rfl) (by rfl)) (@aAb _ _ _ _) (aAw _)) (@aAg _ _ _ (@aB7 _ _ _ _ (@aEf _ _ _ _ _ _ _ _ _ _ _ _ PySem.F.plainAttrs_list PySem.F.slot_list_append PySem.F.type_list_append aDi (pv 3) (@aAa _ _ _ _ _ (@aAi _ _ _ _ _ _ _ _ _ _ o_piece hr rfl (@aAa _ _ _ _ _ (@aAi _ _ _ _ _ _ _ _ _ _ o_number hr rfl (@aAa _ _ _ _ _ (pv 0) (@aAa _ _ _ _ _ (@aAq _ _ _ _ _ _ _ _ aA3 (@aAb _ _ _ _) (pv 5)) (@aAd _) (by rfl)) (by rfl)) (by decide) (by rfl) (by rfl)) (@aAa _ _ _ _ _ (pv 5) (@aAa _ _ _ _ _ (pv 1) (@aAd _) (by rfl)) (by rfl)) (by rfl)) (by decide) (by rfl) (by rfl)) (@aAd _) (by rfl)) (by rfl) (by rfl) (by rfl) (by rfl) (by rfl)) (by rfl))) (@aA0 _))) (by intro _; rfl)) (@aAc _ _ _ _ _ (@aAs _ _ (i:=6) _ _ _ _ aFj.nd rfl (by first | exact Or.inl rfl | exact Or.inr rfl) (@aAj _ _ _ _ _ _ _ aAk (@aAj _ _ _ _ _ _ _ aAk (pv 3) (@pe_un _ _ _ _ _ _ aYl (@aAb _ _ _ _)) (fun _ _=>rfl)) (@aAb _ _ _ _) (fun _ _=>rfl)) (by rfl) (by first | exact .inl rfl | exact .inr rfl | assumption)) (@aAc _ _ _ _ _ (@aDz _ _ _ _ _ _ _ _ PassesOwn.never rfl (@aHr _ _ _ _ _ _ rfl T.z_range (@aAa _ _ _ _ _ (@aAq _ _ _ _ _ _ _ _ aA3 (@aAb _ _ _ _) (@aAq _ _ _ _ _ _ _ _ aBl (@aAq _ _ _ _ _ _ _ _ aBg (pv 2) (@aAb _ _ _ _)) (@aAb _ _ _ _))) (@aAd _) (by rfl)) (by rfl)) (@aA2 _ _ (i:=7) _ aFj.nd rfl (by first | exact Or.inl rfl | exact Or.inr rfl) (by first | exact .inl rfl | exact .inr rfl | assumption)) (@aAg _ _ _ (@aB7 _ _ _ _ (@aEf _ _ _ _ _ _ _ _ _ _ _ _ PySem.F.plainAttrs_list PySem.F.slot_list_append PySem.F.type_list_append aDi (pv 3) (@aAa _ _ _ _ _ (@aBp _ _ _ _ _ (@aAa _ _ _ _ _ (@aAt _ _ _ _) (@aAa _ _ _ _ _ (pv 6) (@aAa _ _ _ _ _ (@aAj _ _ _ _ _ _ _ aAk (pv 1) (pv 7) (fun _ _=>rfl)) (@aAa _ _ _ _ _ (@aBp _ _ _ _ _ (@aAa _ _ _ _ _ (@aAj _ _ _ _ _ _ _ aAk (pv 1) (@aAb _ _ _ _) (fun _ _=>rfl)) (@aAa _ _ _ _ _ (@aAj _ _ _ _ _ _ _ aAk (pv 1) (@aAb _ _ _ _) (fun _ _=>rfl)) (@aAd _) (by rfl)) (by rfl))) (@aAd _) (by rfl)) (by rfl)) (by rfl)) (by rfl))) (@aAd _) (by rfl)) (by rfl) (by rfl) (by rfl) (by rfl) (by rfl)) (by rfl))) (by intro _; rfl)) (@aAc _ _ _ _ _ (@aAs _ _ (i:=8) _ _ _ _ aFj.nd rfl (by first | exact Or.inl rfl | exact Or.inr rfl) (@aAi _ _ _ _ _ _ _ _ _ _ o_due hr rfl (@aAa _ _ _ _ _ (pv 3) (@aAd _) (by rfl)) (by decide) (by rfl) (by rfl)) (by rfl) (by first | exact .inl rfl | exact .inr rfl | assumption)) (@aAc _ _ _ _ _ (@aBc _ _ _ _ _ _ _ _ (@aAr _ _ _ _ _ _ _ _ (aFo hr.units) (@aAi _ _ _ _ _ _ _ _ _ _ o_told hr rfl (@aAa _ _ _ _ _ (pv 3) (@aAd _) (by rfl)) (by decide) (by rfl) (by rfl)) (pv 8) (aAw _)) (@aAg _ _ _ (@aAo _ _ _ _ (@aOz _ _ _ _))) (@aA0 _)) (@aAg _ _ _ (@aAo _ _ _ _ (@aCf _ _ _ _ _ _ _ _ (aA9 hr.units) (@aAi _ _ _ _ _ _ _ _ _ _ o_told hr rfl (@aAa _ _ _ _ _ (@aAi _ _ _ _ _ _ _ _ _ _ o_read_rows hr rfl (@aAa _ _ _ _ _ (@aAi _ _ _ _ _ _ _ _ _ _ o_text hr rfl (@aAa _ _ _ _ _ (pv 3) (@aAd _) (by rfl)) (by decide) (by rfl) (by rfl)) (@aAd _) (by rfl)) (by decide) (by rfl) (by rfl)) (@aAd _) (by rfl)) (by decide) (by rfl) (by rfl)) (pv 8) (aAw _))))))))))))),?_⟩
  try dsimp only [aAz,aA4]
  walk_at "go"
  refine ⟨a,ns,rfl,hS,fun ln G U hln0 sU hln hUl hU hUn=>?_⟩
  have hS1:=sU.seq hS
  walk_at "go"
  refine ⟨a,ns,2,rfl,hS1,by decide,by decide,fun c hc=>?_⟩
  walk_at "go"
  refine ⟨c,ln,U,rfl,hc,hln,hUl,hU,hUn,fun v1 G1 x1 s1 xq1 e1 l1 l1' w1=>?_⟩
  walk_at "go"
  refine aBo fun lr hlr=>?_
  have k0:Kp lr G (L2.upd G1 lr (.lst [v1])):=s1.kp.trans (Kp.new hlr)
  have t0:TK G1 (L2.upd G1 lr (.lst [v1])):=TK.new hlr
  have g0:=aAe (H:=G1) (a:=lr) (o:=.lst [v1])
  generalize L2.upd G1 lr (.lst [v1])=G2 at k0 t0 g0 ⊢
  have hlr0:G lr=none:=s1.free hlr
  have sm:∀ {G':Hp},Kp lr G G'->aAn G G':=fun k b o h=>k _ _ (aAh h hlr0) h
  have nst0:aS3 G2 lr [.piece x1] [x1] 1:=⟨⟨_,g0,.cons (aGt.tk (r:=.piece x1) xq1 t0) .nil⟩,⟨w1,trivial⟩,rfl,fun b hb=>⟨x1,by simp,by rw [e1,show b=0 by omega],l1⟩,fun p hp=>⟨0,by decide,by rw [List.mem_singleton.mp hp]; exact e1⟩,[],x1,rfl,by simp,l1⟩
  have hS2:=(sm k0).seq hS1
  walk_at "go"
  refine ⟨a,ns,3,rfl,hS2,by decide,by decide,fun c3 hc3=>?_⟩
  walk_at "go"
  obtain ⟨m,hm,em⟩:∃ m:Nat,m<=24/\(1+(1+c3 % 24) - 1).toNat=m:=⟨_,by omega,rfl⟩
  refine aQi (by omega) (by omega) (by omega) (by omega) ?_
  rw [em]
  have ln1:lnN [.piece x1]<=54:=by show 0+x1.2.2.length+2<=54; omega
  refine aNw (n:=m) (fun i σ G'=>∃ (o5:Option V) (gs:List aDc) (E:List aAu) (n:Nat),σ=[some (.ref a),some (.ref ln),some (.int c),some (.ref lr),some (.int (1+c3 % 24)),o5,none,none,none]/\Kp lr G G'/\aS3 G' lr gs E n/\lnN gs<=54/\(n=i+1∨50<=lnN gs)) ⟨_,_,_,_,rfl,k0,nst0,ln1,.inl rfl⟩ ?_ ?_
  ·rintro i σ G3 hi ⟨o5,gs,E,n,rfl,k3,nst,hln3,hn⟩
   obtain ⟨xs,hxs,px⟩:=nst.gq
   have hxl:=Paired.length px
   have hgl:=aPa gs
   walk_at "go"
   refine aCk (SqL.of hxs) ?_
   refine aE3 (xs:=xs) (by omega) (fun acc j ws G'=>Kp acc G3 G'/\ws=((gs.take j).map fun g=>((aAx g).length:Int)).map V.int) ?_ ?_ ?_ ?_
   ·intro acc h0
    exact ⟨Kp.new h0,rfl⟩
   ·rintro acc j ws G' h0 hj ⟨kp',_⟩
    exact SqL.of (kp' _ _ (aAh hxs h0) hxs)
   ·rintro acc j ws G' x' h0 hx' hwl hG' ⟨kp',rfl⟩
    obtain ⟨g,hg0,gq⟩:=Paired.at px hx'
    obtain ⟨E',hE',hW'⟩:=aPp (E:=[]) trivial nst.wf hg0
    have sG':aAn G3 G':=fun b o h=>kp' _ _ (aAh h h0) h
    walk_at "go"
    refine ⟨_,g,E',rfl,gq.tk sG'.tk,hW',hE',fun l4 G4 hl4 s4 g4=>?_⟩
    refine aU5 g4 ?_
    rw [List.length_map]
    refine aD9 (by have:=(List.getElem?_eq_some_iff.mp hx').1; exact this) hwl (s4 _ _ hG') ⟨(kp'.trans s4.kp).trans Kp.upd,?_⟩
    rw [List.take_add_one,hg0,List.map_append,List.map_append]
    rfl
   rintro acc ws G4 h0 hG4 hwl ⟨kp',rfl⟩
   rw [hxl,List.take_length] at hG4
   have s4:aAn G3 G4:=fun b o h=>kp' _ _ (aAh h h0) h
   have esum:=aUy gs
   walk_at "go"
   refine ⟨acc,_,rfl,SqL.of hG4,fun n hn=>?_,?_,?_⟩
   ·obtain ⟨r,_,rfl⟩:=List.mem_map.mp hn
    exact Int.natCast_nonneg _
   ·rw [esum]
    omega
   rw [esum]
   have k4:=k3.trans s4.kp
   walk_at "go"
   refine i_d (fun c1=>?_) (fun c1=>?_)
   ·obtain rfl:n=i+1:=by omega
    have hx4:=s4 _ _ hxs
    walk_at "go"
    refine ⟨a,ns,_,rfl,(sm k4).seq hS1,by omega,by omega,fun c5 hc5=>?_⟩
    walk_at "go"
    refine ⟨c5,i+1,ln,U,by rw [show ((i+1:Nat):Int)=1+(i:Int) by omega],hc5,by omega,by omega,sm k4 _ _ hln,hUl,hU,hUn,fun v5 G5 x s5 xq e1 e2 e3 e4 l1 l3 ok=>?_⟩
    have wx:=nst.wfp (by omega) e1 e2 e3 e4 l1 l3 ok
    walk_at "go"
    have hx5:=s5 _ _ hx4
    refine aOv hx5 (by omega) ?_
    have tk6:=TK.lst (o:=.lst (xs++[v5])) hx5
    walk_at "go"
    have tk7:=(s4.trans s5).tk.trans tk6
    refine ⟨_,gs++[.piece x],x::E,i+2,rfl,(k4.trans s5.kp).trans Kp.upd,nst.snoc wx e1 e2 ⟨_,aAe,Pd.snoc (Pd.imp px fun v b f=>f.tk tk7) (aGt.tk (r:=.piece x) xq tk6)⟩,?_,.inl rfl⟩
    rw [aJ3]
    show lnN gs+(0+x.2.2.length+2)<=54
    omega
   ·walk_at "go"
    exact ⟨_,gs,E,n,rfl,k4,nst.sm s4,hln3,.inr (by omega)⟩
  rintro σ G3 ⟨o5,gs,E,n,rfl,k3,nst,hln3,hn⟩
  obtain ⟨xs,hxs,px⟩:=nst.gq
  have hxl:=Paired.length px
  obtain ⟨gs',p,egs,hp,hp2'⟩:=nst.la
  obtain ⟨v,hv,vq⟩:=Pd.get px (i:=gs'.length) (b:=.piece p) (by rw [egs]; simp)
  obtain ⟨pv,q',z',ys,rfl,hpv,_⟩:=(show aDm G3 v p from vq)
  have hlnG:=sm k3 _ _ hln
  walk_at "go"
  refine aC3 hxs (bCe hv (by rw [hxl,egs]; simp)) ?_
  walk_at "go"
  obtain ⟨m2,hm2,em2⟩:∃ m:Nat,m<=3/\(1+c.fdiv 100 % 3).toNat=m:=⟨_,by omega,rfl⟩
  refine aQj (by omega) (by omega) ?_
  rw [em2]
  have tk0:TK G G3:=(sm k3).tk
  obtain ⟨u0,u1,u2,u3,u4,u5,u6,u7,rfl⟩:=aXs hUl
  replace hlnG:G3 ln=some (.lst [.str u0,.str u1,.str u2,.str u3,.str u4,.str u5,.str u6,.str u7]):=hlnG
  replace hln:G ln=some (.lst [.str u0,.str u1,.str u2,.str u3,.str u4,.str u5,.str u6,.str u7]):=hln
  refine aNw (n:=m2) (fun i σ G'=>∃ (o7:Option V) (gs:List aDc),σ=[some (.ref a),some (.ref ln),some (.int c),some (.ref lr),some (.int (1+c3 % 24)),o5,some (.str p.1),o7,none]/\Kp lr G G'/\GsQ G' lr gs/\WfG [] gs/\aGi [] gs=E/\gs≠[]/\lnN gs<=54+i) ⟨_,gs,rfl,k3,nst.gq,nst.wf,nst.env,by rw [egs]; simp,hln3⟩ ?_ ?_
  ·rintro i σ G4 hi ⟨o7,gs,rfl,k4,⟨xs,hxs,px⟩,wf4,env4,_,ln4⟩
   have hl4:=sm k4 _ _ hln
   have hxl:=Paired.length px
   have hgl:=aPa gs
   obtain ⟨u,hu,eu⟩:∃ u,u∈[u0,u1,u2,u3,u4,u5,u6,u7]/\atI [.str u0,.str u1,.str u2,.str u3,.str u4,.str u5,.str u6,.str u7] (0+(i:Int))=some (V.str u):=by
    have:i=0∨i=1∨i=2:=by omega
    rcases this with rfl | rfl | rfl
    ·exact ⟨u0,by simp,rfl⟩
    ·exact ⟨u1,by simp,rfl⟩
    ·exact ⟨u2,by simp,rfl⟩
   walk_at "go"
   refine aC3 hl4 eu ?_
   walk_at "go"
   refine aBi fun p1 hp1=>?_
   have t1:=aAn.new (o:=.tup [.str u6,.str u7]) hp1
   have h1:=aAe (H:=G4) (a:=p1) (o:=.tup [.str u6,.str u7])
   generalize L2.upd G4 p1 (.tup [.str u6,.str u7])=J1 at t1 h1 ⊢
   walk_at "go"
   refine aBi fun p2 hp2=>?_
   have t2:=aAn.new (o:=.tup [.str "put",.str p.1,.str u,.ref p1]) hp2
   have h2:=aAe (H:=J1) (a:=p2) (o:=.tup [.str "put",.str p.1,.str u,.ref p1])
   generalize L2.upd J1 p2 (.tup [.str "put",.str p.1,.str u,.ref p1])=J2 at t2 h2 ⊢
   have t12:=t1.trans t2
   walk_at "go"
   have hx2:=t12 _ _ hxs
   refine aOv hx2 (by omega) ?_
   have tk3:=TK.lst (o:=.lst (xs++[.ref p2])) hx2
   walk_at "go"
   have rq:aGt (L2.upd J2 lr (.lst (xs++[.ref p2]))) (.ref p2) (.one (.put p.1 u [u6,u7])):=⟨p2,p1,rfl,tk3 _ _ h2,tk3 _ _ (t2 _ _ h1)⟩
   have wt:WfT E (.put p.1 u [u6,u7]):=⟨hU u hu,fun s hs=>aE4.part (hU s (by simp at hs ⊢; rcases hs with h | h <;> simp [h])),(show 1<=2/\2<=8 by decide),p,hp,rfl,hp2'⟩
   refine ⟨_,gs++[.one (.put p.1 u [u6,u7])],rfl,(k4.trans t12.kp).trans Kp.upd,⟨_,aAe,Pd.snoc (Pd.imp px fun v b f=>f.tk (t12.tk.trans tk3)) rq⟩,(aGu _ _ _).mpr ⟨wf4,by rw [env4]; exact ⟨wt,trivial⟩⟩,by rw [aG4,env4]; rfl,by simp,?_⟩
   rw [aJ3]
   show lnN gs+1<=_
   omega
  rintro σ G4 ⟨o7,gs4,rfl,k4,rows,wf4,env4,hne,ln4⟩
  have hb:aGc gs4:=⟨wf4,by have:=aPa gs4; omega,by omega⟩
  have hcap:=(aLd hb hb.ln).2
  clear nst px hxs xs hxl egs hv vq hpv
  walk_at "go"
  refine ⟨lr,gs4,rfl,rows,hb,fun vd G5 s5 dv=>?_⟩
  walk_at "go"
  refine ⟨lr,gs4,rfl,rows.sm s5,hb,fun v6 G6 s6 d6=>?_⟩
  walk_at "go"
  refine n_dvn d6 (dv.sm s6) ?_
  walk_at "go"
  refine ⟨lr,gs4,rfl,rows.sm (s5.trans s6),hb,hb.ln,fun G7 s7=>?_⟩
  walk_at "go"
  refine ⟨gs4,rfl,hne,hb,hb.ln,hcap,fun lf G8 hlf s8 fq=>?_⟩
  walk_at "go"
  refine ⟨lf,gs4,rfl,fq,hb,fun v9 G9 s9 d9=>?_⟩
  walk_at "go"
  refine e_dvn d9 (dv.sm ((s6.trans s7).trans (s8.trans s9))) ?_
  exact q _
end
set_option maxHeartbeats 0 in
theorem all_mk {l:PySem.W.OpenLaw} {w:World} {K:PySem.W.Frag} {h:Heap} {mg:Str->Option Value} {fa:Addr} (X:K.In h) (G:h.Ns mainGlobals mg) (hfa:mg "law"=some (.ref fa)) {f0:Addr} {oc0:Value} {od0 an0:Option Addr} {sl0:Array (Option Value)} {kV0 dc0 pm0 cd0 ct0:Value} {f1:Addr} {oc1:Value} {od1 an1:Option Addr} {sl1:Array (Option Value)} {kV1 dc1 pm1 cd1 ct1:Value} {f2:Addr} {oc2:Value} {od2 an2:Option Addr} {sl2:Array (Option Value)} {kV2 dc2 pm2 cd2 ct2:Value} {f3:Addr} {oc3:Value} {od3 an3:Option Addr} {sl3:Array (Option Value)} {kV3 dc3 pm3 cd3 ct3:Value} {f4:Addr} {oc4:Value} {od4 an4:Option Addr} {sl4:Array (Option Value)} {kV4 dc4 pm4 cd4 ct4:Value} {f5:Addr} {oc5:Value} {od5 an5:Option Addr} {sl5:Array (Option Value)} {kV5 dc5 pm5 cd5 ct5:Value} {f6:Addr} {oc6:Value} {od6 an6:Option Addr} {sl6:Array (Option Value)} {kV6 dc6 pm6 cd6 ct6:Value} {f7:Addr} {oc7:Value} {od7 an7:Option Addr} {sl7:Array (Option Value)} {kV7 dc7 pm7 cd7 ct7:Value} {f8:Addr} {oc8:Value} {od8 an8:Option Addr} {sl8:Array (Option Value)} {kV8 dc8 pm8 cd8 ct8:Value} {f9:Addr} {oc9:Value} {od9 an9:Option Addr} {sl9:Array (Option Value)} {kV9 dc9 pm9 cd9 ct9:Value} {f10:Addr} {oc10:Value} {od10 an10:Option Addr} {sl10:Array (Option Value)} {kV10 dc10 pm10 cd10 ct10:Value} {f11:Addr} {oc11:Value} {od11 an11:Option Addr} {sl11:Array (Option Value)} {kV11 dc11 pm11 cd11 ct11:Value} {f12:Addr} {oc12:Value} {od12 an12:Option Addr} {sl12:Array (Option Value)} {kV12 dc12 pm12 cd12 ct12:Value} {f13:Addr} {oc13:Value} {od13 an13:Option Addr} {sl13:Array (Option Value)} {kV13 dc13 pm13 cd13 ct13:Value} {f14:Addr} {oc14:Value} {od14 an14:Option Addr} {sl14:Array (Option Value)} {kV14 dc14 pm14 cd14 ct14:Value} {f15:Addr} {oc15:Value} {od15 an15:Option Addr} {sl15:Array (Option Value)} {kV15 dc15 pm15 cd15 ct15:Value} {f16:Addr} {oc16:Value} {od16 an16:Option Addr} {sl16:Array (Option Value)} {kV16 dc16 pm16 cd16 ct16:Value} {f17:Addr} {oc17:Value} {od17 an17:Option Addr} {sl17:Array (Option Value)} {kV17 dc17 pm17 cd17 ct17:Value} {f18:Addr} {oc18:Value} {od18 an18:Option Addr} {sl18:Array (Option Value)} {kV18 dc18 pm18 cd18 ct18:Value} {f19:Addr} {oc19:Value} {od19 an19:Option Addr} {sl19:Array (Option Value)} {kV19 dc19 pm19 cd19 ct19:Value} {f20:Addr} {oc20:Value} {od20 an20:Option Addr} {sl20:Array (Option Value)} {kV20 dc20 pm20 cd20 ct20:Value} {f21:Addr} {oc21:Value} {od21 an21:Option Addr} {sl21:Array (Option Value)} {kV21 dc21 pm21 cd21 ct21:Value} {f22:Addr} {oc22:Value} {od22 an22:Option Addr} {sl22:Array (Option Value)} {kV22 dc22 pm22 cd22 ct22:Value} {f23:Addr} {oc23:Value} {od23 an23:Option Addr} {sl23:Array (Option Value)} {kV23 dc23 pm23 cd23 ct23:Value} {f24:Addr} {oc24:Value} {od24 an24:Option Addr} {sl24:Array (Option Value)} {kV24 dc24 pm24 cd24 ct24:Value} {f25:Addr} {oc25:Value} {od25 an25:Option Addr} {sl25:Array (Option Value)} {kV25 dc25 pm25 cd25 ct25:Value} {f26:Addr} {oc26:Value} {od26 an26:Option Addr} {sl26:Array (Option Value)} {kV26 dc26 pm26 cd26 ct26:Value} {f27:Addr} {oc27:Value} {od27 an27:Option Addr} {sl27:Array (Option Value)} {kV27 dc27 pm27 cd27 ct27:Value} {f28:Addr} {oc28:Value} {od28 an28:Option Addr} {sl28:Array (Option Value)} {kV28 dc28 pm28 cd28 ct28:Value} {f29:Addr} {oc29:Value} {od29 an29:Option Addr} {sl29:Array (Option Value)} {kV29 dc29 pm29 cd29 ct29:Value} {f30:Addr} {oc30:Value} {od30 an30:Option Addr} {sl30:Array (Option Value)} {kV30 dc30 pm30 cd30 ct30:Value} {f31:Addr} {oc31:Value} {od31 an31:Option Addr} {sl31:Array (Option Value)} {kV31 dc31 pm31 cd31 ct31:Value} {f32:Addr} {oc32:Value} {od32 an32:Option Addr} {sl32:Array (Option Value)} {kV32 dc32 pm32 cd32 ct32:Value} {f33:Addr} {oc33:Value} {od33 an33:Option Addr} {sl33:Array (Option Value)} {kV33 dc33 pm33 cd33 ct33:Value} {f34:Addr} {oc34:Value} {od34 an34:Option Addr} {sl34:Array (Option Value)} {kV34 dc34 pm34 cd34 ct34:Value} {f35:Addr} {oc35:Value} {od35 an35:Option Addr} {sl35:Array (Option Value)} {kV35 dc35 pm35 cd35 ct35:Value} {f36:Addr} {oc36:Value} {od36 an36:Option Addr} {sl36:Array (Option Value)} {kV36 dc36 pm36 cd36 ct36:Value} {f37:Addr} {oc37:Value} {od37 an37:Option Addr} {sl37:Array (Option Value)} {kV37 dc37 pm37 cd37 ct37:Value} {f38:Addr} {oc38:Value} {od38 an38:Option Addr} {sl38:Array (Option Value)} {kV38 dc38 pm38 cd38 ct38:Value} {f39:Addr} {oc39:Value} {od39 an39:Option Addr} {sl39:Array (Option Value)} {kV39 dc39 pm39 cd39 ct39:Value} {f40:Addr} {oc40:Value} {od40 an40:Option Addr} {sl40:Array (Option Value)} {kV40 dc40 pm40 cd40 ct40:Value} {f41:Addr} {oc41:Value} {od41 an41:Option Addr} {sl41:Array (Option Value)} {kV41 dc41 pm41 cd41 ct41:Value} {xt x1 x4 x5:Addr} {cd_NoNet:ClassData} {cd_TooMany:ClassData} {tk_LETTERS:Tok} {tk_MOST_LETTERS:Tok} {tk_MOST_PARTS:Tok} {tk_MOST_RUNS:Tok} {tk_FIGURES:Tok} {tk_MOST_FIGURES:Tok} {tk_MOST_PARAMS:Tok} {tk_MOST_ROWS:Tok} {ad_FEWEST_POSTS:Addr} {ep_FEWEST_POSTS:Nat} {h0_FEWEST_POSTS:Int} {t0_FEWEST_POSTS u0_FEWEST_POSTS:Tok} {h1_FEWEST_POSTS:Int} {t1_FEWEST_POSTS u1_FEWEST_POSTS:Tok} {h2_FEWEST_POSTS:Int} {t2_FEWEST_POSTS u2_FEWEST_POSTS:Tok}
  (a0:PySem.W.nsIn K mainGlobals "is_whole"=some (some (.ref f0))) (l0:K.lookup f0=some ⟨oc0,od0,.func (PySem.W.fnOf "is_whole" "is_whole" (aAp aC9) (aAm aC9) (aAf aC9) .none kV0 dc0 pm0 an0 cd0 ct0),sl0⟩) (c0:PySem.W.codeIn K cd0 "is_whole"=true) (k0:PySem.W.keepIn K (.ref f0)=true)
  (a1:PySem.W.nsIn K mainGlobals "common_divisor"=some (some (.ref f1))) (l1:K.lookup f1=some ⟨oc1,od1,.func (PySem.W.fnOf "common_divisor" "common_divisor" (aAp aBd) (aAm aBd) (aAf aBd) .none kV1 dc1 pm1 an1 cd1 ct1),sl1⟩) (c1:PySem.W.codeIn K cd1 "common_divisor"=true) (k1:PySem.W.keepIn K (.ref f1)=true)
  (a2:PySem.W.nsIn K mainGlobals "is_fraction"=some (some (.ref f2))) (l2:K.lookup f2=some ⟨oc2,od2,.func (PySem.W.fnOf "is_fraction" "is_fraction" (aAp aB2) (aAm aB2) (aAf aB2) .none kV2 dc2 pm2 an2 cd2 ct2),sl2⟩) (c2:PySem.W.codeIn K cd2 "is_fraction"=true) (k2:PySem.W.keepIn K (.ref f2)=true)
  (a3:PySem.W.nsIn K mainGlobals "is_less"=some (some (.ref f3))) (l3:K.lookup f3=some ⟨oc3,od3,.func (PySem.W.fnOf "is_less" "is_less" (aAp aDx) (aAm aDx) (aAf aDx) .none kV3 dc3 pm3 an3 cd3 ct3),sl3⟩) (c3:PySem.W.codeIn K cd3 "is_less"=true) (k3:PySem.W.keepIn K (.ref f3)=true)
  (a4:PySem.W.nsIn K mainGlobals "is_part"=some (some (.ref f4))) (l4:K.lookup f4=some ⟨oc4,od4,.func (PySem.W.fnOf "is_part" "is_part" (aAp aDf) (aAm aDf) (aAf aDf) .none kV4 dc4 pm4 an4 cd4 ct4),sl4⟩) (c4:PySem.W.codeIn K cd4 "is_part"=true) (k4:PySem.W.keepIn K (.ref f4)=true)
  (a5:PySem.W.nsIn K mainGlobals "is_post"=some (some (.ref f5))) (l5:K.lookup f5=some ⟨oc5,od5,.func (PySem.W.fnOf "is_post" "is_post" (aAp aDe) (aAm aDe) (aAf aDe) .none kV5 dc5 pm5 an5 cd5 ct5),sl5⟩) (c5:PySem.W.codeIn K cd5 "is_post"=true) (k5:PySem.W.keepIn K (.ref f5)=true)
  (a6:PySem.W.nsIn K mainGlobals "is_run"=some (some (.ref f6))) (l6:K.lookup f6=some ⟨oc6,od6,.func (PySem.W.fnOf "is_run" "is_run" (aAp aEr) (aAm aEr) (aAf aEr) .none kV6 dc6 pm6 an6 cd6 ct6),sl6⟩) (c6:PySem.W.codeIn K cd6 "is_run"=true) (k6:PySem.W.keepIn K (.ref f6)=true)
  (a7:PySem.W.nsIn K mainGlobals "net_of"=some (some (.ref f7))) (l7:K.lookup f7=some ⟨oc7,od7,.func (PySem.W.fnOf "net_of" "net_of" (aAp aEp) (aAm aEp) (aAf aEp) .none kV7 dc7 pm7 an7 cd7 ct7),sl7⟩) (c7:PySem.W.codeIn K cd7 "net_of"=true) (k7:PySem.W.keepIn K (.ref f7)=true)
  (a8:PySem.W.nsIn K mainGlobals "count_in"=some (some (.ref f8))) (l8:K.lookup f8=some ⟨oc8,od8,.func (PySem.W.fnOf "count_in" "count_in" (aAp aDa) (aAm aDa) (aAf aDa) .none kV8 dc8 pm8 an8 cd8 ct8),sl8⟩) (c8:PySem.W.codeIn K cd8 "count_in"=true) (k8:PySem.W.keepIn K (.ref f8)=true)
  (a9:PySem.W.nsIn K mainGlobals "counted"=some (some (.ref f9))) (l9:K.lookup f9=some ⟨oc9,od9,.func (PySem.W.fnOf "counted" "counted" (aAp aDg) (aAm aDg) (aAf aDg) .none kV9 dc9 pm9 an9 cd9 ct9),sl9⟩) (c9:PySem.W.codeIn K cd9 "counted"=true) (k9:PySem.W.keepIn K (.ref f9)=true)
  (a10:PySem.W.nsIn K mainGlobals "name_put"=some (some (.ref f10))) (l10:K.lookup f10=some ⟨oc10,od10,.func (PySem.W.fnOf "name_put" "name_put" (aAp aC8) (aAm aC8) (aAf aC8) .none kV10 dc10 pm10 an10 cd10 ct10),sl10⟩) (c10:PySem.W.codeIn K cd10 "name_put"=true) (k10:PySem.W.keepIn K (.ref f10)=true)
  (a11:PySem.W.nsIn K mainGlobals "runs_of"=some (some (.ref f11))) (l11:K.lookup f11=some ⟨oc11,od11,.func (PySem.W.fnOf "runs_of" "runs_of" (aAp aDw) (aAm aDw) (aAf aDw) .none kV11 dc11 pm11 an11 cd11 ct11),sl11⟩) (c11:PySem.W.codeIn K cd11 "runs_of"=true) (k11:PySem.W.keepIn K (.ref f11)=true)
  (a12:PySem.W.nsIn K mainGlobals "runs_put"=some (some (.ref f12))) (l12:K.lookup f12=some ⟨oc12,od12,.func (PySem.W.fnOf "runs_put" "runs_put" (aAp aCr) (aAm aCr) (aAf aCr) .none kV12 dc12 pm12 an12 cd12 ct12),sl12⟩) (c12:PySem.W.codeIn K cd12 "runs_put"=true) (k12:PySem.W.keepIn K (.ref f12)=true)
  (a13:PySem.W.nsIn K mainGlobals "opened"=some (some (.ref f13))) (l13:K.lookup f13=some ⟨oc13,od13,.func (PySem.W.fnOf "opened" "opened" (aAp aEn) (aAm aEn) (aAf aEn) .none kV13 dc13 pm13 an13 cd13 ct13),sl13⟩) (c13:PySem.W.codeIn K cd13 "opened"=true) (k13:PySem.W.keepIn K (.ref f13)=true)
  (a14:PySem.W.nsIn K mainGlobals "is_written"=some (some (.ref f14))) (l14:K.lookup f14=some ⟨oc14,od14,.func (PySem.W.fnOf "is_written" "is_written" (aAp aBy) (aAm aBy) (aAf aBy) .none kV14 dc14 pm14 an14 cd14 ct14),sl14⟩) (c14:PySem.W.codeIn K cd14 "is_written"=true) (k14:PySem.W.keepIn K (.ref f14)=true)
  (a15:PySem.W.nsIn K mainGlobals "read_time"=some (some (.ref f15))) (l15:K.lookup f15=some ⟨oc15,od15,.func (PySem.W.fnOf "read_time" "read_time" (aAp aCd) (aAm aCd) (aAf aCd) .none kV15 dc15 pm15 an15 cd15 ct15),sl15⟩) (c15:PySem.W.codeIn K cd15 "read_time"=true) (k15:PySem.W.keepIn K (.ref f15)=true)
  (a16:PySem.W.nsIn K mainGlobals "refuse_unless"=some (some (.ref f16))) (l16:K.lookup f16=some ⟨oc16,od16,.func (PySem.W.fnOf "refuse_unless" "refuse_unless" (aAp aBh) (aAm aBh) (aAf aBh) .none kV16 dc16 pm16 an16 cd16 ct16),sl16⟩) (c16:PySem.W.codeIn K cd16 "refuse_unless"=true) (k16:PySem.W.keepIn K (.ref f16)=true)
  (a17:PySem.W.nsIn K mainGlobals "posts_in"=some (some (.ref f17))) (l17:K.lookup f17=some ⟨oc17,od17,.func (PySem.W.fnOf "posts_in" "posts_in" (aAp aCu) (aAm aCu) (aAf aCu) .none kV17 dc17 pm17 an17 cd17 ct17),sl17⟩) (c17:PySem.W.codeIn K cd17 "posts_in"=true) (k17:PySem.W.keepIn K (.ref f17)=true)
  (a18:PySem.W.nsIn K mainGlobals "time_in"=some (some (.ref f18))) (l18:K.lookup f18=some ⟨oc18,od18,.func (PySem.W.fnOf "time_in" "time_in" (aAp aDv) (aAm aDv) (aAf aDv) .none kV18 dc18 pm18 an18 cd18 ct18),sl18⟩) (c18:PySem.W.codeIn K cd18 "time_in"=true) (k18:PySem.W.keepIn K (.ref f18)=true)
  (a19:PySem.W.nsIn K mainGlobals "run_in"=some (some (.ref f19))) (l19:K.lookup f19=some ⟨oc19,od19,.func (PySem.W.fnOf "run_in" "run_in" (aAp aEl) (aAm aEl) (aAf aEl) .none kV19 dc19 pm19 an19 cd19 ct19),sl19⟩) (c19:PySem.W.codeIn K cd19 "run_in"=true) (k19:PySem.W.keepIn K (.ref f19)=true)
  (a20:PySem.W.nsIn K mainGlobals "put_in"=some (some (.ref f20))) (l20:K.lookup f20=some ⟨oc20,od20,.func (PySem.W.fnOf "put_in" "put_in" (aAp aEm) (aAm aEm) (aAf aEm) .none kV20 dc20 pm20 an20 cd20 ct20),sl20⟩) (c20:PySem.W.codeIn K cd20 "put_in"=true) (k20:PySem.W.keepIn K (.ref f20)=true)
  (a21:PySem.W.nsIn K mainGlobals "plain_row_in"=some (some (.ref f21))) (l21:K.lookup f21=some ⟨oc21,od21,.func (PySem.W.fnOf "plain_row_in" "plain_row_in" (aAp aBs) (aAm aBs) (aAf aBs) .none kV21 dc21 pm21 an21 cd21 ct21),sl21⟩) (c21:PySem.W.codeIn K cd21 "plain_row_in"=true) (k21:PySem.W.keepIn K (.ref f21)=true)
  (a22:PySem.W.nsIn K mainGlobals "piece_in"=some (some (.ref f22))) (l22:K.lookup f22=some ⟨oc22,od22,.func (PySem.W.fnOf "piece_in" "piece_in" (aAp aCh) (aAm aCh) (aAf aCh) .none kV22 dc22 pm22 an22 cd22 ct22),sl22⟩) (c22:PySem.W.codeIn K cd22 "piece_in"=true) (k22:PySem.W.keepIn K (.ref f22)=true)
  (a23:PySem.W.nsIn K mainGlobals "end_behind"=some (some (.ref f23))) (l23:K.lookup f23=some ⟨oc23,od23,.func (PySem.W.fnOf "end_behind" "end_behind" (aAp aCi) (aAm aCi) (aAf aCi) .none kV23 dc23 pm23 an23 cd23 ct23),sl23⟩) (c23:PySem.W.codeIn K cd23 "end_behind"=true) (k23:PySem.W.keepIn K (.ref f23)=true)
  (a24:PySem.W.nsIn K mainGlobals "lines_in"=some (some (.ref f24))) (l24:K.lookup f24=some ⟨oc24,od24,.func (PySem.W.fnOf "lines_in" "lines_in" (aAp aCv) (aAm aCv) (aAf aCv) .none kV24 dc24 pm24 an24 cd24 ct24),sl24⟩) (c24:PySem.W.codeIn K cd24 "lines_in"=true) (k24:PySem.W.keepIn K (.ref f24)=true)
  (a25:PySem.W.nsIn K mainGlobals "read_rows"=some (some (.ref f25))) (l25:K.lookup f25=some ⟨oc25,od25,.func (PySem.W.fnOf "read_rows" "read_rows" (aAp aCt) (aAm aCt) (aAf aCt) .none kV25 dc25 pm25 an25 cd25 ct25),sl25⟩) (c25:PySem.W.codeIn K cd25 "read_rows"=true) (k25:PySem.W.keepIn K (.ref f25)=true)
  (a26:PySem.W.nsIn K mainGlobals "_law_cell_at"=some (some (.ref f26))) (l26:K.lookup f26=some ⟨oc26,od26,.func (PySem.W.fnOf "_law_cell_at" "_law_cell_at" (aAp aDy) (aAm aDy) (aAf aDy) .none kV26 dc26 pm26 an26 cd26 ct26),sl26⟩) (c26:PySem.W.codeIn K cd26 "_law_cell_at"=true) (k26:PySem.W.keepIn K (.ref f26)=true)
  (a27:PySem.W.nsIn K mainGlobals "_law_number"=some (some (.ref f27))) (l27:K.lookup f27=some ⟨oc27,od27,.func (PySem.W.fnOf "_law_number" "_law_number" (aAp aEo) (aAm aEo) (aAf aEo) .none kV27 dc27 pm27 an27 cd27 ct27),sl27⟩) (c27:PySem.W.codeIn K cd27 "_law_number"=true) (k27:PySem.W.keepIn K (.ref f27)=true)
  (a28:PySem.W.nsIn K mainGlobals "_law_lowest"=some (some (.ref f28))) (l28:K.lookup f28=some ⟨oc28,od28,.func (PySem.W.fnOf "_law_lowest" "_law_lowest" (aAp aEq) (aAm aEq) (aAf aEq) .none kV28 dc28 pm28 an28 cd28 ct28),sl28⟩) (c28:PySem.W.codeIn K cd28 "_law_lowest"=true) (k28:PySem.W.keepIn K (.ref f28)=true)
  (a29:PySem.W.nsIn K mainGlobals "_law_names"=some (some (.ref f29))) (l29:K.lookup f29=some ⟨oc29,od29,.func (PySem.W.fnOf "_law_names" "_law_names" (aAp aE2) (aAm aE2) (aAf aE2) .none kV29 dc29 pm29 an29 cd29 ct29),sl29⟩) (c29:PySem.W.codeIn K cd29 "_law_names"=true) (k29:PySem.W.keepIn K (.ref f29)=true)
  (a30:PySem.W.nsIn K mainGlobals "_law_time"=some (some (.ref f30))) (l30:K.lookup f30=some ⟨oc30,od30,.func (PySem.W.fnOf "_law_time" "_law_time" (aAp aIo) (aAm aIo) (aAf aIo) .none kV30 dc30 pm30 an30 cd30 ct30),sl30⟩) (c30:PySem.W.codeIn K cd30 "_law_time"=true) (k30:PySem.W.keepIn K (.ref f30)=true)
  (a31:PySem.W.nsIn K mainGlobals "_law_time_text"=some (some (.ref f31))) (l31:K.lookup f31=some ⟨oc31,od31,.func (PySem.W.fnOf "_law_time_text" "_law_time_text" (aAp aCq) (aAm aCq) (aAf aCq) .none kV31 dc31 pm31 an31 cd31 ct31),sl31⟩) (c31:PySem.W.codeIn K cd31 "_law_time_text"=true) (k31:PySem.W.keepIn K (.ref f31)=true)
  (a32:PySem.W.nsIn K mainGlobals "_law_row_texts"=some (some (.ref f32))) (l32:K.lookup f32=some ⟨oc32,od32,.func (PySem.W.fnOf "_law_row_texts" "_law_row_texts" (aAp aCc) (aAm aCc) (aAf aCc) .none kV32 dc32 pm32 an32 cd32 ct32),sl32⟩) (c32:PySem.W.codeIn K cd32 "_law_row_texts"=true) (k32:PySem.W.keepIn K (.ref f32)=true)
  (a33:PySem.W.nsIn K mainGlobals "_law_text"=some (some (.ref f33))) (l33:K.lookup f33=some ⟨oc33,od33,.func (PySem.W.fnOf "_law_text" "_law_text" (aAp aIp) (aAm aIp) (aAf aIp) .none kV33 dc33 pm33 an33 cd33 ct33),sl33⟩) (c33:PySem.W.codeIn K cd33 "_law_text"=true) (k33:PySem.W.keepIn K (.ref f33)=true)
  (a34:PySem.W.nsIn K mainGlobals "_law_called"=some (some (.ref f34))) (l34:K.lookup f34=some ⟨oc34,od34,.func (PySem.W.fnOf "_law_called" "_law_called" (aAp aEs) (aAm aEs) (aAf aEs) .none kV34 dc34 pm34 an34 cd34 ct34),sl34⟩) (c34:PySem.W.codeIn K cd34 "_law_called"=true) (k34:PySem.W.keepIn K (.ref f34)=true)
  (a35:PySem.W.nsIn K mainGlobals "_law_row_runs"=some (some (.ref f35))) (l35:K.lookup f35=some ⟨oc35,od35,.func (PySem.W.fnOf "_law_row_runs" "_law_row_runs" (aAp aCs) (aAm aCs) (aAf aCs) .none kV35 dc35 pm35 an35 cd35 ct35),sl35⟩) (c35:PySem.W.codeIn K cd35 "_law_row_runs"=true) (k35:PySem.W.keepIn K (.ref f35)=true)
  (a36:PySem.W.nsIn K mainGlobals "_law_runs"=some (some (.ref f36))) (l36:K.lookup f36=some ⟨oc36,od36,.func (PySem.W.fnOf "_law_runs" "_law_runs" (aAp aHn) (aAm aHn) (aAf aHn) .none kV36 dc36 pm36 an36 cd36 ct36),sl36⟩) (c36:PySem.W.codeIn K cd36 "_law_runs"=true) (k36:PySem.W.keepIn K (.ref f36)=true)
  (a37:PySem.W.nsIn K mainGlobals "_law_due"=some (some (.ref f37))) (l37:K.lookup f37=some ⟨oc37,od37,.func (PySem.W.fnOf "_law_due" "_law_due" (aAp aMh) (aAm aMh) (aAf aMh) .none kV37 dc37 pm37 an37 cd37 ct37),sl37⟩) (c37:PySem.W.codeIn K cd37 "_law_due"=true) (k37:PySem.W.keepIn K (.ref f37)=true)
  (a38:PySem.W.nsIn K mainGlobals "_law_told"=some (some (.ref f38))) (l38:K.lookup f38=some ⟨oc38,od38,.func (PySem.W.fnOf "_law_told" "_law_told" (aAp aIn) (aAm aIn) (aAf aIn) .none kV38 dc38 pm38 an38 cd38 ct38),sl38⟩) (c38:PySem.W.codeIn K cd38 "_law_told"=true) (k38:PySem.W.keepIn K (.ref f38)=true)
  (a39:PySem.W.nsIn K mainGlobals "_law_first"=some (some (.ref f39))) (l39:K.lookup f39=some ⟨oc39,od39,.func (PySem.W.fnOf "_law_first" "_law_first" (aAp aF3) (aAm aF3) (aAf aF3) .none kV39 dc39 pm39 an39 cd39 ct39),sl39⟩) (c39:PySem.W.codeIn K cd39 "_law_first"=true) (k39:PySem.W.keepIn K (.ref f39)=true)
  (a40:PySem.W.nsIn K mainGlobals "_law_piece"=some (some (.ref f40))) (l40:K.lookup f40=some ⟨oc40,od40,.func (PySem.W.fnOf "_law_piece" "_law_piece" (aAp aF2) (aAm aF2) (aAf aF2) .none kV40 dc40 pm40 an40 cd40 ct40),sl40⟩) (c40:PySem.W.codeIn K cd40 "_law_piece"=true) (k40:PySem.W.keepIn K (.ref f40)=true)
  (a41:PySem.W.nsIn K mainGlobals "law"=some (some (.ref f41))) (l41:K.lookup f41=some ⟨oc41,od41,.func (PySem.W.fnOf "law" "law" (aAp aH6) (aAm aH6) (aAf aH6) .none kV41 dc41 pm41 an41 cd41 ct41),sl41⟩) (c41:PySem.W.codeIn K cd41 "law"=true) (k41:PySem.W.keepIn K (.ref f41)=true)
  (bT:PySem.W.nsIn K mainGlobals "TileError"=some (some (.ref xt))) (b1:PySem.W.nsIn K mainGlobals "NoNet"=some (some (.ref x1))) (b4:PySem.W.nsIn K mainGlobals "TooMany"=some (some (.ref x4))) (b5:PySem.W.nsIn K mainGlobals "NoText"=some (some (.ref x5))) (zV:PySem.W.nsIn K mainGlobals "ValueError"=some none)
  (ga_NoNet:PySem.W.findIn K (.ref x1) "__getattribute__"=some (some (.builtin "BaseException.__getattribute__"))) (gt_NoNet:PySem.W.findIn K (.ref x1) "__getattr__"=some none) (ca_NoNet:PySem.W.findIn K (.ref x1) "__class__"=some (some (.builtin "object.__class__"))) (ob_NoNet:PySem.W.subIn K (.ref x1) (.type "object")=some true) (be_NoNet:PySem.W.subIn K (.ref x1) (.type "BaseException")=some true) (ic_NoNet:PySem.W.clsIn K x1=some cd_NoNet) (ex_NoNet:PySem.W.excIn K x1 aX2 "ValueError.__new__"=true) (ve_NoNet:PySem.W.kitOne K (.ref x1) (.type "ValueError")=some true) (tt_NoNet:PySem.W.exmOne K (.ref x1) (.ref xt)=some true)
  (k1_NoNet:PySem.W.kitOne K (.ref x1) (.ref x1)=some (Nat.beq 1 1)) (k4_NoNet:PySem.W.kitOne K (.ref x1) (.ref x4)=some (Nat.beq 4 1)) (k5_NoNet:PySem.W.kitOne K (.ref x1) (.ref x5)=some (Nat.beq 5 1))
  (ga_TooMany:PySem.W.findIn K (.ref x4) "__getattribute__"=some (some (.builtin "BaseException.__getattribute__"))) (gt_TooMany:PySem.W.findIn K (.ref x4) "__getattr__"=some none) (ca_TooMany:PySem.W.findIn K (.ref x4) "__class__"=some (some (.builtin "object.__class__"))) (ob_TooMany:PySem.W.subIn K (.ref x4) (.type "object")=some true) (be_TooMany:PySem.W.subIn K (.ref x4) (.type "BaseException")=some true) (ic_TooMany:PySem.W.clsIn K x4=some cd_TooMany) (ex_TooMany:PySem.W.excIn K x4 aX2 "ValueError.__new__"=true) (ve_TooMany:PySem.W.kitOne K (.ref x4) (.type "ValueError")=some true) (tt_TooMany:PySem.W.exmOne K (.ref x4) (.ref xt)=some true)
  (k1_TooMany:PySem.W.kitOne K (.ref x4) (.ref x1)=some (Nat.beq 1 4)) (k4_TooMany:PySem.W.kitOne K (.ref x4) (.ref x4)=some (Nat.beq 4 4)) (k5_TooMany:PySem.W.kitOne K (.ref x4) (.ref x5)=some (Nat.beq 5 4))
  (gl_LETTERS:PySem.W.nsIn K mainGlobals "LETTERS"=some (some (.str "abcdefghijklmnopqrstuvwxyz" tk_LETTERS)))
  (gl_MOST_LETTERS:PySem.W.nsIn K mainGlobals "MOST_LETTERS"=some (some (.int 8 tk_MOST_LETTERS)))
  (gl_MOST_PARTS:PySem.W.nsIn K mainGlobals "MOST_PARTS"=some (some (.int 4 tk_MOST_PARTS)))
  (gl_MOST_RUNS:PySem.W.nsIn K mainGlobals "MOST_RUNS"=some (some (.int 120 tk_MOST_RUNS)))
  (gl_FIGURES:PySem.W.nsIn K mainGlobals "FIGURES"=some (some (.str "0123456789" tk_FIGURES)))
  (gl_MOST_FIGURES:PySem.W.nsIn K mainGlobals "MOST_FIGURES"=some (some (.int 12 tk_MOST_FIGURES)))
  (gl_MOST_PARAMS:PySem.W.nsIn K mainGlobals "MOST_PARAMS"=some (some (.int 8 tk_MOST_PARAMS)))
  (gl_MOST_ROWS:PySem.W.nsIn K mainGlobals "MOST_ROWS"=some (some (.int 60 tk_MOST_ROWS)))
  (gd_FEWEST_POSTS:PySem.W.nsIn K mainGlobals "FEWEST_POSTS"=some (some (.ref ad_FEWEST_POSTS))) (ld_FEWEST_POSTS:K.lookup ad_FEWEST_POSTS=some ⟨.type "dict",none,.dict #[⟨h0_FEWEST_POSTS,.str "row" t0_FEWEST_POSTS,.int 2 u0_FEWEST_POSTS⟩,⟨h1_FEWEST_POSTS,.str "star" t1_FEWEST_POSTS,.int 2 u1_FEWEST_POSTS⟩,⟨h2_FEWEST_POSTS,.str "ring" t2_FEWEST_POSTS,.int 3 u2_FEWEST_POSTS⟩] ep_FEWEST_POSTS,#[]⟩) (e0_FEWEST_POSTS:h0_FEWEST_POSTS=aS1 w (Sum.inr "row")) (e1_FEWEST_POSTS:h1_FEWEST_POSTS=aS1 w (Sum.inr "star")) (e2_FEWEST_POSTS:h2_FEWEST_POSTS=aS1 w (Sum.inr "ring")) (ns_FEWEST_POSTS:(ad_FEWEST_POSTS==sysModules)=false)
  (z_int:PySem.W.nsIn K mainGlobals "int"=some none)
  (z_bool:PySem.W.nsIn K mainGlobals "bool"=some none)
  (z_str:PySem.W.nsIn K mainGlobals "str"=some none)
  (z_list:PySem.W.nsIn K mainGlobals "list"=some none)
  (z_tuple:PySem.W.nsIn K mainGlobals "tuple"=some none)
  (z_dict:PySem.W.nsIn K mainGlobals "dict"=some none)
  (z_set:PySem.W.nsIn K mainGlobals "set"=some none)
  (z_range:PySem.W.nsIn K mainGlobals "range"=some none)
  (z_enumerate:PySem.W.nsIn K mainGlobals "enumerate"=some none)
  (z_zip:PySem.W.nsIn K mainGlobals "zip"=some none)
  (z_reversed:PySem.W.nsIn K mainGlobals "reversed"=some none)
  (z_len:PySem.W.nsIn K mainGlobals "len"=some none)
  (z_abs:PySem.W.nsIn K mainGlobals "abs"=some none)
  (z_max:PySem.W.nsIn K mainGlobals "max"=some none)
  (z_min:PySem.W.nsIn K mainGlobals "min"=some none)
  (z_isinstance:PySem.W.nsIn K mainGlobals "isinstance"=some none)
  (z_sorted:PySem.W.nsIn K mainGlobals "sorted"=some none)
  (z_all:PySem.W.nsIn K mainGlobals "all"=some none)
  (z_any:PySem.W.nsIn K mainGlobals "any"=some none)
  (z_sum:PySem.W.nsIn K mainGlobals "sum"=some none) :
  ∃ fd:FuncData,(∀ (s:Shared) (v:Value),BindsTo s fd ⟨[v],[]⟩ [("_law_script",v)])/\∀ base:Heap,K.In base->base.Ns mainGlobals mg->aNb l.prog w K mg base CX0 53 fa fd ["_law_script"] (aTc K):=by
 have e:=hfa.symm.trans (PySem.W.mg_of X G a41)
 cases e
 have T:Bl mg:=⟨PySem.W.mg_none_of X G z_int,PySem.W.mg_none_of X G z_bool,PySem.W.mg_none_of X G z_str,PySem.W.mg_none_of X G z_list,PySem.W.mg_none_of X G z_tuple,PySem.W.mg_none_of X G z_dict,PySem.W.mg_none_of X G z_set,PySem.W.mg_none_of X G z_range,PySem.W.mg_none_of X G z_enumerate,PySem.W.mg_none_of X G z_zip,PySem.W.mg_none_of X G z_reversed,PySem.W.mg_none_of X G z_len,PySem.W.mg_none_of X G z_abs,PySem.W.mg_none_of X G z_max,PySem.W.mg_none_of X G z_min,PySem.W.mg_none_of X G z_isinstance,PySem.W.mg_none_of X G z_sorted,PySem.W.mg_none_of X G z_all,PySem.W.mg_none_of X G z_any,PySem.W.mg_none_of X G z_sum⟩
 have W:XmS mg xt x1 x4 x5:=⟨PySem.W.mg_of X G bT,PySem.W.mg_of X G b1,PySem.W.mg_of X G b4,PySem.W.mg_of X G b5,PySem.W.mg_none_of X G zV⟩
 have R_NoNet:XrS K xt x1 x4 x5 x1 1:=⟨⟨ga_NoNet,gt_NoNet,ca_NoNet,ob_NoNet,be_NoNet,by rw [ic_NoNet]; rfl⟩,.ve ex_NoNet,ve_NoNet,tt_NoNet,k1_NoNet,k4_NoNet,k5_NoNet⟩
 have R_TooMany:XrS K xt x1 x4 x5 x4 4:=⟨⟨ga_TooMany,gt_TooMany,ca_TooMany,ob_TooMany,be_TooMany,by rw [ic_TooMany]; rfl⟩,.ve ex_TooMany,ve_TooMany,tt_TooMany,k1_TooMany,k4_TooMany,k5_TooMany⟩
 have kd_FEWEST_POSTS:aYg l.prog w K ad_FEWEST_POSTS [(Sum.inr "row",.int 2),(Sum.inr "star",.int 2),(Sum.inr "ring",.int 3)]:=aYg.of3 ld_FEWEST_POSTS e0_FEWEST_POSTS e1_FEWEST_POSTS e2_FEWEST_POSTS ns_FEWEST_POSTS (by decide +kernel)
 have d_is_whole:Df K mg "is_whole" aC9 ["thing"]:=aBk X G a0 l0 c0 k0 (aKa fun _=>rfl)
 have d_common_divisor:Df K mg "common_divisor" aBd ["one","other"]:=aBk X G a1 l1 c1 k1 (aJ9 fun _ _=>rfl)
 have d_is_fraction:Df K mg "is_fraction" aB2 ["thing"]:=aBk X G a2 l2 c2 k2 (aKa fun _=>rfl)
 have d_is_less:Df K mg "is_less" aDx ["one","other"]:=aBk X G a3 l3 c3 k3 (aJ9 fun _ _=>rfl)
 have d_is_part:Df K mg "is_part" aDf ["text"]:=aBk X G a4 l4 c4 k4 (aKa fun _=>rfl)
 have d_is_post:Df K mg "is_post" aDe ["thing"]:=aBk X G a5 l5 c5 k5 (aKa fun _=>rfl)
 have d_is_run:Df K mg "is_run" aEr ["thing"]:=aBk X G a6 l6 c6 k6 (aKa fun _=>rfl)
 have d_net_of:Df K mg "net_of" aEp ["runs"]:=aBk X G a7 l7 c7 k7 (aKa fun _=>rfl)
 have d_count_in:Df K mg "count_in" aDa ["row","counts"]:=aBk X G a8 l8 c8 k8 (aJ9 fun _ _=>rfl)
 have d_counted:Df K mg "counted" aDg ["rows"]:=aBk X G a9 l9 c9 k9 (aKa fun _=>rfl)
 have d_name_put:Df K mg "name_put" aC8 ["post","names","called"]:=aBk X G a10 l10 c10 k10 (el_3 fun _ _ _=>rfl)
 have d_runs_of:Df K mg "runs_of" aDw ["row","pieces"]:=aBk X G a11 l11 c11 k11 (aJ9 fun _ _=>rfl)
 have d_runs_put:Df K mg "runs_put" aCr ["row","pieces"]:=aBk X G a12 l12 c12 k12 (aJ9 fun _ _=>rfl)
 have d_opened:Df K mg "opened" aEn ["rows"]:=aBk X G a13 l13 c13 k13 (aKa fun _=>rfl)
 have d_is_written:Df K mg "is_written" aBy ["word","most"]:=aBk X G a14 l14 c14 k14 (aJ9 fun _ _=>rfl)
 have d_read_time:Df K mg "read_time" aCd ["word"]:=aBk X G a15 l15 c15 k15 (aKa fun _=>rfl)
 have d_refuse_unless:Df K mg "refuse_unless" aBh ["holds","words"]:=aBk X G a16 l16 c16 k16 (aJ9 fun _ _=>rfl)
 have d_posts_in:Df K mg "posts_in" aCu ["words","told"]:=aBk X G a17 l17 c17 k17 (aJ9 fun _ _=>rfl)
 have d_time_in:Df K mg "time_in" aDv ["words","word"]:=aBk X G a18 l18 c18 k18 (aJ9 fun _ _=>rfl)
 have d_run_in:Df K mg "run_in" aEl ["words"]:=aBk X G a19 l19 c19 k19 (aKa fun _=>rfl)
 have d_put_in:Df K mg "put_in" aEm ["words","counts"]:=aBk X G a20 l20 c20 k20 (aJ9 fun _ _=>rfl)
 have d_plain_row_in:Df K mg "plain_row_in" aBs ["words","counts"]:=aBk X G a21 l21 c21 k21 (aJ9 fun _ _=>rfl)
 have d_piece_in:Df K mg "piece_in" aCh ["lines","counts"]:=aBk X G a22 l22 c22 k22 (aJ9 fun _ _=>rfl)
 have d_end_behind:Df K mg "end_behind" aCi ["lines","place"]:=aBk X G a23 l23 c23 k23 (aJ9 fun _ _=>rfl)
 have d_lines_in:Df K mg "lines_in" aCv ["text"]:=aBk X G a24 l24 c24 k24 (aKa fun _=>rfl)
 have d_read_rows:Df K mg "read_rows" aCt ["text"]:=aBk X G a25 l25 c25 k25 (aKa fun _=>rfl)
 have d_cell_at:Df K mg "_law_cell_at" aDy ["_law_script","_law_k"]:=aBk X G a26 l26 c26 k26 (aJ9 fun _ _=>rfl)
 have d_number:Df K mg "_law_number" aEo ["_law_script","_law_k"]:=aBk X G a27 l27 c27 k27 (aJ9 fun _ _=>rfl)
 have d_lowest:Df K mg "_law_lowest" aEq ["_law_top","_law_bottom"]:=aBk X G a28 l28 c28 k28 (aJ9 fun _ _=>rfl)
 have d_names:Df K mg "_law_names" aE2 ["_law_script"]:=aBk X G a29 l29 c29 k29 (aKa fun _=>rfl)
 have d_time:Df K mg "_law_time" aIo ["_law_number_here"]:=aBk X G a30 l30 c30 k30 (aKa fun _=>rfl)
 have d_time_text:Df K mg "_law_time_text" aCq ["_law_time_here"]:=aBk X G a31 l31 c31 k31 (aKa fun _=>rfl)
 have d_row_texts:Df K mg "_law_row_texts" aCc ["_law_row_here"]:=aBk X G a32 l32 c32 k32 (aKa fun _=>rfl)
 have d_text:Df K mg "_law_text" aIp ["_law_rows"]:=aBk X G a33 l33 c33 k33 (aKa fun _=>rfl)
 have d_called:Df K mg "_law_called" aEs ["_law_name","_law_row_here","_law_params"]:=aBk X G a34 l34 c34 k34 (el_3 fun _ _ _=>rfl)
 have d_row_runs:Df K mg "_law_row_runs" aCs ["_law_row_here","_law_pieces"]:=aBk X G a35 l35 c35 k35 (aJ9 fun _ _=>rfl)
 have d_runs:Df K mg "_law_runs" aHn ["_law_rows","_law_pieces"]:=aBk X G a36 l36 c36 k36 (aJ9 fun _ _=>rfl)
 have d_due:Df K mg "_law_due" aMh ["_law_rows"]:=aBk X G a37 l37 c37 k37 (aKa fun _=>rfl)
 have d_told:Df K mg "_law_told" aIn ["_law_rows"]:=aBk X G a38 l38 c38 k38 (aKa fun _=>rfl)
 have d_first:Df K mg "_law_first" aF3 ["_law_number_here","_law_names_here"]:=aBk X G a39 l39 c39 k39 (aJ9 fun _ _=>rfl)
 have d_piece:Df K mg "_law_piece" aF2 ["_law_number_here","_law_k","_law_names_here"]:=aBk X G a40 l40 c40 k40 (el_3 fun _ _ _=>rfl)
 have FL:=bBv (st:=aH6) l41 c41 k41
 refine ⟨PySem.W.fnOf "law" "law" (aAp aH6) (aAm aH6) (aAf aH6) .none kV41 dc41 pm41 an41 cd41 ct41,fun s v=>.of_eq rfl,fun base _ _=>?_⟩
 have o_is_whole:Okf l.prog w K mg base 1 "is_whole" ["thing"]   (aL5 K):=aMs (k:=0) T d_is_whole W R_NoNet R_TooMany
 have o_common_divisor:Okf l.prog w K mg base 1 "common_divisor" ["one","other"]   aVz:=aF6 (k:=0) T d_common_divisor W R_NoNet R_TooMany
 have o_is_fraction:Okf l.prog w K mg base 2 "is_fraction" ["thing"]   (aGy K):=aH8 (k:=1) T d_is_fraction W R_NoNet R_TooMany (o_common_divisor.mono (by decide)) (o_is_whole.mono (by decide))
 have o_is_less:Okf l.prog w K mg base 1 "is_less" ["one","other"]   aP4:=aO5 (k:=0) T d_is_less W R_NoNet R_TooMany
 have o_is_part:Okf l.prog w K mg base 1 "is_part" ["text"]   aKr:=aO4 (k:=0) T d_is_part W R_NoNet R_TooMany (PySem.W.mg_of X G gl_LETTERS) (PySem.W.mg_of X G gl_MOST_LETTERS)
 have o_is_post:Okf l.prog w K mg base 2 "is_post" ["thing"]   (aNm K):=aO3 (k:=1) T d_is_post W R_NoNet R_TooMany (PySem.W.mg_of X G gl_MOST_PARTS) (o_is_part.mono (by decide))
 have o_is_run:Okf l.prog w K mg base 3 "is_run" ["thing"]   (aL9 K):=aRd (k:=2) T d_is_run W R_NoNet R_TooMany (o_is_less.mono (by decide)) (o_is_fraction.mono (by decide)) (o_is_post.mono (by decide))
 have o_net_of:=aRb (P:=l.prog) (w:=w) (base:=base) (k:=3) T d_net_of W R_NoNet R_TooMany (PySem.W.mg_of X G gl_MOST_RUNS) (o_is_run.mono (by decide))
 have o_count_in:Okf l.prog w K mg base 1 "count_in" ["row","counts"]   aMc:=aMt (k:=0) T d_count_in W R_NoNet R_TooMany
 have o_counted:Okf l.prog w K mg base 2 "counted" ["rows"]   (aEz K):=aO6 (k:=1) T d_counted W R_NoNet R_TooMany (o_count_in.mono (by decide))
 have o_name_put:Okf l.prog w K mg base 1 "name_put" ["post","names","called"]   aHh:=aMq (k:=0) T d_name_put W R_NoNet R_TooMany
 have o_runs_of:Okf l.prog w K mg base 50 "runs_of" ["row","pieces"] (aDs K 23):=by
  have z:∀ dd:Nat,dd<=23->Okf l.prog w K mg base (2 * dd+4) "runs_of" ["row","pieces"] (aDs K dd):=by
   intro dd
   induction dd with
   | zero=>exact fun _=>aIw (dd:=0) (k:=3) T d_runs_of W R_NoNet R_TooMany (o_runs_put:=aTq (k:=2) d_runs_put)
   | succ dd ih =>
    intro h
    have h1:=aMm (dd:=dd) (k:=2 * dd+4) T d_runs_put W R_NoNet R_TooMany (o_runs_of:=(ih (by omega)).mono (Nat.le_refl _)) (o_name_put:=o_name_put.mono (by omega))
    exact aIw (dd:=dd+1) (k:=2 * dd+5) T d_runs_of W R_NoNet R_TooMany (o_runs_put:=h1.mono (by omega))
  exact z 23 (by decide)
 have o_opened:=aQ9 (P:=l.prog) (w:=w) (base:=base) (k:=50) T d_opened W R_NoNet R_TooMany (PySem.W.mg_of X G gl_MOST_RUNS) (o_net_of.mono (by decide)) (o_runs_of.mono (by decide)) (o_counted.mono (by decide))
 have o_is_written:Okf l.prog w K mg base 1 "is_written" ["word","most"]   aP2:=aJv (k:=0) T d_is_written W R_NoNet R_TooMany (PySem.W.mg_of X G gl_FIGURES)
 have o_read_time:Okf l.prog w K mg base 3 "read_time" ["word"]   aL7:=aK9 (k:=2) T d_read_time W R_NoNet R_TooMany (PySem.W.mg_of X G gl_MOST_FIGURES) (o_is_fraction.mono (by decide)) (o_is_written.mono (by decide))
 have o_refuse_unless:Okf l.prog w K mg base 1 "refuse_unless" ["holds","words"]   aGe:=aGm (k:=0) T d_refuse_unless W R_NoNet R_TooMany
 have o_posts_in:Okf l.prog w K mg base 3 "posts_in" ["words","told"]   (aFd K):=aMo (k:=2) T d_posts_in W R_NoNet R_TooMany (o_is_post.mono (by decide)) (o_refuse_unless.mono (by decide))
 have o_time_in:Okf l.prog w K mg base 4 "time_in" ["words","word"]   aI6:=aO1 (k:=3) T d_time_in W R_NoNet R_TooMany (o_refuse_unless.mono (by decide)) (o_read_time.mono (by decide))
 have o_run_in:Okf l.prog w K mg base 5 "run_in" ["words"]   (aL6 K):=aQ7 (k:=4) T d_run_in W R_NoNet R_TooMany (o_time_in.mono (by decide)) (o_posts_in.mono (by decide)) (o_refuse_unless.mono (by decide))
 have o_put_in:Okf l.prog w K mg base 4 "put_in" ["words","counts"]   (aL8 K):=aQ8 (k:=3) T d_put_in W R_NoNet R_TooMany (o_posts_in.mono (by decide)) (o_refuse_unless.mono (by decide)) (o_is_part.mono (by decide))
 have o_plain_row_in:Okf l.prog w K mg base 6 "plain_row_in" ["words","counts"]   (aFe K):=aHt (k:=5) T d_plain_row_in W R_NoNet R_TooMany (PySem.W.mg_of X G gd_FEWEST_POSTS) kd_FEWEST_POSTS (o_put_in.mono (by decide)) (o_refuse_unless.mono (by decide)) (o_run_in.mono (by decide))
 have o_piece_in:Okf l.prog w K mg base 7 "piece_in" ["lines","counts"]   (aHb K):=aMp (k:=6) T d_piece_in W R_NoNet R_TooMany (PySem.W.mg_of X G gl_MOST_PARAMS) (o_plain_row_in.mono (by decide)) (o_refuse_unless.mono (by decide)) (o_is_part.mono (by decide))
 have o_end_behind:Okf l.prog w K mg base 1 "end_behind" ["lines","place"]   (aP7 K):=aJw (k:=0) T d_end_behind W R_NoNet R_TooMany
 have o_lines_in:Okf l.prog w K mg base 1 "lines_in" ["text"]   (aHj K):=aMr (k:=0) T d_lines_in W R_NoNet R_TooMany (PySem.W.mg_of X G gl_MOST_ROWS)
 have o_read_rows:Okf l.prog w K mg base 8 "read_rows" ["text"]   (aF0 K):=aLa (k:=7) T d_read_rows W R_NoNet R_TooMany (o_piece_in.mono (by decide)) (o_end_behind.mono (by decide)) (o_plain_row_in.mono (by decide)) (o_lines_in.mono (by decide))
 have o_cell_at:Okf l.prog w K mg base 1 "_law_cell_at" ["_law_script","_law_k"]   (aP8 K):=aO7 (k:=0) T d_cell_at W R_NoNet R_TooMany
 have o_number:Okf l.prog w K mg base 2 "_law_number" ["_law_script","_law_k"]   (aNp K):=aRa (k:=1) T d_number W R_NoNet R_TooMany (o_cell_at.mono (by decide))
 have o_lowest:Okf l.prog w K mg base 1 "_law_lowest" ["_law_top","_law_bottom"]   aJb:=aRc (k:=0) T d_lowest W R_NoNet R_TooMany
 have o_names:Okf l.prog w K mg base 3 "_law_names" ["_law_script"]   (aHf K):=aT1 (k:=2) T d_names W R_NoNet R_TooMany (o_number.mono (by decide))
 have o_time:Okf l.prog w K mg base 2 "_law_time" ["_law_number_here"]   aI7:=aWz (k:=1) T d_time W R_NoNet R_TooMany (o_lowest.mono (by decide))
 have o_time_text:Okf l.prog w K mg base 1 "_law_time_text" ["_law_time_here"]   aGx:=aK7 (k:=0) T d_time_text W R_NoNet R_TooMany
 have o_row_texts_in:=aHs (P:=l.prog) (w:=w) (base:=base) (k:=1) T d_row_texts W R_NoNet R_TooMany (o_time_text.mono (by decide))
 have o_row_texts:Okf l.prog w K mg base 3 "_law_row_texts" ["_law_row_here"]   (aJa K):=aK8 (k:=2) T d_row_texts W R_NoNet R_TooMany (o_row_texts_in.mono (by decide)) (o_time_text.mono (by decide))
 have o_text:Okf l.prog w K mg base 4 "_law_text" ["_law_rows"]   (aI8 K):=aW0 (k:=3) T d_text W R_NoNet R_TooMany (o_row_texts.mono (by decide))
 have o_called:Okf l.prog w K mg base 1 "_law_called" ["_law_name","_law_row_here","_law_params"]   (aJc K):=aRe (k:=0) T d_called W R_NoNet R_TooMany
 have o_row_runs:Okf l.prog w K mg base 2 "_law_row_runs" ["_law_row_here","_law_pieces"]   (aD5 K):=aMn (k:=1) T d_row_runs W R_NoNet R_TooMany (o_called.mono (by decide))
 have o_runs_in:=aO2 (P:=l.prog) (w:=w) (base:=base) (k:=2) T d_runs W R_NoNet R_TooMany (o_row_runs.mono (by decide))
 have o_runs:Okf l.prog w K mg base 4 "_law_runs" ["_law_rows","_law_pieces"]   (aI9 K):=aW1 (k:=3) T d_runs W R_NoNet R_TooMany (o_runs_in.mono (by decide)) (o_row_runs.mono (by decide))
 have o_due:Okf l.prog w K mg base 5 "_law_due" ["_law_rows"]   (aMb K):=bA7 (k:=4) T d_due W R_NoNet R_TooMany (o_runs.mono (by decide))
 have o_told:Okf l.prog w K mg base 52 "_law_told" ["_law_rows"]   (aI5 K):=aWy (k:=51) T d_told W R_NoNet R_TooMany (o_opened.mono (by decide))
 have o_first:Okf l.prog w K mg base 3 "_law_first" ["_law_number_here","_law_names_here"]   aMa:=aT2 (k:=2) T d_first W R_NoNet R_TooMany (o_time.mono (by decide))
 have o_piece:Okf l.prog w K mg base 1 "_law_piece" ["_law_number_here","_law_k","_law_names_here"]   aHd:=aT0 (k:=0) T d_piece W R_NoNet R_TooMany
 exact bA6 (k:=52) T FL W R_NoNet R_TooMany (o_text.mono (by decide)) (o_read_rows.mono (by decide)) (o_told.mono (by decide)) (o_due.mono (by decide)) (o_row_texts.mono (by decide)) (o_number.mono (by decide)) (o_piece.mono (by decide)) (o_first.mono (by decide)) (o_names.mono (by decide))
theorem walk {l:PySem.W.OpenLaw} {q:Program} {loose:List Str} {XP:(Str->Option Value)->Heap->Prop} {YP:World->Heap->Prop} {d:DefRec} {K:Params->PySem.W.Frag} (hn:l.most=some 63) (hdf:d.params.defaults=[])
  (hY:∀ (w:World) (h:Heap),YP w h->(K w.params).In h)
  (F:∀ (w:World) (mg:Str->Option Value) (fa:Addr) (h:Heap),(K w.params).In h->h.Ns mainGlobals mg->mg d.name=some (.ref fa) ->
   ∃ fd:FuncData,(∀ (s:Shared) (u:Value),BindsTo s fd ⟨[u],[]⟩ [("_law_script",u)])/\∀ base:Heap,(K w.params).In base->base.Ns mainGlobals mg->aNb l.prog w (K w.params) mg base CX0 53 fa fd ["_law_script"] (aTc (K w.params))) :
  PySem.W.WalkO q loose XP YP l.row.toRowW d [] (fun f vs=>PySem.call f vs) :=
 L2.walk_of (n:=63) (k:=53) (x:="_law_script") (CX:=fun _=>CX0) (sp:=fun w=>aTc (K w.params)) hn (by decide) hdf ⟨rfl,by decide,by decide⟩ hY F (fun _ _ a ns hl _ hS=>⟨a,ns,rfl,hS,hl,fun _=>rfl⟩) fun _ _ _ _ _ z=>z
open PySem.W in
theorem zwalk {q:Program} {loose:List Str} {XP:(Str->Option Value)->Heap->Prop} {r:RowW} {d:DefRec} {kwd:List (Str×Expr)} {run:Value->List Value->Sem Value} {K:Params->Frag} {as:List Addr} {n t:Nat} (e:∀ P:Params,as=List.map (fun x=>x.fst) (K P))
  (W:WalkO q loose XP (kHook K as e).says r d kwd run):WalkX q loose XP (X.obsZ as) (X.valZ K n t) r d kwd run :=
 fun w s₀ s₁ mg mb G y a o pm cd doc dV kV ho hd hcd hD hmg hg args vals as' L hpre hlay hrd hwl hlo =>
  W w s₀ s₁ mg mb G ((kHook K as e).keeps w s₀.heap s₁.heap ((kHook K as e).of w s₀ (congrArg Prod.fst y)) L.keeps) a o pm cd doc dV kV ho hd hcd hD hmg hg args vals as' hpre hlay hrd hwl hlo
end Lw
open PySem PySem.W PyProof.Rows
set_option maxRecDepth 100000 in
set_option maxHeartbeats 0 in
theorem PySem.Challenge.cw_tilefall_k75_pieces_within_pieces_holds : PySem.Challenge.rw_tilefall_k75_pieces_within_pieces.Holds := by
  w_on; o_law; z_head; (case hw => w_witness2)
  k_fill
  refine Lw.zwalk (fun _ => rfl) ?_
  refine Lw.walk (l := PySem.Challenge.rw_tilefall_k75_pieces_within_pieces) rfl rfl (fun w h Y => PySem.W.kIn_of Y) ?F
  case F =>
    intro w mg fa h KX G hmg
    refine' Lw.all_mk KX G hmg ?a0 ?l0 ?c0 ?k0 ?a1 ?l1 ?c1 ?k1 ?a2 ?l2 ?c2 ?k2 ?a3 ?l3 ?c3 ?k3 ?a4 ?l4 ?c4 ?k4 ?a5 ?l5 ?c5 ?k5 ?a6 ?l6 ?c6 ?k6 ?a7 ?l7 ?c7 ?k7 ?a8 ?l8 ?c8 ?k8 ?a9 ?l9 ?c9 ?k9 ?a10 ?l10 ?c10 ?k10 ?a11 ?l11 ?c11 ?k11 ?a12 ?l12 ?c12 ?k12 ?a13 ?l13 ?c13 ?k13 ?a14 ?l14 ?c14 ?k14 ?a15 ?l15 ?c15 ?k15 ?a16 ?l16 ?c16 ?k16 ?a17 ?l17 ?c17 ?k17 ?a18 ?l18 ?c18 ?k18 ?a19 ?l19 ?c19 ?k19 ?a20 ?l20 ?c20 ?k20 ?a21 ?l21 ?c21 ?k21 ?a22 ?l22 ?c22 ?k22 ?a23 ?l23 ?c23 ?k23 ?a24 ?l24 ?c24 ?k24 ?a25 ?l25 ?c25 ?k25 ?a26 ?l26 ?c26 ?k26 ?a27 ?l27 ?c27 ?k27 ?a28 ?l28 ?c28 ?k28 ?a29 ?l29 ?c29 ?k29 ?a30 ?l30 ?c30 ?k30 ?a31 ?l31 ?c31 ?k31 ?a32 ?l32 ?c32 ?k32 ?a33 ?l33 ?c33 ?k33 ?a34 ?l34 ?c34 ?k34 ?a35 ?l35 ?c35 ?k35 ?a36 ?l36 ?c36 ?k36 ?a37 ?l37 ?c37 ?k37 ?a38 ?l38 ?c38 ?k38 ?a39 ?l39 ?c39 ?k39 ?a40 ?l40 ?c40 ?k40 ?a41 ?l41 ?c41 ?k41 ?bT ?b1 ?b4 ?b5 ?zV ?ga_NoNet ?gt_NoNet ?ca_NoNet ?ob_NoNet ?be_NoNet ?ic_NoNet ?ex_NoNet ?ve_NoNet ?tt_NoNet ?k1_NoNet ?k4_NoNet ?k5_NoNet ?ga_TooMany ?gt_TooMany ?ca_TooMany ?ob_TooMany ?be_TooMany ?ic_TooMany ?ex_TooMany ?ve_TooMany ?tt_TooMany ?k1_TooMany ?k4_TooMany ?k5_TooMany ?gl_LETTERS ?gl_MOST_LETTERS ?gl_MOST_PARTS ?gl_MOST_RUNS ?gl_FIGURES ?gl_MOST_FIGURES ?gl_MOST_PARAMS ?gl_MOST_ROWS ?gd_FEWEST_POSTS ?ld_FEWEST_POSTS ?e0_FEWEST_POSTS ?e1_FEWEST_POSTS ?e2_FEWEST_POSTS ?ns_FEWEST_POSTS ?z_int ?z_bool ?z_str ?z_list ?z_tuple ?z_dict ?z_set ?z_range ?z_enumerate ?z_zip ?z_reversed ?z_len ?z_abs ?z_max ?z_min ?z_isinstance ?z_sorted ?z_all ?z_any ?z_sum
    (case a0 => k_is); (case l0 => k_is); (case c0 => k_is); (case k0 => k_is)
    (case a1 => k_is); (case l1 => k_is); (case c1 => k_is); (case k1 => k_is)
    (case a2 => k_is); (case l2 => k_is); (case c2 => k_is); (case k2 => k_is)
    (case a3 => k_is); (case l3 => k_is); (case c3 => k_is); (case k3 => k_is)
    (case a4 => k_is); (case l4 => k_is); (case c4 => k_is); (case k4 => k_is)
    (case a5 => k_is); (case l5 => k_is); (case c5 => k_is); (case k5 => k_is)
    (case a6 => k_is); (case l6 => k_is); (case c6 => k_is); (case k6 => k_is)
    (case a7 => k_is); (case l7 => k_is); (case c7 => k_is); (case k7 => k_is)
    (case a8 => k_is); (case l8 => k_is); (case c8 => k_is); (case k8 => k_is)
    (case a9 => k_is); (case l9 => k_is); (case c9 => k_is); (case k9 => k_is)
    (case a10 => k_is); (case l10 => k_is); (case c10 => k_is); (case k10 => k_is)
    (case a11 => k_is); (case l11 => k_is); (case c11 => k_is); (case k11 => k_is)
    (case a12 => k_is); (case l12 => k_is); (case c12 => k_is); (case k12 => k_is)
    (case a13 => k_is); (case l13 => k_is); (case c13 => k_is); (case k13 => k_is)
    (case a14 => k_is); (case l14 => k_is); (case c14 => k_is); (case k14 => k_is)
    (case a15 => k_is); (case l15 => k_is); (case c15 => k_is); (case k15 => k_is)
    (case a16 => k_is); (case l16 => k_is); (case c16 => k_is); (case k16 => k_is)
    (case a17 => k_is); (case l17 => k_is); (case c17 => k_is); (case k17 => k_is)
    (case a18 => k_is); (case l18 => k_is); (case c18 => k_is); (case k18 => k_is)
    (case a19 => k_is); (case l19 => k_is); (case c19 => k_is); (case k19 => k_is)
    (case a20 => k_is); (case l20 => k_is); (case c20 => k_is); (case k20 => k_is)
    (case a21 => k_is); (case l21 => k_is); (case c21 => k_is); (case k21 => k_is)
    (case a22 => k_is); (case l22 => k_is); (case c22 => k_is); (case k22 => k_is)
    (case a23 => k_is); (case l23 => k_is); (case c23 => k_is); (case k23 => k_is)
    (case a24 => k_is); (case l24 => k_is); (case c24 => k_is); (case k24 => k_is)
    (case a25 => k_is); (case l25 => k_is); (case c25 => k_is); (case k25 => k_is)
    (case a26 => k_is); (case l26 => k_is); (case c26 => k_is); (case k26 => k_is)
    (case a27 => k_is); (case l27 => k_is); (case c27 => k_is); (case k27 => k_is)
    (case a28 => k_is); (case l28 => k_is); (case c28 => k_is); (case k28 => k_is)
    (case a29 => k_is); (case l29 => k_is); (case c29 => k_is); (case k29 => k_is)
    (case a30 => k_is); (case l30 => k_is); (case c30 => k_is); (case k30 => k_is)
    (case a31 => k_is); (case l31 => k_is); (case c31 => k_is); (case k31 => k_is)
    (case a32 => k_is); (case l32 => k_is); (case c32 => k_is); (case k32 => k_is)
    (case a33 => k_is); (case l33 => k_is); (case c33 => k_is); (case k33 => k_is)
    (case a34 => k_is); (case l34 => k_is); (case c34 => k_is); (case k34 => k_is)
    (case a35 => k_is); (case l35 => k_is); (case c35 => k_is); (case k35 => k_is)
    (case a36 => k_is); (case l36 => k_is); (case c36 => k_is); (case k36 => k_is)
    (case a37 => k_is); (case l37 => k_is); (case c37 => k_is); (case k37 => k_is)
    (case a38 => k_is); (case l38 => k_is); (case c38 => k_is); (case k38 => k_is)
    (case a39 => k_is); (case l39 => k_is); (case c39 => k_is); (case k39 => k_is)
    (case a40 => k_is); (case l40 => k_is); (case c40 => k_is); (case k40 => k_is)
    (case a41 => k_is); (case l41 => k_is); (case c41 => k_is); (case k41 => k_is)
    (case bT => k_is)
    (case b1 => k_is)
    (case b4 => k_is)
    (case b5 => k_is)
    (case zV => k_is)
    (case ga_NoNet => k_is)
    (case gt_NoNet => k_is)
    (case ca_NoNet => k_is)
    (case ob_NoNet => k_is)
    (case be_NoNet => k_is)
    (case ic_NoNet => k_is)
    (case ex_NoNet => k_exc)
    (case ve_NoNet => kit_is)
    (case tt_NoNet => kts_exm)
    (case k1_NoNet => kit_is)
    (case k4_NoNet => kit_is)
    (case k5_NoNet => kit_is)
    (case ga_TooMany => k_is)
    (case gt_TooMany => k_is)
    (case ca_TooMany => k_is)
    (case ob_TooMany => k_is)
    (case be_TooMany => k_is)
    (case ic_TooMany => k_is)
    (case ex_TooMany => k_exc)
    (case ve_TooMany => kit_is)
    (case tt_TooMany => kts_exm)
    (case k1_TooMany => kit_is)
    (case k4_TooMany => kit_is)
    (case k5_TooMany => kit_is)
    (case gl_LETTERS => k_is)
    (case gl_MOST_LETTERS => k_is)
    (case gl_MOST_PARTS => k_is)
    (case gl_MOST_RUNS => k_is)
    (case gl_FIGURES => k_is)
    (case gl_MOST_FIGURES => k_is)
    (case gl_MOST_PARAMS => k_is)
    (case gl_MOST_ROWS => k_is)
    (case gd_FEWEST_POSTS => k_is); (case ld_FEWEST_POSTS => k_is); (case e0_FEWEST_POSTS => exact rfl); (case e1_FEWEST_POSTS => exact rfl); (case e2_FEWEST_POSTS => exact rfl); (case ns_FEWEST_POSTS => first | exact rfl | k_is)
    (case z_int => k_is)
    (case z_bool => k_is)
    (case z_str => k_is)
    (case z_list => k_is)
    (case z_tuple => k_is)
    (case z_dict => k_is)
    (case z_set => k_is)
    (case z_range => k_is)
    (case z_enumerate => k_is)
    (case z_zip => k_is)
    (case z_reversed => k_is)
    (case z_len => k_is)
    (case z_abs => k_is)
    (case z_max => k_is)
    (case z_min => k_is)
    (case z_isinstance => k_is)
    (case z_sorted => k_is)
    (case z_all => k_is)
    (case z_any => k_is)
    (case z_sum => k_is)
#print axioms PySem.Challenge.cw_tilefall_k75_pieces_within_pieces_holds
