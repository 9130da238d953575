import PyProof.Rows.All
import Wide.All
import OpenK.AllK
import Wide.FinOn
import Lean
import PyProof.EqAt
import PyProof.EqKinds
import PyProof.TupleCall
import PyProof.NeKinds
import KE.KRevSl
import PyProof.ZipIter
import PySem.Challenge.RW_tilefall_k22_how_runs_end
set_option Elab.async false
set_option linter.all false
set_option maxRecDepth 100000
def PySem.W.Fast.tw4210425568206533538:=0
def PySem.W.Fast.tw12867698478856308483:=0
def PySem.W.Fast.tw1046126173000781015:=0
def PySem.W.Fast.tw13250869872133165092:=0
def PySem.W.Fast.tw12306127322943651035:=0
def PySem.W.Fast.tw7161769911445592348:=0
def PySem.W.Fast.tw3567647748796498781:=0
def PySem.W.Fast.tw15988009522780906663:=0
def PySem.W.Fast.tw13539725002379008097:=0
namespace L2
open PySem PySem.Spec PyProof.Rows
noncomputable abbrev Key:=Sum Int Str
noncomputable def aN9:Key->Value->Bool
 | .inl k,v=>Value.isInt k v
 | .inr x,v=>Value.isStrOf x v
noncomputable def keyH (w:World):Key->Int
 | .inl k=>hashInt k
 | .inr x=>hashStr w x
theorem aBj:∀ {k:Key} {v:Value},aN9 k v=true->(∃ i t,k=Sum.inl i/\v=Value.int i t)∨(∃ x t,k=Sum.inr x/\v=Value.str x t)
 | .inl i,v,h=>by
  obtain ⟨t,e⟩:=Value.isInt_shape (k:=i) (v:=v) h
  exact .inl ⟨i,t,rfl,e⟩
 | .inr x,v,h=>by
  obtain ⟨t,e⟩:=Value.isStrOf_shape (x:=x) (v:=v) h
  exact .inr ⟨x,t,rfl,e⟩
theorem aQ2 (i:Int) (t:Tok):aN9 (.inl i) (.int i t)=true:=by simp [aN9,Value.isInt]
theorem aQ1 (x:Str) (t:Tok):aN9 (.inr x) (.str x t)=true:=by simp [aN9,Value.isStrOf]
theorem bBa (a b:Int):decide ((Sum.inl a:Key)=Sum.inl b)=(a==b):=by
 by_cases e:a=b
 ·subst e; simp
 ·have h:¬ (Sum.inl a:Key)=Sum.inl b:=fun q=>e (Sum.inl.inj q)
  rw [decide_eq_false h]
  exact (beq_eq_false_iff_ne.mpr e).symm
theorem bA7 (a b:Str):decide ((Sum.inr a:Key)=Sum.inr b)=decide (a=b):=by
 by_cases e:a=b
 ·subst e; simp
 ·have h:¬ (Sum.inr a:Key)=Sum.inr b:=fun q=>e (Sum.inr.inj q)
  rw [decide_eq_false h,decide_eq_false e]
theorem bA9 (a:Int) (b:Str):decide ((Sum.inl a:Key)=Sum.inr b)=false:=decide_eq_false (fun q=>nomatch q)
theorem bA8 (a:Str) (b:Int):decide ((Sum.inr a:Key)=Sum.inl b)=false:=decide_eq_false (fun q=>nomatch q)
noncomputable def aA9 (prog:Program) (w:World):PySem.KeyKind prog w Key where
 is:=aN9
 hash:=keyH w
 inj:=fun v a b ha hb=>by
  rcases aBj ha with ⟨i,t,rfl,rfl⟩ | ⟨x,t,rfl,rfl⟩
  ·rcases aBj hb with ⟨j,u,rfl,e⟩ | ⟨y,u,rfl,e⟩
   ·injection e with e1 _; rw [e1]
   ·exact nomatch e
  ·rcases aBj hb with ⟨j,u,rfl,e⟩ | ⟨y,u,rfl,e⟩
   ·exact nomatch e
   ·injection e with e1 _; rw [e1]
 byValue:=fun k v h=>by
  rcases aBj h with ⟨i,t,rfl,rfl⟩ | ⟨x,t,rfl,rfl⟩ <;> rfl
 pyHash:=fun hv h=>by
  rcases aBj hv with ⟨i,t,rfl,rfl⟩ | ⟨x,t,rfl,rfl⟩
  ·exact wpAny_pyHash_int h
  ·exact wpAny_pyHash_str h
 eqBool:=fun hu hv h=>by
  rcases aBj hu with ⟨i,t,rfl,rfl⟩ | ⟨x,t,rfl,rfl⟩
  ·rcases aBj hv with ⟨j,u,rfl,rfl⟩ | ⟨y,u,rfl,rfl⟩
   ·rw [bBa] at h; exact wpAny_eqBool_int h
   ·rw [bA9] at h; exact SeqAt.EqAt.int_str i t y u _ _ _ _ h
  ·rcases aBj hv with ⟨j,u,rfl,rfl⟩ | ⟨y,u,rfl,rfl⟩
   ·rw [bA8] at h; exact SeqAt.EqAt.str_int x t j u _ _ _ _ h
   ·rw [bA7] at h; exact wpAny_eqBool_str h
 «strs»:=fun k x t v h=>by
  rcases aBj h with ⟨i,u,rfl,e⟩ | ⟨y,u,rfl,e⟩
  ·exact nomatch e
  ·injection e with e1 _
   subst e1
   cases v <;> rfl
theorem aL8 (prog:Program) (w:World) (i:Int) (t:Tok):(aA9 prog w).is (.inl i) (.int i t)=true:=aQ2 i t
theorem aL7 (prog:Program) (w:World) (x:Str) (t:Tok):(aA9 prog w).is (.inr x) (.str x t)=true:=aQ1 x t
end L2
namespace L2
open PySem PySem.Spec PyProof.Rows
inductive V where
 | non | bl (b:Bool) | int (i:Int) | str (x:Str) | byt (b:Array UInt8) | flt (b:UInt64) | ref (a:Addr) | ty (n:String)
 deriving DecidableEq
noncomputable def aBr:V->Value->Prop
 | .non,u=>u=Value.none
 | .bl b,u=>u=Value.bool b
 | .int i,u=>∃ t,u=Value.int i t
 | .str x,u=>∃ t,u=Value.str x t
 | .byt b,u=>∃ t,u=Value.bytes b t
 | .flt b,u=>∃ t,u=Value.float b t
 | .ref a,u=>u=Value.ref a
 | .ty n,u=>u=Value.type n
noncomputable abbrev aBn:List V->List Value->Prop:=Paired aBr
theorem aBn.length {xs:List V} {us:List Value} (r:aBn xs us):xs.length=us.length:=Paired.length r
theorem aBn.get:∀ {xs:List V} {us:List Value} {i:Nat} {x:V},aBn xs us->xs[i]?=some x->∃ u,us[i]?=some u/\aBr x u
 | _,_,_,_,.nil,e=>by simp at e
 | _,_,0,_,.cons r _,e=>by simp at e; subst e; exact ⟨_,rfl,r⟩
 | _,_,i+1,x,.cons _ t,e=>by
  obtain ⟨u,h1,h2⟩:=aBn.get (i:=i) (x:=x) t (by simpa using e)
  exact ⟨u,by simpa using h1,h2⟩
theorem aBn.append:∀ {xs ys:List V} {us ws:List Value},aBn xs us->aBn ys ws->aBn (xs++ys) (us++ws)
 | _,_,_,_,.nil,s=>s
 | _,_,_,_,.cons r t,s=>.cons r (aBn.append t s)
noncomputable def aNp:Option V->Option Value->Prop
 | some v,some u=>aBr v u
 | none,none=>True
 | _,_=>False
noncomputable def KV {κ:Type}:List (κ×V)->List (κ×Value)->Prop:=Paired fun (p:κ×V) (q:κ×Value)=>p.1=q.1/\aBr p.2 q.2
noncomputable def kV:Key->V
 | .inl i=>.int i
 | .inr x=>.str x
inductive HO where
  | lst (xs:List V)
  | tup (xs:List V)
  | dK (kvs:List (Key×V)) | dT (kvs:List (List Key×V))
  | set (S:Int->Bool) (n:Nat)
  | ins (C dx:Addr) (fs:List (Str×V))
  | own (x:Addr)
  | xd (fs:List (Str×V))
  | met (f x:Addr)
  | rng (lo hi:Int)
  | frz (o:Obj) (u:HO)
  | tbl (ps:Array Value)
  | ext (φ:Heap->Prop)
noncomputable abbrev Hp:=Addr->Option HO
noncomputable def upd (H:Hp) (a:Addr) (o:HO):Hp:=fun b=>if b=a then some o else H b
theorem aAb {H:Hp} {a:Addr} {o:HO}:upd H a o a=some o:=by unfold upd; rw [if_pos rfl]
theorem aAu {H:Hp} {a b:Addr} {o:HO} (h:b≠a):upd H a o b=H b:=by unfold upd; rw [if_neg h]
theorem aVa {H:Hp} {a:Addr} {o u:HO}:upd (upd H a o) a u=upd H a u:=by
 funext b; unfold upd; split <;> rfl
theorem aHu {H:Hp} {a b:Addr} {o u:HO} (h:H a=some o) (h':H b=some u) (d:o≠u):a≠b:=by
 intro e; subst e; rw [h] at h'; exact d (Option.some.inj h')
theorem aAe {H:Hp} {a b:Addr} {o:HO} (h:H a=some o) (h':H b=none):a≠b:=by
 intro e; subst e; rw [h] at h'; cases h'
section
variable (P:Program) (w:World)
noncomputable def aB0 (H:Hp) (h:Heap) (a:Addr):HO->Prop
 | .lst xs=>xs.length<=sizeLine/\∃ (its:List Value) (n:Nat),aBn xs its/\h.get? a=some { cls:=.type "list",data:=.seq its.toArray n }
 | .tup xs=>(xs.length<=sizeLine/\∃ o,h.get? a=some o/\o.dict=none)/\∃ its:List Value,aBn xs its/\IsTup h a its.toArray
 | .dK kvs=>kvs.length<=sizeLine/\(a==sysModules)=false/\∃ vs,KV kvs vs/\h.DictOf (aA9 P w) a vs
 | .dT kvs=>kvs.length<=sizeLine/\(a==sysModules)=false/\∃ xs:List (List Key×Addr×Value),
   Paired (fun (p:List Key×V) (q:List Key×Addr×Value)=>p.1=q.1/\H q.2.1=some (.tup (p.1.map kV))/\aBr p.2 q.2.2) kvs xs /\
   ∃ o es ep,h.get? a=some o/\o.ExactDict/\o.data=.dict es ep/\es.toList=xs.map (entryOfKey (tupleKind (aA9 P w)))/\(xs.map (·.1)).Nodup
 | .set S n=>h.SetOf (intKind P w) a S n
 | .ins C dx fs=>H dx=some (.own a)/\fs.length<=1000/\dx≠a/\h.get? a=some (PySem.W.instObj C dx) /\
   ∃ mA,h.Ns1 dx mA/\(∀ f,aNp (fs.lookup f) (mA f))/\PySem.Within mA (fs.map (·.1))
 | .own _=>∃ o,h.get? a=some o
 | .xd fs=>∃ mA,h.Ns1 a mA/\∀ f,aNp (fs.lookup f) (mA f)
 | .rng lo hi=>∃ t u v,h.get? a=some { cls:=.type "range",data:=.fields #[.int lo t,.int hi u,.int 1 v] }
 | .frz o u=>h.get? a=some o/\aB0 H h a u
 | .tbl ps=>h.get? a=some { cls:=.none,data:=.fields ps }
 | .met f x=>h.get? a=some (PySem.W.methodObj (.ref f) (.ref x))
 | .ext φ=>φ h/\(∃ o,h.get? a=some o)/\∀ h1 h2:Heap,φ h1->(∀ o,h1.get? a=some o->h2.get? a=some o)->φ h2
noncomputable def HOk (H:Hp) (h:Heap):Prop:=∀ a o,H a=some o->aB0 P w H h a o
end
section
variable {P:Program} {w:World} {H H':Hp} {h h':Heap} {a:Addr} {o:HO}
theorem aB0.lt (x:aB0 P w H h a o):a < h.objs.size:=by
 cases o with
 | lst xs=>obtain ⟨_,_,_,_,e⟩:=x; exact Heap.lt_size e
 | tup xs=>obtain ⟨_,_,_,p⟩:=x; exact p.lt
 | dK kvs=>obtain ⟨_,_,_,_,o,_,_,e,_⟩:=x; exact Heap.lt_size e
 | dT kvs=>obtain ⟨_,_,_,_,o,_,_,e,_⟩:=x; exact Heap.lt_size e
 | set S n=>obtain ⟨o,_,_,_,e,_⟩:=x; exact Heap.lt_size e
 | ins C dx fs=>obtain ⟨_,_,_,e,_⟩:=x; exact Heap.lt_size e
 | own y=>obtain ⟨_,e⟩:=x; exact Heap.lt_size e
 | xd fs=>obtain ⟨_,⟨_,_,_,e,_⟩,_⟩:=x; exact Heap.lt_size e
 | rng lo hi=>obtain ⟨_,_,_,e⟩:=x; exact Heap.lt_size e
 | frz ob u=>obtain ⟨e,_⟩:=x; exact Heap.lt_size e
 | tbl ps=>exact Heap.lt_size (show h.get? a=some _ from x)
 | met f y=>exact Heap.lt_size (show h.get? a=some _ from x)
 | ext φ=>obtain ⟨_,⟨_,e⟩,_⟩:=x; exact Heap.lt_size e
theorem Paired.mapP {α β:Type} {F G:α->β->Prop}:∀ {l₁:List α} {l₂:List β},Paired F l₁ l₂->(∀ a b,F a b->G a b)->Paired G l₁ l₂
 | _,_,.nil,_=>.nil
 | _,_,.cons r t,f=>.cons (f _ _ r) (Paired.mapP t f)
theorem aB0.stay (x:aB0 P w H h a o) (k:∀ b u,(b=a∨H b=some (.own a))->h.get? b=some u->h'.get? b=some u)
  (ho:∀ b,H b=some (.own a)->H' b=some (.own a)) (ht:∀ b xs,H b=some (.tup xs)->H' b=some (.tup xs)):aB0 P w H' h' a o:=by
 induction o with
 | lst xs=>obtain ⟨z,its,n,r,e⟩:=x; exact ⟨z,its,n,r,k _ _ (.inl rfl) e⟩
 | tup xs=>obtain ⟨⟨z,o1,e1,d1⟩,its,r,ob,e,c⟩:=x; exact ⟨⟨z,o1,k _ _ (.inl rfl) e1,d1⟩,its,r,ob,k _ _ (.inl rfl) e,c⟩
 | dK kvs=>obtain ⟨z,y,vs,r,ob,es,ep,e,c⟩:=x; exact ⟨z,y,vs,r,ob,es,ep,k _ _ (.inl rfl) e,c⟩
 | dT kvs =>
  obtain ⟨z,y,xs,r,ob,es,ep,e,c⟩:=x
  exact ⟨z,y,xs,Paired.mapP r fun p q z=>⟨z.1,ht _ _ z.2.1,z.2.2⟩,ob,es,ep,k _ _ (.inl rfl) e,c⟩
 | set S n=>obtain ⟨ob,es,ep,t,e,c⟩:=x; exact ⟨ob,es,ep,t,k _ _ (.inl rfl) e,c⟩
 | ins C dx fs =>
  obtain ⟨d,z,ne,e,mA,⟨od,es,ep,e2,c⟩,r⟩:=x
  exact ⟨ho _ d,z,ne,k _ _ (.inl rfl) e,mA,⟨od,es,ep,k _ _ (.inr d) e2,c⟩,r⟩
 | own y=>obtain ⟨ob,e⟩:=x; exact ⟨ob,k _ _ (.inl rfl) e⟩
 | xd fs=>obtain ⟨mA,⟨od,es,ep,e,c⟩,r⟩:=x; exact ⟨mA,⟨od,es,ep,k _ _ (.inl rfl) e,c⟩,r⟩
 | rng lo hi=>obtain ⟨t,u,v,e⟩:=x; exact ⟨t,u,v,k _ _ (.inl rfl) e⟩
 | frz ob u ih=>obtain ⟨e,q⟩:=x; exact ⟨k _ _ (.inl rfl) e,ih q⟩
 | tbl ps =>
  have e:h.get? a=some { cls:=.none,data:=.fields ps }:=x
  show h'.get? a=some { cls:=.none,data:=.fields ps }
  exact k a _ (.inl rfl) e
 | met f y =>
  have e:h.get? a=some (PySem.W.methodObj (.ref f) (.ref y)):=x
  show h'.get? a=some (PySem.W.methodObj (.ref f) (.ref y))
  exact k a _ (.inl rfl) e
 | ext φ=>obtain ⟨p,⟨o,e⟩,st⟩:=x; exact ⟨st _ _ p fun o q=>k _ _ (.inl rfl) q,⟨o,k _ _ (.inl rfl) e⟩,st⟩
theorem HOk.lt (x:HOk P w H h) (e:H a=some o):a < h.objs.size:=(x a o e).lt
theorem HOk.fresh (x:HOk P w H h) (e:h.objs.size<=a):H a=none:=by
 cases q:H a with
 | none=>rfl
 | some u=>exact absurd (Nat.lt_of_lt_of_le (x.lt q) e) (Nat.lt_irrefl _)
theorem HOk.kept (x:HOk P w H h) (k:∀ b u,h.get? b=some u->h'.get? b=some u):HOk P w H h':=fun a o e =>
 (x a o e).stay (fun b u _ q=>k b u q) (fun _ q=>q) fun _ _ q=>q
theorem HOk.laid (x:HOk P w H h) (k:∀ b u,h.get? b=some u->h'.get? b=some u) (hp:h.objs.size<=a) (new:aB0 P w (upd H a o) h' a o):HOk P w (upd H a o) h':=fun b u e=>by
 have hn:=x.fresh hp
 by_cases hb:b=a
 ·subst hb; rw [aAb] at e; cases e; exact new
 ·rw [aAu hb] at e
  exact (x b u e).stay (fun c v _ q=>k c v q) (fun c q=>by rw [aAu (aAe q hn)]; exact q) fun c xs q=>by rw [aAu (aAe q hn)]; exact q
end
noncomputable def Rd (H:Hp) (a:Addr) (u:HO):Prop:=H a=some u∨∃ o,H a=some (.frz o u)
theorem Rd.ok {P:Program} {w:World} {H:Hp} {h:Heap} {a:Addr} {u:HO} (r:Rd H a u) (x:HOk P w H h):aB0 P w H h a u:=by
 rcases r with r | ⟨o,r⟩
 ·exact x a u r
 ·obtain ⟨_,q⟩:=x a _ r
  exact q
noncomputable def Mut:Option HO->Prop
 | some (.lst _)=>True
 | some (.dK _)=>True
 | some (.dT _)=>True
 | some (.set _ _)=>True
 | some (.ins _ _ _)=>True
 | some (.ext _)=>True
 | _=>False
section
variable {P:Program} {w:World} {H:Hp} {h h':Heap} {x e:Addr} {o':HO}
theorem HOk.write (ok:HOk P w H h) (mu:Mut (H x)) (he:e=x∨H e=some (.own x)) (k:∀ b u,b≠e->h.get? b=some u->h'.get? b=some u) (heo:∃ u,h'.get? e=some u)
  (new:aB0 P w (upd H x o') h' x o'):HOk P w (upd H x o') h':=fun b u q=>by
 have nown:∀ c y,H c=some (.own y)->c≠x:=fun c y r z=>by subst z; rw [r] at mu; exact mu
 have ntup:∀ c xs,H c=some (.tup xs)->c≠x:=fun c xs r z=>by subst z; rw [r] at mu; exact mu
 by_cases hb:b=x
 ·subst hb; rw [aAb] at q; cases q; exact new
 ·rw [aAu hb] at q
  by_cases hbe:b=e
  ·have q':H b=some (.own x):=by
    rcases he with z | z
    ·exact absurd (hbe.trans z) hb
    ·rw [hbe]; exact z
   rw [q] at q'; cases q'
   obtain ⟨v,hv⟩:=heo
   exact ⟨v,by rw [hbe]; exact hv⟩
  ·refine (ok b u q).stay (fun c v hc r=>k c v ?_ r) (fun c r=>by rw [aAu (nown c b r)]; exact r) fun c xs r=>by rw [aAu (ntup c xs r)]; exact r
   rcases hc with rfl | hc
   ·exact hbe
   ·rintro rfl
    rcases he with z | z
    ·exact nown c b hc z
    ·rw [hc] at z; cases z; exact hb rfl
end
structure Un (fs ex:List Addr) (H H':Hp) (h h':Heap):Prop where
 keep:∀ b o,h.get? b=some o->H b=none->b∉fs->b∉ex->h'.get? b=some o
 slot:∀ b o,h.get? b=some o->H b=none->b∈fs->b∉ex->∃ sl,h'.get? b=some { o with slots:=sl }
 free:∀ b o,h.get? b=some o->H b=none->b∉ex->H' b=none
 there:∀ b o,h.get? b=some o->b∉ex->∃ o',h'.get? b=some o'
 tups:∀ b xs,H b=some (.tup xs)->H' b=some (.tup xs)
 frzs:∀ b o u,H b=some (.frz o u)->H' b=some (.frz o u)
 tbls:∀ b ps,H b=some (.tbl ps)->∃ more,H' b=some (.tbl (ps++more))
section
variable {fs fs' ex ex':List Addr} {H H1 H2:Hp} {h h1 h2 h':Heap} {a x e:Addr} {o:HO}
theorem Un.any (u:Un fs ex H H1 h h1) {b:Addr} {ob:Obj} (q:h.get? b=some ob) (n:H b=none) (hx:b∉ex):∃ sl,h1.get? b=some { ob with slots:=sl }:=by
 by_cases hb:b∈fs
 ·exact u.slot b ob q n hb hx
 ·exact ⟨ob.slots,u.keep b ob q n hb hx⟩
theorem Un.trans (a:Un fs ex H H1 h h1) (b:Un fs ex H1 H2 h1 h2):Un fs ex H H2 h h2 where
 keep:=fun c ob q n hc hx=>b.keep c ob (a.keep c ob q n hc hx) (a.free c ob q n hx) hc hx
 slot:=fun c ob q n hc hx=>by
  obtain ⟨sl,e1⟩:=a.slot c ob q n hc hx
  obtain ⟨sl',e2⟩:=b.slot c _ e1 (a.free c ob q n hx) hc hx
  exact ⟨sl',e2⟩
 free:=fun c ob q n hx=>by
  obtain ⟨o',e1⟩:=a.there c ob q hx
  exact b.free c o' e1 (a.free c ob q n hx) hx
 there:=fun c ob q hx=>by
  obtain ⟨o',e1⟩:=a.there c ob q hx
  exact b.there c o' e1 hx
 tups:=fun c xs q=>b.tups c xs (a.tups c xs q)
 frzs:=fun c ob xs q=>b.frzs c ob xs (a.frzs c ob xs q)
 tbls:=fun c ps q=>by
  obtain ⟨m1,e1⟩:=a.tbls c ps q
  obtain ⟨m2,e2⟩:=b.tbls c _ e1
  exact ⟨m1++m2,by rw [e2,Array.append_assoc]⟩
theorem Un.kept (k:∀ b u,h.get? b=some u->h'.get? b=some u):Un fs ex H H h h' :=
 ⟨fun b ob q _ _ _=>k b ob q,fun b ob q _ _ _=>⟨ob.slots,k b ob q⟩,fun _ _ _ n _=>n,fun b ob q _=>⟨ob,k b ob q⟩,fun _ _ q=>q,fun _ _ _ q=>q,fun _ ps q=>⟨#[],by rw [q]; simp⟩⟩
theorem Un.refl:Un fs ex H H h h:=Un.kept fun _ _ q=>q
theorem Un.laid (k:∀ b u,h.get? b=some u->h'.get? b=some u) (hp:h.objs.size<=a) (hn:H a=none):Un fs ex H (upd H a o) h h' where
 keep:=fun b u q _ _ _=>k b u q
 slot:=fun b u q _ _ _=>⟨u.slots,k b u q⟩
 free:=fun b u q n _=>by rw [aAu (Nat.ne_of_lt (Nat.lt_of_lt_of_le (Heap.lt_size q) hp))]; exact n
 there:=fun b u q _=>⟨u,k b u q⟩
 tups:=fun b xs q=>by rw [aAu (aAe q hn)]; exact q
 frzs:=fun b u xs q=>by rw [aAu (aAe q hn)]; exact q
 tbls:=fun b ps q=>⟨#[],by rw [aAu (aAe q hn),q]; simp⟩
theorem Un.write (mu:Mut (H x)) (he:e=x∨H e=some (.own x)) (k:∀ b u,b≠e->h.get? b=some u->h'.get? b=some u) (heo:∃ u,h'.get? e=some u):Un fs ex H (upd H x o) h h':=by
 have hx:∀ b,H b=none->b≠x:=fun b n z=>by subst z; rw [n] at mu; exact mu
 have hb:∀ b,H b=none->b≠e:=fun b n z=>by
  subst z
  rcases he with r | r
  ·exact hx b n r
  ·rw [n] at r; cases r
 have hm:∀ b u,H b=some u->¬ Mut (some u)->b≠x:=fun b u q nm z=>by subst z; rw [q] at mu; exact nm mu
 refine ⟨fun b u q n _ _=>k b u (hb b n) q,fun b u q n _ _=>⟨u.slots,k b u (hb b n) q⟩,fun b u q n _=>by rw [aAu (hx b n)]; exact n,fun b u q _=>?_,
  fun b xs q=>by rw [aAu (hm b _ q fun z=>z)]; exact q,fun b u xs q=>by rw [aAu (hm b _ q fun z=>z)]; exact q,fun b ps q=>⟨#[],by rw [aAu (hm b _ q fun z=>z),q]; simp⟩⟩
 by_cases hbe:b=e
 ·subst hbe; exact heo
 ·exact ⟨u,k b u hbe q⟩
end
noncomputable def trk (h:Heap) (H:Hp):List Addr:=(List.range h.objs.size).filter fun a=>(H a).isSome
noncomputable def aTp (h:Heap) (H:Hp):Heap:=PySem.W.hideAll h (trk h H)
theorem aQ9 (h:Heap) (H:Hp):(aTp h H).objs.size=h.objs.size:=PySem.W.hideAll_size _ _
theorem aTo {h:Heap} {H:Hp} {b:Addr} {o:Obj} (e:h.get? b=some o) (n:H b=none):(aTp h H).get? b=some o :=
 PySem.W.hideAll_get _ e fun hm=>by
  have q:(H b).isSome=true:=(List.mem_filter.mp hm).2
  rw [n] at q; simp at q
theorem aWv {h:Heap} {H:Hp} {b:Addr} {o:Obj} (e:(aTp h H).get? b=some o):h.get? b=some o/\H b=none:=by
 have e':h.get? b=some o:=PySem.W.of_hideAll (trk h H) e
 refine ⟨e',?_⟩
 cases q:H b with
 | none=>rfl
 | some x =>
  have hm:b∈trk h H:=List.mem_filter.mpr ⟨List.mem_range.mpr (Heap.lt_size e'),by simp [q]⟩
  have z:(aTp h H).get? b=none:=PySem.W.hideAll_none (trk h H) hm
  rw [z] at e; cases e
noncomputable def aXt (g h:Heap) (L:Addr):List (Addr×Obj):=(List.range h.objs.size).filterMap fun a=>if a=L∨(g.get? a).isSome=true then none else (h.get? a).map fun o=>(a,o)
noncomputable def aDh (g h:Heap) (L d:Addr):List (Addr×Obj):=(aXt g h L).filter fun p=>decide (p.1≠d)
end L2
namespace L2
open PySem PySem.Spec PyProof.Rows
structure Mod (K:PySem.W.Frag) (mg:Str->Option Value) (base:Heap):Prop where
 kin:K.In base
 glob:base.Ns mainGlobals mg
 blt:∃ mb,base.Ns builtinsNs mb/\∀ x:Str,x≠"__name__"->mb x=bootBuiltins x
 nolimit:base.NoLimit
set_option genInjectivity false in
set_option genSizeOfSpec false in
structure Cx where
 prog:Program
 w:World
 K:PySem.W.Frag
 mg:Str->Option Value
 base:Heap
 A:Around
 N:List Str
 s₀:Shared
 H₀:Hp
 env:Env
 outer:List Env
 stack:List Env
 ex:List Addr
 fn:Str->Bool
 calm:Bool
 pn:List (Addr×Obj)
 xe:Value->Shared->Prop
noncomputable def frs (l:List Env):List Addr:=l.filterMap (·.frame)
noncomputable abbrev Cx.fs (X:Cx):List Addr:=frs X.outer
noncomputable def Vis (sc:Scope) (x:Str):Prop:=sc.names.lookup x=some .local∨sc.names.lookup x=some .cell∨sc.names.lookup x=some .free
noncomputable def Loc (sc:Scope) (x:Str):Prop:=sc.names.lookup x=some .local∨sc.names.lookup x=some .cell
noncomputable def Look (env:Env) (h:Heap) (m:Str->Option Value) (x:Str) (u:Value):Prop :=
 (env.kindOf x=some .local/\m x=some u)∨((env.kindOf x=some .cell∨env.kindOf x=some .free)/\∃ c,env.cells.lookup x=some c/\h.IsCell c (some u))
structure Cx.Ok (X:Cx):Prop where
 mod:Mod X.K X.mg X.base
 kind:X.env.scope.kind=.function
 glob:X.env.globals=mainGlobals
 blt:X.env.builtins=builtinsNs
 above:X.s₀.heap.objs.size<=X.env.locals
 inj:∀ x y c,X.env.cells.lookup x=some c->X.env.cells.lookup y=some c->x=y
 has:∀ x,(X.env.kindOf x=some .cell∨X.env.kindOf x=some .free)->∃ c,X.env.cells.lookup x=some c
 cab:∀ x c,X.fn x=true->X.env.cells.lookup x=some c->X.s₀.heap.objs.size<=c
 hd:X.calm=true->X.A.handled=none
 frames:X.A.frames=some X.stack
 stk:X.stack=X.outer∨(X.stack=X.env::X.outer/\X.env.frame=some X.env.locals)
 exf:∀ b∈X.ex,b≠X.env.locals/\∀ x c,X.env.cells.lookup x=some c->c≠b
 bs:∀ b o,X.base.get? b=some o->X.s₀.heap.get? b=some o/\X.H₀ b=none
 bsz:X.base.objs.size<=X.s₀.heap.objs.size
 noex:∀ b o,X.base.get? b=some o->b∉X.ex
 exfs:∀ b∈X.ex,b∉X.fs
 funs:X.s₀.heap.FunFrames X.base X.outer
 frf:∀ b∈X.fs,X.H₀ b=none
structure Inv (X:Cx) (pins:List (Addr×Obj)) (σ:List (Option V)) (H:Hp) (s:Shared):Prop where
 ok:X.Ok
 os:s.os=X.s₀.os
 bare:AllBare s.gens
 base:Un X.fs X.ex X.H₀ H X.s₀.heap s.heap
 loc:∃ m,s.heap.Ns X.env.locals m/\∀ (i:Nat) (x:Str) (v:V),X.N[i]?=some x->σ[i]?=some (some v)->Vis X.env.scope x->∃ u,aBr v u/\Look X.env s.heap m x u
 cell:∀ x c,X.env.cells.lookup x=some c->∃ v,s.heap.IsCell c v
 free:H X.env.locals=none
 freeC:∀ x c,X.env.cells.lookup x=some c->H c=none
 pin:∀ p∈X.pn++pins,s.heap.get? p.1=some p.2/\H p.1=none/\p.1≠X.env.locals/\p.1∉X.fs/\∀ v,p.2.data≠.cell v
 hok:HOk X.prog X.w H s.heap
 len:σ.length=X.N.length
section
variable {X:Cx} {pins:List (Addr×Obj)} {σ:List (Option V)} {H H':Hp} {s:Shared} {h':Heap}
theorem Cx.Ok.nofr (ok:X.Ok) {b:Addr} {o:Obj} (e:X.base.get? b=some o):b∉X.fs:=fun hb=>by
 have:=(ok.funs.mem hb).1
 rw [e] at this; cases this
theorem Inv.bs (I:Inv X pins σ H s):∀ b o,X.base.get? b=some o->s.heap.get? b=some o/\H b=none:=fun b o e =>
 ⟨I.base.keep b o (I.ok.bs b o e).1 (I.ok.bs b o e).2 (I.ok.nofr e) (I.ok.noex b o e),I.base.free b o (I.ok.bs b o e).1 (I.ok.bs b o e).2 (I.ok.noex b o e)⟩
theorem Inv.bk (I:Inv X pins σ H s):∀ b o,X.base.get? b=some o->s.heap.get? b=some o:=fun b o e=>(I.bs b o e).1
theorem Inv.mod (I:Inv X pins σ H s):Mod X.K X.mg X.base:=I.ok.mod
theorem Inv.kIn (I:Inv X pins σ H s):X.K.In s.heap:=I.ok.mod.kin.keeps I.bk
theorem Inv.lt (I:Inv X pins σ H s):X.env.locals < s.heap.objs.size:=let ⟨_,hn,_⟩:=I.loc; hn.lt
theorem Inv.sz (I:Inv X pins σ H s):X.s₀.heap.objs.size<=s.heap.objs.size:=Nat.le_trans I.ok.above (Nat.le_of_lt I.lt)
theorem Inv.nofs (I:Inv X pins σ H s) {a:Addr} (h:s.heap.objs.size<=a):a∉X.fs:=fun hb=>by
 obtain ⟨_,o,ho,_⟩:=I.ok.funs.mem hb
 exact absurd (Nat.lt_of_lt_of_le (Heap.lt_size ho) (Nat.le_trans I.sz h)) (Nat.lt_irrefl _)
theorem Inv.cne (I:Inv X pins σ H s):∀ x c,X.env.cells.lookup x=some c->c≠X.env.locals:=fun x c e z=>by
 obtain ⟨v,o,ho,hd⟩:=I.cell x c e
 obtain ⟨m,⟨o',es,ep,ho',hd',_⟩,_⟩:=I.loc
 rw [z,ho'] at ho; cases ho; rw [hd'] at hd; cases hd
theorem Inv.funs (I:Inv X pins σ H s):s.heap.FunFrames X.base X.outer:=by
 have all:∀ (l:List Env),(∀ b∈frs l,b∈X.fs)->X.s₀.heap.FunFrames X.base l->s.heap.FunFrames X.base l:=by
  intro l
  induction l with
  | nil=>intro _ _; trivial
  | cons env r ih =>
   intro hs hl
   obtain ⟨hk,⟨L,o,hf,hn,ho,hd⟩,hr⟩:=hl
   have hL:L∈X.fs:=hs L (by unfold frs; rw [List.filterMap_cons,hf]; exact List.mem_cons_self)
   obtain ⟨sl,e⟩:=I.base.slot L o ho (I.ok.frf L hL) hL fun z=>I.ok.exfs L z hL
   exact ⟨hk,⟨L,_,hf,hn,e,hd⟩,ih (fun b hb=>hs b (by unfold frs; rw [List.filterMap_cons,hf]; exact List.mem_cons_of_mem _ hb)) hr⟩
 exact all X.outer (fun _ hb=>hb) I.ok.funs
theorem Inv.stack (I:Inv X pins σ H s):s.heap.FunFrames X.base X.stack:=by
 rcases I.ok.stk with e | ⟨e,hf⟩
 ·rw [e]; exact I.funs
 ·rw [e]
  obtain ⟨m,hn,_⟩:=I.loc
  refine .cons (by rw [I.ok.kind]; decide) hf hn ?_ I.funs
  exact Heap.get?_none_of_le (Nat.le_trans I.ok.bsz I.ok.above)
theorem Inv.stkSub (I:Inv X pins σ H s):∀ b∈frs X.stack,b∈X.env.locals::X.fs:=fun b hb=>by
 rcases I.ok.stk with e | ⟨e,hf⟩
 ·rw [e] at hb; exact List.mem_cons_of_mem _ hb
 ·rw [e] at hb
  unfold frs at hb
  rw [List.filterMap_cons,hf] at hb
  exact hb
theorem Inv.stkFree (I:Inv X pins σ H s):∀ b∈frs X.stack,H b=none:=fun b hb=>by
 rcases List.mem_cons.mp (I.stkSub b hb) with e | hb
 ·rw [e]; exact I.free
 ·obtain ⟨_,o,ho,_⟩:=I.ok.funs.mem hb
  exact I.base.free b o ho (I.ok.frf b hb) fun z=>I.ok.exfs b z hb
theorem Inv.step {g':Array GenState} {t':Nat} {d':Drawn} {ch:List Addr} (I:Inv X pins σ H s)
  (hch:∀ b∈ch,(b∈X.ex∨X.s₀.heap.objs.size<=b)/\b≠X.env.locals/\(∀ x c,X.env.cells.lookup x=some c->c≠b)/\∀ p∈X.pn++pins,p.1≠b)
  (keep:∀ b o,b≠X.env.locals->b∉X.fs->b∉ch->s.heap.get? b=some o->H b=none->h'.get? b=some o)
  (slot:∀ b o,b≠X.env.locals->b∈X.fs->b∉ch->s.heap.get? b=some o->H b=none->∃ sl,h'.get? b=some { o with slots:=sl }) (free:∀ b o,b∉ch->s.heap.get? b=some o->H b=none->H' b=none)
  (there:∀ b o,b∉ch->s.heap.get? b=some o->∃ o',h'.get? b=some o')
  (tups:∀ b xs,H b=some (.tup xs)->H' b=some (.tup xs)) (frzs:∀ b o u,H b=some (.frz o u)->H' b=some (.frz o u)) (tbls:∀ b ps,H b=some (.tbl ps)->∃ more,H' b=some (.tbl (ps++more)))
  (ns:∀ m,s.heap.Ns X.env.locals m->h'.Ns X.env.locals m) (hok:HOk X.prog X.w H' h') (hg:AllBare g') :
  Inv X pins σ H' { s with heap:=h',gens:=g',drawn:=d',toks:=t' }:=by
 have neL:∀ b o,X.s₀.heap.get? b=some o->b≠X.env.locals:=fun b o e=>Nat.ne_of_lt (Nat.lt_of_lt_of_le (Heap.lt_size e) I.ok.above)
 have neC:∀ b o,X.s₀.heap.get? b=some o->b∉X.ex->b∉ch:=fun b o e hx hb=>by
  rcases (hch b hb).1 with z | z
  ·exact hx z
  ·exact absurd (Nat.lt_of_lt_of_le (Heap.lt_size e) z) (Nat.lt_irrefl _)
 have cellK:∀ x c,X.env.cells.lookup x=some c->∀ v,s.heap.IsCell c v->h'.IsCell c v:=fun x c e v ⟨o,ho,hd⟩=>by
  have nch:c∉ch:=fun z=>(hch c z).2.2.1 x c e rfl
  by_cases hc:c∈X.fs
  ·obtain ⟨sl,q⟩:=slot c o (I.cne x c e) hc nch ho (I.freeC x c e)
   exact ⟨_,q,hd⟩
  ·exact ⟨o,keep c o (I.cne x c e) hc nch ho (I.freeC x c e),hd⟩
 refine ⟨I.ok,I.os,hg,⟨fun b o e n hb hx=>?_,fun b o e n hb hx=>?_,fun b o e n hx=>?_,fun b o e hx=>?_,fun b xs e=>tups b xs (I.base.tups b xs e),fun b o xs e=>frzs b o xs (I.base.frzs b o xs e),fun b ps e=>?_⟩,?_,fun x c e=>?_,?_,fun x c e=>?_,fun p hp=>?_,hok,I.len⟩
 ·exact keep b o (neL b o e) hb (neC b o e hx) (I.base.keep b o e n hb hx) (I.base.free b o e n hx)
 ·obtain ⟨sl,e1⟩:=I.base.slot b o e n hb hx
  obtain ⟨sl',e2⟩:=slot b _ (neL b o e) hb (neC b o e hx) e1 (I.base.free b o e n hx)
  exact ⟨sl',e2⟩
 ·obtain ⟨o',e1⟩:=I.base.there b o e hx
  exact free b o' (neC b o e hx) e1 (I.base.free b o e n hx)
 ·obtain ⟨o',e1⟩:=I.base.there b o e hx
  exact there b o' (neC b o e hx) e1
 ·obtain ⟨m1,e1⟩:=I.base.tbls b ps e
  obtain ⟨m2,e2⟩:=tbls b _ e1
  exact ⟨m1++m2,by rw [e2,Array.append_assoc]⟩
 ·obtain ⟨m,hn,hl⟩:=I.loc
  refine ⟨m,ns m hn,fun i x v e1 e2 e3=>?_⟩
  obtain ⟨u,r,l⟩:=hl i x v e1 e2 e3
  refine ⟨u,r,?_⟩
  rcases l with l | ⟨k,c,e,z⟩
  ·exact .inl l
  ·exact .inr ⟨k,c,e,cellK x c e _ z⟩
 ·obtain ⟨v,z⟩:=I.cell x c e
  exact ⟨v,cellK x c e v z⟩
 ·obtain ⟨m,⟨o,_,_,ho,_⟩,_⟩:=I.loc
  exact free _ o (fun z=>(hch _ z).2.1 rfl) ho I.free
 ·obtain ⟨v,o,ho,hd⟩:=I.cell x c e
  exact free c o (fun z=>(hch c z).2.2.1 x c e rfl) ho (I.freeC x c e)
 ·obtain ⟨e,n,ne,nf,d⟩:=I.pin p hp
  have nch:p.1∉ch:=fun z=>(hch p.1 z).2.2.2 p hp rfl
  exact ⟨keep p.1 p.2 ne nf nch e n,free p.1 p.2 nch e n,ne,nf,d⟩
theorem Inv.un {t':Nat} (I:Inv X pins σ H s) (u:Un X.fs [] H H' s.heap h') (hok:HOk X.prog X.w H' h'):Inv X pins σ H' { s with heap:=h',toks:=t' }:=by
 obtain ⟨m,⟨o,es,ep,ho,r⟩,_⟩:=id I.loc
 obtain ⟨sl,hL⟩:=u.any ho I.free (by simp)
 exact I.step (g':=s.gens) (d':=s.drawn) (ch:=[]) (fun _ z=>nomatch z) (fun b o _ hb _ e n=>u.keep b o e n hb (by simp)) (fun b o _ hb _ e n=>u.slot b o e n hb (by simp)) (fun b o _ e n=>u.free b o e n (by simp)) (fun b o _ e=>u.there b o e (by simp)) u.tups u.frzs u.tbls (fun m' hm=>by
  obtain ⟨o',es',ep',ho',r'⟩:=hm
  rw [ho] at ho'; cases ho'
  exact ⟨_,es',ep',hL,r'⟩) hok I.bare
theorem Inv.call {g':Array GenState} {t':Nat} {d':Drawn} {ch:List Addr} (I:Inv X pins σ H s) (u:Un (frs X.stack) ch H H' s.heap h') (hok:HOk X.prog X.w H' h') (hg:AllBare g')
  (hch:∀ b∈ch,(b∈X.ex∨X.s₀.heap.objs.size<=b)/\b≠X.env.locals/\(∀ x c,X.env.cells.lookup x=some c->c≠b)/\∀ p∈X.pn++pins,p.1≠b) :
  Inv X pins σ H' { s with heap:=h',gens:=g',drawn:=d',toks:=t' }:=by
 obtain ⟨m,⟨o,es,ep,ho,r⟩,_⟩:=id I.loc
 obtain ⟨sl,hL⟩:=u.any ho I.free fun z=>(hch _ z).2.1 rfl
 exact I.step (ch:=ch) hch (fun b o hL hb hc e n=>u.keep b o e n (fun z=>(List.mem_cons.mp (I.stkSub b z)).elim hL hb) hc) (fun b o _ _ hc e n=>u.any e n hc) (fun b o hc e n=>u.free b o e n hc) (fun b o hc e=>u.there b o e hc) u.tups u.frzs u.tbls (fun m' hm=>by
  obtain ⟨o',es',ep',ho',r'⟩:=hm
  rw [ho] at ho'; cases ho'
  exact ⟨_,es',ep',hL,r'⟩) hok hg
theorem Inv.turned {t':Nat} {it:Addr} (I:Inv X pins σ H s) (k:∀ b o,b≠it->s.heap.get? b=some o->h'.get? b=some o) (hn:H it=none) (hL:it≠X.env.locals)
  (h1:it∈X.ex∨X.s₀.heap.objs.size<=it) (h2:∀ x c,X.env.cells.lookup x=some c->c≠it) (h3:∀ p∈X.pn++pins,p.1≠it):Inv X pins σ H { s with heap:=h',toks:=t' }:=by
 have nit:∀ b u,H b=some u->b≠it:=fun b u e z=>by rw [z,hn] at e; cases e
 refine I.step (g':=s.gens) (d':=s.drawn) (ch:=[it]) (fun b hb=>?_) (fun b o _ _ hc e _=>k b o (fun z=>hc (by simp [z])) e) (fun b o _ _ hc e _=>⟨o.slots,k b o (fun z=>hc (by simp [z])) e⟩) (fun _ _ _ _ n=>n)
  (fun b o hc e=>⟨o,k b o (fun z=>hc (by simp [z])) e⟩) (fun _ _ e=>e) (fun _ _ _ e=>e) (fun b ps e=>⟨#[],by rw [e]; simp⟩) (fun m hm=>?_) (fun b u e=>?_) I.bare
 ·have e:b=it:=by simpa using hb
  subst e
  exact ⟨h1,hL,h2,h3⟩
 ·obtain ⟨o,es,ep,ho,r⟩:=hm
  exact ⟨o,es,ep,k _ o (Ne.symm hL) ho,r⟩
 ·refine (I.hok b u e).stay (fun c v hc q=>k c v ?_ q) (fun _ q=>q) fun _ _ q=>q
  rcases hc with z | z
  ·rw [z]; exact nit b u e
  ·exact nit c _ z
theorem Inv.tok (I:Inv X pins σ H s) (t:Nat):Inv X pins σ H { s with toks:=t }:=I.un (h':=s.heap) (t':=t) Un.refl I.hok
theorem Inv.kept {t':Nat} (I:Inv X pins σ H s) (k:∀ b u,s.heap.get? b=some u->h'.get? b=some u):Inv X pins σ H { s with heap:=h',toks:=t' }:=I.un (Un.kept k) (I.hok.kept k)
theorem Inv.laid {a:Addr} {o:HO} {t':Nat} (I:Inv X pins σ H s) (k:∀ b u,s.heap.get? b=some u->h'.get? b=some u) (hp:s.heap.objs.size<=a) (new:aB0 X.prog X.w (upd H a o) h' a o) :
  Inv X pins σ (upd H a o) { s with heap:=h',toks:=t' }:=I.un (Un.laid k hp (I.hok.fresh hp)) (I.hok.laid k hp new)
theorem Inv.write {x e:Addr} {o:HO} {t':Nat} (I:Inv X pins σ H s) (mu:Mut (H x)) (he:e=x∨H e=some (.own x)) (k:∀ b u,b≠e->s.heap.get? b=some u->h'.get? b=some u) (heo:∃ u,h'.get? e=some u)
  (new:aB0 X.prog X.w (upd H x o) h' x o):Inv X pins σ (upd H x o) { s with heap:=h',toks:=t' }:=I.un (Un.write mu he k heo) (I.hok.write mu he k heo new)
theorem Inv.pins_of {pins':List (Addr×Obj)} (I:Inv X pins σ H s) (h:∀ p∈pins',s.heap.get? p.1=some p.2/\H p.1=none/\p.1≠X.env.locals/\p.1∉X.fs/\∀ v,p.2.data≠.cell v):Inv X pins' σ H s :=
 ⟨I.ok,I.os,I.bare,I.base,I.loc,I.cell,I.free,I.freeC,fun p hp=>(List.mem_append.mp hp).elim (fun z=>I.pin p (List.mem_append_left _ z)) (h p),I.hok,I.len⟩
theorem aNa {N:List Str} (hN:N.Nodup) {i j:Nat} {x:Str} (a:N[i]?=some x) (b:N[j]?=some x):i=j:=by
 obtain ⟨h1,e1⟩:=List.getElem?_eq_some_iff.mp a
 obtain ⟨h2,e2⟩:=List.getElem?_eq_some_iff.mp b
 exact (List.getElem_inj hN).mp (e1.trans e2.symm)
theorem aJp {M:Model} {A:Around} {E:Value->Shared->Prop} {i:Nat} {x:Str} {v:V} {u:Value} {Q:Unit->Shared->Prop} (I:Inv X pins σ H s) (hN:X.N.Nodup) (hi:X.N[i]?=some x) (hx:Loc X.env.scope x) (r:aBr v u)
  (h:∀ s',Inv X pins (σ.set i (some v)) H s'->(∃ a,Heap.SameBut a s.heap s'.heap/\(a=X.env.locals∨X.env.cells.lookup x=some a))->Q () s') (hf:X.fn x=true∨X.env.scope.names.lookup x=some .local:=by first | exact .inl rfl | exact .inr rfl | assumption):wpAny M A (storeName X.env x u) Q E s:=by
 obtain ⟨m,hn,hl⟩:=id I.loc
 have hcls:(X.env.scope.kind==.class || (X.env.scope.kind==.module&&X.env.locals !=X.env.globals))=false:=by rw [I.ok.kind]; rfl
 have hiσ:i < σ.length:=by rw [I.len]; exact (List.getElem?_eq_some_iff.mp hi).1
 have cne:=I.cne
 have tracked:∀ {a:Addr} {h':Heap},(∃ o,s.heap.get? a=some o/\H a=none)->Heap.SameBut a s.heap h'->HOk X.prog X.w H h':=fun {a h'} ha hs b ob e=>by
  obtain ⟨_,_,hfree⟩:=ha
  refine (I.hok b ob e).stay (fun c w' hc q=>(hs.2 c ?_).trans q) (fun _ q=>q) fun _ _ q=>q
  rintro rfl
  rcases hc with rfl | hc
  ·rw [hfree] at e; cases e
  ·rw [hfree] at hc; cases hc
 rcases hx with hk | hk
 ·refine wpAny_storeName_local hk hn (fun h' hn' hs=>?_) hcls
  obtain ⟨oL,_,_,hoL,_⟩:=id hn
  refine h _ ⟨I.ok,I.os,I.bare,⟨fun b o e n hb hx=>?_,fun b o e n hb hx=>?_,I.base.free,fun b o e hx=>?_,I.base.tups,I.base.frzs,I.base.tbls⟩,⟨_,hn',fun j y v' e1 e2 e3=>?_⟩,fun y c e=>?_,I.free,I.freeC,fun p hp=>?_,tracked ⟨oL,hoL,I.free⟩ hs,by simpa using I.len⟩ ⟨_,hs,.inl rfl⟩
  ·exact (hs.2 b (Nat.ne_of_lt (Nat.lt_of_lt_of_le (Heap.lt_size e) I.ok.above))).trans (I.base.keep b o e n hb hx)
  ·obtain ⟨sl,e1⟩:=I.base.slot b o e n hb hx
   exact ⟨sl,(hs.2 b (Nat.ne_of_lt (Nat.lt_of_lt_of_le (Heap.lt_size e) I.ok.above))).trans e1⟩
  ·obtain ⟨o',e1⟩:=I.base.there b o e hx
   exact ⟨o',(hs.2 b (Nat.ne_of_lt (Nat.lt_of_lt_of_le (Heap.lt_size e) I.ok.above))).trans e1⟩
  ·by_cases hj:j=i
   ·subst hj
    rw [hi] at e1; cases e1
    rw [List.getElem?_set_self hiσ] at e2
    cases e2
    exact ⟨u,r,.inl ⟨hk,by simp⟩⟩
   ·rw [List.getElem?_set_ne (Ne.symm hj)] at e2
    obtain ⟨u',r',q⟩:=hl j y v' e1 e2 e3
    refine ⟨u',r',?_⟩
    rcases q with ⟨k,e⟩ | ⟨k,c,e,z⟩
    ·refine .inl ⟨k,?_⟩
     have:y≠x:=fun e=>hj (aNa hN e1 (e ▸ hi))
     simp [this,e]
    ·exact .inr ⟨k,c,e,z.sameBut hs (cne y c e)⟩
  ·obtain ⟨w',z⟩:=I.cell y c e
   exact ⟨w',z.sameBut hs (cne y c e)⟩
  ·obtain ⟨e,n,ne,nf,d⟩:=I.pin p hp
   exact ⟨(hs.2 p.1 ne).trans e,n,ne,nf,d⟩
 ·have hfn:X.fn x=true:=by
   rcases hf with z | z
   ·exact z
   ·rw [z] at hk; cases hk
  obtain ⟨c,hc⟩:=I.ok.has x (.inl hk)
  obtain ⟨w',z⟩:=I.cell x c hc
  refine wpAny_storeName_cell I.ok.kind hk hc z (fun h' hc' hs=>?_)
  obtain ⟨oc,hoc,hocd⟩:=id z
  refine h { s with heap:=h' } ⟨I.ok,I.os,I.bare,⟨fun b o e n hb hx=>?_,fun b o e n hb hx=>?_,I.base.free,fun b o e hx=>?_,I.base.tups,I.base.frzs,I.base.tbls⟩,⟨m,hn.sameBut hs (Ne.symm (cne x c hc)),fun j y v' e1 e2 e3=>?_⟩,fun y c' e=>?_,I.free,I.freeC,fun p hp=>?_,tracked ⟨oc,hoc,I.freeC x c hc⟩ hs,by simpa using I.len⟩ ⟨c,hs,.inr hc⟩
  ·exact (hs.2 b (Nat.ne_of_lt (Nat.lt_of_lt_of_le (Heap.lt_size e) (I.ok.cab x c hfn hc)))).trans (I.base.keep b o e n hb hx)
  ·obtain ⟨sl,e1⟩:=I.base.slot b o e n hb hx
   exact ⟨sl,(hs.2 b (Nat.ne_of_lt (Nat.lt_of_lt_of_le (Heap.lt_size e) (I.ok.cab x c hfn hc)))).trans e1⟩
  ·obtain ⟨o',e1⟩:=I.base.there b o e hx
   exact ⟨o',(hs.2 b (Nat.ne_of_lt (Nat.lt_of_lt_of_le (Heap.lt_size e) (I.ok.cab x c hfn hc)))).trans e1⟩
  ·by_cases hj:j=i
   ·subst hj
    rw [hi] at e1; cases e1
    rw [List.getElem?_set_self hiσ] at e2
    cases e2
    exact ⟨u,r,.inr ⟨.inl hk,c,hc,hc'⟩⟩
   ·rw [List.getElem?_set_ne (Ne.symm hj)] at e2
    obtain ⟨u',r',q⟩:=hl j y v' e1 e2 e3
    refine ⟨u',r',?_⟩
    rcases q with q | ⟨k,c',e,z'⟩
    ·exact .inl q
    ·refine .inr ⟨k,c',e,z'.sameBut hs ?_⟩
     rintro rfl
     exact hj (aNa hN e1 (I.ok.inj _ _ _ e hc ▸ hi))
  ·by_cases hcc:c'=c
   ·subst hcc; exact ⟨_,hc'⟩
   ·obtain ⟨w2,z2⟩:=I.cell y c' e
    exact ⟨w2,z2.sameBut hs hcc⟩
  ·obtain ⟨e,n,ne,nf,d⟩:=I.pin p hp
   refine ⟨(hs.2 p.1 ?_).trans e,n,ne,nf,d⟩
   intro q
   rw [q,hoc] at e
   have q':oc=p.2:=Option.some.inj e
   exact d w' (by rw [← q']; exact hocd)
theorem aGg {M:Model} {A:Around} {E:Value->Shared->Prop} {i:Nat} {x:Str} {v:V} {u:Value} {Q:Unit->Shared->Prop} (I:Inv X pins σ H s) (hN:X.N.Nodup) (hi:X.N[i]?=some x) (hx:Loc X.env.scope x) (r:aBr v u)
  (h:∀ s',Inv X pins (σ.set i (some v)) H s'->Q () s') (hf:X.fn x=true∨X.env.scope.names.lookup x=some .local:=by first | exact .inl rfl | exact .inr rfl | assumption):wpAny M A (storeName X.env x u) Q E s :=
 aJp I hN hi hx r (fun s' I' _=>h s' I') hf
theorem Inv.call' {s':Shared} {ch:List Addr} (I:Inv X pins σ H s) (ho:s'.os=s.os) (u:Un (frs X.stack) ch H H' s.heap s'.heap) (hok:HOk X.prog X.w H' s'.heap) (hg:AllBare s'.gens)
  (hch:∀ b∈ch,(b∈X.ex∨X.s₀.heap.objs.size<=b)/\b≠X.env.locals/\(∀ x c,X.env.cells.lookup x=some c->c≠b)/\∀ p∈X.pn++pins,p.1≠b):Inv X pins σ H' s':=by
 obtain ⟨h',g',d',t',o'⟩:=s'
 have e:o'=s.os:=ho
 subst e
 exact I.call (g':=g') (t':=t') (d':=d') u hok hg hch
end
noncomputable abbrev XK:=Value->Option Addr->Hp->Prop
noncomputable abbrev St:=List (Option V)
noncomputable abbrev VK:=V->Hp->Prop
noncomputable abbrev TE:=St->Hp->VK->Prop
noncomputable abbrev TT:=St->Hp->(Bool->Hp->Prop)->Prop
noncomputable abbrev TA:=St->Hp->(List V->Hp->Prop)->Prop
structure aE4 where
 nx:St->Hp->Prop
 rt:VK
 bk:St->Hp->Prop:=fun _ _=>False
 ct:St->Hp->Prop:=fun _ _=>False
noncomputable abbrev TS:=aE4->St->Hp->Prop
noncomputable def EP (X:Cx) (pins:List (Addr×Obj)) (σ:St) (Q:VK) (u:Value) (s':Shared):Prop:=∃ v H',Inv X pins σ H' s'/\aBr v u/\Q v H'
noncomputable def TP (X:Cx) (pins:List (Addr×Obj)) (σ:St) (Q:Bool->Hp->Prop) (b:Bool) (s':Shared):Prop:=∃ H',Inv X pins σ H' s'/\Q b H'
noncomputable def AP (X:Cx) (pins:List (Addr×Obj)) (σ:St) (Q:List V->Hp->Prop) (us:List Value) (s':Shared):Prop:=∃ vs H',Inv X pins σ H' s'/\aBn vs us/\Q vs H'
noncomputable def SP (X:Cx) (pins:List (Addr×Obj)) (D:aE4) (f:Flow) (s':Shared):Prop :=
 match f with
 | .next=>∃ σ' H',Inv X pins σ' H' s'/\D.nx σ' H'
 | .brk=>∃ σ' H',Inv X pins σ' H' s'/\D.bk σ' H'
 | .cont=>∃ σ' H',Inv X pins σ' H' s'/\D.ct σ' H'
 | .ret u=>∃ v σ' H',Inv X pins σ' H' s'/\aBr v u/\D.rt v H'
noncomputable def PE (X:Cx) (e:Expr) (t:TE):Prop :=
 ∀ (pins:List (Addr×Obj)) (s:Shared) (σ:St) (H:Hp) (Q:VK),Inv X pins σ H s->t σ H Q->wpAny (model X.prog X.w) X.A (eval e X.env) (EP X pins σ Q) X.xe s
noncomputable def PT (X:Cx) (e:Expr) (t:TT):Prop :=
 ∀ (pins:List (Addr×Obj)) (s:Shared) (σ:St) (H:Hp) (Q:Bool->Hp->Prop),Inv X pins σ H s->t σ H Q->wpAny (model X.prog X.w) X.A (isTrue e X.env (eval e X.env)) (TP X pins σ Q) X.xe s
noncomputable def PW (X:Cx) (e:Expr) (t:TT):Prop :=
 ∀ (whole:Sem Value) (pins:List (Addr×Obj)) (s:Shared) (σ:St) (H:Hp) (Q:Bool->Hp->Prop),Inv X pins σ H s->t σ H Q->wpAny (model X.prog X.w) X.A (isTrue e X.env whole) (TP X pins σ Q) X.xe s
theorem PW.pt {X:Cx} {e:Expr} {t:TT} (h:PW X e t):PT X e t:=h _
noncomputable def PA (X:Cx) (es:List Expr) (t:TA):Prop :=
 ∀ (pos:Pos) (pins:List (Addr×Obj)) (s:Shared) (σ:St) (H:Hp) (Q:List V->Hp->Prop),Inv X pins σ H s->t σ H Q->wpAny (model X.prog X.w) X.A (spliced (backTo pos (starEach es X.env))) (AP X pins σ Q) X.xe s
noncomputable def PS (X:Cx) (st:Stmt) (t:TS):Prop :=
 ∀ (pins:List (Addr×Obj)) (s:Shared) (σ:St) (H:Hp) (D:aE4),Inv X pins σ H s->t D σ H->wpAny (model X.prog X.w) X.A (exec st X.env) (SP X pins D) X.xe s
noncomputable def PSs (X:Cx) (st:List Stmt) (t:TS):Prop :=
 ∀ (pins:List (Addr×Obj)) (s:Shared) (σ:St) (H:Hp) (D:aE4),Inv X pins σ H s->t D σ H->wpAny (model X.prog X.w) X.A (execs st X.env) (SP X pins D) X.xe s
theorem thn {α:Type} {t:Sem α} {Q Q':α->Shared->Prop} {M:Model} {A:Around} {E:Value->Shared->Prop} {s:Shared} (h:wpAny M A t Q E s) (hQ:∀ a s,Q a s->Q' a s):wpAny M A t Q' E s:=wpAny_mono h hQ fun _ _ x=>x
end L2
namespace L2
open PySem PySem.Spec PyProof.Rows
section
variable {X:Cx}
noncomputable def tVar (i:Nat):TE:=fun σ H Q=>∃ v,σ[i]?=some (some v)/\Q v H
noncomputable def tC (v:V):TE:=fun _ H Q=>Q v H
theorem bAm {i:Nat} {x:Str} {pos:Pos} (hN:X.N[i]?=some x) (hv:Vis X.env.scope x) (hd:(x==("__debug__":Str))=false:=by decide) (hcd:(x==("__classdict__":Str))=false:=by decide):PE X (.Name x pos) (tVar i):=by
 intro pins s σ H Q I h
 obtain ⟨v,e,h⟩:=h
 obtain ⟨m,hn,hl⟩:=I.loc
 obtain ⟨u,r,l⟩:=hl i x v hN e hv
 have fin:EP X pins σ Q u s:=⟨v,H,I,r,h⟩
 rcases l with ⟨hk,hm⟩ | ⟨hk,c,hc,hcell⟩
 ·exact wpAny_Name (wpAny_loadName_local I.ok.kind hk hn hm fin) hd
 ·rcases hk with hk | hk
  ·exact wpAny_Name (wpAny_loadName_cell I.ok.kind hk hc hcell fin) hd
  ·exact wpAny_Name (wpAny_loadName_free I.ok.kind hk hc hcell fin hcd) hd
theorem aAf {i j pos}:PE X (.Constant (.int i) j pos) (tC (.int i)):=fun _ _ _ H _ I h=>wpAny_Constant_int ⟨.int i,H,I.tok _,⟨_,rfl⟩,h⟩
theorem aJ6 {b j pos}:PE X (.Constant (.bool b) j pos) (tC (.bl b)):=fun _ _ _ H _ I h=>Constant_bool ⟨.bl b,H,I,rfl,h⟩
theorem aCc {j pos}:PE X (.Constant .none j pos) (tC .non):=fun _ _ _ H _ I h=>Constant_none ⟨.non,H,I,rfl,h⟩
theorem aAt {x j pos}:PE X (.Constant (.str x) j pos) (tC (.str x)):=fun _ _ _ H _ I h=>Calls.Constant_str ⟨.str x,H,I.tok _,⟨_,rfl⟩,h⟩
noncomputable def Gl (X:Cx) (x:Str):Prop:=X.env.kindOf x=some .globalImplicit
theorem aQx {E:Value->Shared->Prop} {pins:List (Addr×Obj)} {s:Shared} {σ:St} {H:Hp} {x:Str} {u:Value} {pos:Pos} {Q:Value->Shared->Prop} (I:Inv X pins σ H s) (hg:Gl X x) (hm:X.mg x=some u) (h:Q u s)
  (hd:(x==("__debug__":Str))=false:=by decide):wpAny (model X.prog X.w) X.A (eval (.Name x pos) X.env) Q E s :=
 Calls.Name_function_global I.ok.kind hg (Calls.loadGlobal_global (by rw [I.ok.glob]; exact I.mod.glob.keeps I.bk) hm h) hd
theorem aEo {E:Value->Shared->Prop} {pins:List (Addr×Obj)} {s:Shared} {σ:St} {H:Hp} {x:Str} {u:Value} {pos:Pos} {Q:Value->Shared->Prop} (I:Inv X pins σ H s) (hg:Gl X x) (hm:X.mg x=none) (hv:bootBuiltins x=some u) (h:Q u s)
  (hn:x≠"__name__":=by decide) (hd:(x==("__debug__":Str))=false:=by decide):wpAny (model X.prog X.w) X.A (eval (.Name x pos) X.env) Q E s:=by
 obtain ⟨mb,h1,h2⟩:=I.mod.blt
 exact Calls.Name_function_global I.ok.kind hg (Calls.loadGlobal_builtin (by rw [I.ok.glob]; exact I.mod.glob.keeps I.bk) hm (by rw [I.ok.blt]; exact h1.keeps I.bk) ((h2 x hn).trans hv) h) hd
theorem aCp {x:Str} {v:V} {u:Value} {pos:Pos} (hg:Gl X x) (hm:X.mg x=none) (hv:bootBuiltins x=some u) (r:aBr v u) (hn:x≠"__name__":=by decide) (hd:(x==("__debug__":Str))=false:=by decide):PE X (.Name x pos) (tC v) :=
 fun _ _ _ H _ I h=>aEo I hg hm hv ⟨v,H,I,r,h⟩ hn hd
variable {a b:Expr} {ta tb:TE} {pos:Pos}
noncomputable def PC (X:Cx) (op:CmpOp) (a b:Expr) (t:TE):Prop :=
 ∀ (pins:List (Addr×Obj)) (s:Shared) (σ:St) (H:Hp) (Q:VK),Inv X pins σ H s->t σ H Q ->
  wpAny (model X.prog X.w) X.A (eval a X.env) (fun v s₁=>wpAny (model X.prog X.w) X.A (eval b X.env) (fun u s₂=>wpAny (model X.prog X.w) X.A (compareOp op v u) (EP X pins σ Q) X.xe s₂) X.xe s₁) X.xe s
noncomputable def tB (t:TE):TT:=fun σ H Q=>t σ H fun x H1=>∃ c,x=.bl c/\Q c H1
theorem bAo {op:CmpOp} {t:TE} (h:PC X op a b t) (h1:behindInMarks op b=false:=by first | exact nobehind _ (by decide) (by decide) | rfl):PE X (.Compare a [op] [b] pos) t:=fun pins s σ H Q I hw=>wpAny_Compare1 (h pins s σ H Q I hw) h1
theorem aEn {op:CmpOp} {t:TE} (h:PC X op a b t) (h1:behindInMarks op b=false:=by first | exact nobehind _ (by decide) (by decide) | rfl):PT X (.Compare a [op] [b] pos) (tB t):=by
 intro pins s σ H Q I hw
 refine wpAny_isTrue_Compare1 (thn (h pins s σ H _ I hw) fun v s1 h1=>thn h1 fun u s2 h2=>thn h2 fun c s3 ⟨x,H1,I1,r1,q1⟩=>?_) h1
 obtain ⟨d,rfl,q⟩:=q1
 cases r1
 exact wpAny_truthy_bool ⟨H1,I1,q⟩
theorem aC4 {e:Expr} {t:TE} (h:PE X e t) (he:∀ whole,isTrue e X.env whole=(do let v ← whole; standAt e.pos; holding [v] (truthy v)):=by intro _; rfl):PT X e (tB t):=by
 intro pins s σ H Q I hw
 refine isTrue_plain (thn (h pins s σ H _ I hw) fun v s1 ⟨x,H1,I1,r1,q1⟩=>?_) (he _)
 obtain ⟨d,rfl,q⟩:=q1
 cases r1
 exact wpAny_truthy_bool ⟨H1,I1,q⟩
variable {tA tB':TT} {aDh:List Expr}
noncomputable def tAnd (t u:TT):TT:=fun σ H Q=>t σ H fun c H1=>if c=true then u σ H1 Q else Q false H1
noncomputable def tOr (t u:TT):TT:=fun σ H Q=>t σ H fun c H1=>if c=true then Q true H1 else u σ H1 Q
noncomputable def tNot (t:TT):TT:=fun σ H Q=>t σ H fun c H1=>Q (!c) H1
theorem aEx (ha:PT X a tA):PW X (.BoolOp .And [a] pos) tA:=by
 intro wh pins s σ H Q I h
 refine isTrue_and (thn (ha pins s σ H Q I h) fun c s1 e=>?_)
 cases c with
 | true=>exact isTrue_and_nil e
 | false=>exact e
theorem aD0 (ha:PT X a tA):PW X (.BoolOp .Or [a] pos) tA:=by
 intro wh pins s σ H Q I h
 refine isTrue_or (thn (ha pins s σ H Q I h) fun c s1 e=>?_)
 cases c with
 | false=>exact isTrue_or_nil e
 | true=>exact e
theorem aGy (ha:PT X a tA) (hb:PW X (.BoolOp .And (b::aDh) pos) tB'):PW X (.BoolOp .And (a::b::aDh) pos) (tAnd tA tB'):=by
 intro wh pins s σ H Q I h
 refine isTrue_and (thn (ha pins s σ H _ I h) fun c s1 ⟨H1,I1,q1⟩=>?_)
 cases c with
 | true=>exact hb wh pins s1 σ H1 Q I1 q1
 | false=>exact ⟨H1,I1,q1⟩
theorem aGx (ha:PT X a tA) (hb:PW X (.BoolOp .Or (b::aDh) pos) tB'):PW X (.BoolOp .Or (a::b::aDh) pos) (tOr tA tB'):=by
 intro wh pins s σ H Q I h
 refine isTrue_or (thn (ha pins s σ H _ I h) fun c s1 ⟨H1,I1,q1⟩=>?_)
 cases c with
 | true=>exact ⟨H1,I1,q1⟩
 | false=>exact hb wh pins s1 σ H1 Q I1 q1
theorem aM0 (ha:PT X a tA):PT X (.UnaryOp .Not a pos) (tNot tA):=by
 intro pins s σ H Q I h
 exact isTrue_not (ha pins s σ H (fun c H1=>Q (!c) H1) I h)
noncomputable def aYo (ta tb:TE):TE:=fun σ H Q=>ta σ H fun x H1=>∃ c,x=.bl c/\if c=true then tb σ H1 Q else Q (.bl false) H1
noncomputable def tOrV (ta tb:TE):TE:=fun σ H Q=>ta σ H fun x H1=>∃ c,x=.bl c/\if c=true then Q (.bl true) H1 else tb σ H1 Q
noncomputable def aYf (ta:TE):TE:=fun σ H Q=>ta σ H fun x H1=>∃ c,x=.bl c/\Q (.bl (!c)) H1
theorem aFb {op} {t:TE} (h:PE X a t):PE X (.BoolOp op [a] pos) t:=fun pins s σ H Q I hw=>BoolOp_one (h pins s σ H Q I hw)
theorem aH0 (ha:PE X a ta) (hb:PE X (.BoolOp .And (b::aDh) pos) tb):PE X (.BoolOp .And (a::b::aDh) pos) (aYo ta tb):=by
 intro pins s σ H Q I h
 refine BoolOp_and (thn (ha pins s σ H _ I h) fun v s1 ⟨x,H1,I1,r1,q1⟩=>?_)
 obtain ⟨c,rfl,q1⟩:=q1
 cases r1
 refine wpAny_truthy_bool ?_
 cases c with
 | true=>exact hb pins s1 σ H1 Q I1 q1
 | false=>exact ⟨.bl false,H1,I1,rfl,q1⟩
theorem pe_or (ha:PE X a ta) (hb:PE X (.BoolOp .Or (b::aDh) pos) tb):PE X (.BoolOp .Or (a::b::aDh) pos) (tOrV ta tb):=by
 intro pins s σ H Q I h
 refine BoolOp_or (thn (ha pins s σ H _ I h) fun v s1 ⟨x,H1,I1,r1,q1⟩=>?_)
 obtain ⟨c,rfl,q1⟩:=q1
 cases r1
 refine wpAny_truthy_bool ?_
 cases c with
 | false=>exact hb pins s1 σ H1 Q I1 q1
 | true=>exact ⟨.bl true,H1,I1,rfl,q1⟩
theorem aP4 (ha:PE X a ta):PE X (.UnaryOp .Not a pos) (aYf ta):=by
 intro pins s σ H Q I h
 refine UnaryOp_ (thn (ha pins s σ H _ I h) fun v s1 ⟨x,H1,I1,r1,q1⟩=>?_)
 obtain ⟨c,rfl,q1⟩:=q1
 cases r1
 exact not_of (wpAny_truthy_bool ⟨.bl (!c),H1,I1,rfl,q1⟩)
noncomputable def tIf (t:TT) (ta tb:TE):TE:=fun σ H Q=>t σ H fun c H1=>if c=true then ta σ H1 Q else tb σ H1 Q
theorem aM6 {c:Expr} (hc:PT X c tA) (ha:PE X a ta) (hb:PE X b tb):PE X (.IfExp c a b pos) (tIf tA ta tb):=by
 intro pins s σ H Q I h
 refine wpAny_IfExp (thn (hc pins s σ H _ I h) fun d s1 ⟨H1,I1,q1⟩=>?_)
 cases d with
 | true=>exact ha pins s1 σ H1 Q I1 q1
 | false=>exact hb pins s1 σ H1 Q I1 q1
end
end L2
namespace L2
open PySem PySem.Spec PyProof.Rows
noncomputable def SqL (K:PySem.W.Frag) (H:Hp) (a:Addr) (xs:List V):Prop :=
 Rd H a (.lst xs) ∨
  ∃ (o:Obj) (its:Array Value) (n:Nat),K.lookup a=some o/\o.cls=.type "list"/\o.dict=none/\o.data=.seq its n/\its.size<=sizeLine/\aBn xs its.toList
noncomputable def SqT (K:PySem.W.Frag) (H:Hp) (a:Addr) (xs:List V):Prop :=
 Rd H a (.tup xs) ∨
  ∃ (o:Obj) (its:Array Value) (n:Nat),K.lookup a=some o/\o.cls=.type "tuple"/\o.data=.seq its n/\its.size<=sizeLine/\aBn xs its.toList
noncomputable def absV:Value->Option V
 | .none=>some .non
 | .bool b=>some (.bl b)
 | .int i _=>some (.int i)
 | .str x _=>some (.str x)
 | .bytes b _=>some (.byt b)
 | .float b _=>some (.flt b)
 | .ref a=>some (.ref a)
 | .type n=>some (.ty n)
 | _=>none
theorem aBr.abs {x:V} {u:Value} (r:aBr x u):absV u=some x:=by
 cases x with
 | non=>cases r; rfl
 | bl _=>cases r; rfl
 | int _=>obtain ⟨t,rfl⟩:=r; rfl
 | str _=>obtain ⟨t,rfl⟩:=r; rfl
 | byt _=>obtain ⟨t,rfl⟩:=r; rfl
 | flt _=>obtain ⟨t,rfl⟩:=r; rfl
 | ref _=>cases r; rfl
 | ty _=>cases r; rfl
theorem aBr.inj {x y:V} {u:Value} (r:aBr x u) (q:aBr y u):x=y:=Option.some.inj (r.abs.symm.trans q.abs)
theorem aBn.inj:∀ {xs ys:List V} {us:List Value},aBn xs us->aBn ys us->xs=ys
 | _,_,_,.nil,.nil=>rfl
 | _,_,_,.cons r t,.cons r' t'=>by rw [r.inj r',aBn.inj t t']
section
variable {X:Cx} {pins:List (Addr×Obj)} {σ:St} {H:Hp} {s:Shared} {a:Addr} {xs ys:List V}
theorem SqL.of {K:PySem.W.Frag} (h:H a=some (.lst xs)):SqL K H a xs:=.inl (.inl h)
theorem SqT.of {K:PySem.W.Frag} (h:H a=some (.tup xs)):SqT K H a xs:=.inl (.inl h)
theorem Inv.list (I:Inv X pins σ H s) (h:SqL X.K H a xs):∃ its:List Value,aBn xs its/\PlainL s.heap a its.toArray/\xs.length<=sizeLine:=by
 rcases h with h | ⟨o,its,n,hk,hc,hd,hs,hz,r⟩
 ·obtain ⟨z,its,n,r,e⟩:=h.ok I.hok
  exact ⟨its,r,⟨_,n,e,rfl,rfl,rfl⟩,z⟩
 ·refine ⟨its.toList,r,⟨o,n,I.kIn a o hk,hc,hd,by simpa using hs⟩,?_⟩
  have e:=r.length
  simp only [Array.length_toList] at e
  omega
theorem Inv.tuple (I:Inv X pins σ H s) (h:SqT X.K H a xs):∃ its:List Value,aBn xs its/\IsTup s.heap a its.toArray/\xs.length<=sizeLine:=by
 rcases h with h | ⟨o,its,n,hk,hc,hs,hz,r⟩
 ·obtain ⟨z,its,r,p⟩:=h.ok I.hok
  exact ⟨its,r,p,z.1⟩
 ·refine ⟨its.toList,r,⟨o,I.kIn a o hk,hc,n,by simpa using hs⟩,?_⟩
  have e:=r.length
  simp only [Array.length_toList] at e
  omega
theorem Inv.list_inj (I:Inv X pins σ H s) (h:SqL X.K H a xs) (h':SqL X.K H a ys):xs=ys:=by
 obtain ⟨its,r,⟨o,n,e,_,_,d⟩,_⟩:=I.list h
 obtain ⟨its',r',⟨o',n',e',_,_,d'⟩,_⟩:=I.list h'
 rw [e] at e'; cases e'
 rw [d] at d'
 injection d' with d1 _
 have:its=its':=by simpa using congrArg Array.toList d1
 subst this
 exact r.inj r'
theorem Inv.tuple_inj (I:Inv X pins σ H s) (h:SqT X.K H a xs) (h':SqT X.K H a ys):xs=ys:=by
 obtain ⟨its,r,⟨o,e,_,n,d⟩,_⟩:=I.tuple h
 obtain ⟨its',r',⟨o',e',_,n',d'⟩,_⟩:=I.tuple h'
 rw [e] at e'; cases e'
 rw [d] at d'
 injection d' with d1 _
 have:its=its':=by simpa using congrArg Array.toList d1
 subst this
 exact r.inj r'
end
noncomputable abbrev Cx.wish (X:Cx) (E:Value->Shared->Prop):Cx:={ X with xe:=E }
noncomputable abbrev Cx.nox (X:Cx):Cx:=X.wish fun _ _=>False
theorem Cx.Ok.wish {X:Cx} (ok:X.Ok) (E:Value->Shared->Prop):(X.wish E).Ok :=
 ⟨ok.mod,ok.kind,ok.glob,ok.blt,ok.above,ok.inj,ok.has,ok.cab,ok.hd,ok.frames,ok.stk,ok.exf,ok.bs,ok.bsz,ok.noex,ok.exfs,ok.funs,ok.frf⟩
theorem Cx.Ok.unwish {X:Cx} {E:Value->Shared->Prop} (ok:(X.wish E).Ok):X.Ok :=
 ⟨ok.mod,ok.kind,ok.glob,ok.blt,ok.above,ok.inj,ok.has,ok.cab,ok.hd,ok.frames,ok.stk,ok.exf,ok.bs,ok.bsz,ok.noex,ok.exfs,ok.funs,ok.frf⟩
section
variable {X:Cx} {pins:List (Addr×Obj)} {σ:St} {H:Hp} {s:Shared} {E:Value -> Shared -> Prop}
theorem Inv.wish (I:Inv X pins σ H s) (E:Value->Shared->Prop):Inv (X.wish E) pins σ H s:=⟨I.ok.wish E,I.os,I.bare,I.base,I.loc,I.cell,I.free,I.freeC,I.pin,I.hok,I.len⟩
theorem Inv.unwish (I:Inv (X.wish E) pins σ H s):Inv X pins σ H s:=⟨I.ok.unwish,I.os,I.bare,I.base,I.loc,I.cell,I.free,I.freeC,I.pin,I.hok,I.len⟩
theorem SP.unwish {D:aE4} {f:Flow} {s':Shared} (h:SP (X.wish E) pins D f s'):SP X pins D f s':=by
 cases f with
 | next=>obtain ⟨σ',H',I,q⟩:=h; exact ⟨σ',H',I.unwish,q⟩
 | brk=>obtain ⟨σ',H',I,q⟩:=h; exact ⟨σ',H',I.unwish,q⟩
 | cont=>obtain ⟨σ',H',I,q⟩:=h; exact ⟨σ',H',I.unwish,q⟩
 | ret u=>obtain ⟨v,σ',H',I,r,q⟩:=h; exact ⟨v,σ',H',I.unwish,r,q⟩
theorem PSs.nox {st:List Stmt} {t:TS} (h:PSs X.nox st t):PSs X st t:=fun pins s σ H D I hw =>
 wpAny_mono (h pins s σ H D (I.wish _) hw) (fun _ _ q=>q.unwish) fun _ _ z=>False.elim z
end
section
variable {X:Cx} {st:Stmt} {aDh:List Stmt} {t u:TS} {e:Expr} {te:TE} {pos:Pos}
noncomputable def aYg:TS:=fun D σ H=>D.nx σ H
noncomputable def tSeq (t u:TS):TS:=fun D σ H=>t { D with nx:=u D } σ H
theorem aA5:PSs X [] aYg:=fun _ _ σ H _ I h=>wpAny_execs_nil ⟨σ,H,I,h⟩
theorem aAc (h1:PS X st t) (h2:PSs X aDh u):PSs X (st::aDh) (tSeq t u):=by
 intro pins s σ H D I h
 refine wpAny_execs_cons (thn (h1 pins s σ H { D with nx:=u D } I h) fun f s1 q=>?_)
 cases f with
 | next =>
  obtain ⟨σ',H',I',q⟩:=q
  exact h2 pins s1 σ' H' D I' q
 | ret v=>exact q
 | brk=>exact q
 | cont=>exact q
theorem aAh (h1:PS X st t):PSs X [st] t:=by
 intro pins s σ H D I h
 refine wpAny_execs_cons (thn (h1 pins s σ H D I h) fun f s1 q=>?_)
 cases f with
 | next=>exact wpAny_execs_nil q
 | ret v=>exact q
 | brk=>exact q
 | cont=>exact q
noncomputable def aYn:TS:=fun D σ H=>D.ct σ H
theorem aLy:PS X (.Continue pos) aYn:=fun _ _ σ H _ I h=>wpAny_Continue ⟨σ,H,I,h⟩
theorem Inv.quiet {pins:List (Addr×Obj)} {σ:St} {H:Hp} {s:Shared} (I:Inv X pins σ H s):interactive X.env=false:=by simp [interactive,I.ok.kind]
noncomputable def aYk (te:TE):TS:=fun D σ H=>te σ H fun _ H1=>D.nx σ H1
theorem aCy (he:PE X e te) (hs:swapsWith e none pos.line X.env=pure false:=by rfl):PS X (.Expr e pos) (aYk te):=by
 intro pins s σ H D I h
 exact wpAny_Expr_any (thn (he pins s σ H _ I h) fun v s1 ⟨x,H1,I1,r1,q1⟩=>⟨σ,H1,I1,q1⟩) I.quiet hs
noncomputable def tRet (te:TE):TS:=fun D σ H=>te σ H D.rt
theorem aAw (he:PE X e te):PS X (.Return (some e) pos) (tRet te):=by
 intro pins s σ H D I h
 exact wpAny_Return_some (thn (he pins s σ H _ I h) fun v s1 ⟨x,H1,I1,r1,q1⟩=>⟨x,σ,H1,I1,r1,q1⟩)
noncomputable def tIfS (c:TT) (t u:TS):TS:=fun D σ H=>c σ H fun b H1=>if b=true then t D σ H1 else u D σ H1
theorem aB3 {c:Expr} {a b:List Stmt} {tc:TT} (hc:PT X c tc) (ha:PSs X a t) (hb:PSs X b u):PS X (.If c a b pos) (tIfS tc t u):=by
 intro pins s σ H D I h
 refine wpAny_If (thn (hc pins s σ H _ I h) fun d s1 ⟨H1,I1,q1⟩=>?_)
 cases d with
 | true=>exact ha pins s1 σ H1 D I1 q1
 | false=>exact hb pins s1 σ H1 D I1 q1
noncomputable def aYh:TS:=fun _ _ _=>False
theorem aM1:PS X st aYh:=fun _ _ _ _ _ _ h=>h.elim
end
noncomputable abbrev TG:=V->St->Hp->(St->Hp->Prop)->Prop
noncomputable abbrev TGs:=List V->St->Hp->(St->Hp->Prop)->Prop
noncomputable def PG (X:Cx) (target:Expr) (t:TG):Prop :=
 ∀ (pins:List (Addr×Obj)) (s:Shared) (σ:St) (H:Hp) (v:V) (u:Value) (Q:St->Hp->Prop),Inv X pins σ H s->aBr v u->t v σ H Q ->
  wpAny (model X.prog X.w) X.A (assign target X.env u) (fun _ s'=>∃ σ' H',Inv X pins σ' H' s'/\Q σ' H') X.xe s
noncomputable def PGs (X:Cx) (ts:List Expr) (t:TGs):Prop :=
 ∀ (pins:List (Addr×Obj)) (s:Shared) (σ:St) (H:Hp) (vs:List V) (us:List Value) (Q:St->Hp->Prop),Inv X pins σ H s->aBn vs us->t vs σ H Q ->
  wpAny (model X.prog X.w) X.A (assignInOrder ((assignEach ts X.env).map (·.2)) us) (fun _ s'=>∃ σ' H',Inv X pins σ' H' s'/\Q σ' H') X.xe s
section
variable {X:Cx} {pos:Pos}
noncomputable def aF0 (i:Nat):TG:=fun v σ H Q=>Q (σ.set i (some v)) H
theorem aAm {i:Nat} {x:Str} (hN:X.N.Nodup) (hi:X.N[i]?=some x) (hx:Loc X.env.scope x) (hf:X.fn x=true∨X.env.scope.names.lookup x=some .local:=by first | exact .inl rfl | exact .inr rfl | assumption):PG X (.Name x pos) (aF0 i):=by
 intro pins s σ H v u Q I r h
 exact wpAny_assign_Name (aGg I hN hi hx r (fun s' I'=>⟨_,H,I',h⟩) hf)
noncomputable def bBn:TGs:=fun vs σ H Q=>vs=[]/\Q σ H
noncomputable def aI5 (t:TG) (u:TGs):TGs:=fun vs σ H Q=>∃ v r,vs=v::r/\t v σ H fun σ' H'=>u r σ' H' Q
theorem aBy:PGs X [] bBn:=by
 intro pins s σ H vs us Q I r h
 obtain ⟨e,h⟩:=h
 subst e
 cases r
 exact assignInOrder_nil ⟨σ,H,I,h⟩
theorem aAn {e:Expr} {es:List Expr} {t:TG} {u:TGs} (h1:PG X e t) (h2:PGs X es u)
  (hs:(assignEach (e::es) X.env).map (·.2)=assign e X.env::(assignEach es X.env).map (·.2):=by rfl):PGs X (e::es) (aI5 t u):=by
 intro pins s σ H vs us Q I r h
 obtain ⟨v,vr,e1,h⟩:=h
 subst e1
 cases r with
 | cons r rr =>
  rw [hs]
  refine assignInOrder_cons (thn (h1 pins s σ H _ _ _ I r h) fun _ s1 ⟨σ1,H1,I1,q1⟩=>?_)
  exact h2 pins s1 σ1 H1 _ _ Q I1 rr q1
noncomputable def aXe (K:PySem.W.Frag) (n:Nat) (t:TGs):TG:=fun v σ H Q=>∃ a xs,v=.ref a/\SqT K H a xs/\xs.length=n/\t xs σ H Q
theorem aD1 {es:List Expr} {k:Nat} {t:TGs} {n:Nat} (hc:X.calm=true) (h:PGs X es t)
  (hn:(assignEach es X.env).length=n:=by rfl) (hst:(assignEach es X.env).findIdx? (·.1)=none:=by rfl):PG X (.Tuple es k pos) (aXe X.K n t):=by
 intro pins s σ H v u Q I r hw
 obtain ⟨a,xs,e1,hq,hl,hw⟩:=hw
 subst e1
 cases r
 obtain ⟨its,rv,ht,hz⟩:=I.tuple hq
 refine assign_Tuple_tuple (I.ok.hd hc) ht (by simp [hn,← hl,rv.length]) hst fun h' hx=>?_
 have I1:Inv X pins σ H { s with heap:=h' }:=I.kept (t':=s.toks) fun b o e=>hx b o (Nat.ne_of_lt (Heap.lt_size e)) e
 exact h pins _ σ H xs _ Q I1 (by simpa using rv) hw
noncomputable def tAsg (te:TE) (g:TG):TS:=fun D σ H=>te σ H fun x H1=>g x σ H1 D.nx
theorem aPu {tg e:Expr} {te:TE} {g:TG} (he:PE X e te) (hg:PG X tg g) (hs:swapsWithSole [tg] e pos.line X.env=pure false:=by rfl) (hw:swappedStores [tg] e X.env=pure none:=by rfl)
  (h1:(assignEach [tg] X.env).map (·.2)=[assign tg X.env]:=by rfl):PS X (.Assign [tg] e pos) (tAsg te g):=by
 intro pins s σ H D I h
 refine wpAny_Assign_stores (thn (he pins s σ H _ I h) fun v s1 ⟨x,H1,I1,r1,q1⟩=>?_) hs hw
 rw [h1]
 exact thn (hg pins s1 σ H1 x v _ I1 r1 q1) fun _ s2 q=>q
theorem aAk {i:Nat} {x:Str} {e:Expr} {te:TE} {pos':Pos} (hN:X.N.Nodup) (hi:X.N[i]?=some x) (hx:Loc X.env.scope x) (he:PE X e te) (hs:swapsWith e (some (.Name x pos')) pos.line X.env=pure false:=by rfl) (hf:X.fn x=true∨X.env.scope.names.lookup x=some .local:=by first | exact .inl rfl | exact .inr rfl | assumption) :
  PS X (.Assign [.Name x pos'] e pos) (tAsg te (aF0 i)):=by
 intro pins s σ H D I h
 refine wpAny_Assign_Name (thn (he pins s σ H _ I h) fun v s1 ⟨y,H1,I1,r1,q1⟩=>?_) hs
 exact aGg I1 hN hi hx r1 (fun s2 I2=>⟨_,H1,I2,q1⟩) hf
noncomputable def tPar (i j:Nat) (ta:TA):TS:=fun D σ H=>ta σ H fun vs H1=>∃ v w,vs=[v,w]/\D.nx ((σ.set i (some v)).set j (some w)) H1
theorem bAj {i j:Nat} {x y:Str} {a b:Expr} {ta:TA} {px py pt:Pos} {kt k2 pt2} (hc:X.calm=true) (hN:X.N.Nodup) (hi:X.N[i]?=some x) (hj:X.N[j]?=some y) (hij:i≠j)
  (hx:X.env.scope.names.lookup x=some .local) (hy:X.env.scope.names.lookup y=some .local) (ha:PA X [a,b] ta)
  (hw:swappedStores [.Tuple [.Name x px,.Name y py] kt pt] (.Tuple [a,b] k2 pt2) X.env=pure (some [x,y]))
  (hs:swapsWithSole [.Tuple [.Name x px,.Name y py] kt pt] (.Tuple [a,b] k2 pt2) pos.line X.env=pure false:=by rfl) :
  PS X (.Assign [.Tuple [.Name x px,.Name y py] kt pt] (.Tuple [a,b] k2 pt2) pos) (tPar i j ta):=by
 intro pins s σ H D I h
 rw [exec_Assign_arm]
 refine wpAny_bind (wpAny_standAt ?_)
 rw [hs]
 refine wpAny_bind (wpAny_pure ?_)
 rw [if_neg (by decide)]
 refine wpAny_bind (Tuple_ (thn (ha _ pins s σ H _ I h) fun us s1 ⟨vs,H1,I1,r1,q1⟩=>?_))
 obtain ⟨v,w,e1,q1⟩:=q1
 subst e1
 obtain ⟨u1,u2,rfl,rv,rw'⟩:∃ u1 u2,us=[u1,u2]/\aBr v u1/\aBr w u2:=by
  cases r1 with
  | cons p q =>
   cases q with
   | cons p' q' =>
    cases q'
    exact ⟨_,_,rfl,p,p'⟩
 refine wpAny_newObj_type ?_ (by show 2<=sizeLine; decide)
 have I2:Inv X pins σ H1 { s1 with heap:=s1.heap.push { cls:=.type "tuple",data:=.seq [u1,u2].toArray } }:=I1.kept (t':=s1.toks) fun b o e=>Heap.get?_push_of_some _ e
 rw [hw]
 refine wpAny_bind (wpAny_pure ?_)
 show wpAny (model X.prog X.w) X.A (do rule "assign.swapped-stores"; let items ← unpackItems (.ref s1.heap.objs.size) 2 none; assignInOrder [fun v=>bindName X.env y v,fun v=>bindName X.env x v] items.reverse; pure Flow.next) _ _ _
 refine wpAny_bind (wpAny_rule (wpAny_bind (unpackItems_tuple (items:=#[u1,u2]) (I.ok.hd hc) (IsTup.new s1.heap _) fun h' hx'=>?_)))
 have I3:=I2.kept (h':=h') (t':=s1.toks) fun b o e=>hx' b o (Nat.ne_of_lt (Heap.lt_size e)) e
 show wpAny _ _ (assignInOrder [fun v=>bindName X.env y v,fun v=>bindName X.env x v] [u2,u1] >>= fun _=>pure Flow.next) _ _ _
 refine wpAny_bind (assignInOrder_cons (wpAny_bindName (aGg I3 hN hj (.inl hy) rw' (fun s2 I4=>?_) (.inr hy))))
 refine assignInOrder_cons (wpAny_bindName (aGg I4 hN hi (.inl hx) rv (fun s3 I5=>assignInOrder_nil (wpAny_pure ?_)) (.inr hx)))
 rw [List.set_comm _ _ (Ne.symm hij)] at I5
 exact ⟨_,H1,I5,q1⟩
end
section
variable {X:Cx} {pos:Pos}
noncomputable def aOv (c:TT) (tb:TS):TS:=fun D σ H=>∃ W:Nat->St->Hp->Prop,(∃ m,W m σ H)/\∀ m σ H,W m σ H ->
 c σ H fun b H1=>if b=true then ∃ N:St->Hp->Prop,(∀ σ' H',N σ' H'->∃ m',m' < m/\W m' σ' H')/\tb { D with nx:=N,ct:=N,bk:=D.nx } σ H1 else D.nx σ H1
theorem aGk {c:Expr} {body:List Stmt} {tc:TT} {tb:TS} (hp:PassesOwn (model X.prog X.w) X.A X.env X.xe) (hc:PT X c tc) (hb:PSs X body tb):PS X (.While c body [] pos) (aOv tc tb):=by
 intro pins s σ H D I h
 obtain ⟨W,⟨m0,w0⟩,turn⟩:=h
 refine wpAny_While (codeAny_whileLoop (fun n s'=>∃ σ' H',Inv X pins σ' H' s'/\W n σ' H') ?_ m0 ⟨σ,H,I,w0⟩)
 rintro n s1 ⟨σ1,H1,I1,w1⟩
 refine wpAny_passesOwn hp (thn (hc pins s1 σ1 H1 _ I1 (turn n σ1 H1 w1)) fun b s2 ⟨H2,I2,q2⟩=>?_)
 cases b with
 | true =>
  obtain ⟨N,hN,q2⟩:=q2
  rw [if_pos rfl]
  refine wpAny_passesOwn hp (thn (hb pins s2 σ1 H2 _ I2 q2) fun f s3 q3=>?_)
  cases f with
  | next =>
   obtain ⟨σ3,H3,I3,n3⟩:=q3
   obtain ⟨m',hm,w3⟩:=hN σ3 H3 n3
   exact ⟨m',hm,σ3,H3,I3,w3⟩
  | cont =>
   obtain ⟨σ3,H3,I3,n3⟩:=q3
   obtain ⟨m',hm,w3⟩:=hN σ3 H3 n3
   exact ⟨m',hm,σ3,H3,I3,w3⟩
  | brk=>exact q3
  | ret v=>exact q3
 | false =>
  rw [if_neg Bool.false_ne_true]
  exact wpAny_execs_nil ⟨σ1,H2,I2,q2⟩
end
structure It where
 go:Nat->Hp->Prop
 yld:Nat->Hp->V->Hp->Prop
 stop:Nat->Hp->Prop
noncomputable def aOl (X:Cx) (pins:List (Addr×Obj)) (H:Hp) (b:Addr):Prop :=
 H b=none/\b≠X.env.locals/\b∉X.fs/\(b∈X.ex∨X.s₀.heap.objs.size<=b)/\(∀ x c,X.env.cells.lookup x=some c->c≠b)/\∀ p∈X.pn++pins,p.1≠b
theorem Inv.fpOk {X:Cx} {pins:List (Addr×Obj)} {σ:St} {H H':Hp} {s:Shared} {b:Addr} (I:Inv X pins σ H s) (hb:s.heap.objs.size<=b) (hn:H' b=none):aOl X pins H' b:=by
 refine ⟨hn,Nat.ne_of_gt (Nat.lt_of_lt_of_le I.lt hb),I.nofs hb,.inr (Nat.le_trans I.sz hb),fun x c e z=>?_,fun p hp z=>?_⟩
 ·obtain ⟨v,q⟩:=I.cell x c e
  exact absurd (Nat.lt_of_lt_of_le q.lt (by rw [z]; exact hb)) (Nat.lt_irrefl _)
 ·exact absurd (Nat.lt_of_lt_of_le (Heap.lt_size (I.pin p hp).1) (by rw [z]; exact hb)) (Nat.lt_irrefl _)
structure aXu (P:Program) (w:World) (K:PySem.W.Frag) (tg:Expr) (J:It) (fp:List Addr) (it:Addr) (tn:Nat->Heap->Prop):Prop where
 mem:it∈fp
 obj:∀ i h,tn i h->∀ b∈fp,∃ o,h.get? b=some o/\∀ v,o.data≠.cell v
 keep:∀ i h h',tn i h->(∀ b∈fp,∀ o,h.get? b=some o->h'.get? b=some o)->tn i h'
 item:∀ (X:Cx),X.prog=P->X.w=w->X.K=K->X.calm=true->∀ (i:Nat) (pins:List (Addr×Obj)) (s:Shared) (σ:St) (H:Hp) (E:Value->Shared->Prop),Inv X pins σ H s->(∀ b∈fp,aOl X pins H b)->tn i s.heap->J.go i H ->
  wpAny (model P w) X.A (pyNext (.ref it)) (fun r s1=>∃ u,r=some u /\
   wpAny (model P w) X.A (letOwnedTupleGo tg (.ref it) u) (fun _ s2=>∃ x H',Inv X pins σ H' s2/\aBr x u/\J.yld i H x H'/\tn (i+1) s2.heap/\∀ b∈fp,H' b=none) E s1) E s
 done:∀ (X:Cx),X.prog=P->X.w=w->X.K=K->X.calm=true->∀ (i:Nat) (pins:List (Addr×Obj)) (s:Shared) (σ:St) (H:Hp) (E:Value->Shared->Prop),Inv X pins σ H s->(∀ b∈fp,aOl X pins H b)->tn i s.heap->J.stop i H ->
  wpAny (model P w) X.A (pyNext (.ref it)) (fun r s1=>r=none/\Inv X pins σ H s1) E s
 self:∀ (A:Around) (i:Nat) (s:Shared) (Q:Value->Shared->Prop) (E:Value->Shared->Prop),tn i s.heap->Q (.ref it) s->wpAny (model P w) A (pyIter (.ref it)) Q E s
noncomputable abbrev TI:=St->Hp->(It->Hp->Prop)->Prop
noncomputable def PIE (X:Cx) (pins:List (Addr×Obj)) (σ:St) (tg:Expr) (R:It->Hp->Prop) (itv:Value) (s2:Shared):Prop :=
 ∃ (it:Addr) (fp:List Addr) (tn:Nat->Heap->Prop) (J:It) (H':Hp),itv=.ref it/\Inv X pins σ H' s2/\aXu X.prog X.w X.K tg J fp it tn/\tn 0 s2.heap/\(∀ b∈fp,aOl X pins H' b)/\R J H'
noncomputable def PI (X:Cx) (tg iter:Expr) (wi:TI):Prop :=
 ∀ (pins:List (Addr×Obj)) (s:Shared) (σ:St) (H:Hp) (R:It->Hp->Prop),Inv X pins σ H s->wi σ H R ->
  wpAny (model X.prog X.w) X.A (eval iter X.env) (fun v s1=>wpAny (model X.prog X.w) X.A (pyIter v) (PIE X pins σ tg R) X.xe s1) X.xe s
theorem aTr {M:Model} {A:Around} {E:Value->Shared->Prop} {s:Shared} {tg:Expr} {it:Addr} {u:Value} {o:Obj} {n:String} {vs:Array Value} {Q:Unit->Shared->Prop} (ho:s.heap.get? it=some o) (hc:o.cls=.type n) (hd:o.data=.fields vs)
    (hn:["enumerate","zip","dict_itemiterator","dict_reverseitemiterator","odict_iterator","itertools.zip_longest","itertools.pairwise"].contains n=false) (hQ:Q () s):wpAny M A (letOwnedTupleGo tg (.ref it) u) Q E s:=by
  unfold letOwnedTupleGo
  cases tg <;> first
    | exact wpAny_pure hQ
    | (cases u <;> first
        | exact wpAny_pure hQ
        | (refine wpAny_bind (wpAny_load ho ?_)
           rw [hc,hd]
           show wpAny M A (if (["enumerate","zip","dict_itemiterator","dict_reverseitemiterator","odict_iterator","itertools.zip_longest","itertools.pairwise"].contains n&&vs[0]?==some (rawInt _))=true then _ else _) Q E s
           rw [if_neg (by intro h; rw [hn,Bool.false_and] at h; cases h)]
           exact wpAny_pure hQ))
noncomputable def Itl (K:PySem.W.Frag) (a:Addr):It :=
 ⟨fun i H=>∃ xs x,SqL K H a xs/\xs[i]?=some x,fun i H x H'=>H'=H/\∀ xs,SqL K H a xs->xs[i]?=some x,fun i H=>∃ xs,SqL K H a xs/\xs.length<=i⟩
noncomputable def Itr (lo:Int) (n:Nat):It:=⟨fun i _=>i < n,fun i H x H'=>H'=H/\x=.int (lo+i),fun i _=>n<=i⟩
theorem aOs {P:Program} {w:World} {K:PySem.W.Frag} {tg:Expr} (a it:Addr):aXu P w K tg (Itl K a) [it] it (fun i h=>h.IsListIter it a i) where
 mem:=by simp
 obj:=fun i h st b hb=>by
  have e:b=it:=by simpa using hb
  subst e
  obtain ⟨o,e,c,d⟩:=st
  exact ⟨o,e,fun v z=>by rw [d] at z; cases z⟩
 keep:=fun i h h' st k=>st.at fun o e=>k it (by simp) o e
 item:=by
  intro X hP hw hK hc i pins s σ H E I hf st hg
  subst hP hw hK
  obtain ⟨xs,x,hq,hx⟩:=hg
  obtain ⟨its,rv,p,hz⟩:=I.list hq
  obtain ⟨u,hu,ru⟩:=rv.get hx
  obtain ⟨f0,f1,f2,f3,f4,f5⟩:=hf it (by simp)
  refine wpAny_pyNext_list_item st p.isList (x:=u) (by simpa using hu) fun h' st' sb=>?_
  have I1:Inv X pins σ H { s with heap:=h' }:=I.turned (t':=s.toks) (fun b o hb e=>(sb.2 b hb).trans e) f0 f1 f3 f4 f5
  obtain ⟨o,e,c,d⟩:=id st'
  exact ⟨u,rfl,aTr (s:={ s with heap:=h' }) e c d (by decide) ⟨x,H,I1,ru,⟨rfl,fun ys hy=>by rw [I.list_inj hy hq]; exact hx⟩,st',fun b hb=>(hf b hb).1⟩⟩
 done:=by
  intro X hP hw hK hc i pins s σ H E I hf st hg
  subst hP hw hK
  obtain ⟨xs,hq,hx⟩:=hg
  obtain ⟨its,rv,p,hz⟩:=I.list hq
  obtain ⟨f0,f1,f2,f3,f4,f5⟩:=hf it (by simp)
  have hl:=rv.length
  exact wpAny_pyNext_list_end (I.ok.hd hc) st p.isList (by simp; omega) fun h' eb=>⟨rfl,I.turned (t':=s.toks) (fun b o hb e=>eb b o hb e) f0 f1 f3 f4 f5⟩
 self:=fun _ _ _ _ _ st h=>wpAny_pyIter_listiter st h
theorem aNt {P:Program} {w:World} {K:PySem.W.Frag} {tg:Expr} (it:Addr) (lo:Int) (n:Nat):aXu P w K tg (Itr lo n) [it] it (fun i h=>IsRangeIter h it (lo+(i:Nat) * 1) ((n:Int) - (i:Nat)) 1) where
 mem:=by simp
 obj:=fun i h st b hb=>by
  have e:b=it:=by simpa using hb
  subst e
  exact ⟨_,st,fun v z=>by
   have z':Data.fields _=Data.cell v:=z
   cases z'⟩
 keep:=fun i h h' st k=>k it (by simp) _ st
 item:=by
  intro X hP hw hK hc i pins s σ H E I hf st hg
  subst hP hw hK
  obtain ⟨f0,f1,f2,f3,f4,f5⟩:=hf it (by simp)
  have W:=Walks.range (prog:=X.prog) (w:=X.w) (I.ok.hd hc) it lo 1 n
  refine W.item i s _ _ hg st fun v h' tk hv st' kk=>?_
  obtain ⟨t,rfl⟩:=hv
  have I1:Inv X pins σ H { s with heap:=h',toks:=tk }:=I.turned (fun b o hb e=>kk b o (by simpa using hb) e) f0 f1 f3 f4 f5
  refine ⟨_,rfl,aTr (s:={ s with heap:=h',toks:=tk }) (n:="range_iterator") st' rfl rfl (by decide) ⟨.int (lo+i),H,I1,⟨t,?_⟩,⟨rfl,rfl⟩,st',fun b hb=>(hf b hb).1⟩⟩
  rw [Int.mul_one]
 done:=by
  intro X hP hw hK hc i pins s σ H E I hf st hg
  subst hP hw hK
  obtain ⟨f0,f1,f2,f3,f4,f5⟩:=hf it (by simp)
  exact wpAny_pyNext_range_end (I.ok.hd hc) st (by have:n<=i:=hg; omega) fun h' eb=>⟨rfl,I.turned (t':=s.toks) (fun b o hb e=>eb b o hb e) f0 f1 f3 f4 f5⟩
 self:=fun _ _ _ _ _ st h=>wpAny_pyIter_rangeiter st h
end L2
namespace L2
open PySem PySem.Spec PyProof.Rows
section
variable {X:Cx} {tg:Expr}
noncomputable def bBk (K:PySem.W.Frag) (tl:TE):TI:=fun σ H R=>tl σ H fun x H1=>∃ a,x=.ref a/\(∃ xs,SqL K H1 a xs)/\R (Itl K a) H1
theorem aBx {l:Expr} {tl:TE} (hl:PE X l tl):PI X tg l (bBk X.K tl):=by
 intro pins s σ H R I h
 refine thn (hl pins s σ H _ I h) fun v s1 ⟨x,H1,I1,r1,q1⟩=>?_
 obtain ⟨a,e,⟨xs,hq⟩,q⟩:=q1
 subst e
 cases r1
 obtain ⟨its,rv,p,hz⟩:=I1.list hq
 refine wpAny_pyIter_list p.isList ?_
 refine ⟨s1.heap.objs.size,[s1.heap.objs.size],_,_,H1,rfl,I1.kept (t':=s1.toks) fun b o e=>Heap.get?_push_of_some _ e,aOs a _,⟨_,Heap.get?_push_size _ rfl,rfl,rfl⟩,fun b hb=>?_,q⟩
 have e:b=s1.heap.objs.size:=by simpa using hb
 subst e
 exact I1.fpOk (Nat.le_refl _) (I1.hok.fresh (Nat.le_refl _))
theorem aMy {pins:List (Addr×Obj)} {σ:St} {H:Hp} {s:Shared} {R:It->Hp->Prop} {E:Value->Shared->Prop} {lo hi:Int} {t u v:Tok} {tk:Nat} (I:Inv X pins σ H s) (h1:-(2 ^ 62)<=lo) (h2:lo < 2 ^ 62) (h3:-(2 ^ 62)<=hi) (h4:hi < 2 ^ 62)
  (q:R (Itr lo (hi - lo).toNat) H):wpAny (model X.prog X.w) X.A (pyIter (.ref s.heap.objs.size)) (PIE X pins σ tg R) E { s with heap:=s.heap.push { cls:=.type "range",data:=.fields #[.int lo t,.int hi u,.int 1 v] },toks:=tk }:=by
 refine wpAny_pyIter_range (IsRange.new ..) (small_one h1 h2 h3 h4) ?_
 have I1:Inv X pins σ H { s with heap:=s.heap.push { cls:=.type "range",data:=.fields #[.int lo t,.int hi u,.int 1 v] },toks:=tk }:=I.kept fun b o e=>Heap.get?_push_of_some _ e
 refine ⟨(s.heap.push { cls:=.type "range",data:=.fields #[.int lo t,.int hi u,.int 1 v] }).objs.size,[(s.heap.push { cls:=.type "range",data:=.fields #[.int lo t,.int hi u,.int 1 v] }).objs.size],_,_,H,rfl,
  I1.kept (t':=tk) fun b o e=>Heap.get?_push_of_some _ e,aNt _ lo (hi - lo).toNat,?_,fun b hb=>?_,q⟩
 ·have e1:lo+((0:Nat):Int) * 1=lo:=by simp
  have e2:(((hi - lo).toNat:Nat):Int) - ((0:Nat):Int)=Builtin.Range.rangeSize lo hi 1:=by rw [rangeSize_one]; split <;> omega
  show IsRangeIter _ _ (lo+((0:Nat):Int) * 1) ((((hi - lo).toNat:Nat):Int) - ((0:Nat):Int)) 1
  rw [e1,e2]
  exact Heap.get?_push_size _ rfl
 ·have e:b=(s.heap.push { cls:=.type "range",data:=.fields #[.int lo t,.int hi u,.int 1 v] }).objs.size:=by simpa using hb
  subst e
  exact I1.fpOk (Nat.le_refl _) (I1.hok.fresh (Nat.le_refl _))
noncomputable def bBj (ta:TA):TI:=fun σ H R=>ta σ H fun vs H1=>∃ j:Int,vs=[.int j]/\-(2 ^ 62)<=j/\j < 2 ^ 62/\R (Itr 0 j.toNat) H1
noncomputable def bBi (ta:TA):TI:=fun σ H R=>ta σ H fun vs H1=>∃ i j:Int,vs=[.int i,.int j]/\(-(2 ^ 62)<=i/\i < 2 ^ 62/\-(2 ^ 62)<=j/\j < 2 ^ 62)/\R (Itr i (j - i).toNat) H1
theorem aG1 {a:Expr} {ta:TA} {p pos:Pos} (hg:Gl X "range") (hm:X.mg "range"=none) (ha:PA X [a] ta) (hs:starEach [a] X.env=[(false,eval a X.env)]:=by rfl):PI X tg (.Call (.Name "range" p) [a] [] pos) (bBj ta):=by
 intro pins s σ H R I h
 refine Call_ (aEo I hg hm boot_range (PyProof.Rows.callWith_type1 (thn (ha pos pins s σ H _ I h) fun us s1 ⟨vs,H1,I1,r1,q1⟩=>?_) hs rfl))
 obtain ⟨j,e,q1,q2,q⟩:=q1
 subst e
 cases r1 with
 | cons r rr =>
  cases rr
  obtain ⟨t,rfl⟩:=r
  exact call_range_1 (aMy I1 (by omega) (by omega) q1 q2 (by simpa using q))
theorem aP1 {a b:Expr} {ta:TA} {p pos:Pos} (hg:Gl X "range") (hm:X.mg "range"=none) (ha:PA X [a,b] ta) (hs:starEach [a,b] X.env=[(false,eval a X.env),(false,eval b X.env)]:=by rfl) (hs2:starEach [b] X.env=[(false,eval b X.env)]:=by rfl) :
  PI X tg (.Call (.Name "range" p) [a,b] [] pos) (bBi ta):=by
 intro pins s σ H R I h
 refine Call_ (aEo I hg hm boot_range (PyProof.Rows.callWith_type1 (thn (ha pos pins s σ H _ I h) fun us s1 ⟨vs,H1,I1,r1,q1⟩=>?_) (by rw [hs,hs2]) (by rw [hs2]; rfl)))
 obtain ⟨i,j,e,⟨q1,q2,q3,q4⟩,q⟩:=q1
 subst e
 cases r1 with
 | cons r rr =>
  cases rr with
  | cons r' rr =>
   cases rr
   obtain ⟨t,rfl⟩:=r
   obtain ⟨t',rfl⟩:=r'
   exact call_range_2 (aMy I1 q1 q2 q3 q4 q)
noncomputable def tFor (wi:TI) (g:TG) (tb:TS):TS:=fun D σ H=>wi σ H fun J H1=>∃ W:Nat->Nat->St->Hp->Prop,(∃ m,W 0 m σ H1)/\∀ i m σ H,W i m σ H ->
 (J.stop i H/\D.nx σ H)∨(J.go i H/\∃ N:St->Hp->Prop,(∀ σ' H',N σ' H'->∃ m',m' < m/\W (i+1) m' σ' H')/\∀ x H',J.yld i H x H'->g x σ H' fun σ2 H2=>tb { D with nx:=N,ct:=N,bk:=D.nx } σ2 H2)
noncomputable def aG0 (fp:List Addr) (h:Heap):List (Addr×Obj):=fp.filterMap fun b=>(h.get? b).map fun o=>(b,o)
theorem aEi {fp:List Addr} {h:Heap} {b:Addr} {o:Obj} (hb:b∈fp) (e:h.get? b=some o):(b,o)∈aG0 fp h:=List.mem_filterMap.mpr ⟨b,hb,by rw [e]; rfl⟩
theorem aQh {fp:List Addr} {h:Heap} {p:Addr×Obj} (hp:p∈aG0 fp h):p.1∈fp/\h.get? p.1=some p.2:=by
 obtain ⟨b,hb,e⟩:=List.mem_filterMap.mp hp
 cases q:h.get? b with
 | none=>rw [q] at e; cases e
 | some o =>
  rw [q] at e
  have e':(b,o)=p:=Option.some.inj e
  subst e'
  exact ⟨hb,q⟩
theorem Inv.pinned {pins:List (Addr×Obj)} {σ:St} {H:Hp} {s:Shared} {fp:List Addr} (I:Inv X pins σ H s) (hf:∀ b∈fp,aOl X pins H b) (ho:∀ b∈fp,∃ o,s.heap.get? b=some o/\∀ v,o.data≠.cell v):Inv X (pins++aG0 fp s.heap) σ H s :=
 I.pins_of fun p hp=>(List.mem_append.mp hp).elim (fun z=>I.pin p (List.mem_append_right _ z)) fun z=>by
  obtain ⟨hb,e⟩:=aQh z
  obtain ⟨f0,f1,f2,_⟩:=hf p.1 hb
  obtain ⟨o,e',d⟩:=ho p.1 hb
  rw [e] at e'; cases e'
  exact ⟨e,f0,f1,f2,d⟩
theorem Inv.unpinned {pins pl:List (Addr×Obj)} {σ:St} {H:Hp} {s:Shared} (I:Inv X (pins++pl) σ H s):Inv X pins σ H s:=I.pins_of fun p hp=>I.pin p (List.mem_append_right _ (List.mem_append_left _ hp))
theorem aCx {iter:Expr} {body:List Stmt} {wi:TI} {g:TG} {tb:TS} {pos:Pos} (hp:PassesOwn (model X.prog X.w) X.A X.env X.xe) (hc:X.calm=true) (hi:PI X tg iter wi) (hg:PG X tg g) (hb:PSs X body tb)
  (hs:∀ x,foldedSetIterable iter X.env x=pure x:=by intro _; rfl):PS X (.For tg iter body [] pos) (tFor wi g tb):=by
 intro pins s σ H D I h
 refine wpAny_For (thn (hi pins s σ H _ I h) fun v s1 h1=>thn h1 fun itv s2 h2=>?_) hs
 obtain ⟨it,fp,tn,J,H2,e,I2,T,st2,f2,W,⟨m0,w0⟩,turn⟩:=h2
 subst e
 -- what stays true of the iterator's objects through the loop
 have stat:∀ {H':Hp},(∀ b∈fp,H' b=none)->∀ b∈fp,aOl X pins H' b:=fun hn b hb=>⟨hn b hb,(f2 b hb).2⟩
 refine codeAny_forLoop_any (fun n s'=>∃ i σ' H',Inv X pins σ' H' s'/\tn i s'.heap/\(∀ b∈fp,H' b=none)/\W i n σ' H') ?_ m0 ⟨0,σ,H2,I2,st2,fun b hb=>(f2 b hb).1,w0⟩
 rintro n s3 ⟨i,σ3,H3,I3,st3,fr3,w3⟩
 rcases turn i n σ3 H3 w3 with ⟨stop,qn⟩ | ⟨go,N,hN,step⟩
 ·refine wpAny_passesOwn hp (thn (T.done X rfl rfl rfl hc i pins s3 σ3 H3 X.xe I3 (stat fr3) st3 stop) fun r s4 ⟨hr,I4⟩=>?_)
  subst hr
  exact wpAny_execs_nil ⟨σ3,H3,I4,qn⟩
 ·refine wpAny_passesOwn hp (thn (T.item X rfl rfl rfl hc i pins s3 σ3 H3 X.xe I3 (stat fr3) st3 go) fun r s4 ⟨u,hr,h4⟩=>?_)
  subst hr
  refine wpAny_passesOwn hp (thn h4 fun _ s5 ⟨x,H5,I5,r5,y5,st5,fr5⟩=>?_)
  have I5':=I5.pinned (stat fr5) (T.obj _ _ st5)
  refine wpAny_passesOwn hp (thn (hg _ s5 σ3 H5 x u _ I5' r5 (step x H5 y5)) fun _ s6 ⟨σ6,H6,I6,q6⟩=>?_)
  refine wpAny_passesOwn hp (thn (hb _ s6 σ6 H6 _ I6 q6) fun f s7 q7=>?_)
  have again:∀ {σ7:St} {H7:Hp},Inv X (pins++aG0 fp s5.heap) σ7 H7 s7->N σ7 H7->∃ m,m < n/\∃ i σ' H',Inv X pins σ' H' s7/\tn i s7.heap/\(∀ b∈fp,H' b=none)/\W i m σ' H':=fun {σ7 H7} I7 n7=>by
   obtain ⟨m',hm,w7⟩:=hN σ7 H7 n7
   refine ⟨m',hm,i+1,σ7,H7,I7.unpinned,T.keep _ _ _ st5 fun b hb o e=>(I7.pin (b,o) (List.mem_append_right _ (List.mem_append_right _ (aEi hb e)))).1,fun b hb=>?_,w7⟩
   obtain ⟨o,e,d⟩:=T.obj _ _ st5 b hb
   exact (I7.pin (b,o) (List.mem_append_right _ (List.mem_append_right _ (aEi hb e)))).2.1
  cases f with
  | next=>obtain ⟨σ7,H7,I7,n7⟩:=q7; exact again I7 n7
  | cont=>obtain ⟨σ7,H7,I7,n7⟩:=q7; exact again I7 n7
  | brk=>obtain ⟨σ7,H7,I7,q7⟩:=q7; exact ⟨σ7,H7,I7.unpinned,q7⟩
  | ret v=>obtain ⟨x7,σ7,H7,I7,r7,q7⟩:=q7; exact ⟨x7,σ7,H7,I7.unpinned,r7,q7⟩
end
theorem aTt {K:PySem.W.Frag} {a:Addr} {xs:List V} {g:TG} {tb:TS} {D:aE4} {σ:St} {H:Hp} (Pv:Nat->St->Hp->Prop) (h0:Pv 0 σ H) (hl:∀ i σ H,i<=xs.length->Pv i σ H->SqL K H a xs)
  (hs:∀ i x σ H,xs[i]?=some x->Pv i σ H->g x σ H fun σ2 H2=>tb { D with nx:=Pv (i+1),ct:=Pv (i+1),bk:=D.nx } σ2 H2) (hd:∀ σ H,Pv xs.length σ H->D.nx σ H) :
  ∃ W:Nat->Nat->St->Hp->Prop,(∃ m,W 0 m σ H)/\∀ i m σ H,W i m σ H ->
   ((Itl K a).stop i H/\D.nx σ H)∨((Itl K a).go i H/\∃ N:St->Hp->Prop,(∀ σ' H',N σ' H'->∃ m',m' < m/\W (i+1) m' σ' H')/\∀ x H',(Itl K a).yld i H x H'->g x σ H' fun σ2 H2=>tb { D with nx:=N,ct:=N,bk:=D.nx } σ2 H2):=by
 refine ⟨fun i m σ H=>m=xs.length - i/\i<=xs.length/\Pv i σ H,⟨xs.length,by simp,Nat.zero_le _,h0⟩,?_⟩
 rintro i m σ H ⟨rfl,hi,p⟩
 have q:=hl i σ H hi p
 by_cases hlt:i < xs.length
 ·refine .inr ⟨⟨xs,xs[i],q,by simp [hlt]⟩,Pv (i+1),fun σ' H' p'=>⟨xs.length - (i+1),by omega,rfl,hlt,p'⟩,fun x H' y=>?_⟩
  obtain ⟨e,y⟩:=y
  subst e
  exact hs i x σ _ (y xs q) p
 ·have e:i=xs.length:=by omega
  subst e
  exact .inl ⟨⟨xs,q,Nat.le_refl _⟩,hd σ H p⟩
theorem aRc {lo:Int} {n:Nat} {g:TG} {tb:TS} {D:aE4} {σ:St} {H:Hp} (Pv:Nat->St->Hp->Prop) (h0:Pv 0 σ H)
  (hs:∀ i σ H,i < n->Pv i σ H->g (.int (lo+i)) σ H fun σ2 H2=>tb { D with nx:=Pv (i+1),ct:=Pv (i+1),bk:=D.nx } σ2 H2) (hd:∀ σ H,Pv n σ H->D.nx σ H) :
  ∃ W:Nat->Nat->St->Hp->Prop,(∃ m,W 0 m σ H)/\∀ i m σ H,W i m σ H ->
   ((Itr lo n).stop i H/\D.nx σ H)∨((Itr lo n).go i H/\∃ N:St->Hp->Prop,(∀ σ' H',N σ' H'->∃ m',m' < m/\W (i+1) m' σ' H')/\∀ x H',(Itr lo n).yld i H x H'->g x σ H' fun σ2 H2=>tb { D with nx:=N,ct:=N,bk:=D.nx } σ2 H2):=by
 refine ⟨fun i m σ H=>m=n - i/\i<=n/\Pv i σ H,⟨n,by simp,Nat.zero_le _,h0⟩,?_⟩
 rintro i m σ H ⟨rfl,hi,p⟩
 by_cases hlt:i < n
 ·refine .inr ⟨hlt,Pv (i+1),fun σ' H' p'=>⟨n - (i+1),by omega,rfl,hlt,p'⟩,fun x H' y=>?_⟩
  obtain ⟨e,y⟩:=y
  subst e y
  exact hs i σ _ hlt p
 ·have e:i=n:=by omega
  subst e
  exact .inl ⟨Nat.le_refl _,hd σ H p⟩
theorem aIg {c:TT} {tb:TS} {D:aE4} {σ:St} {H:Hp} (Pv:St->Hp->Prop) (μ:St->Hp->Nat) (h0:Pv σ H)
  (hs:∀ σ H,Pv σ H->c σ H fun b H1=>if b=true then tb { D with nx:=fun σ' H'=>Pv σ' H'/\μ σ' H' < μ σ H,ct:=fun σ' H'=>Pv σ' H'/\μ σ' H' < μ σ H,bk:=D.nx } σ H1 else D.nx σ H1)
  (mono:∀ σ H Q Q',(∀ b H1,Q b H1->Q' b H1)->c σ H Q->c σ H Q'):aOv c tb D σ H:=by
 refine ⟨fun m σ H=>m=μ σ H/\Pv σ H,⟨_,rfl,h0⟩,?_⟩
 rintro m σ H ⟨rfl,p⟩
 refine mono σ H _ _ (fun b H1 q=>?_) (hs σ H p)
 cases b with
 | true=>exact ⟨_,fun σ' H' ⟨p',l⟩=>⟨_,l,rfl,p'⟩,q⟩
 | false=>exact q
end L2
namespace L2
open PySem PySem.Spec PyProof.Rows
noncomputable abbrev R2:=V->V->Hp->VK->Prop
noncomputable def OpR (X:Cx) (f:Value->Value->Sem Value) (r:R2):Prop :=
 ∀ (pins:List (Addr×Obj)) (s:Shared) (σ:St) (H:Hp) (x y:V) (v u:Value) (Q:VK),Inv X pins σ H s->aBr x v->aBr y u->r x y H Q ->
  wpAny (model X.prog X.w) X.A (f v u) (EP X pins σ Q) X.xe s
noncomputable def UnR (X:Cx) (f:Value->Sem Value) (r:V->Hp->VK->Prop):Prop :=
 ∀ (pins:List (Addr×Obj)) (s:Shared) (σ:St) (H:Hp) (x:V) (v:Value) (Q:VK),Inv X pins σ H s->aBr x v->r x H Q ->
  wpAny (model X.prog X.w) X.A (f v) (EP X pins σ Q) X.xe s
noncomputable def aEc (X:Cx) (f:Value) (r:List V->Hp->VK->Prop):Prop :=
 ∀ (pins:List (Addr×Obj)) (s:Shared) (σ:St) (H:Hp) (xs:List V) (us:List Value) (Q:VK),Inv X pins σ H s->aBn xs us->r xs H Q ->
  wpAny (model X.prog X.w) X.A (call f us) (EP X pins σ Q) X.xe s
noncomputable def TruR (X:Cx) (r:V->Hp->(Bool->Hp->Prop)->Prop):Prop :=
 ∀ (pins:List (Addr×Obj)) (s:Shared) (σ:St) (H:Hp) (x:V) (v:Value) (Q:Bool->Hp->Prop),Inv X pins σ H s->aBr x v->r x H Q ->
  wpAny (model X.prog X.w) X.A (truthy v) (TP X pins σ Q) X.xe s
noncomputable def tOp (r:R2) (ta tb:TE):TE:=fun σ H Q=>ta σ H fun x H1=>tb σ H1 fun y H2=>r x y H2 Q
noncomputable def tUn (r:V->Hp->VK->Prop) (ta:TE):TE:=fun σ H Q=>ta σ H fun x H1=>r x H1 Q
noncomputable def rI (C:Int->Int->Prop) (g:Int->Int->V):R2:=fun x y H Q=>∃ i j,x=.int i/\y=.int j/\C i j/\Q (g i j) H
noncomputable def rI0 (g:Int->Int->V):R2:=fun x y H Q=>∃ i j,x=.int i/\y=.int j/\Q (g i j) H
noncomputable def rU (g:Int->V):V->Hp->VK->Prop:=fun x H Q=>∃ i,x=.int i/\Q (g i) H
section
variable {X:Cx} {a b c:Expr} {ta tb tc:TE} {pos:Pos}
theorem binT (ha:PE X a ta) (hb:PE X b tb) {pins:List (Addr×Obj)} {s:Shared} {σ:St} {H:Hp} {R:V->V->Hp->Prop} (I:Inv X pins σ H s)
  (h:ta σ H fun x H1=>tb σ H1 fun y H2=>R x y H2) {Q:Value->Shared->Prop} {f:Value->Value->Sem Value}
  (hf:∀ v u s2 x y H2,Inv X pins σ H2 s2->aBr x v->aBr y u->R x y H2->wpAny (model X.prog X.w) X.A (f v u) Q X.xe s2) :
  wpAny (model X.prog X.w) X.A (eval a X.env) (fun v s₁=>wpAny (model X.prog X.w) X.A (eval b X.env) (fun u s₂=>wpAny (model X.prog X.w) X.A (f v u) Q X.xe s₂) X.xe s₁) X.xe s:=by
 refine thn (ha pins s σ H _ I h) fun v s1 ⟨x,H1,I1,r1,q1⟩=>?_
 refine thn (hb pins s1 σ H1 _ I1 q1) fun u s2 ⟨y,H2,I2,r2,q2⟩=>?_
 exact hf v u s2 x y H2 I2 r1 r2 q2
theorem aAj {op:Operator} {r:R2} (ho:OpR X (binaryOp op) r) (ha:PE X a ta) (hb:PE X b tb):PE X (.BinOp a op b pos) (tOp r ta tb):=by
 intro pins s σ H Q I h
 exact wpAny_BinOp (binT ha hb I h fun v u s2 x y H2 I2 rx ry q=>ho pins s2 σ H2 x y v u Q I2 rx ry q)
theorem aWj {op:UnaryOp} {r:V->Hp->VK->Prop} (ho:UnR X (unaryOp op) r) (ha:PE X a ta):PE X (.UnaryOp op a pos) (tUn r ta):=by
 intro pins s σ H Q I h
 exact UnaryOp_ (thn (ha pins s σ H _ I h) fun v s1 ⟨x,H1,I1,r1,q1⟩=>ho pins s1 σ H1 x v Q I1 r1 q1)
theorem opI {f:Value->Value->Sem Value} {C:Int->Int->Prop} {g:Int->Int->Int}
  (rule:∀ (i j:Int) (t u:Tok) (s:Shared) (Q:Value->Shared->Prop) (E:Value->Shared->Prop),C i j->Q (.int (g i j) s.toks) { s with toks:=s.toks+1 }->wpAny (model X.prog X.w) X.A (f (.int i t) (.int j u)) Q E s) :
  OpR X f (rI C fun i j=>.int (g i j)):=by
 intro pins s σ H x y v u Q I rx ry h
 obtain ⟨i,j,rfl,rfl,hc,q⟩:=h
 obtain ⟨t,rfl⟩:=rx
 obtain ⟨t',rfl⟩:=ry
 exact rule i j t t' s _ _ hc ⟨.int (g i j),H,I.tok _,⟨_,rfl⟩,q⟩
theorem opI0 {f:Value->Value->Sem Value} {g:Int->Int->Int}
  (rule:∀ (i j:Int) (t u:Tok) (s:Shared) (Q:Value->Shared->Prop) (E:Value->Shared->Prop),Q (.int (g i j) s.toks) { s with toks:=s.toks+1 }->wpAny (model X.prog X.w) X.A (f (.int i t) (.int j u)) Q E s) :
  OpR X f (rI0 fun i j=>.int (g i j)):=by
 intro pins s σ H x y v u Q I rx ry h
 obtain ⟨i,j,rfl,rfl,q⟩:=h
 obtain ⟨t,rfl⟩:=rx
 obtain ⟨t',rfl⟩:=ry
 exact rule i j t t' s _ _ ⟨.int (g i j),H,I.tok _,⟨_,rfl⟩,q⟩
theorem opB0 {f:Value->Value->Sem Value} {g:Int->Int->Bool}
  (rule:∀ (i j:Int) (t u:Tok) (s:Shared) (Q:Value->Shared->Prop) (E:Value->Shared->Prop),Q (.bool (g i j)) s->wpAny (model X.prog X.w) X.A (f (.int i t) (.int j u)) Q E s) :
  OpR X f (rI0 fun i j=>.bl (g i j)):=by
 intro pins s σ H x y v u Q I rx ry h
 obtain ⟨i,j,rfl,rfl,q⟩:=h
 obtain ⟨t,rfl⟩:=rx
 obtain ⟨t',rfl⟩:=ry
 exact rule i j t t' s _ _ ⟨.bl (g i j),H,I,rfl,q⟩
noncomputable def bCb (i j:Int):Prop:=0<=j/\j<=1000000/\i.natAbs < 2 ^ 64
noncomputable def CMul (i j:Int):Prop:=(-(2 ^ 64) < i/\i < 2 ^ 64)∨(-(2 ^ 64) < j/\j < 2 ^ 64)
theorem CMul.ok {i j:Int} (h:CMul i j):IntMulOk i j:=by
 rcases h with ⟨h1,h2⟩ | ⟨h1,h2⟩
 ·exact .of_left (intBits_le_64 h1 h2)
 ·exact .of_right (intBits_le_64 h1 h2)
theorem bAv:OpR X (binaryOp .Add) (rI0 fun i j=>.int (i+j)):=opI0 fun _ _ _ _ _ _ _ q=>add_int q
theorem aH2:OpR X (binaryOp .Sub) (rI0 fun i j=>.int (i - j)):=opI0 fun _ _ _ _ _ _ _ q=>sub_int q
theorem aBe:OpR X (binaryOp .Mod) (rI (fun _ j=>0 < j) fun i j=>.int (i % j)):=opI fun i j _ _ _ _ _ hc q=>by
 have h1:(0:Int) < j:=hc
 exact mod_int' (by omega) (by rw [Int.fmod_eq_emod_of_nonneg i (by omega)]; exact q)
theorem aWp:OpR X (binaryOp .Mod) (rI (fun _ j=>j≠0) fun i j=>.int (i.fmod j)):=opI fun _ _ _ _ _ _ _ hc q=>mod_int' hc q
theorem aH3:OpR X (binaryOp .Pow) (rI bCb fun i j=>.int (i ^ j.toNat)):=opI fun _ _ _ _ _ _ _ hc q=>pow_int_small hc.1 hc.2.1 hc.2.2 q
theorem unI {f:Value->Sem Value} {g:Int->Int}
  (rule:∀ (i:Int) (t:Tok) (s:Shared) (Q:Value->Shared->Prop) (E:Value->Shared->Prop),Q (.int (g i) s.toks) { s with toks:=s.toks+1 }->wpAny (model X.prog X.w) X.A (f (.int i t)) Q E s) :
  UnR X f (rU fun i=>.int (g i)):=by
 intro pins s σ H x v Q I rx h
 obtain ⟨i,rfl,q⟩:=h
 obtain ⟨t,rfl⟩:=rx
 exact rule i t s _ _ ⟨.int (g i),H,I.tok _,⟨_,rfl⟩,q⟩
theorem aOn:UnR X (unaryOp .USub) (rU fun i=>.int (-i)):=unI fun _ _ _ _ _ q=>neg_int q
end
noncomputable def scal:V->V->Bool
 | .non,.non=>true | .non,.int _=>true | .int _,.non=>true | .non,.bl _=>true | .bl _,.non=>true | .non,.str _=>true | .str _,.non=>true
 | .int _,.int _=>true | .bl _,.bl _=>true | .str _,.str _=>true | .byt _,.byt _=>true
 | .int _,.str _=>true | .str _,.int _=>true | .bl _,.str _=>true | .str _,.bl _=>true
 | _,_=>false
noncomputable def rEq:R2:=fun x y H Q=>scal x y=true/\Q (.bl (decide (x=y))) H
noncomputable def rNe:R2:=fun x y H Q=>scal x y=true/\Q (.bl (!decide (x=y))) H
theorem aJc {i j:Int}:decide (V.int i=V.int j)=(i==j):=by
 rw [Bool.eq_iff_iff]
 simp
theorem aRp {i j:Bool}:decide (V.bl i=V.bl j)=(i==j):=by
 rw [Bool.eq_iff_iff]
 simp
theorem aMh {i j:Str}:decide (V.str i=V.str j)=(i==j):=by
 rw [Bool.eq_iff_iff]
 simp
theorem aRo {i j:Array UInt8}:decide (V.byt i=V.byt j)=(i.toList==j.toList):=by
 rw [Bool.eq_iff_iff]
 cases i
 cases j
 simp
section
variable {X:Cx} {a b c:Expr} {ta tb tc:TE} {pos:Pos}
theorem aBd {pins:List (Addr×Obj)} {σ:St} {H:Hp} {s:Shared} {Q:VK} {k k':Bool} (I:Inv X pins σ H s) (q:Q (.bl k) H) (e:k=k'):EP X pins σ Q (.bool k') s:=by
 subst e
 exact ⟨.bl k,H,I,rfl,q⟩
theorem op_eq:OpR X (compareOp .Eq) rEq:=by
 intro pins s σ H x y v u Q I rx ry h
 obtain ⟨hs,q⟩:=h
 cases x with
 | non =>
  cases rx
  cases y with
  | non=>cases ry; exact PySem.EqNone.eq_none_none (aBd I q (by simp))
  | bl j=>cases ry; exact PySem.EqNone.eq_none_bool (aBd I q (by simp))
  | int j=>obtain ⟨t',rfl⟩:=ry; exact PySem.EqNone.eq_none_int (aBd I q (by simp))
  | str j=>obtain ⟨t',rfl⟩:=ry; exact PySem.EqNone.eq_none_str (aBd I q (by simp))
  | _=>exact absurd (show false=true from hs) Bool.false_ne_true
 | bl i =>
  cases rx
  cases y with
  | non=>cases ry; exact PySem.EqNone.eq_bool_none (aBd I q (by simp))
  | bl j=>cases ry; exact eq_bool (aBd I q aRp)
  | str j=>obtain ⟨t',rfl⟩:=ry; exact PySem.EqMixed.eq_bool_str (aBd I q (by simp))
  | _=>exact absurd (show false=true from hs) Bool.false_ne_true
 | int i =>
  obtain ⟨t,rfl⟩:=rx
  cases y with
  | non=>cases ry; exact PySem.EqNone.eq_int_none (aBd I q (by simp))
  | int j=>obtain ⟨t',rfl⟩:=ry; exact eq_int (aBd I q aJc)
  | str j=>obtain ⟨t',rfl⟩:=ry; exact PySem.EqMixed.eq_int_str (aBd I q (by simp))
  | _=>exact absurd (show false=true from hs) Bool.false_ne_true
 | str i =>
  obtain ⟨t,rfl⟩:=rx
  cases y with
  | non=>cases ry; exact PySem.EqNone.eq_str_none (aBd I q (by simp))
  | bl j=>cases ry; exact PySem.EqMixed.eq_str_bool (aBd I q (by simp))
  | int j=>obtain ⟨t',rfl⟩:=ry; exact PySem.EqMixed.eq_str_int (aBd I q (by simp))
  | str j=>obtain ⟨t',rfl⟩:=ry; exact eq_str (aBd I q aMh)
  | _=>exact absurd (show false=true from hs) Bool.false_ne_true
 | byt i =>
  obtain ⟨t,rfl⟩:=rx
  cases y with
  | byt j=>obtain ⟨t',rfl⟩:=ry; exact PySem.W.eq_bytes (aBd I q aRo)
  | _=>exact absurd (show false=true from hs) Bool.false_ne_true
 | _=>cases y <;> exact absurd (show false=true from hs) Bool.false_ne_true
theorem op_ne:OpR X (compareOp .NotEq) rNe:=by
 intro pins s σ H x y v u Q I rx ry h
 obtain ⟨hs,q⟩:=h
 cases x with
 | non =>
  cases rx
  cases y with
  | non=>cases ry; exact PySem.EqNone.ne_none_none (aBd I q (by simp))
  | bl j=>cases ry; exact PySem.EqNone.ne_none_bool (aBd I q (by simp))
  | int j=>obtain ⟨t',rfl⟩:=ry; exact PySem.EqNone.ne_none_int (aBd I q (by simp))
  | str j=>obtain ⟨t',rfl⟩:=ry; exact PySem.EqNone.ne_none_str (aBd I q (by simp))
  | _=>exact absurd (show false=true from hs) Bool.false_ne_true
 | bl i =>
  cases rx
  cases y with
  | non=>cases ry; exact PySem.EqNone.ne_bool_none (aBd I q (by simp))
  | bl j=>cases ry; exact ne_bool (aBd I q (congrArg not aRp))
  | str j=>obtain ⟨t',rfl⟩:=ry; exact PySem.EqMixed.ne_bool_str (aBd I q (by simp))
  | _=>exact absurd (show false=true from hs) Bool.false_ne_true
 | int i =>
  obtain ⟨t,rfl⟩:=rx
  cases y with
  | non=>cases ry; exact PySem.EqNone.ne_int_none (aBd I q (by simp))
  | int j=>obtain ⟨t',rfl⟩:=ry; exact ne_int (aBd I q (congrArg not aJc))
  | str j=>obtain ⟨t',rfl⟩:=ry; exact PySem.EqMixed.ne_int_str (aBd I q (by simp))
  | _=>exact absurd (show false=true from hs) Bool.false_ne_true
 | str i =>
  obtain ⟨t,rfl⟩:=rx
  cases y with
  | non=>cases ry; exact PySem.EqNone.ne_str_none (aBd I q (by simp))
  | bl j=>cases ry; exact PySem.EqMixed.ne_str_bool (aBd I q (by simp))
  | int j=>obtain ⟨t',rfl⟩:=ry; exact PySem.EqMixed.ne_str_int (aBd I q (by simp))
  | str j=>obtain ⟨t',rfl⟩:=ry; exact ne_str (aBd I q (congrArg not aMh))
  | _=>exact absurd (show false=true from hs) Bool.false_ne_true
 | byt i =>
  obtain ⟨t,rfl⟩:=rx
  cases y with
  | byt j=>obtain ⟨t',rfl⟩:=ry; exact PySem.W.ne_bytes (aBd I q (congrArg not aRo))
  | _=>exact absurd (show false=true from hs) Bool.false_ne_true
 | _=>cases y <;> exact absurd (show false=true from hs) Bool.false_ne_true
theorem aL0:OpR X (compareOp .Lt) (rI0 fun i j=>.bl (decide (i < j))):=opB0 fun _ _ _ _ _ _ _ q=>lt_int q
theorem op_le:OpR X (compareOp .LtE) (rI0 fun i j=>.bl (decide (i<=j))):=opB0 fun _ _ _ _ _ _ _ q=>le_int q
theorem op_gt:OpR X (compareOp .Gt) (rI0 fun i j=>.bl (decide (j < i))):=opB0 fun _ _ _ _ _ _ _ q=>gt_int q
theorem aWq:OpR X (compareOp .GtE) (rI0 fun i j=>.bl (decide (j<=i))):=opB0 fun _ _ _ _ _ _ _ q=>ge_int q
theorem bAs:OpR X (compareOp .Is) (fun x y H Q=>y=.non/\Q (.bl (decide (x=.non))) H):=by
 intro pins s σ H x y v u Q I rx ry h
 obtain ⟨rfl,q⟩:=h
 cases ry
 refine is_none_gen (aBd I q ?_)
 cases x <;> first
  | (cases rx; rfl)
  | (obtain ⟨t,rfl⟩:=rx; rfl)
theorem aWo:OpR X (compareOp .IsNot) (fun x y H Q=>y=.non/\Q (.bl (!decide (x=.non))) H):=by
 intro pins s σ H x y v u Q I rx ry h
 obtain ⟨rfl,q⟩:=h
 cases ry
 refine isnot_none_gen (aBd I q ?_)
 cases x <;> first
  | (cases rx; rfl)
  | (obtain ⟨t,rfl⟩:=rx; rfl)
theorem OpR.or {f:Value->Value->Sem Value} {r r':R2} (h:OpR X f r) (h':OpR X f r'):OpR X f (fun x y H Q=>r x y H Q∨r' x y H Q):=by
 intro pins s σ H x y v u Q I rx ry q
 rcases q with q | q
 ·exact h pins s σ H x y v u Q I rx ry q
 ·exact h' pins s σ H x y v u Q I rx ry q
theorem aA4 (b:Expr) {op:CmpOp} (h:op≠.In:=by decide) (h2:op≠.NotIn:=by decide):behindInMarks op b=false:=by
 have e1:(op==CmpOp.In)=false:=by cases op <;> first | rfl | exact absurd rfl h
 have e2:(op==CmpOp.NotIn)=false:=by cases op <;> first | rfl | exact absurd rfl h2
 cases b <;> simp [behindInMarks,e1,e2]
theorem aEy {op:CmpOp} {r:R2} (ho:OpR X (compareOp op) r) (ha:PE X a ta) (hb:PE X b tb) (hm:behindInMarks op b=false):PE X (.Compare a [op] [b] pos) (tOp r ta tb):=by
 intro pins s σ H Q I h
 exact wpAny_Compare1 (binT ha hb I h fun v u s2 x y H2 I2 rx ry q=>ho pins s2 σ H2 x y v u Q I2 rx ry q) hm
noncomputable def aYd (t:TE):TT:=fun σ H Q=>t σ H fun x H'=>∃ k,x=.bl k/\Q k H'
theorem aA2 {op:CmpOp} {r:R2} (ho:OpR X (compareOp op) r) (ha:PE X a ta) (hb:PE X b tb) (hm:behindInMarks op b=false):PT X (.Compare a [op] [b] pos) (aYd (tOp r ta tb)):=by
 intro pins s σ H Q I h
 refine wpAny_isTrue_Compare1 (thn (ha pins s σ H _ I h) fun v s1 ⟨x,H1,I1,r1,q1⟩=>thn (hb pins s1 σ H1 _ I1 q1) fun u s2 ⟨y,H2,I2,r2,q2⟩ =>
  thn (ho pins s2 σ H2 x y v u _ I2 r1 r2 q2) fun c s3 ⟨z,H3,I3,r3,k,e,q3⟩=>?_) hm
 subst e
 cases r3
 exact wpAny_truthy_bool ⟨H3,I3,q3⟩
noncomputable def aR8 (K:PySem.W.Frag) (x:V) (H:Hp) (k:Bool):Prop :=
 match x with
 | .non=>k=false
 | .bl b=>k=b
 | .int i=>k=(i !=0)
 | .str y=>y.length<=sizeLine/\k=((y.length:Int) !=0)
 | .byt y=>y.size<=sizeLine/\k=((y.size:Int) !=0)
 | .ref p=>(∃ xs,SqL K H p xs/\k=!xs.isEmpty)∨(∃ xs,SqT K H p xs/\k=!xs.isEmpty)∨∃ kvs,H p=some (.dK kvs)/\k=!kvs.isEmpty
 | _=>False
theorem aOa {κ:Type} {kvs:List (κ×V)} {vs:List (κ×Value)} (r:KV kvs vs):(!vs.isEmpty)=!kvs.isEmpty:=by
 cases r <;> rfl
theorem aH8 {xs:List V} {its:List Value} (r:aBn xs its):(!its.toArray.isEmpty)=!xs.isEmpty:=by
 cases r <;> simp
theorem aKf:(sizeLine:Nat) < 2 ^ 63:=by rw [sizeLine_eq]; decide
theorem aT7:TruR X (fun x H Q=>∃ k,aR8 X.K x H k/\Q k H):=by
 intro pins s σ H x v Q I rx h
 obtain ⟨k,e,q⟩:=h
 have hl:=aKf
 have hs:sizeLine=16777216:=sizeLine_eq
 cases x with
 | non =>
  cases rx
  have e':k=false:=e
  subst e'
  exact truthy_none ⟨H,I,q⟩
 | bl b =>
  cases rx
  have e':k=b:=e
  subst e'
  exact wpAny_truthy_bool ⟨H,I,q⟩
 | int i =>
  obtain ⟨t,rfl⟩:=rx
  have e':k=(i !=0):=e
  subst e'
  exact PySem.P.truthy_int ⟨H,I,q⟩
 | str y =>
  obtain ⟨t,rfl⟩:=rx
  obtain ⟨hy,e'⟩:y.length<=sizeLine/\k=((y.length:Int) !=0):=e
  subst e'
  exact PySem.P.truthy_str (by omega) ⟨H,I.tok _,q⟩
 | byt y =>
  obtain ⟨t,rfl⟩:=rx
  obtain ⟨hy,e'⟩:y.size<=sizeLine/\k=((y.size:Int) !=0):=e
  subst e'
  exact PySem.W.truthy_bytes (by omega) ⟨H,I.tok _,q⟩
 | ref p =>
  cases rx
  have e':(∃ xs,SqL X.K H p xs/\k=!xs.isEmpty)∨(∃ xs,SqT X.K H p xs/\k=!xs.isEmpty)∨∃ kvs,H p=some (.dK kvs)/\k=!kvs.isEmpty:=e
  rcases e' with ⟨xs,hx,e'⟩ | ⟨xs,hx,e'⟩ | ⟨kvs,hx,e'⟩
  ·subst e'
   obtain ⟨its,r,pl,hz⟩:=I.list hx
   have hlen:=r.length
   exact wpAny_truthy_list pl.isList (by simp only [List.size_toArray]; omega) ⟨H,I.tok _,by rw [aH8 r]; exact q⟩
  ·subst e'
   obtain ⟨its,r,pl,hz⟩:=I.tuple hx
   have hlen:=r.length
   exact truthy_tuple pl (by simp only [List.size_toArray]; omega) ⟨H,I.tok _,by rw [aH8 r]; exact q⟩
  ·subst e'
   obtain ⟨hz,hS,vs,r,m⟩:kvs.length<=sizeLine/\(p==sysModules)=false/\∃ vs,KV kvs vs/\s.heap.DictOf (aA9 X.prog X.w) p vs:=I.hok p _ hx
   have hlen:kvs.length=vs.length:=Paired.length r
   exact wpAny_truthy_dict hS m (by omega) ⟨H,I.tok _,by rw [aOa r]; exact q⟩
 | _=>exact (show False from e).elim
theorem aS2 (ha:PE X a ta) (he:∀ whole,isTrue a X.env whole=(do let v ← whole; standAt a.pos; holding [v] (truthy v))) :
  PT X a (fun σ H Q=>ta σ H fun x H'=>∃ k,aR8 X.K x H' k/\Q k H'):=by
 intro pins s σ H Q I h
 exact isTrue_plain (thn (ha pins s σ H _ I h) fun v s1 ⟨x,H1,I1,r1,q1⟩=>aT7 pins s1 σ H1 x v Q I1 r1 q1) (he _)
theorem aN3:OpR X (binaryOp .Add) (fun x y H Q=>∃ i j,x=.str i/\y=.str j/\i.length+j.length<=sizeLine/\Q (.str (i++j)) H):=by
 intro pins s σ H x y v u Q I rx ry h
 obtain ⟨i,j,rfl,rfl,hz,q⟩:=h
 obtain ⟨t,rfl⟩:=rx
 obtain ⟨t',rfl⟩:=ry
 exact add_str (fun t' tk=>⟨.str (i++j),H,I.tok _,⟨_,rfl⟩,q⟩) hz
theorem aU8 {x:V} {us:List Value} (r:aBn [x] us):∃ u,us=[u]/\aBr x u:=by
 cases r with
 | cons r1 r2=>cases r2; exact ⟨_,rfl,r1⟩
theorem aX4 {x y:V} {us:List Value} (r:aBn [x,y] us):∃ u w',us=[u,w']/\aBr x u/\aBr y w':=by
 cases r with
 | cons r1 r2 =>
  cases r2 with
  | cons r3 r4=>cases r4; exact ⟨_,_,rfl,r1,r3⟩
theorem aT0:aEc X (.builtin "abs") (fun xs H Q=>∃ i,xs=[.int i]/\Q (.int (if i < 0 then -i else i)) H):=by
 intro pins s σ H xs us Q I r h
 obtain ⟨i,rfl,q⟩:=h
 obtain ⟨u,rfl,t,rfl⟩:=aU8 r
 exact call_abs_int fun u tk=>⟨.int (if i < 0 then -i else i),H,I.tok _,⟨_,rfl⟩,q⟩
theorem aRw (hc:X.calm=true):aEc X (.builtin "max") (fun xs H Q=>∃ i j,xs=[.int i,.int j]/\Q (.int (if j > i then j else i)) H):=by
 intro pins s σ H xs us Q I r h
 obtain ⟨i,j,rfl,q⟩:=h
 obtain ⟨u,w',rfl,⟨t,rfl⟩,⟨t',rfl⟩⟩:=aX4 r
 refine max_two_ints (I.ok.hd hc) fun h' tk k=>⟨_,H,I.kept k,?_,q⟩
 by_cases hj:j > i
 ·rw [if_pos hj,if_pos hj]; exact ⟨_,rfl⟩
 ·rw [if_neg hj,if_neg hj]; exact ⟨_,rfl⟩
theorem aRv (hc:X.calm=true):aEc X (.builtin "min") (fun xs H Q=>∃ i j,xs=[.int i,.int j]/\Q (.int (if j < i then j else i)) H):=by
 intro pins s σ H xs us Q I r h
 obtain ⟨i,j,rfl,q⟩:=h
 obtain ⟨u,w',rfl,⟨t,rfl⟩,⟨t',rfl⟩⟩:=aX4 r
 refine min_two_ints (I.ok.hd hc) fun h' tk k=>⟨_,H,I.kept k,?_,q⟩
 by_cases hj:j < i
 ·rw [if_pos hj,if_pos hj]; exact ⟨_,rfl⟩
 ·rw [if_neg hj,if_neg hj]; exact ⟨_,rfl⟩
noncomputable def LenV (K:PySem.W.Frag) (x:V) (H:Hp) (n:Nat):Prop :=
 match x with
 | .str y=>y.length<=sizeLine/\n=y.length
 | .byt y=>y.size<=sizeLine/\n=y.size
 | .ref p=>(∃ xs,SqL K H p xs/\n=xs.length)∨∃ xs,SqT K H p xs/\n=xs.length
 | _=>False
theorem aTz:aEc X (.builtin "len") (fun xs H Q=>∃ x n,xs=[x]/\LenV X.K x H n/\Q (.int n) H):=by
 intro pins s σ H xs us Q I r h
 obtain ⟨x,n,rfl,e,q⟩:=h
 obtain ⟨u,rfl,rx⟩:=aU8 r
 have hl:=aKf
 have hs:sizeLine=16777216:=sizeLine_eq
 cases x with
 | str y =>
  obtain ⟨t,rfl⟩:=rx
  obtain ⟨hy,e'⟩:y.length<=sizeLine/\n=y.length:=e
  subst e'
  exact len_str (by omega) ⟨.int _,H,I.tok _,⟨_,rfl⟩,q⟩
 | byt y =>
  obtain ⟨t,rfl⟩:=rx
  obtain ⟨hy,e'⟩:y.size<=sizeLine/\n=y.size:=e
  subst e'
  exact PySem.W.len_bytes (by omega) ⟨.int _,H,I.tok _,⟨_,rfl⟩,q⟩
 | ref p =>
  cases rx
  have e':(∃ xs,SqL X.K H p xs/\n=xs.length)∨∃ xs,SqT X.K H p xs/\n=xs.length:=e
  rcases e' with ⟨xs,hx,e'⟩ | ⟨xs,hx,e'⟩
  ·subst e'
   obtain ⟨its,r',pl,hz⟩:=I.list hx
   have hlen:=r'.length
   exact Calls.call_len_list pl.isList (by simp only [List.size_toArray]; omega) ⟨.int xs.length,H,I.tok _,⟨_,by simp only [List.size_toArray]; rw [hlen]⟩,q⟩
  ·subst e'
   obtain ⟨its,r',pl,hz⟩:=I.tuple hx
   have hlen:=r'.length
   exact len_tuple pl (by simp only [List.size_toArray]; omega) ⟨.int xs.length,H,I.tok _,⟨_,by simp only [List.size_toArray]; rw [hlen]⟩,q⟩
 | _=>exact (show False from e).elim
end
end L2
namespace L2
open PySem PySem.Spec PyProof.Rows
structure ObjM (h:Heap) (x dx C:Addr) (mA:Str->Option Value):Prop where
 obj:h.get? x=some (PySem.W.instObj C dx)
 ns:h.Ns1 dx mA
 ne:dx≠x
theorem aQv {h:Heap} {dx:Addr} {mA:Str->Option Value} (n:h.Ns1 dx mA):∃ od,h.get? dx=some od/\∀ name,PySem.W.lookIn name od=some (mA name):=by
 obtain ⟨o,es,ep,ho,hd,hk,_,hm⟩:=n
 refine ⟨o,ho,fun name=>?_⟩
 have e:=hm name
 unfold nsFind findBy at e
 rw [← Array.find?_toList] at e
 unfold PySem.W.lookIn
 rw [hd]
 dsimp only
 split
 ·rename_i y q
  rw [q] at e
  exact congrArg some e
 ·rename_i q
  rw [q] at e
  have a:es.toList.any (·.refKey)=false:=by
   rw [List.any_eq_false]
   intro y hy
   obtain ⟨z,t,hkey⟩:=hk y (Array.mem_toList_iff.mp hy)
   simp [DictEntry.refKey,hkey]
  have a':¬ es.toList.any (·.refKey)=true:=by rw [a]; exact Bool.false_ne_true
  rw [if_neg a']
  exact congrArg some e
theorem ObjM.look {h:Heap} {x dx C:Addr} {mA:Str->Option Value} (I:ObjM h x dx C mA):∃ od,PySem.W.InstAt h x (PySem.W.instObj C dx) C (some od)/\∀ name,PySem.W.lookIn name od=some (mA name) :=
 let ⟨od,ho,hl⟩:=aQv I.ns
 ⟨od,⟨I.obj,rfl,rfl,ho⟩,hl⟩
section
variable {prog:Program} {w:World} {A:Around} {E:Value -> Shared -> Prop} {s:Shared} {K:PySem.W.Frag} {x dx C f:Addr} {mA:Str -> Option Value} {name:Str} {v:Value}
end
theorem aNp.some_of {v:V} {o:Option Value} (r:aNp (some v) o):∃ u,o=some u/\aBr v u:=by
 cases o with
 | none=>exact (show False from r).elim
 | some u=>exact ⟨u,rfl,r⟩
section
variable {P:Program} {w:World} {H H':Hp} {h h':Heap} {a C dx:Addr} {fs fs':List (Str×V)}
theorem aXa (hok:HOk P w H h) (e:H a=some (.ins C dx fs)):∃ mA,ObjM h a dx C mA/\(∀ f,aNp (fs.lookup f) (mA f))/\PySem.Within mA (fs.map (·.1))/\fs.length<=1000/\H dx=some (.own a):=by
 obtain ⟨d,z,ne,ob,mA,n,r,q⟩:=(show aB0 P w H h a (.ins C dx fs) from hok a _ e)
 exact ⟨mA,⟨ob,n,ne⟩,r,q,z,d⟩
end
structure Cls (K:PySem.W.Frag) (C:Addr):Prop where
 pg:PySem.W.plainGet K C Str.empty=true
 hd:PySem.W.hasDictIn K C=true
 po:PySem.W.plainOver K C=true
 sa:PySem.W.findIn K (.ref C) "__setattr__"=some (some (.builtin "object.__setattr__"))
theorem Cls.get {K:PySem.W.Frag} {C:Addr} (c:Cls K C) (f:Str):PySem.W.plainGet K C f=true:=c.pg
section
variable {X:Cx} {pins:List (Addr×Obj)} {σ:St} {H:Hp} {s:Shared} {a C dx:Addr} {fs:List (Str×V)} {f:Str} {v:V} {A:Around} {E:Value -> Shared -> Prop}
end
section
variable {X:Cx} {o e value:Expr} {f:Str} {pos pos' tpos:Pos} {ta tv:TE}
end
section
variable {X:Cx} {pins:List (Addr×Obj)} {σ:St} {H:Hp} {s:Shared} {A:Around} {E:Value -> Shared -> Prop} {Q:Value -> Shared -> Prop} {c:Value} {b:Bool}
inductive aK5 (K:PySem.W.Frag) (H:Hp):V->Value->Prop where
 | non:aK5 K H .non (.type "NoneType")
 | bl (x:Bool):aK5 K H (.bl x) (.type "bool")
 | int (i:Int):aK5 K H (.int i) (.type "int")
 | str (x:Str):aK5 K H (.str x) (.type "str")
 | flt (x:UInt64):aK5 K H (.flt x) (.type "float")
 | lst {a:Addr} {xs:List V} (e:H a=some (.lst xs)):aK5 K H (.ref a) (.type "list")
 | frz {a:Addr} {o:Obj} {xs:List V} (e:H a=some (.frz o (.lst xs))):aK5 K H (.ref a) (.type "list")
 | tup {a:Addr} {xs:List V} (e:H a=some (.tup xs)):aK5 K H (.ref a) (.type "tuple")
 | dK {a:Addr} {kvs:List (Key×V)} (e:H a=some (.dK kvs)):aK5 K H (.ref a) (.type "dict")
 | dT {a:Addr} {kvs:List (List Key×V)} (e:H a=some (.dT kvs)):aK5 K H (.ref a) (.type "dict")
 | ins {a C dx:Addr} {fs:List (Str×V)} (e:H a=some (.ins C dx fs)) (cl:Cls K C) (ha:PySem.W.findIn K (.ref C) "__class__"=some (some (.builtin "object.__class__")))
   (hn:PySem.W.specialIn K (.builtin "object.__class__") "__get__"=some (some (.builtin "getset_descriptor.__get__"))) (htk:PySem.W.takesIn K (.builtin "object.__class__")=some true)
   (hm:PySem.W.mroIn K C (.type "object")=some true):aK5 K H (.ref a) (.ref C)
theorem aQ3 {x:V} {u t:Value} (I:Inv X pins σ H s) (rx:aBr x u) (ty:aK5 X.K H x t) (e:PySem.W.kitOne X.K t c=some b) (h:∀ tk,Q (.bool b) { s with toks:=tk }) :
  wpAny (model X.prog X.w) A (call (.builtin "isinstance") [u,c]) Q E s:=by
 cases ty with
 | non=>cases (show u=Value.none from rx); exact PySem.W.kia_one PySem.W.kitx_none I.kIn True.intro e (fun z=>nomatch z) h
 | bl y=>cases (show u=Value.bool y from rx); exact PySem.W.kia_one PySem.W.kitx_bool I.kIn True.intro e (fun z=>nomatch z) h
 | int i=>obtain ⟨t,q⟩:=(show ∃ t,u=Value.int i t from rx); cases q; exact PySem.W.kia_one PySem.W.kitx_int I.kIn True.intro e (fun z=>nomatch z) h
 | str y=>obtain ⟨t,q⟩:=(show ∃ t,u=Value.str y t from rx); cases q; exact PySem.W.kia_one PySem.W.kitx_str I.kIn True.intro e (fun z=>nomatch z) h
 | flt y=>obtain ⟨t,q⟩:=(show ∃ t,u=Value.float y t from rx); cases q; exact PySem.W.kia_one PySem.W.kitx_float I.kIn True.intro e (fun z=>nomatch z) h
 | @lst a xs ea =>
  cases (show u=Value.ref a from rx)
  obtain ⟨_,_,n,_,h1⟩:=(show aB0 X.prog X.w H s.heap a (.lst xs) from I.hok a _ ea)
  exact PySem.W.kia_one PySem.W.kitx_list I.kIn ⟨_,h1,rfl⟩ e (fun z=>nomatch z) h
 | @frz a ob xs ea =>
  cases (show u=Value.ref a from rx)
  obtain ⟨_,_,_,n,_,h1⟩:=(show aB0 X.prog X.w H s.heap a (.frz ob (.lst xs)) from I.hok a _ ea)
  exact PySem.W.kia_one PySem.W.kitx_list I.kIn ⟨_,h1,rfl⟩ e (fun z=>nomatch z) h
 | @tup a xs ea =>
  cases (show u=Value.ref a from rx)
  obtain ⟨_,_,_,p⟩:=(show aB0 X.prog X.w H s.heap a (.tup xs) from I.hok a _ ea)
  obtain ⟨o,h1,h2,_⟩:=p
  exact PySem.W.kia_one PySem.W.kitx_tuple I.kIn ⟨o,h1,h2⟩ e (fun z=>nomatch z) h
 | @dK a kvs ea =>
  cases (show u=Value.ref a from rx)
  obtain ⟨_,_,vs,_,p⟩:=(show aB0 X.prog X.w H s.heap a (.dK kvs) from I.hok a _ ea)
  obtain ⟨o,es,ep,h1,h2,_⟩:=p
  exact PySem.W.kia_one PySem.W.kitx_dict I.kIn ⟨o,h1,h2.1⟩ e (fun z=>nomatch z) h
 | @dT a kvs ea =>
  cases (show u=Value.ref a from rx)
  obtain ⟨_,_,xs,_,o,es,ep,h1,h2,_⟩:=(show aB0 X.prog X.w H s.heap a (.dT kvs) from I.hok a _ ea)
  exact PySem.W.kia_one PySem.W.kitx_dict I.kIn ⟨o,h1,h2.1⟩ e (fun z=>nomatch z) h
 | @ins a C dx fs ea cl ha hn htk hm =>
  cases (show u=Value.ref a from rx)
  obtain ⟨mA,O,_⟩:=aXa I.hok ea
  obtain ⟨od,J,_⟩:=O.look
  exact PySem.W.kia_one (PySem.W.kitx_own (cl.get _) cl.hd ha hn htk hm) I.kIn J e (fun z=>nomatch z) h
end
end L2
namespace L2
open PySem PySem.Spec PyProof.Rows
structure aFp (k:Nat) (A:Around):Prop where
 hd:A.handled=none
 dp:A.depth+3 * k+5 < recursionLimit
 un:A.units+16 * k+200 < cLine
theorem aFp.mono {j k:Nat} {A:Around} (r:aFp k A) (h:j<=k):aFp j A:=⟨r.hd,by have:=r.dp; omega,by have:=r.un; omega⟩
theorem aFp.deeper {k:Nat} {A:Around} (r:aFp (k+1) A) (env:Env):aFp k (A.deeper env) :=
 ⟨r.hd,by have:=r.dp; show A.depth+1+3 * k+5 < _; omega,by have:=r.un; show A.units+3+16 * k+200 < _; omega⟩
theorem aFp.depth {k:Nat} {A:Around} (r:aFp k A):A.depth < recursionLimit:=by have:=r.dp; omega
theorem aFp.units {k:Nat} {A:Around} (r:aFp k A):A.units+64 < cLine:=by have:=r.un; omega
noncomputable def aSh:TA:=fun _ H Q=>Q [] H
noncomputable def aSi (ta:TE) (tr:TA):TA:=fun σ H Q=>ta σ H fun x H1=>tr σ H1 fun xs H2=>Q (x::xs) H2
section
variable {X:Cx} {e:Expr} {es:List Expr} {te:TE} {t:TA} {pos:Pos}
theorem aAd:PA X [] aSh:=fun _ _ _ _ H Q I h=>Calls.spliced_nil ⟨[],H,I,.nil,h⟩
theorem aAa (ha:PE X e te) (hr:PA X es t) (hs:starEach (e::es) X.env=(false,eval e X.env)::starEach es X.env:=by rfl):PA X (e::es) (aSi te t):=by
 intro pos pins s σ H Q I h
 rw [hs]
 show wpAny _ _ (spliced ((false,eval e X.env)::backTo pos (starEach es X.env))) _ _ s
 refine Calls.spliced_cons (thn (ha pins s σ H _ I h) fun u s1 ⟨x,H1,I1,r1,q1⟩=>?_)
 exact thn (hr pos pins s1 σ H1 _ I1 q1) fun us s2 ⟨xs,H2,I2,r2,q2⟩=>⟨x::xs,H2,I2,.cons r1 r2,q2⟩
noncomputable def tTup (t:TA):TE:=fun σ H Q=>t σ H fun xs H1=>xs.length<=sizeLine/\∀ p,H1 p=none->Q (.ref p) (upd H1 p (.tup xs))
noncomputable def aXx (t:TA):TE:=fun σ H Q=>t σ H fun xs H1=>xs.length<=sizeLine/\∀ p,H1 p=none->Q (.ref p) (upd H1 p (.lst xs))
theorem aBa {x1} (h:PA X es t):PE X (.Tuple es x1 pos) (tTup t):=by
 intro pins s σ H Q I hq
 refine wpAny_Tuple_spliced (thn (h pos pins s σ H _ I hq) fun us s1 ⟨xs,H1,I1,r,z,q⟩=>⟨by rw [← r.length]; exact z,?_⟩)
 have hf:H1 s1.heap.objs.size=none:=I1.hok.fresh (Nat.le_refl _)
 refine ⟨.ref s1.heap.objs.size,upd H1 s1.heap.objs.size (.tup xs),I1.laid (t':=s1.toks) (fun b u e=>Heap.get?_push_of_some _ e) (Nat.le_refl _) ?_,rfl,q _ hf⟩
 exact ⟨⟨z,_,Heap.get?_push_size _ rfl,rfl⟩,us,r,⟨_,Heap.get?_push_size _ rfl,rfl,_,rfl⟩⟩
theorem aB8 (h:PA X es t):PE X (.List es pos) (aXx t):=by
 intro pins s σ H Q I hq
 refine wpAny_List_spliced (thn (h pos pins s σ H _ I hq) fun us s1 ⟨xs,H1,I1,r,z,q⟩=>⟨by rw [← r.length]; exact z,?_⟩)
 have hf:H1 s1.heap.objs.size=none:=I1.hok.fresh (Nat.le_refl _)
 refine ⟨.ref s1.heap.objs.size,upd H1 s1.heap.objs.size (.lst xs),I1.laid (t':=s1.toks) (fun b u e=>Heap.get?_push_of_some _ e) (Nat.le_refl _) ?_,rfl,q _ hf⟩
 exact ⟨z,us,0,r,Heap.get?_push_size _ rfl⟩
end
noncomputable abbrev Sp:=List V->Hp->VK->XK->Prop
noncomputable abbrev CXT:=List Env->Hp->Shared->XK->Value->Shared->Prop
structure Env0 (P:Program) (w:World) (K:PySem.W.Frag) (mg:Str->Option Value) (base:Heap) (A:Around) (outer:List Env) (s:Shared) (H:Hp):Prop where
 frames:A.frames=some outer
 mod:Mod K mg base
 bs:∀ b o,base.get? b=some o->s.heap.get? b=some o/\H b=none
 bsz:base.objs.size<=s.heap.objs.size
 funs:s.heap.FunFrames base outer
 frf:∀ b∈frs outer,H b=none
 hok:HOk P w H s.heap
 bare:AllBare s.gens
noncomputable def CE (outer:List Env) (P:Program) (w:World) (H:Hp) (s:Shared) (Q:VK) (u:Value) (s':Shared):Prop :=
 ∃ v H',s'.os=s.os/\AllBare s'.gens/\Un (frs outer) [] H H' s.heap s'.heap/\HOk P w H' s'.heap/\aBr v u/\Q v H'
noncomputable def CR (CX:CXT) (outer:List Env) (P:Program) (w:World) (H:Hp) (s:Shared) (Q:VK) (E:XK) (r:Result) (s':Shared):Prop :=
 match r with
 | .ok (.ret u)=>CE outer P w H s Q u s'
 | .ok _=>False
 | .error e=>CX outer H s E e s'
structure aK2 (P:Program) (w:World) (K:PySem.W.Frag) (mg:Str->Option Value) (base:Heap) (CX:CXT) (k:Nat) (f:Addr) (fd:FuncData) (ps:List Str) (sp:Sp):Prop where
 len:∀ vs H Q E,sp vs H Q E->vs.length=ps.length
 run:∀ (A:Around) (outer:List Env) (s:Shared) (H:Hp) (args:Args) (us:List Value) (vs:List V) (Q:VK) (E:XK),aFp k A->Env0 P w K mg base A outer s H->BindsTo s fd args (ps.zip us)->aBn vs us->sp vs H Q E ->
  codeAny (model P w) A (.call (.ref f) args) (CR CX outer P w H s Q E) s
theorem aK2.mono {P:Program} {w:World} {K:PySem.W.Frag} {mg:Str->Option Value} {base:Heap} {CX:CXT} {j k:Nat} {f:Addr} {fd:FuncData} {ps:List Str} {sp:Sp} (F:aK2 P w K mg base CX j f fd ps sp) (h:j<=k) :
  aK2 P w K mg base CX k f fd ps sp:=⟨F.len,fun A outer s H args us vs Q E hr=>F.run A outer s H args us vs Q E (hr.mono h)⟩
section
variable {X:Cx} {pins:List (Addr×Obj)} {σ:St} {H:Hp} {s s':Shared}
theorem Inv.env0 (I:Inv X pins σ H s):Env0 X.prog X.w X.K X.mg X.base X.A X.stack s H :=
 ⟨I.ok.frames,I.ok.mod,I.bs,Nat.le_trans I.ok.bsz I.sz,I.stack,I.stkFree,I.hok,I.bare⟩
theorem Inv.after {Q:VK} {u:Value} (I:Inv X pins σ H s) (h:CE X.stack X.prog X.w H s Q u s'):EP X pins σ Q u s':=by
 obtain ⟨v,H',os,bare,un,hok,r,q⟩:=h
 obtain ⟨hh,g,d,t,os'⟩:=s'
 obtain rfl:os'=s.os:=os
 exact ⟨v,H',I.call (h':=hh) (g':=g) (d':=d) (t':=t) (ch:=[]) un hok bare (fun b z=>absurd z (by simp)),r,q⟩
end
noncomputable def aOz (sp:Sp) (dvs:List V) (E:XK) (t:TA):TE:=fun σ H Q=>t σ H fun vs H1=>sp (vs++dvs) H1 Q E
noncomputable def aFo (K:PySem.W.Frag) (fd:FuncData) (ps:List Str) (ds:List Value):Prop :=
 ∀ (s:Shared) (us:List Value),K.In s.heap->(us++ds).length=ps.length->BindsTo s fd ⟨us,[]⟩ (ps.zip (us++ds))
theorem aFo.all {K:PySem.W.Frag} {fd:FuncData} {ps:List Str} (h:∀ us:List Value,us.length=ps.length->bindArgs fd ⟨us,[]⟩=pure (ps.zip us)):aFo K fd ps []:=fun s us _ hl=>by
 rw [List.append_nil] at hl ⊢
 exact .of_eq (h us hl)
noncomputable def aKz (CX:CXT) (X:Cx) (E:XK):Prop:=∀ (pins:List (Addr×Obj)) (σ:St) (H:Hp) (s:Shared) (e:Value) (s':Shared),Inv X pins σ H s->CX X.stack H s E e s'->X.xe e s'
section
variable {X:Cx} {CX:CXT} {k:Nat} {f C:Addr} {fd:FuncData} {ps:List Str} {sp:Sp} {dvs:List V} {ds:List Value} {E:XK} {x m:Str} {p pos apos:Pos} {e o:Expr} {es:List Expr} {ta:TE} {t:TA}
theorem aYy {pins:List (Addr×Obj)} {σ:St} {H:Hp} {s:Shared} {Q:VK} {us:List Value} {vs:List V} (F:aK2 X.prog X.w X.K X.mg X.base CX k f fd ps sp) (hr:aFp k X.A) (hb:aFo X.K fd ps ds) (hd:aBn dvs ds) (hx:aKz CX X E)
  (I:Inv X pins σ H s) (r:aBn vs us) (h:sp (vs++dvs) H Q E):wpAny (model X.prog X.w) X.A (call (.ref f) us) (EP X pins σ Q) X.xe s:=by
 have r2:aBn (vs++dvs) (us++ds):=r.append hd
 have hl:(us++ds).length=ps.length:=by rw [← r2.length]; exact F.len _ _ _ _ h
 refine wpAny_call (codeAny_mono (F.run X.A X.stack s H ⟨us,[]⟩ (us++ds) (vs++dvs) Q E hr I.env0 (hb s us I.kIn hl) r2 h) fun r s' hq=>?_)
 cases r with
 | error e=>exact hx pins σ H s e s' I hq
 | ok fl =>
  cases fl with
  | ret u=>exact I.after hq
  | next=>exact False.elim hq
  | brk=>exact False.elim hq
  | cont=>exact False.elim hq
theorem aP7 (F:aK2 X.prog X.w X.K X.mg X.base CX k f fd ps sp) (hr:aFp k X.A) (hg:Gl X x) (hm:X.mg x=some (.ref f)) (hk:PySem.W.keepIn X.K (.ref f)=true) (hb:aFo X.K fd ps ds) (hd:aBn dvs ds) (hx:aKz CX X E)
  (ha:PA X (e::es) t) (hdb:(x==("__debug__":Str))=false:=by decide) (he:starEach (e::es) X.env=(false,eval e X.env)::starEach es X.env:=by rfl) (hpl:(backTo pos (starEach es X.env)).any (·.1)=false:=by rfl) :
  PE X (.Call (.Name x p) (e::es) [] pos) (aOz sp dvs E t):=by
 intro pins s σ H Q I h
 refine wpAny_Call_Name_kw (aQx I hg hm ?_ hdb)
 refine PySem.W.callWith_K (h₀:=X.base) I.ok.mod.kin hk (thn (ha pos pins s σ H _ I h) fun us s1 ⟨vs,H1,I1,r,q⟩=>⟨I1.kIn,?_⟩) he hpl
 exact aYy F hr hb hd hx I1 r q
end
noncomputable def PK (X:Cx) (kws:List Keyword) (t:TA):Prop :=
 ∀ (pos:Pos) (pins:List (Addr×Obj)) (s:Shared) (σ:St) (H:Hp) (Q:List V->Hp->Prop),Inv X pins σ H s->t σ H Q->wpAny (model X.prog X.w) X.A (evalAll ((backToKw pos (keywordEach kws X.env)).map (·.2))) (AP X pins σ Q) X.xe s
section
variable {X:Cx} {CX:CXT} {k:Nat} {f C:Addr} {fd:FuncData} {ps ks:List Str} {sp:Sp} {E:XK} {x m:Str} {p pos apos kpos:Pos} {e o:Expr} {es:List Expr} {kws:List Keyword} {te ta:TE} {t tk:TA} {nm:Option Str}
theorem bAk:PK X [] aSh:=fun _ _ _ _ H Q I h=>wpAny_evalAll_nil ⟨[],H,I,.nil,h⟩
theorem aWg (ha:PE X e te) (hr:PK X kws t):PK X (⟨nm,e,kpos⟩::kws) (aSi te t):=by
 intro pos pins s σ H Q I h
 show wpAny _ _ (evalAll ((do let v ← eval e X.env; standAt pos; pure v)::(backToKw pos (keywordEach kws X.env)).map (·.2))) _ _ s
 refine wpAny_evalAll_cons (wpAny_bind (thn (ha pins s σ H _ I h) fun u s1 ⟨x,H1,I1,r1,q1⟩=>wpAny_bind (wpAny_standAt (wpAny_pure ?_))))
 exact thn (hr pos pins s1 σ H1 _ I1 q1) fun us s2 ⟨xs,H2,I2,r2,q2⟩=>⟨x::xs,H2,I2,.cons r1 r2,q2⟩
structure aNr (K:PySem.W.Frag) (fd:FuncData) (ps ks:List Str) (g:List Value->List Value->List Value) (gV:List V->List V->List V):Prop where
 to:∀ (s:Shared) (us ws:List Value),K.In s.heap->(g us ws).length=ps.length->BindsTo s fd ⟨us,ks.zip ws⟩ (ps.zip (g us ws))
 rel:∀ {vs:List V} {us:List Value} {zs:List V} {ws:List Value},aBn vs us->aBn zs ws->aBn (gV vs zs) (g us ws)
noncomputable def aMq (sp:Sp) (gV:List V->List V->List V) (E:XK) (t tk:TA):TE:=fun σ H Q=>t σ H fun vs H1=>tk σ H1 fun zs H2=>sp (gV vs zs) H2 Q E
variable {g:List Value -> List Value -> List Value} {gV:List V -> List V -> List V}
theorem aVq {pins:List (Addr×Obj)} {σ:St} {H:Hp} {s:Shared} {Q:VK} {us ws:List Value} {vs zs:List V} (F:aK2 X.prog X.w X.K X.mg X.base CX k f fd ps sp) (hr:aFp k X.A) (hb:aNr X.K fd ps ks g gV) (hx:aKz CX X E)
  (I:Inv X pins σ H s) (r:aBn vs us) (rz:aBn zs ws) (h:sp (gV vs zs) H Q E):wpAny (model X.prog X.w) X.A (call (.ref f) us (ks.zip ws)) (EP X pins σ Q) X.xe s:=by
 have r2:=hb.rel r rz
 have hl:(g us ws).length=ps.length:=by rw [← r2.length]; exact F.len _ _ _ _ h
 refine wpAny_call (codeAny_mono (F.run X.A X.stack s H ⟨us,ks.zip ws⟩ (g us ws) (gV vs zs) Q E hr I.env0 (hb.to s us ws I.kIn hl) r2 h) fun r s' hq=>?_)
 cases r with
 | error e=>exact hx pins σ H s e s' I hq
 | ok fl =>
  cases fl with
  | ret u=>exact I.after hq
  | next=>exact False.elim hq
  | brk=>exact False.elim hq
  | cont=>exact False.elim hq
theorem aS6 (F:aK2 X.prog X.w X.K X.mg X.base CX k f fd ps sp) (hr:aFp k X.A) (hg:Gl X x) (hm:X.mg x=some (.ref f)) (hk:PySem.W.keepIn X.K (.ref f)=true) (hb:aNr X.K fd ps ks g gV) (hx:aKz CX X E)
  (ha:PA X (e::es) t) (hkw:PK X kws tk) (hall:(backToKw pos (keywordEach kws X.env)).all (·.1.isSome)=true:=by rfl) (hks:(backToKw pos (keywordEach kws X.env)).filterMap (·.1)=ks:=by rfl)
  (hdb:(x==("__debug__":Str))=false:=by decide) (he:starEach (e::es) X.env=(false,eval e X.env)::starEach es X.env:=by rfl)
  (hpl:((backTo pos (starEach (e::es) X.env)).any (·.1) || (backToKw pos (keywordEach kws X.env)).any (·.1.isNone))=false:=by rfl) :
  PE X (.Call (.Name x p) (e::es) kws pos) (aMq sp gV E t tk):=by
 intro pins s σ H Q I h
 refine wpAny_Call_Name_kw (aQx I hg hm ?_ hdb)
 refine PySem.W.callWith_KW (h₀:=X.base) I.ok.mod.kin hk hall (thn (ha pos pins s σ H _ I h) fun us s1 ⟨vs,H1,I1,r,q⟩=>?_) hpl he
 refine thn (hkw pos pins s1 σ H1 _ I1 q) fun ws s2 ⟨zs,H2,I2,rz,q2⟩=>⟨I2.kIn,?_⟩
 rw [hks]
 exact aVq F hr hb hx I2 r rz q2
end
structure aAq (N P:List Str) (sc:Scope):Prop where
 kind:sc.kind=.function
 co:sc.isCoroutine=false
 gen:sc.isGenerator=false
 nd:N.Nodup
 pre:N.take P.length=P
 par:∀ x∈P,sc.names.lookup x=some .local∨sc.names.lookup x=some .cell
 nofree:∀ y∈sc.names,y.2≠.free
theorem aKt {kindOf:Str->Option NameKind} {x:Str}:∀ {binds:List (Str×Value)} {m:Str->Option Value},(∀ v,(x,v)∉binds)->bindL kindOf binds m x=m x
 | [],_,_=>rfl
 | (n,v)::r,m,h=>by
  unfold bindL
  rw [aKt fun w hw=>h w (List.mem_cons_of_mem _ hw)]
  split
  ·have:x≠n:=by rintro rfl; exact h v List.mem_cons_self
   simp [this]
  ·rfl
theorem aKv {kindOf:Str->Option NameKind} {x:Str}:∀ {binds:List (Str×Value)} {m:Str->Option Value},(∀ v,(x,v)∉binds)->bindC kindOf binds m x=m x
 | [],_,_=>rfl
 | (n,v)::r,m,h=>by
  unfold bindC
  rw [aKv fun w hw=>h w (List.mem_cons_of_mem _ hw)]
  split
  ·rfl
  ·have:x≠n:=by rintro rfl; exact h v List.mem_cons_self
   simp [this]
theorem aKu {kindOf:Str->Option NameKind} {x:Str} {v:Value}:∀ {P:List Str} {vs:List Value} {i:Nat} {m:Str->Option Value},P.Nodup->P[i]?=some x->vs[i]?=some v->kindOf x=some .local ->
  bindL kindOf (P.zip vs) m x=some v
 | [],_,_,_,_,h,_,_=>by simp at h
 | _::_,[],_,_,_,_,h,_=>by simp at h
 | p::P,w::vs,0,m,nd,h1,h2,hk=>by
  simp at h1 h2; subst h1; subst h2
  show bindL kindOf ((p,w)::P.zip vs) m p=_
  unfold bindL
  rw [aKt fun v hv=>(List.nodup_cons.mp nd).1 (List.of_mem_zip hv).1,if_pos hk]
  simp
 | p::P,w::vs,i+1,m,nd,h1,h2,hk=>by
  show bindL kindOf ((p,w)::P.zip vs) m x=_
  unfold bindL
  exact aKu (i:=i) (List.nodup_cons.mp nd).2 (by simpa using h1) (by simpa using h2) hk
theorem aKw {kindOf:Str->Option NameKind} {x:Str} {v:Value}:∀ {P:List Str} {vs:List Value} {i:Nat} {m:Str->Option Value},P.Nodup->P[i]?=some x->vs[i]?=some v->kindOf x≠some .local ->
  bindC kindOf (P.zip vs) m x=some v
 | [],_,_,_,_,h,_,_=>by simp at h
 | _::_,[],_,_,_,_,h,_=>by simp at h
 | p::P,w::vs,0,m,nd,h1,h2,hk=>by
  simp at h1 h2; subst h1; subst h2
  show bindC kindOf ((p,w)::P.zip vs) m p=_
  unfold bindC
  rw [aKv fun v hv=>(List.nodup_cons.mp nd).1 (List.of_mem_zip hv).1,if_neg hk]
  simp
 | p::P,w::vs,i+1,m,nd,h1,h2,hk=>by
  show bindC kindOf ((p,w)::P.zip vs) m x=_
  unfold bindC
  exact aKw (i:=i) (List.nodup_cons.mp nd).2 (by simpa using h1) (by simpa using h2) hk
noncomputable def start (N:List Str) (vs:List V):St:=vs.map some++List.replicate (N.length - vs.length) none
noncomputable def aTy (CX:CXT) (P:Program) (w:World) (K:PySem.W.Frag) (mg:Str->Option Value) (base:Heap) (N:List Str) (qual:Str) (scope:Scope) (f:Addr) (cd:Value) (A:Around) (outer:List Env) (s:Shared) (H:Hp) (E:XK):Cx where
 prog:=P
 w:=w
 K:=K
 mg:=mg
 base:=base
 A:=A.deeper (envOfC qual scope s.heap.objs.size f cd)
 N:=N
 s₀:=s
 H₀:=H
 env:=envOfC qual scope s.heap.objs.size f cd
 outer:=outer
 stack:=envOfC qual scope s.heap.objs.size f cd::outer
 ex:=[]
 calm:=true
 fn:=fun _=>true
 pn:=[]
 xe:=fun e s'=>wpAny (model P w) (A.deeper (envOfC qual scope s.heap.objs.size f cd)) (leaving (envOfC qual scope s.heap.objs.size f cd) e) (fun _ s''=>CX outer H s E e s'') (fun e' s''=>CX outer H s E e' s'') s'
theorem aNl {sc:Scope} {n:Nat} {x:Str} (h:sc.names.lookup x=some .cell):∃ c,(cellsFrom n sc.names []).lookup x=some c:=by
 have q:=PySem.W.cellsFrom_some sc.names n [] (.inl h)
 exact Option.isSome_iff_exists.mp q
theorem aQ5 {CX:CXT} {P:Program} {w:World} {K:PySem.W.Frag} {mg:Str->Option Value} {base:Heap} {N ps:List Str} {qual:Str} {scope:Scope} {f:Addr} {cd:Value} {A:Around} {outer:List Env} {s s1:Shared} {H:Hp} {E:XK} {us:List Value} {vs:List V}
  (S:aAq N ps scope) (hd:A.handled=none) (e0:Env0 P w K mg base A outer s H) (hl:vs.length=ps.length) (r:aBn vs us)
  (x:InCallC s s.heap.objs.size (bindL (envOfC qual scope s.heap.objs.size f cd).kindOf (ps.zip us) fun _=>none) (cellsFrom (s.heap.objs.size+1) scope.names []) (bindC (envOfC qual scope s.heap.objs.size f cd).kindOf (ps.zip us) fun _=>none) s1) :
  Inv (aTy CX P w K mg base N qual scope f cd A outer s H E) [] (start N vs) H s1:=by
 have hpl:ps.length<=N.length:=by have:=congrArg List.length S.pre; rw [List.length_take] at this; omega
 obtain ⟨h1,tk,rfl,hk⟩:=x.done
 have noA:∀ b:Addr,b∉(aTy CX P w K mg base N qual scope f cd A outer s H E).ex:=fun b z=>absurd (show b∈([]:List Addr) from z) (by simp)
 refine ⟨⟨e0.mod,S.kind,rfl,rfl,Nat.le_refl _,fun y z c h1 h2=>?_,fun y hy=>?_,fun y c _ h=>?_,fun _=>hd,Around.frames_deeper e0.frames,.inr ⟨rfl,rfl⟩,fun b z=>absurd z (noA b),e0.bs,e0.bsz,fun b _ _=>noA b,fun b z=>absurd z (noA b),e0.funs,e0.frf⟩,
  rfl,e0.bare,Un.kept hk,⟨_,x.toInCall.ns,fun i y v h1 h2 h3=>?_⟩,fun y c h=>⟨_,x.cell y c h⟩,e0.hok.fresh (Nat.le_refl _),fun y c h=>?_,fun p hp=>absurd (show p∈([]:List (Addr×Obj)) from hp) (by simp),e0.hok.kept hk,?_⟩
 ·exact name_of_addr x.apart (PySem.mem_of_lookup h1) (PySem.mem_of_lookup h2)
 ·have hy:scope.names.lookup y=some .cell∨scope.names.lookup y=some .free:=hy
  rcases hy with hy | hy
  ·exact aNl hy
  ·exact absurd rfl (S.nofree _ (PySem.mem_of_lookup hy))
 ·exact Nat.le_of_lt (x.above y c (PySem.mem_of_lookup h))
 ·have hi:i < vs.length:=by
   unfold start at h2
   by_cases hi:i < vs.length
   ·exact hi
   ·rw [List.getElem?_append_right (by simpa using hi)] at h2
    rw [List.getElem?_replicate] at h2
    split at h2 <;> cases h2
  have ha:vs[i]?=some v:=by
   unfold start at h2
   rw [List.getElem?_append_left (by simpa using hi),List.getElem?_map] at h2
   cases e:vs[i]? with
   | none=>rw [e] at h2; cases h2
   | some a=>rw [e] at h2; cases h2; rfl
  obtain ⟨u,hu,rv⟩:=r.get ha
  have hp:ps[i]?=some y:=by
   rw [← S.pre,List.getElem?_take_of_lt (by omega)]; exact h1
  have ndP:ps.Nodup:=by rw [← S.pre]; exact S.nd.sublist (List.take_sublist _ _)
  refine ⟨u,rv,?_⟩
  rcases S.par y (List.mem_of_getElem? hp) with k | k
  ·exact .inl ⟨k,aKu ndP hp hu k⟩
  ·obtain ⟨c,e⟩:=aNl (n:=s.heap.objs.size+1) k
   refine .inr ⟨.inl k,c,e,?_⟩
   have q:=x.cell y c e
   rw [aKw ndP hp hu (by show scope.names.lookup y≠_; rw [k]; decide)] at q
   exact q
 ·exact e0.hok.fresh (Nat.le_of_lt (x.above y c (PySem.mem_of_lookup h)))
 ·unfold start
  show _=N.length
  rw [List.length_append,List.length_map,List.length_replicate]
  omega
theorem aTu {CX:CXT} {P:Program} {w:World} {K:PySem.W.Frag} {mg:Str->Option Value} {base:Heap} {k:Nat} {f:Addr} {name qual:Str} {params:Arguments} {body:List Stmt} {scope:Scope} {dV kV doc pm cdv ct oc:Value} {an od:Option Addr}
  {osl:Array (Option Value)} {N ps:List Str} {sp:Sp} (lk:K.lookup f=some ⟨oc,od,.func (PySem.W.fnOf name qual params body scope dV kV doc pm an cdv ct),osl⟩) (hcd:PySem.W.codeIn K cdv qual=true) (S:aAq N ps scope)
  (len:∀ vs H Q E,sp vs H Q E->vs.length=ps.length)
  (hbody:∀ (A:Around) (outer:List Env) (s:Shared) (H:Hp) (vs:List V) (Q:VK) (E:XK),aFp k (A.deeper (envOfC qual scope s.heap.objs.size f cdv))->sp vs H Q E ->
   ∃ t,PSs (aTy CX P w K mg base N qual scope f cdv A outer s H E) body t/\t { nx:=fun _ H'=>Q .non H',rt:=Q } (start N vs) H) :
  aK2 P w K mg base CX (k+1) f (PySem.W.fnOf name qual params body scope dV kV doc pm an cdv ct) ps sp:=by
 refine ⟨len,fun A outer s H args us vs Q E hr e0 hb r hsp=>?_⟩
 have hl:=len _ _ _ _ hsp
 have KX:K.In s.heap:=e0.mod.kin.keeps fun b o e=>(e0.bs b o e).1
 have lim:s.heap.NoLimit:=e0.mod.nolimit.keeps fun b o e=>(e0.bs b o e).1
 have hkind:∀ y∈ps.zip us,scope.names.lookup y.1=some .local∨(scope.names.lookup y.1=some .cell/\((cellsFrom (s.heap.objs.size+1) scope.names []).lookup y.1).isSome=true):=fun ⟨n,v⟩ hy=>by
  rcases S.par n (List.of_mem_zip hy).1 with q | q
  ·exact .inl q
  ·exact .inr ⟨q,PySem.W.cellsFrom_some _ _ _ (.inl q)⟩
 refine codeAny_call_function hr.depth (KX _ _ lk) rfl S.co S.gen rfl (PySem.W.codeRec_of KX hcd) (hb _ _ _ _ ?_)
 refine wpAny_newFunctionEnv_cells S.kind hkind fun env he s1 x=>?_
 subst he
 refine ⟨lim.keeps x.toInCall.keep,codeAny_func ?_⟩
 obtain ⟨t,ht,hq⟩:=hbody A outer s H vs Q E (hr.deeper _) hsp
 have I:Inv (aTy CX P w K mg base N qual scope f cdv A outer s H E) [] (start N vs) H s1:=aQ5 S hr.hd e0 hl r x
 refine wpAny_mono (ht [] s1 (start N vs) H _ I hq) (fun fl s' hs=>?_) fun e s' hs=>hs
 have fin:∀ {σ':St} {H':Hp} {v:V} {u:Value},Inv (aTy CX P w K mg base N qual scope f cdv A outer s H E) [] σ' H' s'->aBr v u->Q v H'->CE outer P w H s Q u s' :=
  fun {σ' H' v u} J rv q=>⟨v,H',J.os,J.bare,J.base,J.hok,rv,q⟩
 cases fl with
 | ret u =>
  obtain ⟨v,σ',H',J,rv,q⟩:=hs
  exact fin J rv q
 | next =>
  obtain ⟨σ',H',J,q⟩:=hs
  exact fin (v:=V.non) (u:=Value.none) J rfl q
 | brk =>
  obtain ⟨_,_,_,q⟩:=hs
  exact False.elim q
 | cont =>
  obtain ⟨_,_,_,q⟩:=hs
  exact False.elim q
end L2
namespace L2
open PySem PySem.Spec PyProof.Rows
section
variable {X:Cx} {x:Str} {p pos:Pos} {e:Expr} {es:List Expr} {t:TA} {id T:String} {r:List V -> Hp -> VK -> Prop}
noncomputable def tCB (r:List V->Hp->VK->Prop) (t:TA):TE:=fun σ H Q=>t σ H fun vs H1=>r vs H1 Q
theorem aAs (hc:aEc X (.builtin id) r) (hg:Gl X x) (hm:X.mg x=none) (hv:bootBuiltins x=some (.builtin id)) (ha:PA X (e::es) t) (hn:x≠"__name__":=by decide) (hdb:(x==("__debug__":Str))=false:=by decide)
  (he:starEach (e::es) X.env=(false,eval e X.env)::starEach es X.env:=by rfl) (hpl:(backTo pos (starEach es X.env)).any (·.1)=false:=by rfl):PE X (.Call (.Name x p) (e::es) [] pos) (tCB r t):=by
 intro pins s σ H Q I h
 refine wpAny_Call_Name_kw (aEo I hg hm hv ?_ hn hdb)
 exact PyProof.Rows.callWith_builtin1 (thn (ha pos pins s σ H _ I h) fun us s1 ⟨vs,H1,I1,r1,q1⟩=>hc pins s1 σ H1 vs us Q I1 r1 q1) he hpl
theorem aDa (hc:aEc X (.type T) r) (hg:Gl X x) (hm:X.mg x=none) (hv:bootBuiltins x=some (.type T)) (ha:PA X (e::es) t) (hn:x≠"__name__":=by decide) (hdb:(x==("__debug__":Str))=false:=by decide)
  (he:starEach (e::es) X.env=(false,eval e X.env)::starEach es X.env:=by rfl) (hpl:(backTo pos (starEach es X.env)).any (·.1)=false:=by rfl):PE X (.Call (.Name x p) (e::es) [] pos) (tCB r t):=by
 intro pins s σ H Q I h
 refine wpAny_Call_Name_kw (aEo I hg hm hv ?_ hn hdb)
 exact PyProof.Rows.callWith_type1 (thn (ha pos pins s σ H _ I h) fun us s1 ⟨vs,H1,I1,r1,q1⟩=>hc pins s1 σ H1 vs us Q I1 r1 q1) he hpl
end
end L2
namespace HT
open PySem PyProof.Rows
section
open PySem.SeqAt
open PySem.AutoSeq1 (wpAny_loadPart')
open PySem.MeetsSeq PySem.MeetsSeq2 PySem.MeetsSeq3
end
section
variable {prog:Program} {w:World} {A:Around} {E:Value -> Shared -> Prop} {s:Shared}
theorem cat_tup {t b:Addr} {vs ws:List Value} {Q:Value->Shared->Prop} (ht:IsTup s.heap t vs.toArray) (hb:IsTup s.heap b ws.toArray) (hv:vs≠[])
  (h1:ws=[]->Q (.ref t) s) (h2:ws≠[]->Q (.ref s.heap.objs.size) { s with heap:=s.heap.push { cls:=.type "tuple",data:=.seq (vs++ws).toArray } })
  (hsz:vs.length+ws.length<=sizeLine):wpAny (model prog w) A (binaryOp .Add (.ref t) (.ref b)) Q E s:=by
 obtain ⟨⟨cls,dd,data,sl⟩,ho,hc,n,hd⟩:=id ht
 obtain ⟨⟨cls2,dd2,data2,sl2⟩,ho2,hc2,n2,hd2⟩:=id hb
 simp only at hc hd hc2 hd2
 subst hc hd hc2 hd2
 have e:vs.toArray++ws.toArray=(vs++ws).toArray:=by simp
 by_cases hw:ws=[]
 ·exact concat_meets ⟨_,ho,rfl⟩ ⟨_,ho2,rfl⟩ noFill_tuple_add seq_tuple_add PySem.F.slot_tuple_add PySem.F.entry_tuple_add (PySem.F.args_tuple_add_2 _ _)
   (tuple_addW1 t b vs.toArray ws.toArray n n2 dd dd2 sl sl2 (by simpa using hv) (by simp [hw])) ⟨ho,ho2,h1 hw⟩
 ·refine concat_meets ⟨_,ho,rfl⟩ ⟨_,ho2,rfl⟩ noFill_tuple_add seq_tuple_add PySem.F.slot_tuple_add PySem.F.entry_tuple_add (PySem.F.args_tuple_add_2 _ _)
   (tuple_addW2 t b vs.toArray ws.toArray n n2 dd dd2 sl sl2 (by simpa using hv) (by simpa using hw) (by rw [List.size_toArray,List.size_toArray]; exact hsz)) ⟨ho,ho2,?_⟩
  rw [e]
  exact h2 hw
end
end HT
namespace L2
open PySem PySem.Spec PyProof.Rows
noncomputable abbrev TO:=St->Hp->(Option Int->Hp->Prop)->Prop
noncomputable def PO (X:Cx) (e:Option Expr) (t:TO):Prop :=
 ∀ (pins:List (Addr×Obj)) (s:Shared) (σ:St) (H:Hp) (Q:Option Int->Hp->Prop),Inv X pins σ H s->t σ H Q ->
  wpAny (model X.prog X.w) X.A (evalPart e X.env) (fun u s'=>∃ o H',Inv X pins σ H' s'/\IsPart u o/\Q o H') X.xe s
noncomputable def aOx:TO:=fun _ H Q=>Q none H
noncomputable def aYe (t:TE):TO:=fun σ H Q=>t σ H fun x H1=>∃ i,x=.int i/\Q (some i) H1
section
variable {X:Cx} {e:Expr} {te:TE} {lo hi:Option Expr} {tl th:TO} {pos p2:Pos}
theorem aPx:PO X none aOx:=by
 intro pins s σ H Q I h
 rw [evalPart_none]
 exact wpAny_pure ⟨none,H,I,.none,h⟩
theorem aPw (h:PE X e te):PO X (some e) (aYe te):=by
 intro pins s σ H Q I hw
 rw [evalPart_some]
 refine thn (h pins s σ H _ I hw) fun u s1 ⟨x,H1,I1,r1,q1⟩=>?_
 obtain ⟨i,rfl,q⟩:=q1
 obtain ⟨t,rfl⟩:=r1
 exact ⟨some i,H1,I1,.int i t,q⟩
noncomputable def SlR (X:Cx) (r:V->Option Int->Option Int->Hp->VK->Prop):Prop :=
 ∀ (pins:List (Addr×Obj)) (s:Shared) (σ:St) (H:Hp) (x:V) (v vl vu:Value) (lo hi:Option Int) (sl:Addr) (Q:VK),Inv X pins σ H s->aBr x v->s.heap.IsSliceOf sl vl vu .none->IsPart vl lo->IsPart vu hi->r x lo hi H Q ->
  ∃ T id,typeLookup (.type T) "__getitem__"=pure (some (.builtin id))/\s.TypeIs v T/\wpAny (model X.prog X.w) X.A (getItem v (.ref sl)) (EP X pins σ Q) X.xe s
noncomputable def tSl (r:V->Option Int->Option Int->Hp->VK->Prop) (te:TE) (tl th:TO):TE:=fun σ H Q=>te σ H fun x H1=>tl σ H1 fun l H2=>th σ H2 fun u H3=>r x l u H3 Q
theorem aM5 {r:V->Option Int->Option Int->Hp->VK->Prop} (hr:SlR X r) (he:PE X e te) (hl:PO X lo tl) (hu:PO X hi th):PE X (.Subscript e (.Slice lo hi none p2) pos) (tSl r te tl th):=by
 intro pins s σ H Q I h
 refine Subscript_ (thn (he pins s σ H _ I h) fun v s1 ⟨x,H1,I1,r1,q1⟩=>?_)
 refine wpAny_Slice (thn (hl pins s1 σ H1 _ I1 q1) fun vl s2 ⟨l,H2,I2,pl,q2⟩=>thn (hu pins s2 σ H2 _ I2 q2) fun vu s3 ⟨u,H3,I3,pu,q3⟩=>?_)
 rw [evalPart_none]
 refine wpAny_pure ?_
 have I4:Inv X pins σ H3 { s3 with heap:=s3.heap.push { cls:=.type "slice",data:=.fields #[vl,vu,.none] } }:=I3.kept (t':=s3.toks) fun b ob q=>Heap.get?_push_of_some _ q
 obtain ⟨T,id,hT,ht,hg⟩:=hr pins { s3 with heap:=s3.heap.push { cls:=.type "slice",data:=.fields #[vl,vu,.none] } } σ H3 x v vl vu l u s3.heap.objs.size Q I4 r1 (Heap.IsSliceOf.new ..) pl pu q3
 show wpAny (model X.prog X.w) X.A (subscriptTail e (.Slice lo hi none p2) v (.ref s3.heap.objs.size)) (EP X pins σ Q) X.xe { s3 with heap:=s3.heap.push { cls:=.type "slice",data:=.fields #[vl,vu,.none] } }
 exact tail_any (ops:=[.ref s3.heap.objs.size,v]) ht hT hg (by with_unfolding_all rfl)
noncomputable def bAf (K:PySem.W.Frag):R2:=fun x y H Q=>∃ a b xs ys,x=.ref a/\y=.ref b/\SqT K H a xs/\SqT K H b ys/\xs≠[]/\xs.length+ys.length<=sizeLine /\
 (ys=[]->Q (.ref a) H)/\(ys≠[]->∀ p,H p=none->Q (.ref p) (upd H p (.tup (xs++ys))))
theorem aBn.nil_iff {xs:List V} {us:List Value} (r:aBn xs us):us=[] ↔ xs=[]:=by
 cases r with
 | nil=>simp
 | cons _ _=>simp
theorem aWr:OpR X (binaryOp .Add) (bAf X.K):=by
 intro pins s σ H x y v u Q I rx ry h
 obtain ⟨a,b,xs,ys,rfl,rfl,ha,hb,hx,hz,q1,q2⟩:=h
 cases rx
 cases ry
 obtain ⟨its,r1,p1,_⟩:=I.tuple ha
 obtain ⟨its2,r2,p2,_⟩:=I.tuple hb
 refine HT.cat_tup p1 p2 (fun z=>hx (r1.nil_iff.mp z)) (fun z=>⟨.ref a,H,I,rfl,q1 (r2.nil_iff.mp z)⟩) (fun z=>?_) (by rw [← r1.length,← r2.length]; exact hz)
 refine ⟨.ref s.heap.objs.size,_,I.laid (t':=s.toks) (o:=.tup (xs++ys)) (fun b ob q=>Heap.get?_push_of_some _ q) (Nat.le_refl _) ?_,rfl,q2 (fun w=>z (r2.nil_iff.mpr w)) _ (I.hok.fresh (Nat.le_refl _))⟩
 exact ⟨⟨by rw [List.length_append]; exact hz,_,Heap.get?_push_size _ rfl,rfl⟩,_,r1.append r2,IsTup.new _ _⟩
end
end L2
namespace L2
open PySem PySem.Spec PyProof.Rows
noncomputable def ixN (n:Nat) (i:Int):Option Nat:=if 0<=i then (if i < n then some i.toNat else none) else if -(n:Int)<=i then some (i+n).toNat else none
noncomputable def atI {α:Type} (xs:List α) (i:Int):Option α:=(ixN xs.length i).bind fun j=>xs[j]?
theorem aW8 {n:Nat} {i:Int} {j:Nat} (h:ixN n i=some j):seqIndex? i n=some j/\j < n/\-(n:Int)<=i/\i < n:=by
 unfold ixN at h
 by_cases h0:0<=i
 ·rw [if_pos h0] at h
  by_cases h1:i < n
  ·rw [if_pos h1] at h
   have e:i.toNat=j:=Option.some.inj h
   exact ⟨by rw [seqIndex_of h0 h1,e],by omega,by omega,h1⟩
  ·rw [if_neg h1] at h; cases h
 ·rw [if_neg h0] at h
  by_cases h1:-(n:Int)<=i
  ·rw [if_pos h1] at h
   have e:(i+n).toNat=j:=Option.some.inj h
   exact ⟨by rw [seqIndex_neg (by omega) h1,e],by omega,h1,by omega⟩
  ·rw [if_neg h1] at h; cases h
theorem aMl {α:Type} {xs:List α} {i:Int} {v:α} (h:atI xs i=some v):∃ j,seqIndex? i xs.length=some j/\xs[j]?=some v/\j < xs.length/\-(xs.length:Int)<=i/\i < xs.length:=by
 unfold atI at h
 cases e:ixN xs.length i with
 | none=>rw [e] at h; cases h
 | some j =>
  rw [e] at h
  obtain ⟨h1,h2,h3,h4⟩:=aW8 e
  exact ⟨j,h1,h,h2,h3,h4⟩
theorem aF4 {α:Type} {xs:List α} {j:Nat} {v:α} (h:xs[j]?=some v):atI xs (j:Int)=some v:=by
 have hj:j < xs.length:=(List.getElem?_eq_some_iff.mp h).1
 have e:ixN xs.length (j:Int)=some j:=by
  unfold ixN
  rw [if_pos (by omega),if_pos (by omega)]; simp
 unfold atI; rw [e]; exact h
noncomputable def aXw (b:Expr):Prop:=∀ o i,subscripted b false o i=operate [o,i] (getItem o i)
noncomputable def IxR (X:Cx) (r:R2):Prop :=
 ∀ (value slice:Expr) (pins:List (Addr×Obj)) (s:Shared) (σ:St) (H:Hp) (x y:V) (v u:Value) (Q:VK),Inv X pins σ H s->aBr x v->aBr y u->r x y H Q ->
  subscripted slice false v u=operate [v,u] (getItem v u)->wpAny (model X.prog X.w) X.A (subscriptTail value slice v u) (EP X pins σ Q) X.xe s
noncomputable def MtR (X:Cx) (id:String) (r:V->List V->Hp->VK->Prop):Prop :=
 ∀ (pins:List (Addr×Obj)) (s:Shared) (σ:St) (H:Hp) (x:V) (xs:List V) (v:Value) (us:List Value) (Q:VK),Inv X pins σ H s->aBr x v->aBn xs us->r x xs H Q ->
  wpAny (model X.prog X.w) X.A (call (.builtin id) (v::us)) (EP X pins σ Q) X.xe s
section
variable {X:Cx} {a b:Expr} {ta tb:TE} {pos:Pos}
theorem IxR.or {r r':R2} (h:IxR X r) (h':IxR X r'):IxR X (fun x y H Q=>r x y H Q∨r' x y H Q):=by
 intro value slice pins s σ H x y v u Q I rx ry q hs
 rcases q with q | q
 ·exact h value slice pins s σ H x y v u Q I rx ry q hs
 ·exact h' value slice pins s σ H x y v u Q I rx ry q hs
theorem aAz {r:R2} (hr:IxR X r) (ha:PE X a ta) (hb:PE X b tb) (hs:aXw b):PE X (.Subscript a b pos) (tOp r ta tb):=by
 intro pins s σ H Q I h
 exact Subscript_ (binT ha hb I h fun v u s2 x y H2 I2 rx ry q=>hr a b pins s2 σ H2 x y v u Q I2 rx ry q (hs _ _))
noncomputable def rIxL (K:PySem.W.Frag):R2:=fun x y H Q=>∃ p xs i v,x=.ref p/\y=.int i/\SqL K H p xs/\atI xs i=some v/\Q v H
noncomputable def rIxT (K:PySem.W.Frag):R2:=fun x y H Q=>∃ p xs i v,x=.ref p/\y=.int i/\SqT K H p xs/\atI xs i=some v/\Q v H
noncomputable def rIxS:R2:=fun x y H Q=>∃ z i c,x=.str z/\y=.int i/\z.length<=sizeLine/\atI z.cps.toList i=some c/\Q (.str ⟨#[c]⟩) H
theorem aW7:IxR X (rIxL X.K):=by
 intro value slice pins s σ H x y v u Q I rx ry h hs
 obtain ⟨p,xs,i,z,rfl,rfl,hq,he,q⟩:=h
 cases rx
 obtain ⟨t,rfl⟩:=ry
 obtain ⟨its,r,pl,hz⟩:=I.list hq
 obtain ⟨j,h1,h2,h3,h4,h5⟩:=aMl he
 obtain ⟨w,ew,rw'⟩:=r.get h2
 have hl:=r.length
 have hn:=aKf
 have fin:EP X pins σ Q w s:=⟨z,H,I,rw',q⟩
 by_cases h0:0<=i
 ·have hj:i.toNat=j:=by
   rw [seqIndex_of h0 h5] at h1
   exact Option.some.inj h1
  exact item_listR pl.isList h0 (by omega) (by rw [hj]; simpa using ew) fin hs
 ·have hj:(i+(its.toArray.size:Int)).toNat=j:=by
   rw [seqIndex_neg (by omega) h4] at h1
   rw [List.size_toArray,← hl]
   exact Option.some.inj h1
  exact subscriptTail_builtinR (x:=w) pl.isList.typeIs slot_list_getitem.lookup
   (wpAny_getItem_list_neg (Q:=fun r s'=>r=w/\EP X pins σ Q r s') pl.isList (by omega) (by rw [List.size_toArray] <;> omega) (by omega) (by rw [hj]; simpa using ew) ⟨rfl,fin⟩) hs
theorem bBb:IxR X (rIxT X.K):=by
 intro value slice pins s σ H x y v u Q I rx ry h hs
 obtain ⟨p,xs,i,z,rfl,rfl,hq,he,q⟩:=h
 cases rx
 obtain ⟨t,rfl⟩:=ry
 obtain ⟨its,r,pl,hz⟩:=I.tuple hq
 obtain ⟨j,h1,h2,h3,h4,h5⟩:=aMl he
 obtain ⟨w,ew,rw'⟩:=r.get h2
 have hl:=r.length
 have hn:=aKf
 have fin:EP X pins σ Q w s:=⟨z,H,I,rw',q⟩
 exact subscriptTail_builtinR (x:=w) pl.typeIs slot_tuple_getitem.lookup
  (getItem_tuple (j:=j) (Q:=fun r s'=>r=w/\EP X pins σ Q r s') pl (by omega) (by omega) (by rw [List.size_toArray,← hl]; exact h1) (by simpa using ew) ⟨rfl,fin⟩) hs
theorem bBc:IxR X rIxS:=by
 intro value slice pins s σ H x y v u Q I rx ry h hs
 obtain ⟨z,i,c,rfl,rfl,hz,he,q⟩:=h
 obtain ⟨t,rfl⟩:=rx
 obtain ⟨t',rfl⟩:=ry
 obtain ⟨j,h1,h2,h3,h4,h5⟩:=aMl he
 have hl:z.cps.toList.length=z.length:=by simp [Str.length]
 rw [hl] at h1 h4 h5
 have hn:=aKf
 exact tail_any (typeIs_str s z t) slot_str_getitem.lookup (getItem_str (c:=c) (by
  have e1:decide (i < -(2 ^ 63:Int))=false:=decide_eq_false (by omega)
  have e2:decide (i ≥ 2 ^ 63)=false:=decide_eq_false (by omega)
  rw [e1,e2,Bool.or_false]) (by rw [h1]; simpa using h2) ⟨.str ⟨#[c]⟩,H,I.tok _,⟨_,rfl⟩,q⟩) hs
noncomputable def rIx (K:PySem.W.Frag):R2:=fun x y H Q=>rIxL K x y H Q∨rIxT K x y H Q∨rIxS x y H Q
theorem bBd:IxR X (rIx X.K):=aW7.or (bBb.or bBc)
noncomputable def aI6:V->Bool
 | .non=>true
 | .bl _=>true
 | .int _=>true
 | .str _=>true
 | _=>false
noncomputable def eqV:V->V->Bool
 | .non,.non=>true
 | .bl a,.bl b=>a==b
 | .bl a,.int b=>(if a then 1 else 0)==b
 | .int a,.bl b=>a==(if b then 1 else 0)
 | .int a,.int b=>a==b
 | .str a,.str b=>a==b
 | _,_=>false
theorem bBu {A:Around} {s:Shared} {y x:V} {u v:Value} (ry:aBr y u) (rx:aBr x v) (fy:aI6 y=true) (fx:aI6 x=true):SeqAt.EqAt A s u v (eqV y x):=by
 cases y with
 | non =>
  cases ry
  cases x with
  | non=>cases rx; exact SeqAt.EqAt.same _
  | bl b=>cases rx; exact SeqAt.EqAt.none_bool b
  | int b=>obtain ⟨t,rfl⟩:=rx; exact SeqAt.EqAt.none_int b t
  | str b=>obtain ⟨t,rfl⟩:=rx; exact SeqAt.EqAt.none_str b t
  | _=>exact absurd (show false=true from fx) Bool.false_ne_true
 | bl a =>
  cases ry
  cases x with
  | non=>cases rx; exact SeqAt.EqAt.bool_none a
  | bl b=>cases rx; exact SeqAt.EqAt.bool_bool a b
  | int b=>obtain ⟨t,rfl⟩:=rx; exact SeqAt.EqAt.bool_int a b t
  | str b=>obtain ⟨t,rfl⟩:=rx; exact SeqAt.EqAt.bool_str a b t
  | _=>exact absurd (show false=true from fx) Bool.false_ne_true
 | int a =>
  obtain ⟨t',rfl⟩:=ry
  cases x with
  | non=>cases rx; exact SeqAt.EqAt.int_none a t'
  | bl b=>cases rx; exact SeqAt.EqAt.int_bool a t' b
  | int b=>obtain ⟨t,rfl⟩:=rx; exact SeqAt.EqAt.int_int a t' b t
  | str b=>obtain ⟨t,rfl⟩:=rx; exact SeqAt.EqAt.int_str a t' b t
  | _=>exact absurd (show false=true from fx) Bool.false_ne_true
 | str a =>
  obtain ⟨t',rfl⟩:=ry
  cases x with
  | non=>cases rx; exact SeqAt.EqAt.str_none a t'
  | bl b=>cases rx; exact SeqAt.EqAt.str_bool a t' b
  | int b=>obtain ⟨t,rfl⟩:=rx; exact SeqAt.EqAt.str_int a t' b t
  | str b=>obtain ⟨t,rfl⟩:=rx; exact SeqAt.EqAt.str_str a t' b t
  | _=>exact absurd (show false=true from fx) Bool.false_ne_true
 | _=>exact absurd (show false=true from fy) Bool.false_ne_true
noncomputable def eqU (x:V) (u:Value):Bool:=match u with
 | .none=>eqV .non x
 | .bool b=>eqV (.bl b) x
 | .int i _=>eqV (.int i) x
 | .str z _=>eqV (.str z) x
 | _=>false
theorem aUu {x y:V} {u:Value} (r:aBr y u) (f:aI6 y=true):eqU x u=eqV y x:=by
 cases y with
 | non=>cases r; rfl
 | bl b=>cases r; rfl
 | int i=>obtain ⟨t,rfl⟩:=r; rfl
 | str z=>obtain ⟨t,rfl⟩:=r; rfl
 | _=>exact absurd (show false=true from f) Bool.false_ne_true
theorem aMm {x:V}:∀ {xs:List V} {us:List Value},aBn xs us->xs.all aI6=true->us.any (eqU x)=xs.any fun y=>eqV y x
 | _,_,.nil,_=>rfl
 | y::xs,u::us,.cons r t,f=>by
  rw [List.all_cons,Bool.and_eq_true] at f
  rw [List.any_cons,List.any_cons,aUu r f.1,aMm t f.2]
theorem aIv {A:Around} {s:Shared} {x:V} {v:Value} (rx:aBr x v) (fx:aI6 x=true):∀ {xs:List V} {us:List Value},aBn xs us->xs.all aI6=true->∀ u∈us,SeqAt.EqAt A s u v (eqU x u)
 | _,_,.nil,_=>fun u hu=>by cases hu
 | y::xs,u::us,.cons r t,f=>fun u' hu=>by
  rw [List.all_cons,Bool.and_eq_true] at f
  rcases List.mem_cons.mp hu with rfl | hu
  ·rw [aUu r f.1]; exact bBu r rx f.1 fx
  ·exact aIv rx fx t f.2 u' hu
noncomputable def inV (x:V) (xs:List V):Bool:=xs.any fun y=>eqV y x
noncomputable def rIn (K:PySem.W.Frag) (neg:Bool):R2:=fun x y H Q=>∃ p xs,y=.ref p/\(SqL K H p xs∨SqT K H p xs)/\aI6 x=true/\xs.all aI6=true/\Q (.bl (if neg then !inV x xs else inV x xs)) H
theorem aQb:OpR X (compareOp .In) (rIn X.K false):=by
 intro pins s σ H x y v u Q I rx ry h
 obtain ⟨p,xs,rfl,hq,fx,fs,q⟩:=h
 cases ry
 rcases hq with hq | hq
 ·obtain ⟨its,r,pl,hz⟩:=I.list hq
  refine SeqAt.in_listAt (eqU x) pl.isList (fun w hw=>aIv rx fx r fs w (by simpa using hw)) ⟨.bl _,H,I,rfl,?_⟩
  rw [show its.toArray.any (eqU x)=its.any (eqU x) by simp,aMm r fs]
  exact q
 ·obtain ⟨its,r,pl,hz⟩:=I.tuple hq
  refine SeqAt.in_tupleAt (eqU x) pl (fun w hw=>aIv rx fx r fs w (by simpa using hw)) ⟨.bl _,H,I,rfl,?_⟩
  rw [show its.toArray.any (eqU x)=its.any (eqU x) by simp,aMm r fs]
  exact q
theorem aKr:aEc X (.type "list") (fun xs H Q=>∃ p ys,xs=[.ref p]/\(SqL X.K H p ys∨SqT X.K H p ys)/\∀ l,H l=none->Q (.ref l) (upd H l (.lst ys))):=by
 intro pins s σ H xs us Q I r h
 obtain ⟨p,ys,rfl,hq,q⟩:=h
 obtain ⟨u,rfl,rx⟩:=aU8 r
 cases rx
 have fin:∀ (its:List Value),aBn ys its->ys.length<=sizeLine->∀ (h':Heap) (c':Nat),(∀ b o',s.heap.get? b=some o'->h'.get? b=some o') ->
   h'.get? s.heap.objs.size=some { cls:=.type "list",dict:=none,data:=.seq its.toArray c',slots:=#[] }->EP X pins σ Q (.ref s.heap.objs.size) { s with heap:=h' }:=fun its r' hz h' c' kp e =>
  ⟨.ref s.heap.objs.size,_,I.laid (t':=s.toks) kp (Nat.le_refl _) (show aB0 X.prog X.w _ h' _ (.lst ys) from ⟨hz,its,c',r',e⟩),rfl,q _ (I.hok.fresh (Nat.le_refl _))⟩
 rcases hq with hq | hq
 ·obtain ⟨its,r',pl,hz⟩:=I.list hq
  have hlen:=r'.length
  obtain ⟨o,ho,hc,n,hd⟩:=pl.isList
  exact call_list_seq p (.inl rfl) ho hc hd (fun h' c' kp e=>fin its r' hz h' c' kp e) (by simp only [List.size_toArray] <;> omega)
 ·obtain ⟨its,r',pl,hz⟩:=I.tuple hq
  have hlen:=r'.length
  obtain ⟨o,ho,hc,n,hd⟩:=pl
  exact call_list_seq p (.inr rfl) ho hc hd (fun h' c' kp e=>fin its r' hz h' c' kp e) (by simp only [List.size_toArray] <;> omega)
noncomputable def tyV (K:PySem.W.Frag) (T:String) (x:V) (H:Hp):Prop:=match x with
 | .str _=>T="str"
 | .int _=>T="int"
 | .ref p=>(T="list"/\∃ xs,SqL K H p xs)∨(T="tuple"/\∃ o,K.lookup p=some o/\o.cls=.type "tuple"/\o.dict=none) ∨
   (T="dict"/\((∃ kvs,H p=some (.dK kvs))∨∃ kvs,H p=some (.dT kvs)))∨(T="set"/\∃ S n,H p=some (.set S n))
 | _=>False
theorem aX8 {pins:List (Addr×Obj)} {σ:St} {H:Hp} {s:Shared} {T:String} {x:V} {v:Value} (I:Inv X pins σ H s) (r:aBr x v) (ty:tyV X.K T x H) :
  s.TypeIs v T/\∀ a,v=.ref a->∃ ob,s.heap.get? a=some ob/\ob.dict=none:=by
 cases x with
 | str z =>
  obtain ⟨t,rfl⟩:=r
  cases (show T="str" from ty)
  exact ⟨typeIs_str s z t,fun _ e=>nomatch e⟩
 | int i =>
  obtain ⟨t,rfl⟩:=r
  cases (show T="int" from ty)
  exact ⟨typeIs_int s i t,fun _ e=>nomatch e⟩
 | ref p =>
  cases r
  rcases ty with ⟨rfl,xs,hq⟩ | ⟨rfl,o,hk,hc,hd⟩ | ⟨rfl,hk⟩ | ⟨rfl,S,n,hk⟩
  ·obtain ⟨its,_,pl,_⟩:=I.list hq
   refine ⟨pl.isList.typeIs,fun a e=>?_⟩
   cases e
   obtain ⟨o,n,e,c,hd,_⟩:=pl
   exact ⟨o,e,hd⟩
  ·refine ⟨⟨o,I.kIn p o hk,hc⟩,fun a e=>?_⟩
   cases e
   exact ⟨o,I.kIn _ o hk,hd⟩
  ·have z:∃ o,s.heap.get? p=some o/\o.ExactDict:=by
    rcases hk with ⟨kvs,hk⟩ | ⟨kvs,hk⟩
    ·obtain ⟨_,_,_,_,o,_,_,e,ex,_⟩:=I.hok p _ hk
     exact ⟨o,e,ex⟩
    ·obtain ⟨_,_,_,_,o,_,_,e,ex,_⟩:=I.hok p _ hk
     exact ⟨o,e,ex⟩
   obtain ⟨o,e,ex⟩:=z
   refine ⟨⟨o,e,ex.1⟩,fun a e2=>?_⟩
   cases e2
   exact ⟨o,e,ex.2.1⟩
  ·obtain ⟨o,_,_,_,e,ex,_⟩:=I.hok p _ hk
   refine ⟨⟨o,e,ex.1⟩,fun a e2=>?_⟩
   cases e2
   exact ⟨o,e,ex.2.1⟩
 | _=>exact False.elim ty
noncomputable def tBM (K:PySem.W.Frag) (T:String) (r:V->List V->Hp->VK->Prop) (to:TE) (t:TA):TE:=fun σ H Q=>to σ H fun x H1=>tyV K T x H1/\t σ H1 fun xs H2=>r x xs H2 Q
variable {o e:Expr} {es:List Expr} {to:TE} {t:TA} {name:Str} {apos cpos:Pos} {T id:String} {r:V -> List V -> Hp -> VK -> Prop}
theorem aF9 (pa:PlainAttrs T) (slot:Slot T name id) (hty:typeOf (.builtin id)=pure (.type "method_descriptor")) (hm:MtR X id r) (ho:PE X o to) (ha:PA X (e::es) t)
  (hbase:attributeBase o name X.env (eval o X.env)=eval o X.env:=by rfl)
  (hfew:((backTo cpos (starEach (e::es) X.env)).all (fun x=>!x.1)&&(backToKw cpos (keywordEach [] X.env)).all (fun x=>x.1.isSome)
   && decide ((e::es).length+([]:List Keyword).length+(if ([]:List Keyword).isEmpty then 0 else 1) < 30))=true:=by rfl)
  (hline:(apos.endLine==cpos.line)=true:=by rfl) (hs:starEach (e::es) X.env=(false,eval e X.env)::starEach es X.env:=by rfl) (hplain:(backTo cpos (starEach es X.env)).any (·.1)=false:=by rfl) :
  PE X (.Call (.Attribute o name apos) (e::es) [] cpos) (tBM X.K T r to t):=by
 intro pins s σ H Q I h
 refine wpAny_Call_method_late hbase hfew hline rfl (thn (ho pins s σ H _ I h) fun v s1 ⟨x,H1,I1,r1,ty,q1⟩=>?_)
 obtain ⟨h1,h2⟩:=aX8 I1 r1 ty
 refine ⟨T,id,pa,slot,hty,h1,h2,?_⟩
 have hA:=ha cpos pins s1 σ H1 _ I1 q1
 rw [hs] at hA ⊢
 refine Calls.callWith_builtin (by show (false || (backTo cpos (starEach es X.env)).any (·.1))=false; rw [hplain] <;> rfl) (Calls.evalArgs_plain ?_)
 exact thn hA fun us s2 ⟨vs,H2,I2,r2,q2⟩=>hm pins s2 σ H2 x vs v us Q I2 r1 r2 q2
/- xs.append(e),list.index on a module's tuple .. are MtR facts of 06m -/
end
end L2
namespace L2
open PySem PySem.Spec PyProof.Rows
noncomputable def MtM (X:Cx) (id:String) (r:V->List V->Hp->VK->Prop):Prop :=
 ∀ (pins:List (Addr×Obj)) (s:Shared) (σ:St) (H:Hp) (x:V) (xs:List V) (v:Value) (us:List Value) (Q:VK),Inv X pins σ H s->aBr x v->aBn xs us->r x xs H Q ->
  wpAny (model X.prog X.w) X.A (call (.builtin id) (v::us)) (EP X pins σ Q) X.xe s
theorem aBn.one:∀ {x:V} {us:List Value},aBn [x] us->∃ u,us=[u]/\aBr x u
 :=fun h=>by cases h with | cons r h=>cases h; exact ⟨_,rfl,r⟩
theorem aBn.two:∀ {x y:V} {us:List Value},aBn [x,y] us->∃ u v,us=[u,v]/\aBr x u/\aBr y v
 :=fun h=>by cases h with | cons r h=>cases h with | cons q h=>cases h; exact ⟨_,_,rfl,r,q⟩
theorem aBn.reverse {xs:List V} {us:List Value} (h:aBn xs us):aBn xs.reverse us.reverse:=by
 induction h with
 | nil=>exact .nil
 | cons r t ih=>rw [List.reverse_cons,List.reverse_cons]; exact aBn.append ih (.cons r .nil)
section
variable {X:Cx} {pins:List (Addr×Obj)} {σ:St} {H:Hp} {s:Shared} {l b:Addr} {xs ys zs:List V}
theorem Inv.lset {its its':List Value} {n:Nat} {f:Array Value->Array Value} {t':Nat} (I:Inv X pins σ H s) (hH:H l=some (.lst xs))
  (e:s.heap.get? l=some { cls:=.type "list",data:=.seq its.toArray n }) (hf:f its.toArray=its'.toArray) (hv:aBn ys its') (hz:ys.length<=sizeLine) :
  Inv X pins σ (upd H l (.lst ys)) { s with heap:=s.heap.update l (Obj.mapSeq f),toks:=t' }:=by
 have q:=PySem.IsL.update e f
 rw [hf] at q
 refine I.write (x:=l) (e:=l) (by rw [hH]; exact trivial) (.inl rfl) (fun b' u hb hu=>(Heap.get?_update_other s.heap (Obj.mapSeq f) (Ne.symm hb)).trans hu) ⟨_,q⟩ ?_
 exact ⟨hz,its',_,hv,q⟩
theorem Inv.lnew {its:List Value} {t':Nat} (I:Inv X pins σ H s) (hv:aBn ys its) (hz:ys.length<=sizeLine) :
  Inv X pins σ (upd H s.heap.objs.size (.lst ys)) { s with heap:=s.heap.push { cls:=.type "list",data:=.seq its.toArray },toks:=t' } :=
 I.laid (fun _ _ q=>Heap.get?_push_of_some _ q) (Nat.le_refl _) ⟨hz,its,0,hv,Heap.get?_push_size _ rfl⟩
theorem Inv.fresh (I:Inv X pins σ H s):H s.heap.objs.size=none:=I.hok.fresh (Nat.le_refl _)
theorem Inv.lstM (I:Inv X pins σ H s) (hH:H l=some (.lst xs)):xs.length<=sizeLine/\∃ (its:List Value) (n:Nat),aBn xs its/\xs.length=its.length/\s.heap.get? l=some { cls:=.type "list",data:=.seq its.toArray n }:=by
 obtain ⟨z,its,n,r,e⟩:=I.hok l _ hH
 exact ⟨z,its,n,r,r.length,e⟩
end
section
variable {X:Cx}
noncomputable def aPs:V->List V->Hp->VK->Prop:=fun x vs H Q=>∃ l xs y,x=.ref l/\vs=[y]/\H l=some (.lst xs)/\xs.length < sizeLine/\Q .non (upd H l (.lst (xs++[y])))
theorem aBs:MtM X "list.append" aPs:=by
 intro pins s σ H x vs v us Q I rx rv h
 obtain ⟨l,xs,y,rfl,rfl,hH,hz,q⟩:=h
 cases rx
 obtain ⟨u,rfl,ru⟩:=rv.one
 obtain ⟨z,its,n,r,hl,e⟩:=I.lstM hH
 refine call_meets F.slot_list_append ⟨_,e,rfl⟩ F.entry_list_append (F.args_list_append_2 _ _) (PySem.list_append l its.toArray n u (by rw [List.size_toArray]; omega)) ⟨e,?_⟩
 refine ⟨.non,_,I.lset (its':=its++[u]) hH e (by simp) (r.append (.cons ru .nil)) ?_,rfl,q⟩
 rw [List.length_append,List.length_singleton]
 omega
noncomputable def rCat:R2:=fun x y H Q=>∃ l b xs zs,x=.ref l/\y=.ref b/\H l=some (.lst xs)/\H b=some (.lst zs)/\xs.length+zs.length<=sizeLine/\∀ p,H p=none->Q (.ref p) (upd H p (.lst (xs++zs)))
theorem bAu:OpR X (binaryOp .Add) rCat:=by
 intro pins s σ H x y v u Q I rx ry h
 obtain ⟨l,b,xs,zs,rfl,rfl,hH,hB,hz,q⟩:=h
 cases rx
 cases ry
 obtain ⟨z,its,n,r,hl,e⟩:=I.lstM hH
 obtain ⟨z2,its2,n2,r2,hl2,e2⟩:=I.lstM hB
 refine PySem.P.add_list e e2 ?_ (by rw [List.size_toArray,List.size_toArray]; omega)
 have ea:its.toArray++its2.toArray=(its++its2).toArray:=by simp
 rw [ea]
 exact ⟨.ref _,_,I.lnew (t':=s.toks) (r.append r2) (by rw [List.length_append]; omega),rfl,q _ I.fresh⟩
end
section
variable {prog:Program} {w:World} {A:Around} {E:Value -> Shared -> Prop} {s:Shared}
end
section
variable {X:Cx}
end
end L2
namespace Att
open PySem PySem.W PySem.Calls PyProof.Rows
theorem aHd {P:Params} {h:Heap}:∀ (ns:List Int) (vs:List Value),WellAll P h vs (ns.map WData.int)->IntsAre vs ns:=by
 intro ns
 induction ns with
 | nil =>
  intro vs w
  rw [List.map_nil] at w
  cases w
  exact .nil
 | cons n ns ih =>
  intro vs w
  rw [List.map_cons] at w
  cases w with
  | cons a b =>
   cases a
   exact .cons _ _ (ih _ b)
theorem aPg {l:OpenLaw} {n:Nat} (hn:l.most=some n) {P:Params} {h:Heap} {args:List WData} {vals:List Value}
  (hpre:l.row.toRowW.claim.pre args=true) (hwl:WellAll P h vals args) :
  ∃ a vs ns,vals=[Value.ref a]/\args=[WData.list (ns.map WData.int)]/\h.get? a=some { cls:=.type "list",data:=.seq vs.toArray }/\IntsAre vs ns/\ns.length<=n:=by
 have hsh:WShape.hasAll [] args [.list .int]=true:=(pre_splitW hpre).1
 have hc:l.pre.holds [] { args:=args }=true:=(pre_splitW hpre).2
 obtain ⟨d,r,rfl,h1,h2⟩:=hasAllW_cons hsh
 obtain rfl:=hasAllW_nil h2
 obtain ⟨xs,rfl,h3⟩:=hasW_list h1
 obtain ⟨ns,rfl⟩:=items_int h3
 have hlen:ns.length<=n:=by
  unfold OpenLaw.pre at hc
  have h4:(WTm.not (.lt (.lit (.int (n:Int))) (.len (.arg 0)))).holds [] { args:=[.list (ns.map .int)] }=true:=by
   have h4:=(holds_andW hc).1
   rw [hn] at h4
   exact h4
  have h5:=condW_of h4 (w_not (w_lt w_lit (w_len_list (w_arg rfl))))
  rw [List.length_map] at h5
  refine Nat.le_of_not_lt fun q=>?_
  have q':(n:Int) < ((ns.length:Nat):Int):=by omega
  first
   | (rw [decide_eq_true q'] at h5; exact absurd h5 (by decide))
   | (simp at h5; omega)
 cases hwl with
 | cons w1 w2 =>
  cases w2
  cases w1 with
  | list ho hall=>exact ⟨_,_,ns,rfl,rfl,ho,aHd ns _ hall,hlen⟩
theorem aPv (l:OpenLaw) (args:List WData):l.row.toRowW.claim.post args (.bool true) args=true :=
 postW_of (r:=l.row.toRowW) (X:=(true==true))
  (show WShape.has [] (.bool true) .bool=true by first | rfl | decide | simp [WShape.has,WShape.arms,WShape.armsAll])
  (show (WTm.eq .res (.lit (.bool true))).value [] { args:=args,res:=some (.bool true),after:=args }=some (.bool (true==true)) from w_eq_bool (w_res rfl) w_lit) rfl
theorem attach_call {l:OpenLaw} {n:Nat} {q:Program} {loose:List Str} {XP:(Str->Option Value)->Heap->Prop} {YP:World->Heap->Prop} {d:DefRec}
  (hn:l.most=some n) (hdf:d.params.defaults=[])
  (call:∀ (w:World) (s₀ s₁:Shared) (mg mb:Str->Option Value) (fa:Addr) (o:Obj) (pm cd doc:Value) (a:Addr) (vs:List Value) (ns:List Int),
   Ground q loose [] XP w s₀ mg mb s₁.heap->YP w s₁.heap ->
   s₁.heap.get? fa=some o->o.data=.func (docDef d.name d.params d.body d.scope pm cd doc)->s₁.heap.CodeRec cd d.name->mg d.name=some (.ref fa) ->
   s₁.heap.get? a=some { cls:=.type "list",data:=.seq vs.toArray }->IntsAre vs ns->ns.length<=n->s₁.gens=#[] ->
   codeAny (model l.prog w) callerA (.call (.ref fa) ⟨[.ref a],[]⟩) (fun r s'=>r=.ok (.ret (.bool true))/\OldK s₁.heap s'.heap/\s'.os=s₁.os/\AllBare s'.gens) s₁) :
  WalkO q loose XP YP l.row.toRowW d [] (fun f vs=>PySem.call f vs):=by
 intro w s₀ s₁ mg mb G Y fa o pm cd doc dV kV ho hd hcd hD hmg hg args vals as hpre hlay hrd hwl hlo
 obtain rfl:dV=.none:=Dflts.none hD hdf
 obtain rfl:kV=.none:=Dflts.noKw hD
 obtain ⟨a,vs,ns,rfl,rfl,hobj,hints,hlen⟩:=aPg hn hpre hwl
 refine enter_call (codeAny_mono (call w s₀ s₁ mg mb fa o pm cd doc a vs ns G Y ho (fd_plain hd) hcd hmg hobj hints hlen hg) fun r s' hq=>?_)
 obtain ⟨rfl,h2,h3,h4⟩:=hq
 exact ⟨.inl ⟨.bool true,.bool true,[],rfl,fun _=>rfl,.bool true,aPv l _,fun _=>⟨List.Pairwise.nil,fun _ hm=>(nomatch hm)⟩⟩,h2,h3,h4⟩
section
variable {prog:Program} {w:World} {A:Around} {E:Value -> Shared -> Prop} {s:Shared} {K:Frag}
end
end Att
namespace L2
open PySem PySem.Spec PyProof.Rows
theorem aGp:∀ {vs:List Value} {ns:List Int},IntsAre vs ns->aBn (ns.map V.int) vs
 | _,_,.nil=>.nil
 | _,_,.cons n t h=>.cons ⟨t,rfl⟩ (aGp h)
noncomputable def Only (H:Hp):Prop:=∀ b,H b=none∨∃ o xs,H b=some (.frz o (.lst xs))
theorem aTk {P:Program} {w:World} {K:PySem.W.Frag} {mg mb:Str->Option Value} {CX:CXT} {k:Nat} {fa a:Addr} {fd:FuncData} {x:Str} {sp:Sp} {s₁:Shared} {vs:List Value} {ns:List Int}
  (KX:K.In s₁.heap) (hns:s₁.heap.Ns mainGlobals mg) (hb:s₁.heap.Ns builtinsNs mb) (hbb:∀ x:Str,x≠"__name__"->mb x=bootBuiltins x) (hlim:s₁.heap.NoLimit) (hg:s₁.gens=#[])
  (ha:s₁.heap.get? a=some { cls:=.type "list",data:=.seq vs.toArray }) (hi:IntsAre vs ns) (hl:ns.length<=sizeLine) (hr:aFp k callerA)
  (F:∀ base:Heap,K.In base->base.Ns mainGlobals mg->aK2 P w K mg base CX k fa fd [x] sp) (hbind:∀ (s:Shared) (u:Value),BindsTo s fd ⟨[u],[]⟩ [(x,u)])
  (hsp:∀ H:Hp,Only H->SqL K H a (ns.map V.int)->sp [.ref a] H (fun v _=>v=.bl true) fun _ _ _=>False)
  (hCX:∀ H e s',CX [] H s₁ (fun _ _ _=>False) e s'->False) :
  codeAny (model P w) callerA (.call (.ref fa) ⟨[.ref a],[]⟩) (fun r s'=>r=.ok (.ret (.bool true))/\OldK s₁.heap s'.heap/\s'.os=s₁.os/\AllBare s'.gens) s₁:=by
 have rv:=aGp hi
 have lenV:=hi.length
 -- from an abstract heap in which nothing but the script may be tracked
 have core:∀ H:Hp,Only H->SqL K H a (ns.map V.int)->HOk P w H s₁.heap->(∀ b,H b≠none->b=a)->(H a≠none->K.lookup a=none) ->
   codeAny (model P w) callerA (.call (.ref fa) ⟨[.ref a],[]⟩) (fun r s'=>r=.ok (.ret (.bool true))/\OldK s₁.heap s'.heap/\s'.os=s₁.os/\AllBare s'.gens) s₁:=by
  intro H hO hS hok hA hK
  have base_of:∀ {b:Addr} {o:Obj},s₁.heap.get? b=some o->H b=none->(aTp s₁.heap H).get? b=some o:=fun e n=>aTo e n
  have noA:∀ {b:Addr} {o:Obj} {es:Array DictEntry} {ep:Nat},s₁.heap.get? b=some o->o.data=.dict es ep->H b=none:=fun {b o es ep} e d=>by
   cases q:H b with
   | none=>rfl
   | some u =>
    have e':b=a:=hA b (by rw [q]; simp)
    subst e'
    rw [ha] at e; cases e
    have d':Data.seq vs.toArray _=Data.dict es ep:=d
    cases d'
  have nsK:∀ {b:Addr} {m:Str->Option Value},s₁.heap.Ns b m->(aTp s₁.heap H).Ns b m:=fun {b m} ⟨o,es,ep,e,d,r⟩=>⟨o,es,ep,base_of e (noA e d),d,r⟩
  have hKb:K.In (aTp s₁.heap H):=fun b o e=>base_of (KX b o e) (by
   cases q:H b with
   | none=>rfl
   | some u =>
    have e':b=a:=hA b (by rw [q]; simp)
    subst e'
    rw [hK (by rw [q]; simp)] at e; cases e)
  have hM:Mod K mg (aTp s₁.heap H):=⟨hKb,nsK hns,⟨mb,nsK hb,hbb⟩,let ⟨mc,h1,h2⟩:=hlim; ⟨mc,nsK h1,h2⟩⟩
  have e0:Env0 P w K mg (aTp s₁.heap H) callerA [] s₁ H:=⟨rfl,hM,fun b o e=>aWv e,Nat.le_of_eq (aQ9 _ _),trivial,fun b hb=>absurd (show b∈([]:List Addr) from hb) (by simp),hok,.of_eq hg⟩
  refine codeAny_mono ((F _ hKb (nsK hns)).run callerA [] s₁ H ⟨[.ref a],[]⟩ [.ref a] [.ref a] _ _ hr e0 (hbind s₁ (.ref a)) (.cons rfl .nil) (hsp H hO hS)) fun r s' h=>?_
  cases r with
  | error e=>exact (hCX H e s' h).elim
  | ok fl =>
   cases fl with
   | next=>exact False.elim h
   | brk=>exact False.elim h
   | cont=>exact False.elim h
   | ret u =>
    obtain ⟨v,H',os,bare,un,hok',r',q⟩:=h
    have q':v=.bl true:=q
    subst q'
    obtain rfl:u=Value.bool true:=r'
    refine ⟨rfl,OldK.of_keep fun b o e=>?_,os,bare⟩
    cases q:H b with
    | none=>exact un.keep b o e q (by intro z; exact absurd (show b∈([]:List Addr) from z) (by simp)) (by simp)
    | some u =>
     rcases hO b with z | ⟨ob,xs,z⟩
     ·rw [q] at z; cases z
     ·have z2:=un.frzs b ob _ z
      obtain ⟨e1,_⟩:=hok b _ z
      obtain ⟨e2,_⟩:=hok' b _ z2
      rw [e] at e1; cases e1
      exact e2
 cases hk:K.lookup a with
 | some o =>
  -- the script is one of the module's own objects
  have e:=KX a o hk
  rw [ha] at e
  cases e
  refine core (fun _=>none) (fun _=>.inl rfl) (.inr ⟨_,vs.toArray,_,hk,rfl,rfl,rfl,by rw [List.size_toArray,lenV]; exact hl,by simpa using rv⟩) (fun b u z=>by have z':(none:Option HO)=some u:=z; cases z') (fun b z=>absurd rfl z) fun z=>absurd rfl z
 | none =>
  refine core (fun b=>if b=a then some (.frz { cls:=.type "list",data:=.seq vs.toArray } (.lst (ns.map V.int))) else none) (fun b=>?_) (.inl (.inr ⟨{ cls:=.type "list",data:=.seq vs.toArray },if_pos rfl⟩)) (fun b u z=>?_) (fun b z=>?_) fun _=>hk
  ·by_cases hb:b=a
   ·exact .inr ⟨_,_,if_pos hb⟩
   ·exact .inl (if_neg hb)
  ·by_cases hb:b=a
   ·have z':=(if_pos hb).symm.trans z
    cases z'
    subst hb
    exact ⟨ha,by rw [List.length_map]; exact hl,vs,_,rv,ha⟩
   ·have z':=(if_neg hb).symm.trans z
    cases z'
  ·by_cases hb:b=a
   ·exact hb
   ·exact absurd (if_neg hb) z
end L2
namespace L2
open PySem PySem.Spec PyProof.Rows
theorem walk_of {l:PySem.W.OpenLaw} {n k:Nat} {q:Program} {loose:List Str} {XP:(Str->Option Value)->Heap->Prop} {YP:World->Heap->Prop} {d:DefRec} {K:Params->PySem.W.Frag} {CX:World->CXT} {sp:World->Sp} {x:Str}
  (hn:l.most=some n) (hn2:n<=sizeLine) (hdf:d.params.defaults=[]) (hr:aFp k callerA)
  (hY:∀ (w:World) (h:Heap),YP w h->(K w.params).In h)
  (F:∀ (w:World) (mg:Str->Option Value) (fa:Addr) (h:Heap),(K w.params).In h->h.Ns mainGlobals mg->mg d.name=some (.ref fa) ->
   ∃ fd:FuncData,(∀ (s:Shared) (u:Value),BindsTo s fd ⟨[u],[]⟩ [(x,u)]) /\
    ∀ base:Heap,(K w.params).In base->base.Ns mainGlobals mg->aK2 l.prog w (K w.params) mg base (CX w) k fa fd [x] (sp w))
  (hsp:∀ (w:World) (H:Hp) (a:Addr) (ns:List Int),ns.length<=n->Only H->SqL (K w.params) H a (ns.map V.int)->sp w [.ref a] H (fun v _=>v=.bl true) fun _ _ _=>False)
  (hCX:∀ (w:World) (H:Hp) (s:Shared) (e:Value) (s':Shared),CX w [] H s (fun _ _ _=>False) e s'->False) :
  PySem.W.WalkO q loose XP YP l.row.toRowW d [] (fun f vs=>PySem.call f vs):=by
 refine Att.attach_call hn hdf fun w s₀ s₁ mg mb fa o pm cd doc a vs ns G Y ho hd hcd hmg hobj hints hlen hg=>?_
 have KX:=hY w _ Y
 obtain ⟨fd,hb,hF⟩:=F w mg fa _ KX G.T.g hmg
 exact aTk KX G.T.g G.T.b G.T.builtins G.T.nolimit hg hobj hints (Nat.le_trans hlen hn2) hr hF hb (fun H hO hS=>hsp w H a ns hlen hO hS) fun H e s'=>hCX w H s₁ e s'
end L2
/- THE LAST THEOREM (shape; LID,My.* are yours):
   My.Adr: a structure of the addresses that your layer names (classes,functions); My.Txt K t: a structure (Prop) of the equations over K;
   My.txt_mk:{K} {implicit addresses ..} (e1:nsIn K mainGlobals "law"=some (some (.ref f))) (e2:K.lookup f=some ⟨oc,od,.func (fnOf "law" "law" params body scope dV kV doc pm an cdv ct),sl⟩) (e3:codeIn K cdv "law"=true) ..:∃ t,My.Txt K t
(the tactic k_is has no namespace: write k_is) -/
namespace L2
open PySem PySem.Spec PyProof.Rows
noncomputable def aBc (s:Stmt):Arguments:=match s with
 | .FunctionDef _ a _ _ _ _ _ _ _ _=>a
 | _=>{ posonlyargs:=[],args:=[],vararg:=none,kwonlyargs:=[],kw_defaults:=[],kwarg:=none,defaults:=[] }
noncomputable def aA6 (s:Stmt):List Stmt:=match s with
 | .FunctionDef _ _ b _ _ _ _ _ _ _=>b
 | _=>[]
noncomputable def aAg (s:Stmt):Scope:=match s with
 | .FunctionDef _ _ _ _ _ _ sc _ _ _=>sc
 | _=>{ kind:=.function,names:=[],isGenerator:=false,isCoroutine:=false }
noncomputable abbrev CX0:CXT:=fun _ _ _ _ _ _=>False
noncomputable abbrev E0:XK:=fun _ _ _=>False
theorem aWm {X:Cx}:aKz CX0 X E0:=fun _ _ _ _ _ _ _ h=>h.elim
structure Fun (K:PySem.W.Frag) (x qual:Str) (st:Stmt) (f:Addr) (fd:FuncData):Prop where
 ex:∃ (oc:Value) (od:Option Addr) (kV doc pm:Value) (an:Option Addr) (cdv ct:Value) (osl:Array (Option Value)),
  fd=PySem.W.fnOf x qual (aBc st) (aA6 st) (aAg st) .none kV doc pm an cdv ct/\K.lookup f=some ⟨oc,od,.func fd,osl⟩/\PySem.W.codeIn K cdv qual=true
 kp:PySem.W.keepIn K (.ref f)=true
section
variable {P:Program} {w:World} {K:PySem.W.Frag} {mg:Str -> Option Value} {base:Heap}
theorem Fun.ok {x qual:Str} {st:Stmt} {f:Addr} {fd:FuncData} {N ps:List Str} {k:Nat} {sp:Sp} (F:Fun K x qual st f fd) (S:aAq N ps (aAg st)) (len:∀ vs H Q E,sp vs H Q E->vs.length=ps.length)
  (hbody:∀ (cdv:Value) (A:Around) (outer:List Env) (s:Shared) (H:Hp) (vs:List V) (Q:VK) (E:XK),aFp k (A.deeper (envOfC qual (aAg st) s.heap.objs.size f cdv))->sp vs H Q E ->
   ∃ t,PSs (aTy CX0 P w K mg base N qual (aAg st) f cdv A outer s H E).nox (aA6 st) t/\t { nx:=fun _ H'=>Q .non H',rt:=Q } (start N vs) H):aK2 P w K mg base CX0 (k+1) f fd ps sp:=by
 obtain ⟨oc,od,kV,doc,pm,an,cdv,ct,osl,rfl,lk,hcd⟩:=F.ex
 refine aTu lk hcd S len fun A outer s H vs Q E hr hsp=>?_
 obtain ⟨t,h,q⟩:=hbody cdv A outer s H vs Q E hr hsp
 exact ⟨t,h.nox,q⟩
theorem bBp {x qual:Str} {st:Stmt} {f:Addr} {oc:Value} {od an:Option Addr} {osl:Array (Option Value)} {kV doc pm cdv ct:Value} (l:K.lookup f=some ⟨oc,od,.func (PySem.W.fnOf x qual (aBc st) (aA6 st) (aAg st) .none kV doc pm an cdv ct),osl⟩)
  (c:PySem.W.codeIn K cdv qual=true) (k:PySem.W.keepIn K (.ref f)=true):Fun K x qual st f (PySem.W.fnOf x qual (aBc st) (aA6 st) (aAg st) .none kV doc pm an cdv ct):=⟨⟨oc,od,kV,doc,pm,an,cdv,ct,osl,rfl,l,c⟩,k⟩
end
theorem aCn {n:Nat} (h:n<=1000):n < sizeLine:=Nat.lt_of_le_of_lt h (by decide)
section
variable {X:Cx}
theorem pv (i:Nat) {x:Str} {pos:Pos} (hN:X.N[i]?=some x:=by rfl) (hv:Vis X.env.scope x:=by first | exact Or.inl rfl | exact Or.inr (Or.inl rfl) | exact Or.inr (Or.inr rfl)) (hd:(x==("__debug__":Str))=false:=by decide)
  (hcd:(x==("__classdict__":Str))=false:=by decide):PE X (.Name x pos) (tVar i):=bAm hN hv hd hcd
end
theorem iteF {A B:Prop} (h:B):if false=true then A else B:=by
 rw [if_neg Bool.false_ne_true]
 exact h
theorem iteT {A B:Prop} (h:A):if true=true then A else B:=by
 rw [if_pos rfl]
 exact h
noncomputable def aAo (H H':Hp):Prop:=∀ b o,H b=some o->H' b=some o
theorem aAo.refl (H:Hp):aAo H H:=fun _ _ h=>h
theorem aAo.trans {H H1 H2:Hp} (a:aAo H H1) (b:aAo H1 H2):aAo H H2:=fun c o h=>b c o (a c o h)
theorem aAo.free {H H':Hp} (e:aAo H H') {l:Addr} (h:H' l=Option.none):H l=Option.none:=by
 cases q:H l with
 | none=>rfl
 | some o =>
  rw [e l o q] at h
  cases h
theorem aAo.seq {K:PySem.W.Frag} {H H':Hp} {a:Addr} {xs:List V} (e:aAo H H') (h:SqL K H a xs):SqL K H' a xs:=by
 rcases h with (h | ⟨o,h⟩) | h
 ·exact .inl (.inl (e _ _ h))
 ·exact .inl (.inr ⟨o,e _ _ h⟩)
 ·exact .inr h
end L2
namespace L2
open PySem PySem.Spec PyProof.Rows
section
variable {κ:Type} [DecidableEq κ]
noncomputable def aBu (kvs:List (κ×V)) (k:κ):Option V:=(kvs.find? fun kv=>decide (kv.1=k)).map (·.2)
noncomputable def aDn (kvs:List (κ×V)) (k:κ) (v:V):List (κ×V) :=
 if (kvs.any fun kv=>decide (kv.1=k))=true then kvs.map (fun kv=>if kv.1=k then (kv.1,v) else kv) else kvs++[(k,v)]
noncomputable def aCi (kvs:List (κ×V)) (k:κ):List (κ×V):=kvs.filter fun kv=>decide (kv.1≠k)
theorem aC1 {p:κ×V} {r:List (κ×V)} {k:κ} (e:p.1=k):aBu (p::r) k=some p.2:=by simp [aBu,List.find?_cons,e]
theorem aCr {p:κ×V} {r:List (κ×V)} {k:κ} (e:¬ p.1=k):aBu (p::r) k=aBu r k:=by simp [aBu,List.find?_cons,e]
theorem aMp (k:κ):∀ kvs:List (κ×V),(kvs.any fun kv=>decide (kv.1=k))=(aBu kvs k).isSome
 | []=>rfl
 | p::r=>by
  rw [List.any_cons]
  by_cases e:p.1=k
  ·simp only [aC1 e,decide_eq_true e,Bool.true_or,Option.isSome_some]
  ·rw [aCr e,decide_eq_false e,Bool.false_or]; exact aMp k r
theorem aEz (kvs:List (κ×V)) (k:κ) (v:V):(aDn kvs k v).length<=kvs.length+1:=by
 unfold aDn
 split
 ·rw [List.length_map]; omega
 ·rw [List.length_append,List.length_cons,List.length_nil]; omega
theorem aNp.isSome_eq {o:Option V} {u:Option Value} (r:aNp o u):o.isSome=u.isSome:=by
 cases o with
 | none=>cases u with
  | none=>rfl
  | some _=>exact (show False from r).elim
 | some _=>cases u with
  | none=>exact (show False from r).elim
  | some _=>rfl
theorem aNp.getD {o:Option V} {u:Option Value} {d:V} {d':Value} (r:aNp o u) (rd:aBr d d'):aBr (o.getD d) (u.getD d'):=by
 cases o with
 | none=>cases u with
  | none=>exact rd
  | some _=>exact (show False from r).elim
 | some _=>cases u with
  | none=>exact (show False from r).elim
  | some _=>exact r
theorem KV.val {kvs:List (κ×V)} {vs:List (κ×Value)} (r:KV kvs vs) (k:κ):aNp (aBu kvs k) (valueAt vs k):=by
 unfold KV at r
 induction r with
 | nil=>exact True.intro
 | @cons p q ps qs h t ih =>
  obtain ⟨h1,h2⟩:=h
  by_cases e:p.1=k
  ·have e':q.1=k:=h1.symm.trans e
   have b:valueAt (q::qs) k=some q.2:=by simp [valueAt,List.find?_cons,e']
   rw [aC1 e,b]; exact h2
  ·have e':¬ q.1=k:=fun z=>e (h1.trans z)
   have b:valueAt (q::qs) k=valueAt qs k:=by simp [valueAt,List.find?_cons,e']
   rw [aCr e,b]; exact ih
theorem KV.any {kvs:List (κ×V)} {vs:List (κ×Value)} (r:KV kvs vs) (k:κ):(kvs.any fun kv=>decide (kv.1=k))=vs.any fun kv=>decide (kv.1=k):=by
 unfold KV at r
 induction r with
 | nil=>rfl
 | cons h t ih=>rw [List.any_cons,List.any_cons,ih,h.1]
theorem KV.repl {kvs:List (κ×V)} {vs:List (κ×Value)} (r:KV kvs vs) (k:κ) {y:V} {u:Value} (ry:aBr y u) :
  KV (kvs.map fun kv=>if kv.1=k then (kv.1,y) else kv) (vs.map fun kv=>if kv.1=k then (kv.1,u) else kv):=by
 unfold KV at r ⊢
 induction r with
 | nil=>exact .nil
 | @cons p q ps qs h t ih =>
  rw [List.map_cons,List.map_cons]
  refine .cons ?_ ih
  obtain ⟨h1,h2⟩:=h
  by_cases e:p.1=k
  ·rw [if_pos e,if_pos (h1.symm.trans e)]; exact ⟨h1,ry⟩
  ·rw [if_neg e,if_neg (fun z=>e (h1.trans z))]; exact ⟨h1,h2⟩
theorem KV.put {kvs:List (κ×V)} {vs:List (κ×Value)} (r:KV kvs vs) (k:κ) {y:V} {u:Value} (ry:aBr y u):KV (aDn kvs k y) (stored vs k u):=by
 unfold aDn stored
 rw [r.any k]
 by_cases e:(vs.any fun kv=>decide (kv.1=k))=true
 ·rw [if_pos e,if_pos e]; exact r.repl k ry
 ·rw [if_neg e,if_neg e]; exact Paired.snoc r ⟨rfl,ry⟩
theorem KV.drop {kvs:List (κ×V)} {vs:List (κ×Value)} (r:KV kvs vs) (k:κ):KV (aCi kvs k) (without vs k):=by
 unfold KV at r ⊢
 unfold aCi without
 induction r with
 | nil=>exact .nil
 | @cons p q ps qs h t ih =>
  obtain ⟨h1,h2⟩:=h
  rw [List.filter_cons,List.filter_cons]
  by_cases e:p.1=k
  ·have a:¬ decide (p.1≠k)=true:=by simp [e]
   have b:¬ decide (q.1≠k)=true:=by simp [h1.symm.trans e]
   rw [if_neg a,if_neg b]; exact ih
  ·have e':¬ q.1=k:=fun z=>e (h1.trans z)
   have a:decide (p.1≠k)=true:=by simp [e]
   have b:decide (q.1≠k)=true:=by simp [e']
   rw [if_pos a,if_pos b]; exact .cons ⟨h1,h2⟩ ih
theorem KV.keys {kvs:List (κ×V)} {vs:List (κ×Value)} (r:KV kvs vs):kvs.map (·.1)=vs.map (·.1):=by
 unfold KV at r
 induction r with
 | nil=>rfl
 | cons h t ih=>rw [List.map_cons,List.map_cons,ih,h.1]
theorem KV.length {kvs:List (κ×V)} {vs:List (κ×Value)} (r:KV kvs vs):kvs.length=vs.length:=Paired.length r
theorem aTw (kvs:List (κ×V)) (k:κ):(aCi kvs k).length<=kvs.length:=List.length_filter_le _ _
end
theorem aHc {P:Program} {w:World} {k:Key} {u:Value} (r:aBr (kV k) u):(aA9 P w).is k u=true:=by
 cases k with
 | inl i=>obtain ⟨t,e⟩:=(show ∃ t,u=Value.int i t from r); subst e; exact aL8 P w i t
 | inr x=>obtain ⟨t,e⟩:=(show ∃ t,u=Value.str x t from r); subst e; exact aL7 P w x t
theorem aKi {P:Program} {w:World}:∀ {ks:List Key} {us:List Value},aBn (ks.map kV) us->ItemsAre (aA9 P w) ks us
 | [],_,r=>by rw [List.map_nil] at r; cases r; exact .nil
 | k::ks,_,r=>by
  rw [List.map_cons] at r
  cases r with
  | cons h t=>exact .cons (aHc h) (aKi t)
noncomputable abbrev KT (H:Hp):List (List Key×V)->List (List Key×Addr×Value)->Prop:=Paired fun p q=>p.1=q.1/\H q.2.1=some (.tup (p.1.map kV))/\aBr p.2 q.2.2
theorem KT.val {H:Hp} {kvs:List (List Key×V)} {xs:List (List Key×Addr×Value)} (r:KT H kvs xs) (k:List Key):aNp (aBu kvs k) ((atKey xs k).map (·.2)):=by
 induction r with
 | nil=>exact True.intro
 | @cons p q ps qs h t ih =>
  obtain ⟨h1,_,h2⟩:=h
  by_cases e:p.1=k
  ·have e':q.1=k:=h1.symm.trans e
   have b:atKey (q::qs) k=some q.2:=by simp [atKey,List.find?_cons,e']
   rw [aC1 e,b]; exact h2
  ·have e':¬ q.1=k:=fun z=>e (h1.trans z)
   have b:atKey (q::qs) k=atKey qs k:=by simp [atKey,List.find?_cons,e']
   rw [aCr e,b]; exact ih
theorem KT.repl {H:Hp} {kvs:List (List Key×V)} {xs:List (List Key×Addr×Value)} (r:KT H kvs xs) (k:List Key) {y:V} {u:Value} (ry:aBr y u) :
  KT H (kvs.map fun kv=>if kv.1=k then (kv.1,y) else kv) (xs.map (putAt k u)):=by
 induction r with
 | nil=>exact .nil
 | @cons p q ps qs h t ih =>
  rw [List.map_cons,List.map_cons]
  refine .cons ?_ ih
  obtain ⟨h1,h2,h3⟩:=h
  unfold putAt
  by_cases e:p.1=k
  ·rw [if_pos e,if_pos (h1.symm.trans e)]; exact ⟨h1,h2,ry⟩
  ·rw [if_neg e,if_neg (fun z=>e (h1.trans z))]; exact ⟨h1,h2,h3⟩
theorem KT.put {H:Hp} {kvs:List (List Key×V)} {xs:List (List Key×Addr×Value)} (r:KT H kvs xs) (k:List Key) {b:Addr} {y:V} {u:Value} (hb:H b=some (.tup (k.map kV))) (ry:aBr y u) :
  KT H (aDn kvs k y) (storedH xs k b u):=by
 have e:(kvs.any fun kv=>decide (kv.1=k))=(atKey xs k).isSome:=by
  rw [aMp,(r.val k).isSome_eq,Option.isSome_map]
 unfold aDn storedH
 rw [e]
 by_cases q:(atKey xs k).isSome=true
 ·rw [if_pos q,if_pos q]; exact r.repl k ry
 ·rw [if_neg q,if_neg q]; exact Paired.snoc r ⟨rfl,hb,ry⟩
theorem KT.keeps {H H':Hp} {kvs:List (List Key×V)} {xs:List (List Key×Addr×Value)} (r:KT H kvs xs) (ht:∀ b ys,H b=some (.tup ys)->H' b=some (.tup ys)):KT H' kvs xs :=
 Paired.mapP r fun _ _ z=>⟨z.1,ht _ _ z.2.1,z.2.2⟩
section
variable {P:Program} {w:World} {H:Hp} {h:Heap} {a:Addr}
theorem aY1 {u:HO} (ok:HOk P w H h) (e:Rd H a u):aB0 P w H h a u:=e.ok ok
theorem aKn {kvs:List (Key×V)} (ok:HOk P w H h) (e:Rd H a (.dK kvs)):kvs.length<=sizeLine/\(a==sysModules)=false/\∃ vs,KV kvs vs/\h.DictOf (aA9 P w) a vs :=
 show aB0 P w H h a (.dK kvs) from aY1 ok e
theorem aRk {kvs:List (Key×V)} (ok:HOk P w H h) (e:H a=some (.dK kvs)):kvs.length<=sizeLine/\(a==sysModules)=false/\∃ vs,KV kvs vs/\h.DictOf (aA9 P w) a vs:=aKn ok (.inl e)
theorem aHb {ks:List Key} (ok:HOk P w H h) (e:H a=some (.tup (ks.map kV))):(tupleKind (aA9 P w)).is h ks a:=by
 obtain ⟨_,its,r,o,h1,h2,n,h3⟩:=(show aB0 P w H h a (.tup (ks.map kV)) from ok a _ e)
 exact ⟨o,its.toArray,n,h1,h2,h3,by simpa using aKi r⟩
theorem aKm {kvs:List (List Key×V)} (ok:HOk P w H h) (e:Rd H a (.dT kvs)):kvs.length<=sizeLine/\(a==sysModules)=false /\
  ∃ xs,KT H kvs xs/\h.DictOfH (tupleKind (aA9 P w)) a xs:=by
 obtain ⟨z,y,xs,r,o,es,ep,h1,h2,h3,h4,h5⟩:=(show aB0 P w H h a (.dT kvs) from aY1 ok e)
 refine ⟨z,y,xs,r,o,es,ep,h1,h2,h3,h4,fun x hx=>?_,h5⟩
 have all:∀ {l:List (List Key×V)} {m:List (List Key×Addr×Value)},KT H l m->∀ x∈m,(tupleKind (aA9 P w)).is h x.1 x.2.1:=by
  intro l m q
  induction q with
  | nil=>intro x hx; exact nomatch hx
  | @cons p q ps qs hq t ih =>
   intro x hx
   rcases List.mem_cons.mp hx with e | hx
   ·subst e
    exact aHb ok (by rw [← hq.1]; exact hq.2.1)
   ·exact ih x hx
 exact all r x hx
theorem dt_of {kvs:List (List Key×V)} (ok:HOk P w H h) (e:H a=some (.dT kvs)):kvs.length<=sizeLine/\(a==sysModules)=false /\
  ∃ xs,KT H kvs xs/\h.DictOfH (tupleKind (aA9 P w)) a xs:=aKm ok (.inl e)
end
noncomputable def aK3 (H:Hp) (a:Addr) (y:V) (r:Option V):Prop :=
 (∃ kvs k,Rd H a (.dK kvs)/\y=kV k/\r=aBu kvs k)∨∃ kvs k b,Rd H a (.dT kvs)/\y=.ref b/\H b=some (.tup (k.map kV))/\r=aBu kvs k
noncomputable def aX2 (H:Hp) (a:Addr) (y v:V) (H':Hp):Prop :=
 (∃ kvs k,H a=some (.dK kvs)/\y=kV k/\kvs.length < sizeLine/\H'=upd H a (.dK (aDn kvs k v))) ∨
 ∃ kvs k b,H a=some (.dT kvs)/\y=.ref b/\H b=some (.tup (k.map kV))/\kvs.length < sizeLine/\H'=upd H a (.dT (aDn kvs k v))
theorem aX2.k {H:Hp} {a:Addr} {kvs:List (Key×V)} {k:Key} {v:V} (e:H a=some (.dK kvs)) (hl:kvs.length < sizeLine):aX2 H a (kV k) v (upd H a (.dK (aDn kvs k v))):=.inl ⟨kvs,k,e,rfl,hl,rfl⟩
section
variable {X:Cx} {pins:List (Addr×Obj)} {σ:St} {H:Hp} {s:Shared} {a:Addr} {y v:V} {u r:Value} {o:Option V} {A:Around} {E:Value -> Shared -> Prop}
theorem Inv.big (I:Inv X pins σ H s):sysModules < s.heap.objs.size:=by
 have h:mainGlobals < s.heap.objs.size:=(I.mod.glob.keeps I.bk).lt
 exact Nat.lt_trans (by decide) h
theorem aRr {Q:Value->Shared->Prop} (hu:A.units+1 < cLine) (I:Inv X pins σ H s) (g:aK3 H a y (some v)) (ry:aBr y u) (h:∀ w' s',Inv X pins σ H s'->aBr v w'->Q w' s') :
  wpAny (model X.prog X.w) A (getItem (.ref a) u) Q E s:=by
 rcases g with ⟨kvs,k,e,ey,l⟩ | ⟨kvs,k,b,e,ey,eb,l⟩
 ·subst ey
  obtain ⟨z,hd,vs,rel,dd⟩:=aKn I.hok e
  obtain ⟨w',hw,rw'⟩:=aNp.some_of (v:=v) (o:=valueAt vs k) (by rw [l]; exact rel.val k)
  exact wpAny_getItem_of (aHc ry) dd.mapOf hw (h w' _ (I.tok _) rw')
 ·subst ey
  cases (show u=Value.ref b from ry)
  obtain ⟨z,hd,xs,rel,dd⟩:=aKm I.hok e
  obtain ⟨w',hw,rw'⟩:=aNp.some_of (v:=v) (o:=(atKey xs k).map (·.2)) (by rw [l]; exact rel.val k)
  obtain ⟨p,hp,hp2⟩:=Option.map_eq_some_iff.mp hw
  refine wpAny_getItem_heap (tupleKind_room_in1 hu) (aHb I.hok eb) dd hp ?_
  rw [hp2]
  exact h w' _ (I.tok _) rw'
theorem d_in {Q:Value->Shared->Prop} (hu:A.units+1 < cLine) (I:Inv X pins σ H s) (g:aK3 H a y o) (ry:aBr y u) (h:∀ s',Inv X pins σ H s'->Q (.bool o.isSome) s') :
  wpAny (model X.prog X.w) A (compareOp .In u (.ref a)) Q E s:=by
 rcases g with ⟨kvs,k,e,ey,l⟩ | ⟨kvs,k,b,e,ey,eb,l⟩
 ·subst ey
  obtain ⟨z,hd,vs,rel,dd⟩:=aKn I.hok e
  refine wpAny_in_of (aHc ry) hd dd.mapOf ?_
  rw [← (rel.val k).isSome_eq,← l]
  exact h _ (I.tok _)
 ·subst ey
  cases (show u=Value.ref b from ry)
  obtain ⟨z,hd,xs,rel,dd⟩:=aKm I.hok e
  refine wpAny_in_heap (tupleKind_room_in1 hu) (aHb I.hok eb) hd dd ?_
  have q:=(rel.val k).isSome_eq
  rw [Option.isSome_map] at q
  rw [← q,← l]
  exact h _ (I.tok _)
theorem aXo {Q:Value->Shared->Prop} (hu:A.units+1 < cLine) (I:Inv X pins σ H s) (g:aK3 H a y o) (ry:aBr y u) (h:∀ s',Inv X pins σ H s'->Q (.bool (!o.isSome)) s') :
  wpAny (model X.prog X.w) A (compareOp .NotIn u (.ref a)) Q E s:=by
 rcases g with ⟨kvs,k,e,ey,l⟩ | ⟨kvs,k,b,e,ey,eb,l⟩
 ·subst ey
  obtain ⟨z,hd,vs,rel,dd⟩:=aKn I.hok e
  refine wpAny_notIn_of (aHc ry) hd dd.mapOf ?_
  rw [← (rel.val k).isSome_eq,← l]
  exact h _ (I.tok _)
 ·subst ey
  cases (show u=Value.ref b from ry)
  obtain ⟨z,hd,xs,rel,dd⟩:=aKm I.hok e
  refine wpAny_notIn_heap (tupleKind_room_in1 hu) (aHb I.hok eb) hd dd ?_
  have q:=(rel.val k).isSome_eq
  rw [Option.isSome_map] at q
  rw [← q,← l]
  exact h _ (I.tok _)
theorem aHh {h':Heap} {t':Nat} {ob:HO} (I:Inv X pins σ H s) (mu:Mut (H a)) (hs:Heap.SameBut a s.heap h') (he:∃ q,h'.get? a=some q) (new:aB0 X.prog X.w (upd H a ob) h' a ob) :
  Inv X pins σ (upd H a ob) { s with heap:=h',toks:=t' } :=
 I.write (x:=a) (e:=a) mu (.inl rfl) (fun b q hb z=>(hs.2 b hb).trans z) he new
theorem aKo {P:Program} {w:World} {H':Hp} {h':Heap} {kvs:List (Key×V)} {vs:List (Key×Value)} (z:kvs.length<=sizeLine) (hd:(a==sysModules)=false) (rel:KV kvs vs) (dd:h'.DictOf (aA9 P w) a vs) :
  aB0 P w H' h' a (.dK kvs):=⟨z,hd,vs,rel,dd⟩
theorem aRq {H':Hp} {Q:Unit->Shared->Prop} (hu:A.units+1 < cLine) (I:Inv X pins σ H s) (g:aX2 H a y v H') (ry:aBr y u) (rv:aBr v r) (h:∀ s',Inv X pins σ H' s'->Q () s') :
  wpAny (model X.prog X.w) A (setItem (.ref a) u r) Q E s:=by
 rcases g with ⟨kvs,k,e,ey,l,eH⟩ | ⟨kvs,k,b,e,ey,eb,l,eH⟩
 ·subst ey eH
  obtain ⟨z,hd,vs,rel,dd⟩:=aRk I.hok e
  have hz:vs.length<=sizeLine:=by rw [← rel.length]; exact z
  have hl:(aDn kvs k v).length<=sizeLine:=by have:=aEz kvs k v; omega
  refine wpAny_setItem_pairs (hsz:=hz) (aHc ry) dd fun h' dd' hs=>h _ ?_
  have he:∃ q,h'.get? a=some q:=let ⟨q,_,_,hq,_⟩:=dd'; ⟨q,hq⟩
  exact aHh I (by rw [e]; exact True.intro) hs he (aKo hl hd (rel.put k rv) dd')
 ·subst ey eH
  cases (show u=Value.ref b from ry)
  obtain ⟨z,hd,xs,rel,dd⟩:=dt_of I.hok e
  have hz:xs.length<=sizeLine:=by rw [← Paired.length rel]; exact z
  have hl:(aDn kvs k v).length<=sizeLine:=by have:=aEz kvs k v; omega
  refine wpAny_setItem_heap (hsz:=hz) (tupleKind_room_in1 hu) (aHb I.hok eb) dd fun h' dd' hs=>h _ ?_
  obtain ⟨q,es,ep,hq,h2,h3,h4,_,h5⟩:=dd'
  refine aHh I (by rw [e]; exact True.intro) hs ⟨q,hq⟩ ⟨hl,hd,_,(rel.put k eb rv).keeps fun c ys ec=>?_,q,es,ep,hq,h2,h3,h4,h5⟩
  rw [aAu (aHu ec e (fun z=>nomatch z))]
  exact ec
end
section
variable {X:Cx} {pins:List (Addr×Obj)} {σ:St} {H:Hp} {s:Shared} {a:Addr} {kvs:List (Key×V)} {k:Key} {u:Value} {A:Around} {E:Value -> Shared -> Prop}
theorem d_pop {v:V} {more:List Value} {Q:Value->Shared->Prop} (I:Inv X pins σ H s) (e:H a=some (.dK kvs)) (ry:aBr (kV k) u) (l:aBu kvs k=some v) (hm:more=[]∨∃ x,more=[x])
  (h:∀ w' s',Inv X pins σ (upd H a (.dK (aCi kvs k))) s'->aBr v w'->Q w' s'):wpAny (model X.prog X.w) A (call (.builtin "dict.pop") (.ref a::u::more)) Q E s:=by
 obtain ⟨z,hd,vs,rel,dd⟩:=aRk I.hok e
 obtain ⟨w',hw,rw'⟩:=aNp.some_of (v:=v) (o:=valueAt vs k) (by rw [← l]; exact rel.val k)
 have hp:(keyPart u).isSome=true:=by
  cases k with
  | inl i=>obtain ⟨t,q⟩:=(show ∃ t,u=Value.int i t from ry); subst q; rfl
  | inr x=>obtain ⟨t,q⟩:=(show ∃ t,u=Value.str x t from ry); subst q; rfl
 have ha:argsOk "dict.pop" ⟨.ref a::u::more,[]⟩:=by
  rcases hm with q | ⟨x,q⟩
  ·subst q; exact PySem.F.args_dict_pop_2 _ _
  ·subst q; exact PySem.F.args_dict_pop_3 _ _ _
 refine call_meetsIn PySem.F.slot_dict_pop dd.typeIs PySem.F.entry_dict_pop ha (meets_dict_pop_there (aA9 X.prog X.w) a (aHc ry) more hm hp)
  ⟨vs,w',dd,by rw [← rel.length]; exact z,hw,fun h' dd' hs=>h w' _ ?_ rw'⟩
 have he:∃ q,h'.get? a=some q:=let ⟨q,_,_,hq,_⟩:=dd'; ⟨q,hq⟩
 exact aHh I (by rw [e]; exact True.intro) hs he (aKo (Nat.le_trans (aTw kvs k) z) hd (rel.drop k) dd')
end
noncomputable def NoSl (i:Expr):Prop:=∀ ov iv,subscripted i false ov iv=operate [ov,iv] (getItem ov iv)
theorem aVe {prog:Program} {w:World} {A:Around} {E:Value->Shared->Prop} {s:Shared} {env:Env} {value slice:Expr} {pos:Pos} {T id:String} {Q:Value->Shared->Prop}
  (hl:typeLookup (.type T) "__getitem__"=pure (some (.builtin id))) (hs:NoSl slice)
  (h:wpAny (model prog w) A (eval value env) (fun o s₁=>wpAny (model prog w) A (eval slice env) (fun i s₂=>s₂.TypeIs o T/\wpAny (model prog w) A (getItem o i) Q E s₂) E s₁) E s) :
  wpAny (model prog w) A (eval (.Subscript value slice pos) env) Q E s:=by
 refine Subscript_ (wpAny_mono h (fun o s₁ h₁=>wpAny_mono h₁ (fun i s₂ h₂=>?_) fun _ _ x=>x) fun _ _ x=>x)
 obtain ⟨hT,h₂⟩:=h₂
 unfold subscriptTail
 refine wpAny_bind ?_
 rw [getitemInPython_of_ne hT.not_modules]
 refine wpAny_bind (wpAny_specialOf hT hl ?_)
 have fin:wpAny (model prog w) A (subscripted slice false o i) (fun r s₃=>wpAny (model prog w) A (letTemporaryGo value o r >>= fun _=>pure r) Q E s₃) E s₂:=by
  rw [hs o i]
  exact wpAny_operating (wpAny_mono h₂ (fun r s₃ h₃=>wpAny_bind (wpAny_letTemporaryGo (wpAny_pure h₃))) fun _ _ x=>x)
 first
  | exact wpAny_pure (wpAny_bind fin)
  | exact wpAny_bind (wpAny_pure (wpAny_bind fin))
  | exact wpAny_bind fin
theorem aMg {X:Cx} {pins:List (Addr×Obj)} {σ:St} {H:Hp} {s:Shared} {a:Addr} {y:V} {o:Option V} (I:Inv X pins σ H s) (g:aK3 H a y o):s.TypeIs (.ref a) "dict":=by
 rcases g with ⟨kvs,k,e,_,_⟩ | ⟨kvs,k,b,e,_,_,_⟩
 ·obtain ⟨_,_,vs,_,dd⟩:=aKn I.hok e
  exact dd.typeIs
 ·obtain ⟨_,_,xs,_,dd⟩:=aKm I.hok e
  exact dd.typeIs
noncomputable def aYm (td ty:TE):TE:=fun σ H Q=>td σ H fun x H1=>ty σ H1 fun y H2=>∃ a v,x=.ref a/\aK3 H2 a y (some v)/\Q v H2
noncomputable def tDIn (ty td:TE):TE:=fun σ H Q=>ty σ H fun y H1=>td σ H1 fun x H2=>∃ a o,x=.ref a/\aK3 H2 a y o/\Q (.bl o.isSome) H2
noncomputable def aOy (ty td:TE):TE:=fun σ H Q=>ty σ H fun y H1=>td σ H1 fun x H2=>∃ a o,x=.ref a/\aK3 H2 a y o/\Q (.bl (!o.isSome)) H2
noncomputable def aYx (td ty tv:TE):TS:=fun D σ H=>tv σ H fun v H1=>td σ H1 fun x H2=>ty σ H2 fun y H3=>∃ a H4,x=.ref a/\aX2 H3 a y v H4/\D.nx σ H4
section
variable {X:Cx} {o i e value:Expr} {pos pos' tpos:Pos} {td ty tv:TE}
theorem aAp (hu:X.A.units+1 < cLine) (ho:PE X o td) (hi:PE X i ty) (hs:NoSl i):PE X (.Subscript o i pos) (aYm td ty):=by
 intro pins s σ H Q I h
 refine aVe PySem.F.slot_dict_getitem.lookup hs (thn (ho pins s σ H _ I h) fun u s1 ⟨x,H1,I1,rx,q1⟩=>thn (hi pins s1 σ H1 _ I1 q1) fun iv s2 ⟨y,H2,I2,ry,a,v,ex,g,q2⟩=>?_)
 subst ex
 obtain rfl:u=Value.ref a:=rx
 exact ⟨aMg I2 g,aRr hu I2 g ry fun w' s3 I3 rw'=>⟨v,H2,I3,rw',q2⟩⟩
theorem aG2 (hu:X.A.units+1 < cLine) (hi:PE X i ty) (ho:PE X o td):PC X .In i o (tDIn ty td):=by
 intro pins s σ H Q I h
 refine thn (hi pins s σ H _ I h) fun iv s1 ⟨y,H1,I1,ry,q1⟩=>thn (ho pins s1 σ H1 _ I1 q1) fun u s2 ⟨x,H2,I2,rx,a,ov,ex,g,q2⟩=>?_
 subst ex
 obtain rfl:u=Value.ref a:=rx
 exact d_in hu I2 g ry fun s3 I3=>⟨.bl ov.isSome,H2,I3,rfl,q2⟩
theorem aFd (hu:X.A.units+1 < cLine) (hi:PE X i ty) (ho:PE X o td):PC X .NotIn i o (aOy ty td):=by
 intro pins s σ H Q I h
 refine thn (hi pins s σ H _ I h) fun iv s1 ⟨y,H1,I1,ry,q1⟩=>thn (ho pins s1 σ H1 _ I1 q1) fun u s2 ⟨x,H2,I2,rx,a,ov,ex,g,q2⟩=>?_
 subst ex
 obtain rfl:u=Value.ref a:=rx
 exact aXo hu I2 g ry fun s3 I3=>⟨.bl (!ov.isSome),H2,I3,rfl,q2⟩
theorem aFx (hu:X.A.units+1 < cLine) (ho:PE X o td) (hi:PE X i ty) (hv:PE X value tv) (hs:swapsWith value (some (.Subscript o i pos')) pos.line X.env=pure false) :
  PS X (.Assign [.Subscript o i pos'] value pos) (aYx td ty tv):=by
 intro pins s σ H D I h
 refine wpAny_Assign_Subscript (thn (hv pins s σ H _ I h) fun r s1 ⟨v,H1,I1,rv,q1⟩=>thn (ho pins s1 σ H1 _ I1 q1) fun u s2 ⟨x,H2,I2,rx,q2⟩=>thn (hi pins s2 σ H2 _ I2 q2) fun iv s3 ⟨y,H3,I3,ry,a,H4,ex,g,q3⟩=>?_) hs
 subst ex
 obtain rfl:u=Value.ref a:=rx
 exact aRq hu I3 g ry rv fun s4 I4=>⟨σ,H4,I4,q3⟩
end
theorem aNf {P:Program} {w:World} {H:Hp} (h:Heap) (hb:sysModules < h.objs.size):aB0 P w H (h.push { cls:=.type "dict",data:=.dict #[] }) h.objs.size (.dK []) :=
 ⟨Nat.zero_le _,beq_eq_false_iff_ne.mpr (Ne.symm (Nat.ne_of_lt hb)),[],.nil,Heap.DictOf.new h⟩
noncomputable def aT9:TE:=fun _ H Q=>∀ p,H p=none->Q (.ref p) (upd H p (.dK []))
section
variable {X:Cx} {pos:Pos}
theorem aFc:PE X (.Dict [] [] pos) aT9:=fun pins s σ H Q I h =>
 wpAny_Dict_empty ⟨.ref s.heap.objs.size,_,I.laid (a:=s.heap.objs.size) (o:=.dK []) (t':=s.toks) (fun _ _ q=>Heap.get?_push_of_some _ q) (Nat.le_refl _) (aNf s.heap I.big),rfl,h _ (I.hok.fresh (Nat.le_refl _))⟩
end
noncomputable def aOw:List (TE×TE)->St->Hp->(List (V×V)->Hp->Prop)->Prop
 | [],_,H,Q=>Q [] H
 | (tk,tv)::r,σ,H,Q=>tk σ H fun x H1=>tv σ H1 fun y H2=>aOw r σ H2 fun ps H3=>Q ((x,y)::ps) H3
noncomputable abbrev VV:List (V×V)->List (Value×Value)->Prop:=Paired fun p q=>aBr p.1 q.1/\aBr p.2 q.2
noncomputable def PPs (X:Cx) (pos:Pos) (keys:List (Option Expr)) (values:List Expr) (trs:List (TE×TE)):Prop :=
 ∀ (pins:List (Addr×Obj)) (s:Shared) (σ:St) (H:Hp) (Q:List (V×V)->Hp->Prop),Inv X pins σ H s->aOw trs σ H Q ->
  wpAny (model X.prog X.w) X.A (evalPairs (pairTrees keys values X.env pos)) (fun vs s'=>∃ ps H',Inv X pins σ H' s'/\VV ps vs/\Q ps H') X.xe s
theorem aWf {X:Cx} {pos:Pos}:PPs X pos [] [] []:=fun pins s σ H Q I h=>pairTrees_nil_walk ⟨[],H,I,.nil,h⟩
theorem aFa {X:Cx} {pos:Pos} {k v:Expr} {ks:List (Option Expr)} {vs:List Expr} {tk tv:TE} {trs:List (TE×TE)} (hk:PE X k tk) (hv:PE X v tv) (hr:PPs X pos ks vs trs) :
  PPs X pos (some k::ks) (v::vs) ((tk,tv)::trs):=fun pins s σ H Q I h =>
 pairTrees_cons_walk (thn (hk pins s σ H _ I h) fun u s1 ⟨x,H1,I1,rx,q1⟩=>thn (hv pins s1 σ H1 _ I1 q1) fun w2 s2 ⟨y,H2,I2,ry,q2⟩ =>
  thn (hr pins s2 σ H2 _ I2 q2) fun ws s3 ⟨ps,H3,I3,rel,q3⟩=>⟨(x,y)::ps,H3,I3,.cons ⟨rx,ry⟩ rel,q3⟩)
noncomputable def aDb (kvs more:List (Key×V)):List (Key×V):=more.foldl (fun acc kv=>aDn acc kv.1 kv.2) kvs
theorem KV.merge:∀ {more:List (Key×V)} {rs:List (Key×Value)} {kvs:List (Key×V)} {vs:List (Key×Value)},KV more rs->KV kvs vs->KV (aDb kvs more) (merged vs rs):=by
 intro more rs kvs vs r
 unfold KV at r
 induction r generalizing kvs vs with
 | nil=>intro q; exact q
 | @cons p q ps qs h t ih =>
  intro r0
  have e:KV (aDn kvs p.1 p.2) (stored vs q.1 q.2):=by
   have:=r0.put p.1 h.2
   rw [← h.1]; exact this
  exact ih e
theorem aDj:∀ (more kvs:List (Key×V)),(aDb kvs more).length<=kvs.length+more.length
 | [],kvs=>by show kvs.length<=kvs.length+0; omega
 | p::r,kvs=>by
  have h1:=aDj r (aDn kvs p.1 p.2)
  have h2:=aEz kvs p.1 p.2
  show (aDb (aDn kvs p.1 p.2) r).length<=_
  rw [List.length_cons]; omega
theorem aIa {P:Program} {w:World}:∀ {kvs:List (Key×V)} {ws:List (Value×Value)},VV (kvs.map fun kv=>(kV kv.1,kv.2)) ws->∃ rs,Carries (aA9 P w) ws rs/\KV kvs rs
 | [],_,r=>by rw [List.map_nil] at r; cases r; exact ⟨[],True.intro,.nil⟩
 | p::kvs,_,r=>by
  rw [List.map_cons] at r
  cases r with
  | @cons a b as bs h t =>
   obtain ⟨rs,c,q⟩:=aIa (P:=P) (w:=w) t
   obtain ⟨b1,b2⟩:=b
   exact ⟨(p.1,b2)::rs,⟨aHc h.1,rfl,c⟩,.cons ⟨rfl,h.2⟩ q⟩
noncomputable def aYl (trs:List (TE×TE)):TE:=fun σ H Q=>∀ p,H p=none->aOw trs σ (upd H p (.dK [])) fun ps H2=>H2 p=some (.dK [])/\∃ kvs:List (Key×V),ps=kvs.map (fun kv=>(kV kv.1,kv.2))/\kvs.length<=15/\Q (.ref p) (upd H2 p (.dK (aDb [] kvs)))
theorem aWl {X:Cx} {pos:Pos} {keys:List (Option Expr)} {values:List Expr} {trs:List (TE×TE)} (h:PPs X pos keys values trs) (hall:keys.all (·.isSome)=true) (hl:keys.length=values.length) (h0:keys≠[])
  (h15:keys.length<=15):PE X (.Dict keys values pos) (aYl trs):=by
 intro pins s σ H Q I q
 have hn:=I.hok.fresh (Nat.le_refl s.heap.objs.size)
 have I1:=I.laid (a:=s.heap.objs.size) (o:=.dK []) (h':=s.heap.push { cls:=.type "dict",data:=.dict #[] }) (t':=s.toks) (fun _ _ q=>Heap.get?_push_of_some _ q) (Nat.le_refl _) (aNf s.heap I.big)
 refine wpAny_Dict_walk (knd:=aA9 X.prog X.w) hall hl h0 h15 (thn (h pins _ σ _ _ I1 (q _ hn)) fun ws s2 ⟨ps,H2,I2,rel,e,kvs,ep,lk,q2⟩=>?_)
 subst ep
 obtain ⟨rs,c,rk⟩:=aIa (P:=X.prog) (w:=X.w) rel
 obtain ⟨z,hd,vs0,r0,dd⟩:=aRk I2.hok e
 cases r0
 refine ⟨rs,c,dd,fun h' dd' hs=>⟨.ref s.heap.objs.size,_,?_,rfl,q2⟩⟩
 have hz:(aDb [] kvs).length<=sizeLine:=by
  have h1:=aDj kvs []
  rw [List.length_nil] at h1
  rw [sizeLine_eq]; omega
 have he:∃ q,h'.get? s.heap.objs.size=some q:=let ⟨q,_,_,hq,_⟩:=dd'; ⟨q,hq⟩
 exact aHh I2 (by rw [e]; exact True.intro) hs he (aKo hz hd (rk.merge .nil) dd')
structure M1 (X:Cx) (o:Expr) (m:Str) (apos:Pos) (e:Expr) (cpos:Pos):Prop where
 base:attributeBase o m X.env (eval o X.env)=eval o X.env
 few:((backTo cpos (starEach [e] X.env)).all (fun x=>!x.1)&&(backToKw cpos (keywordEach [] X.env)).all (fun x=>x.1.isSome)
  && decide (([e]:List Expr).length+([]:List Keyword).length+(if ([]:List Keyword).isEmpty then 0 else 1) < 30))=true
 line:(apos.endLine==cpos.line)=true
 trees:backTo cpos (starEach [e] X.env)=[(false,eval e X.env)]
structure M2 (X:Cx) (o:Expr) (m:Str) (apos:Pos) (e f:Expr) (cpos:Pos):Prop where
 base:attributeBase o m X.env (eval o X.env)=eval o X.env
 few:((backTo cpos (starEach [e,f] X.env)).all (fun x=>!x.1)&&(backToKw cpos (keywordEach [] X.env)).all (fun x=>x.1.isSome)
  && decide (([e,f]:List Expr).length+([]:List Keyword).length+(if ([]:List Keyword).isEmpty then 0 else 1) < 30))=true
 line:(apos.endLine==cpos.line)=true
 trees:backTo cpos (starEach [e,f] X.env)=[(false,eval e X.env),(false,eval f X.env)]
noncomputable def IsD (H:Hp) (a:Addr):Prop:=(∃ kvs,Rd H a (.dK kvs))∨∃ kvs,Rd H a (.dT kvs)
theorem aQ4 {X:Cx} {pins:List (Addr×Obj)} {σ:St} {H:Hp} {s:Shared} {a:Addr} (I:Inv X pins σ H s) (d:IsD H a) :
  s.TypeIs (.ref a) "dict"/\(∀ b,Value.ref a=.ref b->∃ ob,s.heap.get? b=some ob/\ob.dict=none)/\(a==sysModules)=false:=by
 rcases d with ⟨kvs,e⟩ | ⟨kvs,e⟩
 ·obtain ⟨_,hd,vs,_,dd⟩:=aKn I.hok e
  refine ⟨dd.typeIs,fun b q=>?_,hd⟩
  cases q
  obtain ⟨ob,_,_,h1,h2,_⟩:=dd
  exact ⟨ob,h1,h2.2.1⟩
 ·obtain ⟨_,hd,xs,_,dd⟩:=aKm I.hok e
  refine ⟨dd.typeIs,fun b q=>?_,hd⟩
  cases q
  obtain ⟨ob,_,_,h1,h2,_⟩:=dd
  exact ⟨ob,h1,h2.2.1⟩
section
variable {X:Cx} {pins:List (Addr×Obj)} {σ:St} {H:Hp} {s:Shared} {a:Addr} {y d:V} {u r:Value} {o:Option V} {A:Around} {E:Value -> Shared -> Prop}
theorem bB1 {Q:Value->Shared->Prop} (hu:A.units+1 < cLine) (I:Inv X pins σ H s) (g:aK3 H a y o) (ry:aBr y u) (h:∀ w' s',Inv X pins σ H s'->aBr (o.getD .non) w'->Q w' s') :
  wpAny (model X.prog X.w) A (call (.builtin "dict.get") [.ref a,u]) Q E s:=by
 rcases g with ⟨kvs,k,e,ey,l⟩ | ⟨kvs,k,b,e,ey,eb,l⟩
 ·subst ey
  obtain ⟨z,hd,vs,rel,dd⟩:=aKn I.hok e
  refine call_meetsIn PySem.F.slot_dict_get dd.typeIs PySem.F.entry_dict_get (PySem.F.args_dict_get_2 _ _) (meets_dict_get (aA9 X.prog X.w) a (aHc ry) hd) ⟨_,dd.mapOf,h _ _ (I.tok _) ?_⟩
  rw [l]
  exact (rel.val k).getD rfl
 ·subst ey
  cases (show u=Value.ref b from ry)
  obtain ⟨z,hd,xs,rel,dd⟩:=aKm I.hok e
  refine call_meetsIn PySem.F.slot_dict_get dd.typeIs PySem.F.entry_dict_get (PySem.F.args_dict_get_2 _ _) (meetsH_dict_get (tupleKind (aA9 X.prog X.w)) a b hd) ⟨tupleKind_room_in1 hu,k,xs,aHb I.hok eb,dd,h _ _ (I.tok _) ?_⟩
  rw [l]
  exact (rel.val k).getD rfl
theorem bB0 {Q:Value->Shared->Prop} (hu:A.units+1 < cLine) (I:Inv X pins σ H s) (g:aK3 H a y o) (ry:aBr y u) (rd:aBr d r) (h:∀ w' s',Inv X pins σ H s'->aBr (o.getD d) w'->Q w' s') :
  wpAny (model X.prog X.w) A (call (.builtin "dict.get") [.ref a,u,r]) Q E s:=by
 rcases g with ⟨kvs,k,e,ey,l⟩ | ⟨kvs,k,b,e,ey,eb,l⟩
 ·subst ey
  obtain ⟨z,hd,vs,rel,dd⟩:=aKn I.hok e
  refine call_meetsIn PySem.F.slot_dict_get dd.typeIs PySem.F.entry_dict_get (PySem.F.args_dict_get_3 _ _ _) (meets_dict_get_default (aA9 X.prog X.w) a (aHc ry) hd r) ⟨_,dd.mapOf,h _ _ (I.tok _) ?_⟩
  rw [l]
  exact (rel.val k).getD rd
 ·subst ey
  cases (show u=Value.ref b from ry)
  obtain ⟨z,hd,xs,rel,dd⟩:=aKm I.hok e
  refine call_meetsIn PySem.F.slot_dict_get dd.typeIs PySem.F.entry_dict_get (PySem.F.args_dict_get_3 _ _ _) (meetsH_dict_get_default (tupleKind (aA9 X.prog X.w)) a b hd r) ⟨tupleKind_room_in1 hu,k,xs,aHb I.hok eb,dd,h _ _ (I.tok _) ?_⟩
  rw [l]
  exact (rel.val k).getD rd
end
noncomputable def aUb (td ty:TE):TE:=fun σ H Q=>td σ H fun x H1=>∃ a,x=.ref a/\IsD H1 a/\ty σ H1 fun y H2=>∃ o,aK3 H2 a y o/\Q (o.getD .non) H2
noncomputable def aUa (td ty tx:TE):TE:=fun σ H Q=>td σ H fun x H1=>∃ a,x=.ref a/\IsD H1 a/\ty σ H1 fun y H2=>tx σ H2 fun z H3=>∃ o,aK3 H3 a y o/\Q (o.getD z) H3
noncomputable def aT8 (td ty:TE):TE:=fun σ H Q=>td σ H fun x H1=>∃ a,x=.ref a/\IsD H1 a/\ty σ H1 fun y H2=>∃ kvs k v,H2 a=some (.dK kvs)/\y=kV k/\aBu kvs k=some v/\Q v (upd H2 a (.dK (aCi kvs k)))
section
variable {X:Cx} {o e f:Expr} {apos cpos:Pos} {td ty tx:TE}
theorem aS4 (hu:X.A.units+1 < cLine) (ho:PE X o td) (he:PE X e ty) (m:M1 X o "get" apos e cpos):PE X (.Call (.Attribute o "get" apos) [e] [] cpos) (aUb td ty):=by
 intro pins s σ H Q I h
 refine wpAny_Call_method m.base m.few m.line PySem.F.plainAttrs_dict PySem.F.slot_dict_get PySem.F.type_dict_get (thn (ho pins s σ H _ I h) fun u s1 ⟨x,H1,I1,rx,a,ex,d,q1⟩=>?_)
 subst ex
 obtain rfl:u=Value.ref a:=rx
 obtain ⟨t1,t2,_⟩:=aQ4 I1 d
 refine ⟨t1,t2,?_⟩
 rw [m.trees]
 refine Calls.callWith_builtin rfl (Calls.evalArgs_plain (Calls.spliced_cons (thn (he pins s1 σ H1 _ I1 q1) fun iv s2 ⟨y,H2,I2,ry,ov,g,q2⟩=>Calls.spliced_nil ?_)))
 exact bB1 hu I2 g ry fun w' s3 I3 rw'=>⟨_,H2,I3,rw',q2⟩
theorem aEh (hu:X.A.units+1 < cLine) (ho:PE X o td) (he:PE X e ty) (hf:PE X f tx) (m:M2 X o "get" apos e f cpos):PE X (.Call (.Attribute o "get" apos) [e,f] [] cpos) (aUa td ty tx):=by
 intro pins s σ H Q I h
 refine wpAny_Call_method m.base m.few m.line PySem.F.plainAttrs_dict PySem.F.slot_dict_get PySem.F.type_dict_get (thn (ho pins s σ H _ I h) fun u s1 ⟨x,H1,I1,rx,a,ex,d,q1⟩=>?_)
 subst ex
 obtain rfl:u=Value.ref a:=rx
 obtain ⟨t1,t2,_⟩:=aQ4 I1 d
 refine ⟨t1,t2,?_⟩
 rw [m.trees]
 refine Calls.callWith_builtin rfl (Calls.evalArgs_plain (Calls.spliced_cons (thn (he pins s1 σ H1 _ I1 q1) fun iv s2 ⟨y,H2,I2,ry,q2⟩ =>
  Calls.spliced_cons (thn (hf pins s2 σ H2 _ I2 q2) fun fv s3 ⟨z,H3,I3,rz,ov,g,q3⟩=>Calls.spliced_nil ?_))))
 exact bB0 hu I3 g ry rz fun w' s4 I4 rw'=>⟨_,H3,I4,rw',q3⟩
theorem aS3 (ho:PE X o td) (he:PE X e ty) (m:M1 X o "pop" apos e cpos):PE X (.Call (.Attribute o "pop" apos) [e] [] cpos) (aT8 td ty):=by
 intro pins s σ H Q I h
 refine wpAny_Call_method m.base m.few m.line PySem.F.plainAttrs_dict PySem.F.slot_dict_pop PySem.F.type_dict_pop (thn (ho pins s σ H _ I h) fun u s1 ⟨x,H1,I1,rx,a,ex,d,q1⟩=>?_)
 subst ex
 obtain rfl:u=Value.ref a:=rx
 obtain ⟨t1,t2,_⟩:=aQ4 I1 d
 refine ⟨t1,t2,?_⟩
 rw [m.trees]
 refine Calls.callWith_builtin rfl (Calls.evalArgs_plain (Calls.spliced_cons (thn (he pins s1 σ H1 _ I1 q1) fun iv s2 ⟨y,H2,I2,ry,kvs,k,v,ea,ey,l,q2⟩=>Calls.spliced_nil ?_)))
 subst ey
 exact d_pop I2 ea ry l (.inl rfl) fun w' s3 I3 rw'=>⟨v,_,I3,rw',q2⟩
end
section
variable {X:Cx} {pins:List (Addr×Obj)} {σ:St} {H:Hp} {s:Shared} {a:Addr} {kvs:List (Key×V)} {A:Around} {E:Value -> Shared -> Prop}
end
section
variable {X:Cx} {pins:List (Addr×Obj)} {σ:St} {H:Hp} {s:Shared} {a:Addr} {y:V} {u:Value} {A:Around} {E:Value -> Shared -> Prop}
end
end L2
namespace L2
open PySem PySem.Spec PyProof.Rows
section
variable {κ:Type} [DecidableEq κ]
theorem aRh {p:κ×V} {r:List (κ×V)} {k:κ} (e:p.1=k):aCi (p::r) k=aCi r k:=by
 unfold aCi
 rw [List.filter_cons,if_neg (by simp [e])]
theorem aRi {p:κ×V} {r:List (κ×V)} {k:κ} (e:¬ p.1=k):aCi (p::r) k=p::aCi r k:=by
 unfold aCi
 rw [List.filter_cons,if_pos (by simp [e])]
end
end L2
namespace L2
open PySem PySem.Spec PyProof.Rows
noncomputable def Sm (n:Nat) (x:Int):Prop:=x.natAbs < 2 ^ n
theorem Sm.mono {m n:Nat} {x:Int} (h:Sm m x) (l:m<=n):Sm n x:=Nat.lt_of_lt_of_le h (Nat.pow_le_pow_right (by decide) l)
theorem Sm.bits {n:Nat} {x:Int} (h:Sm n x):Builtin.Int.intBits x<=n:=by
  unfold Builtin.Int.intBits
  split
  . exact Nat.zero_le _
  . have hn:x.natAbs < 2 ^ n:=h
    rename_i hx
    have h0 : x.natAbs ≠ 0 := fun e => hx (by have : x = 0 := by omega
                                              rw [this]; rfl)
    have:x.natAbs.log2 < n:=(Nat.log2_lt h0).mpr hn
    omega
theorem Sm.mulOk {a b:Int} {m n:Nat} (ha:Sm m a) (hb:Sm n b) (h:m+n<=134217728):IntMulOk a b:=PyProof.Rows.mulOk_of_bits ha.bits hb.bits h
theorem Sm.log2 {n:Nat} {x:Int} (h:Sm n x):x.natAbs.log2 < n+1:=by
 have hn:x.natAbs < 2 ^ n:=h
 by_cases h0:x.natAbs=0
 ·rw [h0,Nat.log2_zero]; omega
 ·have:=(Nat.log2_lt h0).mpr hn
  omega
theorem Sm.of {n:Nat} {x:Int} (h1:-(2 ^ n:Nat) < x) (h2:x < (2 ^ n:Nat)):Sm n x:=by
 unfold Sm
 generalize 2 ^ n=k at *
 omega
theorem Sm.mul {a b:Int} {m n:Nat} (ha:Sm m a) (hb:Sm n b):Sm (m+n) (a * b):=by
 unfold Sm at *
 rw [Int.natAbs_mul,Nat.pow_add]
 exact Nat.mul_lt_mul'' ha hb
theorem Sm.le {a b:Int} {n:Nat} (h:a.natAbs<=b.natAbs) (hb:Sm n b):Sm n a:=Nat.lt_of_le_of_lt h hb
section
variable {X:Cx}
noncomputable def aHm (_ j:Int):Prop:=j≠0/\Sm 8000 j
theorem aAx:OpR X (binaryOp .FloorDiv) (rI aHm fun i j=>.int (i.fdiv j)):=opI fun _ _ _ _ _ _ _ hc q=>floordiv_int hc.1 q (.inl (PyProof.noPylong_of_log2 (Nat.lt_trans hc.2.log2 (by decide))))
noncomputable def aC0 (i j:Int):Prop:=CMul i j∨(Sm 60000000 i/\Sm 60000000 j)
theorem aC0.ok {i j:Int} (h:aC0 i j):IntMulOk i j:=by
 rcases h with h | ⟨h1,h2⟩
 ·exact h.ok
 ·exact h1.mulOk h2 (by decide)
theorem aC0.l {i j:Int} (h1:-(2 ^ 64) < i) (h2:i < 2 ^ 64):aC0 i j:=.inl (.inl ⟨h1,h2⟩)
theorem aC0.r {i j:Int} (h1:-(2 ^ 64) < j) (h2:j < 2 ^ 64):aC0 i j:=.inl (.inr ⟨h1,h2⟩)
theorem aC0.s {i j:Int} {m n:Nat} (h1:Sm m i) (h2:Sm n j) (hm:m<=60000000) (hn:n<=60000000):aC0 i j:=.inr ⟨h1.mono hm,h2.mono hn⟩
theorem aA7:OpR X (binaryOp .Mult) (rI aC0 fun i j=>.int (i * j)):=opI fun _ _ _ _ _ _ _ hc q=>mul_int q hc.ok
noncomputable def bAd (K:PySem.W.Frag) (T:String):List V->Hp->VK->Prop:=fun xs H Q=>∃ x t b,xs=[x,.ty T]/\aK5 K H x t/\PySem.W.kitOne K t (.type T)=some b/\Q (.bl b) H
theorem aB4 {T:String}:aEc X (.builtin "isinstance") (bAd X.K T):=by
 intro pins s σ H xs us Q I r h
 obtain ⟨x,t,b,rfl,ty,e,q⟩:=h
 obtain ⟨u,v,rfl,ru,rv⟩:=aBn.two r
 obtain rfl:v=Value.type T:=rv
 exact aQ3 I ru ty e fun tk=>⟨.bl b,H,I.tok tk,rfl,q⟩
end
section
variable {σ:St} {H H':Hp} {Q:VK} {D:aE4} {t u:TS} {te ta tb:TE} {v w x:V} {i j:Int} {b c:Bool} {X:Cx} {K:PySem.W.Frag}
theorem r_var {n:Nat} (h:σ[n]?=some (some v)) (k:Q v H):tVar n σ H Q:=⟨v,h,k⟩
theorem r_c (k:Q v H):tC v σ H Q:=k
theorem aNz (k:t ⟨u D,D.rt,D.bk,D.ct⟩ σ H):tSeq t u D σ H:=k
theorem r_nx {n r b' c'} (k:n σ H):aE4.nx ⟨n,r,b',c'⟩ σ H:=k
theorem r_rt {n r b' c'} (k:r v H):aE4.rt ⟨n,r,b',c'⟩ v H:=k
theorem r_ct {n r b' c'} (k:c' σ H):aE4.ct ⟨n,r,b',c'⟩ σ H:=k
theorem aZf (k:D.nx σ H):aYg D σ H:=k
theorem aZ3 (k:D.ct σ H):aYn D σ H:=k
theorem r_asg {g:TG} (k:te σ H fun x H1=>g x σ H1 D.nx):tAsg te g D σ H:=k
theorem aVz {n:Nat} {R:St->Hp->Prop} (k:R (σ.set n (some v)) H):aF0 n v σ H R:=k
theorem r_op {r:R2} (k:ta σ H fun x H1=>tb σ H1 fun y H2=>r x y H2 Q):tOp r ta tb σ H Q:=k
theorem r_un {r} (k:ta σ H fun x H1=>r x H1 Q):tUn r ta σ H Q:=k
theorem r_I0 {g} (k:Q (g i j) H):rI0 g (.int i) (.int j) H Q:=⟨i,j,rfl,rfl,k⟩
theorem r_I {C g} (c:C i j) (k:Q (g i j) H):rI C g (.int i) (.int j) H Q:=⟨i,j,rfl,rfl,c,k⟩
theorem r_U {g} (k:Q (g i) H):rU g (.int i) H Q:=⟨i,rfl,k⟩
noncomputable def bK (R:Bool->Hp->Prop):VK:=fun x H=>∃ k,x=.bl k/\R k H
theorem r_bK {R:Bool->Hp->Prop} (k:R b H):bK R (.bl b) H:=⟨b,rfl,k⟩
theorem aY2 {R:Bool->Hp->Prop} (k:te σ H (bK R)):aYd te σ H R:=k
theorem r_tB {R:Bool->Hp->Prop} (k:te σ H (bK R)):tB te σ H R:=k
theorem r_ifS {tc:TT} (k:tc σ H fun b H1=>if b=true then t D σ H1 else u D σ H1):tIfS tc t u D σ H:=k
theorem r_if {tc:TT} (k:tc σ H fun b H1=>if b=true then ta σ H1 Q else tb σ H1 Q):tIf tc ta tb σ H Q:=k
theorem r_and {ca cb:TT} {R:Bool->Hp->Prop} (k:ca σ H fun c H1=>if c=true then cb σ H1 R else R false H1):tAnd ca cb σ H R:=k
theorem r_or {ca cb:TT} {R:Bool->Hp->Prop} (k:ca σ H fun c H1=>if c=true then R true H1 else cb σ H1 R):tOr ca cb σ H R:=k
theorem r_not {ca:TT} {R:Bool->Hp->Prop} (k:ca σ H fun c H1=>R (!c) H1):tNot ca σ H R:=k
noncomputable def andK (tb:TE) (σ:St) (Q:VK):VK:=fun x H1=>∃ c,x=.bl c/\if c=true then tb σ H1 Q else Q (.bl false) H1
noncomputable def orK (tb:TE) (σ:St) (Q:VK):VK:=fun x H1=>∃ c,x=.bl c/\if c=true then Q (.bl true) H1 else tb σ H1 Q
noncomputable def notK (Q:VK):VK:=fun x H1=>∃ c,x=.bl c/\Q (.bl (!c)) H1
theorem aZ8 (k:ta σ H (andK tb σ Q)):aYo ta tb σ H Q:=k
theorem r_orV (k:ta σ H (orK tb σ Q)):tOrV ta tb σ H Q:=k
theorem aZa (k:ta σ H (notK Q)):aYf ta σ H Q:=k
theorem aZ9 (k:if c=true then tb σ H Q else Q (.bl false) H):andK tb σ Q (.bl c) H:=⟨c,rfl,k⟩
theorem r_orK (k:if c=true then Q (.bl true) H else tb σ H Q):orK tb σ Q (.bl c) H:=⟨c,rfl,k⟩
theorem aZb (k:Q (.bl (!c)) H):notK Q (.bl c) H:=⟨c,rfl,k⟩
theorem r_ret (k:te σ H D.rt):tRet te D σ H:=k
theorem aZw (k:te σ H fun _ H1=>D.nx σ H1):aYk te D σ H:=k
theorem aZe {R:List V->Hp->Prop} (k:R [] H):aSh σ H R:=k
theorem aZ4 {tr:TA} {R:List V->Hp->Prop} (k:ta σ H fun x H1=>tr σ H1 fun xs H2=>R (x::xs) H2):aSi ta tr σ H R:=k
noncomputable def tupK (Q:VK):List V->Hp->Prop:=fun xs H1=>xs.length<=sizeLine/\∀ p,H1 p=none->Q (.ref p) (upd H1 p (.tup xs))
noncomputable def lstK (Q:VK):List V->Hp->Prop:=fun xs H1=>xs.length<=sizeLine/\∀ p,H1 p=none->Q (.ref p) (upd H1 p (.lst xs))
theorem aI1 {n:Nat} (h:n<=1000):n<=sizeLine:=Nat.le_of_lt (aCn h)
theorem r_tup {tr:TA} (k:tr σ H (tupK Q)):tTup tr σ H Q:=k
theorem aZh {tr:TA} (k:tr σ H (lstK Q)):aXx tr σ H Q:=k
theorem aAv {xs:List V} (k:∀ p,H p=none->Q (.ref p) (upd H p (.tup xs))) (h:xs.length<=1000:=by exact Nat.le_of_ble_eq_true rfl):tupK Q xs H:=⟨aI1 h,k⟩
theorem aB7 {xs:List V} (k:∀ p,H p=none->Q (.ref p) (upd H p (.lst xs))) (h:xs.length<=1000:=by exact Nat.le_of_ble_eq_true rfl):lstK Q xs H:=⟨aI1 h,k⟩
theorem aZ6 {sp:Sp} {E:XK} {tr:TA} (k:tr σ H fun vs H1=>sp vs H1 Q E):aOz sp [] E tr σ H Q:=by
 show tr σ H fun vs H1=>sp (vs++[]) H1 Q E
 have e:(fun (vs:List V) H1=>sp (vs++[]) H1 Q E)=fun vs H1=>sp vs H1 Q E:=by
  funext vs H1
  rw [List.append_nil]
 rw [e]; exact k
theorem r_CB {r} {tr:TA} (k:tr σ H fun vs H1=>r vs H1 Q):tCB r tr σ H Q:=k
theorem r_par {n m:Nat} {ta:TA} (k:ta σ H fun vs H1=>∃ v w,vs=[v,w]/\D.nx ((σ.set n (some v)).set m (some w)) H1):tPar n m ta D σ H:=k
theorem r_eqI (k:Q (.bl (decide (i=j))) H):rEq (.int i) (.int j) H Q:=⟨rfl,by rw [aJc,Bool.beq_eq_decide_eq]; exact k⟩
theorem r_neI (k:Q (.bl (!decide (i=j))) H):rNe (.int i) (.int j) H Q:=⟨rfl,by rw [aJc,Bool.beq_eq_decide_eq]; exact k⟩
theorem r_neB (k:Q (.bl (!(b==c))) H):rNe (.bl b) (.bl c) H Q:=⟨rfl,by rw [aRp]; exact k⟩
theorem aZk {p:Addr} {xs:List V} (h:SqL K H p xs) (e:atI xs i=some v) (k:Q v H):rIxL K (.ref p) (.int i) H Q:=⟨p,xs,i,v,rfl,rfl,h,e,k⟩
theorem r_ixT {p:Addr} {xs:List V} (h:SqT K H p xs) (e:atI xs i=some v) (k:Q v H):rIxT K (.ref p) (.int i) H Q:=⟨p,xs,i,v,rfl,rfl,h,e,k⟩
noncomputable def aN1 (K:PySem.W.Frag):R2:=fun x y H Q=>rIxL K x y H Q∨rIxT K x y H Q∨rIxS x y H Q
theorem aA0:IxR X (aN1 X.K):=bBd
theorem aDx {p:Addr} {xs:List V} (h:H p=some (.lst xs)) (e:atI xs i=some v) (k:Q v H):aN1 K (.ref p) (.int i) H Q:=.inl (aZk (SqL.of h) e k)
theorem r_ixt {p:Addr} {xs:List V} (h:H p=some (.tup xs)) (e:atI xs i=some v) (k:Q v H):aN1 K (.ref p) (.int i) H Q:=.inr (.inl (r_ixT (SqT.of h) e k))
theorem i_T {A B:Prop} (h:A):if true=true then A else B:=iteT h
theorem i_F {A B:Prop} (h:B):if false=true then A else B:=iteF h
theorem i_dT {p A B:Prop} [Decidable p] (hp:p) (h:A):if decide p=true then A else B:=by rw [decide_eq_true hp]; exact iteT h
theorem i_dF {p A B:Prop} [Decidable p] (hp:¬ p) (h:B):if decide p=true then A else B:=by rw [decide_eq_false hp]; exact iteF h
theorem i_d {p A B:Prop} [Decidable p] (h1:p->A) (h2:¬ p->B):if decide p=true then A else B:=by
 by_cases h:p
 ·exact i_dT h (h1 h)
 ·exact i_dF h (h2 h)
theorem bBf {A B:Prop} (h:if b=true then B else A):if (!b)=true then A else B:=by cases b <;> exact h
theorem aUt {A B:Prop} (hb:b=true) (h:A):if b=true then A else B:=by rw [hb]; exact i_T h
theorem aXb {A B:Prop} (hb:b=false) (h:B):if b=true then A else B:=by rw [hb]; exact i_F h
end
noncomputable def Kp (p:Addr) (H H':Hp):Prop:=∀ b o,b≠p->H b=some o->H' b=some o
theorem Kp.refl (p:Addr) (H:Hp):Kp p H H:=fun _ _ _ h=>h
theorem Kp.trans {p:Addr} {H H1 H2:Hp} (a:Kp p H H1) (b:Kp p H1 H2):Kp p H H2:=fun c o n h=>b c o n (a c o n h)
theorem Kp.upd {p:Addr} {H:Hp} {o:HO}:Kp p H (upd H p o):=fun c u n h=>by rw [aAu n]; exact h
theorem Kp.new {p q:Addr} {H:Hp} {o:HO} (hq:H q=none):Kp p H (L2.upd H q o):=fun c u n h=>by rw [aAu (aAe h hq)]; exact h
theorem aAo.new {q:Addr} {H:Hp} {o:HO} (hq:H q=none):aAo H (upd H q o):=fun c u h=>by rw [aAu (aAe h hq)]; exact h
theorem aAo.kp {p:Addr} {H H':Hp} (s:aAo H H'):Kp p H H':=fun c o _ h=>s c o h
noncomputable def St3 (H:Hp) (p:Addr) (n:Int):Prop:=∃ a b c:Int,H p=some (.lst [.int a,.int b,.int c])/\0<=a/\0<=b/\b<=n
structure Df (K:PySem.W.Frag) (mg:Str->Option Value) (x:Str) (st:Stmt) (ps:List Str):Prop where
 ex:∃ (f:Addr) (fd:FuncData),(∃ (oc:Value) (od:Option Addr) (dV kV doc pm:Value) (an:Option Addr) (cdv ct:Value) (osl:Array (Option Value)),
  fd=PySem.W.fnOf x x (aBc st) (aA6 st) (aAg st) dV kV doc pm an cdv ct/\K.lookup f=some ⟨oc,od,.func fd,osl⟩/\PySem.W.codeIn K cdv x=true)/\PySem.W.keepIn K (.ref f)=true/\mg x=some (.ref f)/\aFo K fd ps []
structure Okf (P:Program) (w:World) (K:PySem.W.Frag) (mg:Str->Option Value) (base:Heap) (k:Nat) (x:Str) (ps:List Str) (sp:Sp):Prop where
 ex:∃ (f:Addr) (fd:FuncData),mg x=some (.ref f)/\PySem.W.keepIn K (.ref f)=true/\aFo K fd ps []/\aK2 P w K mg base CX0 k f fd ps sp
theorem Okf.mono {P:Program} {w:World} {K:PySem.W.Frag} {mg:Str->Option Value} {base:Heap} {j k:Nat} {x:Str} {ps:List Str} {sp:Sp} (o:Okf P w K mg base j x ps sp) (h:j<=k):Okf P w K mg base k x ps sp :=
 let ⟨f,fd,a,b,c,d⟩:=o.ex; ⟨f,fd,a,b,c,d.mono h⟩
theorem Okf.of {P:Program} {w:World} {K:PySem.W.Frag} {mg:Str->Option Value} {base:Heap} {k:Nat} {x:Str} {st:Stmt} {N ps:List Str} {sp:Sp} (d:Df K mg x st ps) (S:aAq N ps (aAg st)) (len:∀ vs H Q E,sp vs H Q E->vs.length=ps.length)
  (hbody:∀ (f:Addr) (cdv:Value) (A:Around) (outer:List Env) (s:Shared) (H:Hp) (vs:List V) (Q:VK) (E:XK),aFp k (A.deeper (envOfC x (aAg st) s.heap.objs.size f cdv))->sp vs H Q E ->
   ∃ t,PSs (aTy CX0 P w K mg base N x (aAg st) f cdv A outer s H E).nox (aA6 st) t/\t { nx:=fun _ H'=>Q .non H',rt:=Q } (start N vs) H):Okf P w K mg base (k+1) x ps sp:=by
 obtain ⟨f,fd,⟨oc,od,dV,kV,doc,pm,an,cdv,ct,osl,rfl,lk,hcd⟩,kp,a,b⟩:=d.ex
 refine ⟨f,_,a,kp,b,aTu lk hcd S len fun A outer s H vs Q E hr hsp=>?_⟩
 obtain ⟨t,h,q⟩:=hbody f cdv A outer s H vs Q E hr hsp
 exact ⟨t,h.nox,q⟩
theorem df_mk {K:PySem.W.Frag} {mg:Str->Option Value} {h:Heap} {x:Str} {st:Stmt} {ps:List Str} {f:Addr} {oc:Value} {od an:Option Addr} {osl:Array (Option Value)} {dV kV doc pm cdv ct:Value} (X:K.In h) (G:h.Ns mainGlobals mg)
  (a:PySem.W.nsIn K mainGlobals x=some (some (.ref f))) (l:K.lookup f=some ⟨oc,od,.func (PySem.W.fnOf x x (aBc st) (aA6 st) (aAg st) dV kV doc pm an cdv ct),osl⟩)
  (c:PySem.W.codeIn K cdv x=true) (k:PySem.W.keepIn K (.ref f)=true)
  (b:∀ us:List Value,us.length=ps.length->bindArgs (PySem.W.fnOf x x (aBc st) (aA6 st) (aAg st) dV kV doc pm an cdv ct) ⟨us,[]⟩=pure (ps.zip us)):Df K mg x st ps :=
 ⟨f,_,⟨oc,od,dV,kV,doc,pm,an,cdv,ct,osl,rfl,l,c⟩,k,PySem.W.mg_of X G a,.all b⟩
structure DfD (K:PySem.W.Frag) (mg:Str->Option Value) (x:Str) (st:Stmt) (ps:List Str) (dvs:List V):Prop where
 ex:∃ (f:Addr) (fd:FuncData),(∃ (oc:Value) (od:Option Addr) (dV kV doc pm:Value) (an:Option Addr) (cdv ct:Value) (osl:Array (Option Value)),
  fd=PySem.W.fnOf x x (aBc st) (aA6 st) (aAg st) dV kV doc pm an cdv ct/\K.lookup f=some ⟨oc,od,.func fd,osl⟩/\PySem.W.codeIn K cdv x=true)/\PySem.W.keepIn K (.ref f)=true/\mg x=some (.ref f)/\aFo K fd ps []/\∃ ds,aBn dvs ds/\aFo K fd ps ds
structure aHp (P:Program) (w:World) (K:PySem.W.Frag) (mg:Str->Option Value) (base:Heap) (k:Nat) (x:Str) (ps:List Str) (dvs:List V) (sp:Sp):Prop where
 ex:∃ (f:Addr) (fd:FuncData),mg x=some (.ref f)/\PySem.W.keepIn K (.ref f)=true/\aFo K fd ps []/\(∃ ds,aBn dvs ds/\aFo K fd ps ds)/\aK2 P w K mg base CX0 k f fd ps sp
theorem aHp.mono {P:Program} {w:World} {K:PySem.W.Frag} {mg:Str->Option Value} {base:Heap} {j k:Nat} {x:Str} {ps:List Str} {dvs:List V} {sp:Sp} (o:aHp P w K mg base j x ps dvs sp) (h:j<=k):aHp P w K mg base k x ps dvs sp :=
 let ⟨f,fd,a,b,c,e,d⟩:=o.ex; ⟨f,fd,a,b,c,e,d.mono h⟩
theorem aHp.f {P:Program} {w:World} {K:PySem.W.Frag} {mg:Str->Option Value} {base:Heap} {k:Nat} {x:Str} {ps:List Str} {dvs:List V} {sp:Sp} (o:aHp P w K mg base k x ps dvs sp):Okf P w K mg base k x ps sp :=
 let ⟨f,fd,a,b,c,_,d⟩:=o.ex; ⟨f,fd,a,b,c,d⟩
theorem aHp.of {P:Program} {w:World} {K:PySem.W.Frag} {mg:Str->Option Value} {base:Heap} {k:Nat} {x:Str} {st:Stmt} {N ps:List Str} {dvs:List V} {sp:Sp} (d:DfD K mg x st ps dvs) (S:aAq N ps (aAg st)) (len:∀ vs H Q E,sp vs H Q E->vs.length=ps.length)
  (hbody:∀ (f:Addr) (cdv:Value) (A:Around) (outer:List Env) (s:Shared) (H:Hp) (vs:List V) (Q:VK) (E:XK),aFp k (A.deeper (envOfC x (aAg st) s.heap.objs.size f cdv))->sp vs H Q E ->
   ∃ t,PSs (aTy CX0 P w K mg base N x (aAg st) f cdv A outer s H E).nox (aA6 st) t/\t { nx:=fun _ H'=>Q .non H',rt:=Q } (start N vs) H):aHp P w K mg base (k+1) x ps dvs sp:=by
 obtain ⟨f,fd,⟨oc,od,dV,kV,doc,pm,an,cdv,ct,osl,rfl,lk,hcd⟩,kp,a,b,b2⟩:=d.ex
 refine ⟨f,_,a,kp,b,b2,aTu lk hcd S len fun A outer s H vs Q E hr hsp=>?_⟩
 obtain ⟨t,h,q⟩:=hbody f cdv A outer s H vs Q E hr hsp
 exact ⟨t,h.nox,q⟩
theorem aRm {K:PySem.W.Frag} {mg:Str->Option Value} {h:Heap} {x:Str} {st:Stmt} {ps:List Str} {f T:Addr} {oc:Value} {od an:Option Addr} {osl:Array (Option Value)} {kV doc pm cdv ct:Value} {o:Obj} {items:Array Value} {n:Nat} {dvs:List V} {ds:List Value} (X:K.In h) (G:h.Ns mainGlobals mg)
  (a:PySem.W.nsIn K mainGlobals x=some (some (.ref f))) (l:K.lookup f=some ⟨oc,od,.func (PySem.W.fnOf x x (aBc st) (aA6 st) (aAg st) (.ref T) kV doc pm an cdv ct),osl⟩)
  (c:PySem.W.codeIn K cdv x=true) (k:PySem.W.keepIn K (.ref f)=true) (t:K.lookup T=some o) (ho:o.data=.seq items n)
  (b:∀ (s:Shared) (us:List Value),s.heap.get? T=some o->us.length=ps.length->BindsTo s (PySem.W.fnOf x x (aBc st) (aA6 st) (aAg st) (.ref T) kV doc pm an cdv ct) ⟨us,[]⟩ (ps.zip us)) (hv:aBn dvs ds)
  (b2:∀ (s:Shared) (us:List Value),s.heap.get? T=some o->(us++ds).length=ps.length->BindsTo s (PySem.W.fnOf x x (aBc st) (aA6 st) (aAg st) (.ref T) kV doc pm an cdv ct) ⟨us,[]⟩ (ps.zip (us++ds))):DfD K mg x st ps dvs :=
 ⟨f,_,⟨oc,od,.ref T,kV,doc,pm,an,cdv,ct,osl,rfl,l,c⟩,k,PySem.W.mg_of X G a,fun s us KI hl=>by rw [List.append_nil] at hl ⊢; exact b s us (KI T o t) hl,ds,hv,fun s us KI hl=>b2 s us (KI T o t) hl⟩
section
variable {X:Cx} {k:Nat} {x:Str} {ps:List Str} {dvs:List V} {sp:Sp} {p pos:Pos} {e:Expr} {es:List Expr} {t:TA}
theorem aS7 (o:aHp X.prog X.w X.K X.mg X.base k x ps dvs sp) (hr:aFp k X.A) (hg:Gl X x) (ha:PA X (e::es) t) (hdb:(x==("__debug__":Str))=false:=by decide)
  (he:starEach (e::es) X.env=(false,eval e X.env)::starEach es X.env:=by rfl) (hpl:(backTo pos (starEach es X.env)).any (·.1)=false:=by rfl) :
  PE X (.Call (.Name x p) (e::es) [] pos) (aOz sp dvs E0 t):=by
 obtain ⟨f,fd,a,b,_,⟨ds,hv,c⟩,d⟩:=o.ex
 exact aP7 d hr hg a b c hv aWm ha hdb he hpl
theorem aV9 {σ:St} {H:Hp} {Q:VK} {E:XK} {tr:TA} (k:tr σ H fun vs H1=>sp (vs++dvs) H1 Q E):aOz sp dvs E tr σ H Q:=k
end
section
variable {X:Cx} {k:Nat} {x:Str} {ps:List Str} {sp:Sp} {p pos:Pos} {e:Expr} {es:List Expr} {t:TA}
theorem aAi (o:Okf X.prog X.w X.K X.mg X.base k x ps sp) (hr:aFp k X.A) (hg:Gl X x) (ha:PA X (e::es) t) (hdb:(x==("__debug__":Str))=false:=by decide)
  (he:starEach (e::es) X.env=(false,eval e X.env)::starEach es X.env:=by rfl) (hpl:(backTo pos (starEach es X.env)).any (·.1)=false:=by rfl) :
  PE X (.Call (.Name x p) (e::es) [] pos) (aOz sp [] E0 t):=by
 obtain ⟨f,fd,a,b,c,d⟩:=o.ex
 exact aP7 d hr hg a b c .nil aWm ha hdb he hpl
end
section
variable {σ:St} {H:Hp} {Q:VK} {D:aE4} {v:V} {i j:Int} {K:PySem.W.Frag}
theorem r_ixs {p:Addr} {xs:List V} (h:SqL K H p xs) (e:atI xs i=some v) (k:Q v H):aN1 K (.ref p) (.int i) H Q:=.inl (aZk h e k)
theorem aJ3 (h:0 < j) (k:Q (.int (i % j)) H):rI (fun _ j=>0 < j) (fun i j=>.int (i % j)) (.int i) (.int j) H Q:=r_I h k
theorem aHr (h:aC0 i j) (k:Q (.int (i * j)) H):rI aC0 (fun i j=>.int (i * j)) (.int i) (.int j) H Q:=r_I h k
theorem aHm.of (h0:0 < j) (h1:j < 2 ^ 64):aHm i j:=⟨by omega,Sm.mono (m:=64) (Sm.of (by omega) (by omega)) (by decide)⟩
theorem aDz (h:aHm i j) (k:Q (.int (i.fdiv j)) H):rI aHm (fun i j=>.int (i.fdiv j)) (.int i) (.int j) H Q:=r_I h k
theorem aY6 (k:Q (.int 1000000000) H):rI bCb (fun i j=>.int (i ^ j.toNat)) (.int 10) (.int 9) H Q:=r_I ⟨by decide,by decide,by decide⟩ k
theorem aY8 {n m:Nat} {w:V} (k:D.nx ((σ.set n (some v)).set m (some w)) H):∃ v' w',[v,w]=[v',w']/\D.nx ((σ.set n (some v')).set m (some w')) H:=⟨v,w,rfl,k⟩
end
theorem aUz:bootBuiltins "int"=some (.type "int"):=by decide +kernel
theorem aR2:bootBuiltins "bool"=some (.type "bool"):=by decide +kernel
theorem aUx:bootBuiltins "str"=some (.type "str"):=by decide +kernel
theorem aE1:bootBuiltins "list"=some (.type "list"):=by decide +kernel
theorem aJg:bootBuiltins "tuple"=some (.type "tuple"):=by decide +kernel
theorem aR1:bootBuiltins "dict"=some (.type "dict"):=by decide +kernel
theorem bB7:bootBuiltins "set"=some (.type "set"):=by decide +kernel
theorem aKs:bootBuiltins "enumerate"=some (.type "enumerate"):=by decide +kernel
theorem bB6:bootBuiltins "zip"=some (.type "zip"):=by decide +kernel
theorem aDm:bootBuiltins "len"=some (.builtin "len"):=by decide +kernel
theorem aR3:bootBuiltins "abs"=some (.builtin "abs"):=by decide +kernel
theorem aUy:bootBuiltins "max"=some (.builtin "max"):=by decide +kernel
theorem aR0:bootBuiltins "min"=some (.builtin "min"):=by decide +kernel
theorem aA3:bootBuiltins "isinstance"=some (.builtin "isinstance"):=by decide +kernel
theorem aRz:bootBuiltins "sorted"=some (.builtin "sorted"):=by decide +kernel
structure Bl (mg:Str->Option Value):Prop where
 z_int:mg "int"=none
 z_bool:mg "bool"=none
 z_str:mg "str"=none
 z_list:mg "list"=none
 z_tuple:mg "tuple"=none
 z_dict:mg "dict"=none
 z_set:mg "set"=none
 z_range:mg "range"=none
 z_enumerate:mg "enumerate"=none
 z_zip:mg "zip"=none
 z_reversed:mg "reversed"=none
 z_len:mg "len"=none
 z_abs:mg "abs"=none
 z_max:mg "max"=none
 z_min:mg "min"=none
 z_isinstance:mg "isinstance"=none
 z_sorted:mg "sorted"=none
 z_all:mg "all"=none
 z_any:mg "any"=none
 z_sum:mg "sum"=none
section
variable {K:PySem.W.Frag} {H:Hp} {Q:VK}
theorem aD7:PySem.W.kitOne K (.type "int") (.type "bool")=some false:=by first | rfl | with_unfolding_all rfl | decide
theorem aE0:PySem.W.kitOne K (.type "int") (.type "int")=some true:=by first | rfl | with_unfolding_all rfl | decide
theorem aMb:PySem.W.kitOne K (.type "int") (.type "str")=some false:=by first | rfl | with_unfolding_all rfl | decide
theorem aI4:PySem.W.kitOne K (.type "int") (.type "tuple")=some false:=by first | rfl | with_unfolding_all rfl | decide
theorem aKh:PySem.W.kitOne K (.type "int") (.type "list")=some false:=by first | rfl | with_unfolding_all rfl | decide
theorem aHa:PySem.W.kitOne K (.type "str") (.type "str")=some true:=by first | rfl | with_unfolding_all rfl | decide
theorem aI3:PySem.W.kitOne K (.type "str") (.type "tuple")=some false:=by first | rfl | with_unfolding_all rfl | decide
theorem aKg:PySem.W.kitOne K (.type "str") (.type "list")=some false:=by first | rfl | with_unfolding_all rfl | decide
theorem aCz:PySem.W.kitOne K (.type "tuple") (.type "tuple")=some true:=by first | rfl | with_unfolding_all rfl | decide
theorem aC5:PySem.W.kitOne K (.type "tuple") (.type "list")=some false:=by first | rfl | with_unfolding_all rfl | decide
theorem aDy {T:String} {x:V} {t:Value} {b:Bool} (ty:aK5 K H x t) (e:PySem.W.kitOne K t (.type T)=some b) (k:Q (.bl b) H):bAd K T [x,.ty T] H Q:=⟨x,t,b,rfl,ty,e,k⟩
end
section
variable {X:Cx} {K:PySem.W.Frag} {σ:St} {H:Hp} {Q:VK} {D:aE4} {i j:Int} {b:Bool}
noncomputable def rAbs:List V->Hp->VK->Prop:=fun xs H Q=>∃ i,xs=[.int i]/\Q (.int (if i < 0 then -i else i)) H
theorem aXr:aEc X (.builtin "abs") rAbs:=aT0
theorem r_abs (k:Q (.int (if i < 0 then -i else i)) H):rAbs [.int i] H Q:=⟨i,rfl,k⟩
noncomputable def bAc:List V->Hp->VK->Prop:=fun xs H Q=>∃ i j,xs=[.int i,.int j]/\Q (.int (if j > i then j else i)) H
theorem bB5 (hc:X.calm=true):aEc X (.builtin "max") bAc:=aRw hc
theorem r_max (k:Q (.int (if j > i then j else i)) H):bAc [.int i,.int j] H Q:=⟨i,j,rfl,k⟩
noncomputable def bAb:List V->Hp->VK->Prop:=fun xs H Q=>∃ i j,xs=[.int i,.int j]/\Q (.int (if j < i then j else i)) H
theorem aXq (hc:X.calm=true):aEc X (.builtin "min") bAb:=aRv hc
theorem r_min (k:Q (.int (if j < i then j else i)) H):bAb [.int i,.int j] H Q:=⟨i,j,rfl,k⟩
noncomputable def rLen (K:PySem.W.Frag):List V->Hp->VK->Prop:=fun xs H Q=>∃ x n,xs=[x]/\LenV K x H n/\Q (.int n) H
theorem aGe:aEc X (.builtin "len") (rLen X.K):=aTz
theorem aPm {p:Addr} {xs:List V} (h:SqL K H p xs) (k:Q (.int xs.length) H):rLen K [.ref p] H Q:=⟨_,_,rfl,.inl ⟨xs,h,rfl⟩,k⟩
theorem aMz {p:Addr} {xs:List V} (h:H p=some (.lst xs)) (k:Q (.int xs.length) H):rLen K [.ref p] H Q:=aPm (SqL.of h) k
theorem aZj {p:Addr} {xs:List V} (h:H p=some (.tup xs)) (k:Q (.int xs.length) H):rLen K [.ref p] H Q:=⟨_,_,rfl,.inr ⟨xs,SqT.of h,rfl⟩,k⟩
noncomputable def aSa (g:TG) (tb:TS) (D:aE4) (σ:St):It->Hp->Prop:=fun J H1=>∃ W:Nat->Nat->St->Hp->Prop,(∃ m,W 0 m σ H1)/\∀ i m σ H,W i m σ H ->
 (J.stop i H/\D.nx σ H)∨(J.go i H/\∃ N:St->Hp->Prop,(∀ σ' H',N σ' H'->∃ m',m' < m/\W (i+1) m' σ' H')/\∀ x H',J.yld i H x H'->g x σ H' fun σ2 H2=>tb { D with nx:=N,ct:=N,bk:=D.nx } σ2 H2)
theorem r_for {wi:TI} {g:TG} {tb:TS} (k:wi σ H (aSa g tb D σ)):tFor wi g tb D σ H:=k
noncomputable def aY0 (R:It->Hp->Prop):List V->Hp->Prop:=fun vs H1=>∃ j:Int,vs=[.int j]/\-(2 ^ 62)<=j/\j < 2 ^ 62/\R (Itr 0 j.toNat) H1
noncomputable def aYz (R:It->Hp->Prop):List V->Hp->Prop:=fun vs H1=>∃ i j:Int,vs=[.int i,.int j]/\(-(2 ^ 62)<=i/\i < 2 ^ 62/\-(2 ^ 62)<=j/\j < 2 ^ 62)/\R (Itr i (j - i).toNat) H1
theorem aY5 {ta:TA} {R:It->Hp->Prop} (k:ta σ H (aY0 R)):bBj ta σ H R:=k
theorem aY4 {ta:TA} {R:It->Hp->Prop} (k:ta σ H (aYz R)):bBi ta σ H R:=k
theorem aLr {R:It->Hp->Prop} (h1:-(2 ^ 62)<=j) (h2:j < 2 ^ 62) (k:R (Itr 0 j.toNat) H):aY0 R [.int j] H:=⟨j,rfl,h1,h2,k⟩
theorem aVs {R:It->Hp->Prop} (h1:-(2 ^ 62)<=i) (h2:i < 2 ^ 62) (h3:-(2 ^ 62)<=j) (h4:j < 2 ^ 62) (k:R (Itr i (j - i).toNat) H):aYz R [.int i,.int j] H:=⟨i,j,rfl,⟨h1,h2,h3,h4⟩,k⟩
theorem aZt {lo:Int} {n:Nat} {g:TG} {tb:TS} (Pv:Nat->St->Hp->Prop) (h0:Pv 0 σ H)
  (hs:∀ i σ H,i < n->Pv i σ H->g (.int (lo+i)) σ H fun σ2 H2=>tb ⟨Pv (i+1),D.rt,D.nx,Pv (i+1)⟩ σ2 H2) (hd:∀ σ H,Pv n σ H->D.nx σ H):aSa g tb D σ (Itr lo n) H:=aRc Pv h0 hs hd
noncomputable def bA4 (K:PySem.W.Frag) (R:It->Hp->Prop):VK:=fun x H1=>∃ a,x=.ref a/\(∃ xs,SqL K H1 a xs)/\R (Itl K a) H1
theorem aVx {tl:TE} {R:It->Hp->Prop} (k:tl σ H (bA4 K R)):bBk K tl σ H R:=k
theorem aBw {a:Addr} {xs:List V} {R:It->Hp->Prop} (h:SqL K H a xs) (k:R (Itl K a) H):bA4 K R (.ref a) H:=⟨a,rfl,⟨xs,h⟩,k⟩
theorem aPo {a:Addr} {xs:List V} {g:TG} {tb:TS} (Pv:Nat->St->Hp->Prop) (h0:Pv 0 σ H) (hl:∀ i σ H,i<=xs.length->Pv i σ H->SqL K H a xs)
  (hs:∀ i x σ H,xs[i]?=some x->Pv i σ H->g x σ H fun σ2 H2=>tb ⟨Pv (i+1),D.rt,D.nx,Pv (i+1)⟩ σ2 H2) (hd:∀ σ H,Pv xs.length σ H->D.nx σ H):aSa g tb D σ (Itl K a) H:=aTt Pv h0 hl hs hd
end
end L2
namespace L2
open PySem
noncomputable def sg (t b:Int):Int:=if b < 0 then 0 - (Int.gcd t b:Int) else (Int.gcd t b:Int)
noncomputable def aB1 (t b:Int):Int:=t.fdiv (sg t b)
noncomputable def aB2 (t b:Int):Int:=b.fdiv (sg t b)
theorem aMe {t b:Int} (h:b≠0):0 < Int.gcd t b:=Nat.pos_of_ne_zero fun e=>h (Int.gcd_eq_zero_iff.mp e).2
theorem aPd {t b:Int} (h:b≠0):sg t b≠0:=by
 have:=aMe (t:=t) h
 unfold sg
 split <;> omega
theorem aSo (t b:Int):sg t b ∣ t:=by
 unfold sg
 split
 ·exact (Int.zero_sub _ ▸ Int.neg_dvd.mpr (Int.gcd_dvd_left ..))
 ·exact Int.gcd_dvd_left ..
theorem aSn (t b:Int):sg t b ∣ b:=by
 unfold sg
 split
 ·exact (Int.zero_sub _ ▸ Int.neg_dvd.mpr (Int.gcd_dvd_right ..))
 ·exact Int.gcd_dvd_right ..
theorem aRe {a g:Int} (hg:g≠0) (h:g ∣ a):a.fdiv g * g=a:=by
 obtain ⟨c,rfl⟩:=h
 rw [Int.mul_fdiv_cancel_left _ hg,Int.mul_comm]
theorem aIy {t b:Int} (h:b≠0):aB1 t b * sg t b=t:=aRe (aPd h) (aSo t b)
theorem aFg {t b:Int} (h:b≠0):aB2 t b * sg t b=b:=aRe (aPd h) (aSn t b)
theorem aGr (t b:Int):(sg t b).natAbs=Int.gcd t b:=by
 unfold sg
 split <;> omega
theorem aGm {t b:Int} (h:b≠0):0 < aB2 t b:=by
 have e:=aFg (t:=t) h
 have hp:=aMe (t:=t) h
 by_cases hb:b < 0
 ·have hs:sg t b < 0:=by unfold sg; rw [if_pos hb]; omega
  rcases Int.lt_or_le 0 (aB2 t b) with q | q
  ·exact q
  ·have:0<=aB2 t b * sg t b:=Int.mul_nonneg_of_nonpos_of_nonpos q (Int.le_of_lt hs)
   omega
 ·have hs:0 < sg t b:=by unfold sg; rw [if_neg hb]; omega
  rcases Int.lt_or_le 0 (aB2 t b) with q | q
  ·exact q
  ·have:aB2 t b * sg t b<=0:=Int.mul_nonpos_of_nonpos_of_nonneg q (Int.le_of_lt hs)
   omega
theorem aW5 {t b:Int} (h:b≠0):Int.gcd (aB1 t b) (aB2 t b)=1:=by
 have e1:=aIy (t:=t) h
 have e2:=aFg (t:=t) h
 have hp:=aMe (t:=t) h
 have e:Int.gcd (aB1 t b * sg t b) (aB2 t b * sg t b)=Int.gcd (aB1 t b) (aB2 t b) * (sg t b).natAbs:=Int.gcd_mul_right ..
 rw [e1,e2,aGr] at e
 have:1 * Int.gcd t b=Int.gcd (aB1 t b) (aB2 t b) * Int.gcd t b:=by omega
 exact (Nat.eq_of_mul_eq_mul_right hp this).symm
theorem aQt {t b:Int} (h:b≠0):t * aB2 t b=b * aB1 t b:=by
 have e1:=aIy (t:=t) h
 have e2:=aFg (t:=t) h
 calc t * aB2 t b=(aB1 t b * sg t b) * aB2 t b:=by rw [e1]
  _=(aB2 t b * sg t b) * aB1 t b:=by rw [Int.mul_assoc,Int.mul_comm (sg t b),← Int.mul_assoc,Int.mul_comm (aB1 t b),Int.mul_assoc,Int.mul_comm (aB1 t b),← Int.mul_assoc]
  _=b * aB1 t b:=by rw [e2]
theorem aGb {a g c:Int} (hg:g≠0) (e:a * g=c):a.natAbs<=c.natAbs:=by
 rw [← e,Int.natAbs_mul]
 exact Nat.le_mul_of_pos_right _ (by omega)
theorem aQu {t b:Int} (h:b≠0):(aB1 t b).natAbs<=t.natAbs:=aGb (aPd h) (aIy h)
theorem aTs {one other:Int} (h:0 < other):Int.gcd other (one % other)=Int.gcd one other:=by
 have e:one % other=one - (one / other) * other:=by rw [Int.emod_def,Int.mul_comm]
 rw [e,Int.gcd_comm other,Int.gcd_sub_mul_right_left]
theorem aRb {one other:Int} (h:other≠0):Int.gcd other (one.fmod other)=Int.gcd one other:=by
 have e:one.fmod other=one - (one.fdiv other) * other:=by rw [Int.fmod_def,Int.mul_comm]
 rw [e,Int.gcd_comm other,Int.gcd_sub_mul_right_left]
theorem pick {ns:List Int} {i:Int} (h0:0<=i) (h1:i < ns.length):∃ z,z∈ns/\atI (ns.map V.int) i=some (.int z):=by
 have hk:i.toNat < ns.length:=by omega
 have ek:i=((i.toNat:Nat):Int):=by omega
 have q:atI (ns.map V.int) ((i.toNat:Nat):Int)=some (.int ns[i.toNat]):=aF4 (by rw [List.getElem?_map,List.getElem?_eq_getElem hk] <;> rfl)
 rw [← ek] at q
 exact ⟨ns[i.toNat],List.getElem_mem hk,q⟩
theorem aZg {i j:Int} {H:Hp} {Q:VK} (h:j≠0) (k:Q (.int (i.fmod j)) H):rI (fun _ j=>j≠0) (fun i j=>.int (i.fmod j)) (.int i) (.int j) H Q:=r_I h k
theorem aXf {a b:Int} (h:b≠0):(a.fmod b).natAbs < b.natAbs:=by
 have e:=Int.fmod_eq_emod (a:=a) (b:=b)
 have h1:=Int.emod_nonneg a h
 have h2:=Int.emod_lt a h
 rw [e]
 by_cases hc:0<=b∨b ∣ a
 ·rw [if_pos hc]
  omega
 ·rw [if_neg hc]
  have h3:a % b≠0:=fun z=>hc (.inr (Int.dvd_of_emod_eq_zero z))
  omega
theorem aG8 {t b:Int} (h:b≠0):aB1 t b * b=t * aB2 t b:=by rw [aQt h,Int.mul_comm]
end L2
namespace L2
open PySem PySem.Spec PyProof.Rows
inductive Dt where
 | non | bl (b:Bool) | int (i:Int) | str (x:Str) | tup (xs:List Dt) | lst (xs:List Dt)
mutual
noncomputable def Den (H:Hp):Dt->V->Prop
 | .non,v=>v=.non
 | .bl b,v=>v=.bl b
 | .int i,v=>v=.int i
 | .str x,v=>v=.str x
 | .tup ds,v=>∃ p vs,v=.ref p/\H p=some (.tup vs)/\aF7 H ds vs
 | .lst ds,v=>∃ p vs,v=.ref p/\H p=some (.lst vs)/\aF7 H ds vs
noncomputable def aF7 (H:Hp):List Dt->List V->Prop
 | [],vs=>vs=[]
 | d::ds,vs=>∃ v r,vs=v::r/\Den H d v/\aF7 H ds r
end
mutual
noncomputable def deq:Dt->Dt->Bool
 | .non,.non=>true
 | .bl a,.bl b=>a==b
 | .bl a,.int b=>(if a then 1 else 0)==b
 | .int a,.bl b=>a==(if b then 1 else 0)
 | .int a,.int b=>a==b
 | .str a,.str b=>a==b
 | .tup xs,.tup ys=>aRn xs ys
 | .lst xs,.lst ys=>aRn xs ys
 | _,_=>false
noncomputable def aRn:List Dt->List Dt->Bool
 | [],[]=>true
 | x::xs,y::ys=>deq x y&&aRn xs ys
 | _,_=>false
end
mutual
noncomputable def dep:Dt->Nat
 | .tup xs=>aHo xs+1
 | .lst xs=>aHo xs+1
 | _=>0
noncomputable def aHo:List Dt->Nat
 | []=>0
 | x::xs=>max (dep x) (aHo xs)
end
theorem aF7.length {H:Hp}:∀ {ds:List Dt} {vs:List V},aF7 H ds vs->ds.length=vs.length
 | [],vs,h=>by rw [show vs=[] from h]; rfl
 | d::ds,vs,h=>by
  obtain ⟨v,r,rfl,_,t⟩:=h
  rw [List.length_cons,List.length_cons,aF7.length t]
mutual
theorem Den.same_eq {H:Hp}:∀ (d e:Dt) {x:V},Den H d x->Den H e x->deq d e=true
 | .tup ds,.tup es,x,h1,h2=>by
  obtain ⟨p,vs,rfl,a,b⟩:=h1
  obtain ⟨q,ws,e1,c,d⟩:=h2
  cases e1
  rw [a] at c
  cases c
  exact aF7.same_eq ds es b d
 | .lst ds,.lst es,x,h1,h2=>by
  obtain ⟨p,vs,rfl,a,b⟩:=h1
  obtain ⟨q,ws,e1,c,d⟩:=h2
  cases e1
  rw [a] at c
  cases c
  exact aF7.same_eq ds es b d
 | .tup ds,.lst es,x,h1,h2=>by
  obtain ⟨p,vs,rfl,a,b⟩:=h1
  obtain ⟨q,ws,e1,c,d⟩:=h2
  cases e1
  rw [a] at c
  cases c
 | .lst ds,.tup es,x,h1,h2=>by
  obtain ⟨p,vs,rfl,a,b⟩:=h1
  obtain ⟨q,ws,e1,c,d⟩:=h2
  cases e1
  rw [a] at c
  cases c
 | .non,e,x,h1,h2=>by
  have h1:x=.non:=h1
  subst h1
  cases e <;> first | rfl | (have h2:V.non=_:=h2; cases h2) | (obtain ⟨_,_,z,_⟩:=h2; cases z)
 | .bl b,e,x,h1,h2=>by
  have h1:x=.bl b:=h1
  subst h1
  cases e <;> first | (have h2:V.bl b=_:=h2; cases h2; exact beq_self_eq_true b) | (have h2:V.bl b=_:=h2; cases h2; done) | (obtain ⟨_,_,z,_⟩:=h2; cases z)
 | .int b,e,x,h1,h2=>by
  have h1:x=.int b:=h1
  subst h1
  cases e <;> first | (have h2:V.int b=_:=h2; cases h2; exact beq_self_eq_true b) | (have h2:V.int b=_:=h2; cases h2; done) | (obtain ⟨_,_,z,_⟩:=h2; cases z)
 | .str b,e,x,h1,h2=>by
  have h1:x=.str b:=h1
  subst h1
  cases e <;> first | (have h2:V.str b=_:=h2; cases h2; exact beq_self_eq_true b) | (have h2:V.str b=_:=h2; cases h2; done) | (obtain ⟨_,_,z,_⟩:=h2; cases z)
 | .tup ds,.non,x,h1,h2=>by obtain ⟨p,vs,rfl,_⟩:=h1; have h2:V.ref p=_:=h2; cases h2
 | .tup ds,.bl _,x,h1,h2=>by obtain ⟨p,vs,rfl,_⟩:=h1; have h2:V.ref p=_:=h2; cases h2
 | .tup ds,.int _,x,h1,h2=>by obtain ⟨p,vs,rfl,_⟩:=h1; have h2:V.ref p=_:=h2; cases h2
 | .tup ds,.str _,x,h1,h2=>by obtain ⟨p,vs,rfl,_⟩:=h1; have h2:V.ref p=_:=h2; cases h2
 | .lst ds,.non,x,h1,h2=>by obtain ⟨p,vs,rfl,_⟩:=h1; have h2:V.ref p=_:=h2; cases h2
 | .lst ds,.bl _,x,h1,h2=>by obtain ⟨p,vs,rfl,_⟩:=h1; have h2:V.ref p=_:=h2; cases h2
 | .lst ds,.int _,x,h1,h2=>by obtain ⟨p,vs,rfl,_⟩:=h1; have h2:V.ref p=_:=h2; cases h2
 | .lst ds,.str _,x,h1,h2=>by obtain ⟨p,vs,rfl,_⟩:=h1; have h2:V.ref p=_:=h2; cases h2
theorem aF7.same_eq {H:Hp}:∀ (ds es:List Dt) {xs:List V},aF7 H ds xs->aF7 H es xs->aRn ds es=true
 | [],[],xs,_,_=>rfl
 | [],e::es,xs,h1,h2=>by
  have h1:xs=[]:=h1
  subst h1
  obtain ⟨_,_,z,_⟩:=h2
  cases z
 | d::ds,[],xs,h1,h2=>by
  have h2:xs=[]:=h2
  subst h2
  obtain ⟨_,_,z,_⟩:=h1
  cases z
 | d::ds,e::es,xs,h1,h2=>by
  obtain ⟨v,r,rfl,a,b⟩:=h1
  obtain ⟨v',r',z,a',b'⟩:=h2
  cases z
  show (deq d e&&aRn ds es)=true
  rw [Den.same_eq d e a a',aF7.same_eq ds es b b']
  rfl
end
noncomputable def nth (ds es:List Dt) (j:Nat):Bool:=match ds[j]?,es[j]? with
 | some d,some e=>deq d e
 | _,_=>false
theorem aCm:∀ (ds es:List Dt),((List.range (min ds.length es.length)).all (nth ds es)&&ds.length==es.length)=aRn ds es
 | [],[]=>rfl
 | [],e::es=>by show (_&&(0==es.length+1))=false; simp
 | d::ds,[]=>by show (_&&(ds.length+1==0))=false; simp
 | d::ds,e::es=>by
  have ih:=aCm ds es
  show _=(deq d e&&aRn ds es)
  rw [← ih]
  have h1:min (d::ds).length (e::es).length=min ds.length es.length+1:=by simp only [List.length_cons]; omega
  rw [h1,List.range_succ_eq_map,List.all_cons,List.all_map]
  have h2:(nth (d::ds) (e::es)) ∘ Nat.succ=nth ds es:=by funext j; rfl
  rw [h2]
  have h3:nth (d::ds) (e::es) 0=deq d e:=rfl
  rw [h3]
  have h4:((d::ds).length==(e::es).length)=(ds.length==es.length):=by simp
  rw [h4,Bool.and_assoc]
section
variable {X:Cx} {pins:List (Addr×Obj)} {σ:St} {H:Hp} {s:Shared}
theorem aDr (I:Inv X pins σ H s) {p:Addr} {vs:List V} (h:H p=some (.tup vs)):∃ its:List Value,aBn vs its/\s.heap.IsTuple p its.toArray:=by
 obtain ⟨_,its,r,q⟩:=(show aB0 X.prog X.w H s.heap p (.tup vs) from I.hok p _ h)
 exact ⟨its,r,q⟩
theorem aD6 (I:Inv X pins σ H s) {p:Addr} {vs:List V} (h:H p=some (.lst vs)):∃ its:List Value,aBn vs its/\s.heap.IsList p its.toArray:=by
 obtain ⟨_,its,n,r,q⟩:=(show aB0 X.prog X.w H s.heap p (.lst vs) from I.hok p _ h)
 exact ⟨its,r,_,q,rfl,_,rfl⟩
theorem aMc {A:Around} {ds:List Dt} (h:A.units+dep (.tup ds) < cLine):A.in1.units+aHo ds < cLine:=by
 have e:dep (.tup ds)=aHo ds+1:=by simp [dep]
 show A.units+1+aHo ds < cLine
 omega
theorem aMd {A:Around} {ds:List Dt} (h:A.units+dep (.lst ds) < cLine):A.in1.units+aHo ds < cLine:=by
 have e:dep (.lst ds)=aHo ds+1:=by simp [dep]
 show A.units+1+aHo ds < cLine
 omega
mutual
theorem bBv (I:Inv X pins σ H s):∀ (d e:Dt) {x y:V} {u v:Value} {A:Around},Den H d x->Den H e y->aBr x u->aBr y v->A.units+dep d < cLine->SeqAt.EqAt A s u v (deq d e)
 | .tup ds,e,x,y,u,v,A,h1,h2,rx,ry,hu=>by
  obtain ⟨p,vs,rfl,a,b⟩:=h1
  cases rx
  obtain ⟨its,r,t⟩:=aDr I a
  have hu':A.units < cLine:=by omega
  cases e with
  | tup es =>
   obtain ⟨q,ws,rfl,a',b'⟩:=id h2
   cases ry
   by_cases hne:p=q
   ·subst hne
    have:=Den.same_eq (.tup ds) (.tup es) (x:=.ref p) ⟨p,vs,rfl,a,b⟩ h2
    rw [this]
    exact SeqAt.EqAt.same _
   ·obtain ⟨its',r',t'⟩:=aDr I a'
    have z:=SeqAt.RcAt.tuples (e:=nth ds es) t t' hu' (fun j g1 g2=>aHg I ds es b b' r r' (aMc hu) j (by simpa using g1) (by simpa using g2))
    have l1:its.length=ds.length:=by rw [b.length,r.length]
    have l2:its'.length=es.length:=by rw [b'.length,r'.length]
    rw [List.size_toArray,List.size_toArray,l1,l2,aCm] at z
    exact SeqAt.EqAt.of_refs hne z
  | lst es =>
   obtain ⟨q,ws,rfl,a',b'⟩:=id h2
   cases ry
   obtain ⟨its',r',t'⟩:=aD6 I a'
   exact SeqAt.EqAt.tuple_list t t' hu'
  | non=>cases (show y=.non from h2); cases ry; exact SeqAt.EqAt.tuple_none t hu'
  | bl b=>cases (show y=.bl b from h2); cases ry; exact SeqAt.EqAt.tuple_bool b t hu'
  | int b=>cases (show y=.int b from h2); obtain ⟨tk,rfl⟩:=ry; exact SeqAt.EqAt.tuple_int b tk t hu'
  | str b=>cases (show y=.str b from h2); obtain ⟨tk,rfl⟩:=ry; exact SeqAt.EqAt.tuple_str b tk t hu'
 | .lst ds,e,x,y,u,v,A,h1,h2,rx,ry,hu=>by
  obtain ⟨p,vs,rfl,a,b⟩:=h1
  cases rx
  obtain ⟨its,r,t⟩:=aD6 I a
  have hu':A.units < cLine:=by omega
  cases e with
  | lst es =>
   obtain ⟨q,ws,rfl,a',b'⟩:=id h2
   cases ry
   by_cases hne:p=q
   ·subst hne
    have:=Den.same_eq (.lst ds) (.lst es) (x:=.ref p) ⟨p,vs,rfl,a,b⟩ h2
    rw [this]
    exact SeqAt.EqAt.same _
   ·obtain ⟨its',r',t'⟩:=aD6 I a'
    have l1:its.length=ds.length:=by rw [b.length,r.length]
    have l2:its'.length=es.length:=by rw [b'.length,r'.length]
    by_cases hl:ds.length=es.length
    ·have z:=SeqAt.RcAt.lists (e:=nth ds es) t t' (by rw [List.size_toArray,List.size_toArray,l1,l2,hl]) hu' (fun j g1 g2=>aHg I ds es b b' r r' (aMd hu) j (by simpa using g1) (by simpa using g2))
     have e1:=aCm ds es
     rw [hl,Nat.min_self,beq_self_eq_true,Bool.and_true] at e1
     rw [List.size_toArray,l1,hl,e1] at z
     exact SeqAt.EqAt.of_refs hne z
    ·have z:=SeqAt.RcAt.lists_lengths t t' (by rw [List.size_toArray,List.size_toArray,l1,l2]; simpa using hl) hu'
     have e1:=aCm ds es
     rw [show (ds.length==es.length)=false from by simpa using hl,Bool.and_false] at e1
     have e2:deq (.lst ds) (.lst es)=false:=by show aRn ds es=false; exact e1.symm
     rw [e2]
     exact SeqAt.EqAt.of_refs hne z
  | tup es =>
   obtain ⟨q,ws,rfl,a',b'⟩:=id h2
   cases ry
   obtain ⟨its',r',t'⟩:=aDr I a'
   exact SeqAt.EqAt.list_tuple t t' hu'
  | non=>cases (show y=.non from h2); cases ry; exact SeqAt.EqAt.list_none t hu'
  | bl b=>cases (show y=.bl b from h2); cases ry; exact SeqAt.EqAt.list_bool b t hu'
  | int b=>cases (show y=.int b from h2); obtain ⟨tk,rfl⟩:=ry; exact SeqAt.EqAt.list_int b tk t hu'
  | str b=>cases (show y=.str b from h2); obtain ⟨tk,rfl⟩:=ry; exact SeqAt.EqAt.list_str b tk t hu'
 | .non,e,x,y,u,v,A,h1,h2,rx,ry,hu=>by
  cases (show x=.non from h1); cases rx
  have hu':A.units < cLine:=by omega
  cases e with
  | tup es=>obtain ⟨q,ws,rfl,a',b'⟩:=id h2; cases ry; obtain ⟨its',r',t'⟩:=aDr I a'; exact SeqAt.EqAt.none_tuple t' hu'
  | lst es=>obtain ⟨q,ws,rfl,a',b'⟩:=id h2; cases ry; obtain ⟨its',r',t'⟩:=aD6 I a'; exact SeqAt.EqAt.none_list t' hu'
  | non=>cases (show y=.non from h2); cases ry; exact SeqAt.EqAt.same _
  | bl b=>cases (show y=.bl b from h2); cases ry; exact SeqAt.EqAt.none_bool b
  | int b=>cases (show y=.int b from h2); obtain ⟨tk,rfl⟩:=ry; exact SeqAt.EqAt.none_int b tk
  | str b=>cases (show y=.str b from h2); obtain ⟨tk,rfl⟩:=ry; exact SeqAt.EqAt.none_str b tk
 | .bl c,e,x,y,u,v,A,h1,h2,rx,ry,hu=>by
  cases (show x=.bl c from h1); cases rx
  have hu':A.units < cLine:=by omega
  cases e with
  | tup es=>obtain ⟨q,ws,rfl,a',b'⟩:=id h2; cases ry; obtain ⟨its',r',t'⟩:=aDr I a'; exact SeqAt.EqAt.bool_tuple c t' hu'
  | lst es=>obtain ⟨q,ws,rfl,a',b'⟩:=id h2; cases ry; obtain ⟨its',r',t'⟩:=aD6 I a'; exact SeqAt.EqAt.bool_list c t' hu'
  | non=>cases (show y=.non from h2); cases ry; exact SeqAt.EqAt.bool_none c
  | bl b=>cases (show y=.bl b from h2); cases ry; exact SeqAt.EqAt.bool_bool c b
  | int b=>cases (show y=.int b from h2); obtain ⟨tk,rfl⟩:=ry; exact SeqAt.EqAt.bool_int c b tk
  | str b=>cases (show y=.str b from h2); obtain ⟨tk,rfl⟩:=ry; exact SeqAt.EqAt.bool_str c b tk
 | .int c,e,x,y,u,v,A,h1,h2,rx,ry,hu=>by
  cases (show x=.int c from h1); obtain ⟨tc,rfl⟩:=rx
  have hu':A.units < cLine:=by omega
  cases e with
  | tup es=>obtain ⟨q,ws,rfl,a',b'⟩:=id h2; cases ry; obtain ⟨its',r',t'⟩:=aDr I a'; exact SeqAt.EqAt.int_tuple c tc t' hu'
  | lst es=>obtain ⟨q,ws,rfl,a',b'⟩:=id h2; cases ry; obtain ⟨its',r',t'⟩:=aD6 I a'; exact SeqAt.EqAt.int_list c tc t' hu'
  | non=>cases (show y=.non from h2); cases ry; exact SeqAt.EqAt.int_none c tc
  | bl b=>cases (show y=.bl b from h2); cases ry; exact SeqAt.EqAt.int_bool c tc b
  | int b=>cases (show y=.int b from h2); obtain ⟨tk,rfl⟩:=ry; exact SeqAt.EqAt.int_int c tc b tk
  | str b=>cases (show y=.str b from h2); obtain ⟨tk,rfl⟩:=ry; exact SeqAt.EqAt.int_str c tc b tk
 | .str c,e,x,y,u,v,A,h1,h2,rx,ry,hu=>by
  cases (show x=.str c from h1); obtain ⟨tc,rfl⟩:=rx
  have hu':A.units < cLine:=by omega
  cases e with
  | tup es=>obtain ⟨q,ws,rfl,a',b'⟩:=id h2; cases ry; obtain ⟨its',r',t'⟩:=aDr I a'; exact SeqAt.EqAt.str_tuple c tc t' hu'
  | lst es=>obtain ⟨q,ws,rfl,a',b'⟩:=id h2; cases ry; obtain ⟨its',r',t'⟩:=aD6 I a'; exact SeqAt.EqAt.str_list c tc t' hu'
  | non=>cases (show y=.non from h2); cases ry; exact SeqAt.EqAt.str_none c tc
  | bl b=>cases (show y=.bl b from h2); cases ry; exact SeqAt.EqAt.str_bool c tc b
  | int b=>cases (show y=.int b from h2); obtain ⟨tk,rfl⟩:=ry; exact SeqAt.EqAt.str_int c tc b tk
  | str b=>cases (show y=.str b from h2); obtain ⟨tk,rfl⟩:=ry; exact SeqAt.EqAt.str_str c tc b tk
theorem aHg (I:Inv X pins σ H s):∀ (ds es:List Dt) {xs ys:List V} {us vs:List Value} {A:Around},aF7 H ds xs->aF7 H es ys->aBn xs us->aBn ys vs->A.units+aHo ds < cLine ->
  ∀ (j:Nat) (g1:j < us.length) (g2:j < vs.length),SeqAt.EqAt A s us[j] vs[j] (nth ds es j)
 | [],es,xs,ys,us,vs,A,h1,h2,r1,r2,hu=>fun j g1 g2=>by
  have h1:xs=[]:=h1
  subst h1
  cases r1
  exact absurd g1 (Nat.not_lt_zero _)
 | d::ds,[],xs,ys,us,vs,A,h1,h2,r1,r2,hu=>fun j g1 g2=>by
  have h2:ys=[]:=h2
  subst h2
  cases r2
  exact absurd g2 (Nat.not_lt_zero _)
 | d::ds,e::es,xs,ys,us,vs,A,h1,h2,r1,r2,hu=>fun j g1 g2=>by
  obtain ⟨x,xr,rfl,a,b⟩:=h1
  obtain ⟨y,yr,rfl,a',b'⟩:=h2
  cases r1 with
  | cons rx r1 =>
   cases r2 with
   | cons ry r2 =>
    have hd:aHo (d::ds)=max (dep d) (aHo ds):=by simp [aHo]
    cases j with
    | zero=>exact bBv I d e a a' rx ry (by omega)
    | succ j=>exact aHg I ds es b b' r1 r2 (by omega) j (by simpa using g1) (by simpa using g2)
end
noncomputable def rEqD:R2:=fun x y H Q=>∃ d e,Den H d x/\Den H e y/\dep d<=60/\((∃ ds es,d=.tup ds/\e=.tup es)∨∃ ds es,d=.lst ds/\e=.lst es)/\Q (.bl (deq d e)) H
noncomputable def rNeD:R2:=fun x y H Q=>∃ d e,Den H d x/\Den H e y/\dep d<=60/\((∃ ds es,d=.tup ds/\e=.tup es)∨∃ ds es,d=.lst ds/\e=.lst es)/\Q (.bl (!deq d e)) H
theorem bAt (hu:X.A.units+64 < cLine):OpR X (compareOp .Eq) rEqD:=by
 intro pins s σ H x y v u Q I rx ry h
 obtain ⟨d,e,h1,h2,hd,k,q⟩:=h
 rcases k with ⟨ds,es,rfl,rfl⟩ | ⟨ds,es,rfl,rfl⟩
 ·obtain ⟨p,vs,rfl,a,b⟩:=h1
  obtain ⟨p',ws,rfl,a',b'⟩:=h2
  cases rx
  cases ry
  obtain ⟨its,r,t⟩:=aDr I a
  obtain ⟨its',r',t'⟩:=aDr I a'
  have z:=SeqAt.RcAt.tuples (A:=X.A) (e:=nth ds es) t t' (by omega) (fun j g1 g2=>aHg I ds es b b' r r' (aMc (by omega)) j (by simpa using g1) (by simpa using g2))
  have l1:its.length=ds.length:=by rw [b.length,r.length]
  have l2:its'.length=es.length:=by rw [b'.length,r'.length]
  rw [List.size_toArray,List.size_toArray,l1,l2,aCm] at z
  exact z _ _ _ _ ⟨.bl _,H,I,rfl,q⟩
 ·obtain ⟨p,vs,rfl,a,b⟩:=h1
  obtain ⟨p',ws,rfl,a',b'⟩:=h2
  cases rx
  cases ry
  obtain ⟨its,r,t⟩:=aD6 I a
  obtain ⟨its',r',t'⟩:=aD6 I a'
  have l1:its.length=ds.length:=by rw [b.length,r.length]
  have l2:its'.length=es.length:=by rw [b'.length,r'.length]
  by_cases hl:ds.length=es.length
  ·have z:=SeqAt.RcAt.lists (A:=X.A) (e:=nth ds es) t t' (by rw [List.size_toArray,List.size_toArray,l1,l2,hl]) (by omega) (fun j g1 g2=>aHg I ds es b b' r r' (aMd (by omega)) j (by simpa using g1) (by simpa using g2))
   have e1:=aCm ds es
   rw [hl,Nat.min_self,beq_self_eq_true,Bool.and_true] at e1
   rw [List.size_toArray,l1,hl,e1] at z
   exact z _ _ _ _ ⟨.bl _,H,I,rfl,q⟩
  ·have z:=SeqAt.RcAt.lists_lengths (A:=X.A) t t' (by rw [List.size_toArray,List.size_toArray,l1,l2]; simpa using hl) (by omega)
   have e1:=aCm ds es
   rw [show (ds.length==es.length)=false from by simpa using hl,Bool.and_false] at e1
   have e2:deq (.lst ds) (.lst es)=false:=by show aRn ds es=false; exact e1.symm
   rw [e2] at q
   exact z _ _ _ _ ⟨.bl _,H,I,rfl,q⟩
theorem bAr (hu:X.A.units+64 < cLine):OpR X (compareOp .NotEq) rNeD:=by
 intro pins s σ H x y v u Q I rx ry h
 obtain ⟨d,e,h1,h2,hd,k,q⟩:=h
 rcases k with ⟨ds,es,rfl,rfl⟩ | ⟨ds,es,rfl,rfl⟩
 ·obtain ⟨p,vs,rfl,a,b⟩:=h1
  obtain ⟨p',ws,rfl,a',b'⟩:=h2
  cases rx
  cases ry
  obtain ⟨its,r,t⟩:=aDr I a
  obtain ⟨its',r',t'⟩:=aDr I a'
  have z:=SeqAt.RcNeAt.tuples (A:=X.A) (e:=nth ds es) t t' (by omega) (fun j g1 g2=>aHg I ds es b b' r r' (aMc (by omega)) j (by simpa using g1) (by simpa using g2))
  have l1:its.length=ds.length:=by rw [b.length,r.length]
  have l2:its'.length=es.length:=by rw [b'.length,r'.length]
  rw [List.size_toArray,List.size_toArray,l1,l2,aCm] at z
  exact z _ _ _ _ ⟨.bl _,H,I,rfl,q⟩
 ·obtain ⟨p,vs,rfl,a,b⟩:=h1
  obtain ⟨p',ws,rfl,a',b'⟩:=h2
  cases rx
  cases ry
  obtain ⟨its,r,t⟩:=aD6 I a
  obtain ⟨its',r',t'⟩:=aD6 I a'
  have l1:its.length=ds.length:=by rw [b.length,r.length]
  have l2:its'.length=es.length:=by rw [b'.length,r'.length]
  by_cases hl:ds.length=es.length
  ·have z:=SeqAt.RcNeAt.lists (A:=X.A) (e:=nth ds es) t t' (by rw [List.size_toArray,List.size_toArray,l1,l2,hl]) (by omega) (fun j g1 g2=>aHg I ds es b b' r r' (aMd (by omega)) j (by simpa using g1) (by simpa using g2))
   have e1:=aCm ds es
   rw [hl,Nat.min_self,beq_self_eq_true,Bool.and_true] at e1
   rw [List.size_toArray,l1,hl,e1] at z
   exact z _ _ _ _ ⟨.bl _,H,I,rfl,q⟩
  ·have z:=SeqAt.RcNeAt.lists_lengths (A:=X.A) t t' (by rw [List.size_toArray,List.size_toArray,l1,l2]; simpa using hl) (by omega)
   have e1:=aCm ds es
   rw [show (ds.length==es.length)=false from by simpa using hl,Bool.and_false] at e1
   have e2:deq (.lst ds) (.lst es)=false:=by show aRn ds es=false; exact e1.symm
   rw [e2] at q
   exact z _ _ _ _ ⟨.bl _,H,I,rfl,q⟩
noncomputable def aWa:R2:=fun x y H Q=>rEq x y H Q∨rEqD x y H Q
noncomputable def rNeA:R2:=fun x y H Q=>rNe x y H Q∨rNeD x y H Q
theorem aD3 (hu:X.A.units+64 < cLine):OpR X (compareOp .Eq) aWa:=op_eq.or (bAt hu)
theorem aM8 (hu:X.A.units+64 < cLine):OpR X (compareOp .NotEq) rNeA:=op_ne.or (bAr hu)
end
section
variable {H:Hp} {Q:VK} {i j:Int} {b c:Bool} {x y:Str} {u v:V}
theorem e_int (k:Q (.bl (decide (i=j))) H):aWa (.int i) (.int j) H Q:=.inl (r_eqI k)
theorem n_int (k:Q (.bl (!decide (i=j))) H):rNeA (.int i) (.int j) H Q:=.inl (r_neI k)
theorem n_bl (k:Q (.bl (!(b==c))) H):rNeA (.bl b) (.bl c) H Q:=.inl (r_neB k)
theorem e_str (k:Q (.bl (x==y)) H):aWa (.str x) (.str y) H Q:=.inl ⟨rfl,by rw [aMh]; exact k⟩
theorem aXi {ds es:List Dt} (h1:Den H (.lst ds) u) (h2:Den H (.lst es) v) (hd:aHo ds<=50) (k:Q (.bl (aRn ds es)) H):aWa u v H Q :=
 .inr ⟨_,_,h1,h2,by simp [dep]; omega,.inr ⟨_,_,rfl,rfl⟩,k⟩
theorem den2 {p:Addr} {a b:Int} (h:H p=some (.tup [.int a,.int b])):Den H (.tup [.int a,.int b]) (.ref p):=⟨p,_,rfl,h,_,_,rfl,rfl,_,_,rfl,rfl,rfl⟩
end
end L2
namespace L2
open PySem PySem.Spec PyProof.Rows
section
variable {X:Cx} {K:PySem.W.Frag} {H H':Hp} {Q:VK} {i j:Int} {σ:St}
noncomputable def bAg:R2:=fun x y H Q=>∃ i j,x=.str i/\y=.str j/\i.length+j.length<=sizeLine/\Q (.str (i++j)) H
theorem aWs:OpR X (binaryOp .Add) bAg:=aN3
noncomputable def aS1 (K:PySem.W.Frag):R2:=fun x y H Q=>rI0 (fun i j=>.int (i+j)) x y H Q∨rCat x y H Q∨bAf K x y H Q∨bAg x y H Q
theorem aAy:OpR X (binaryOp .Add) (aS1 X.K):=bAv.or (bAu.or (aWr.or aWs))
theorem a_int (k:Q (.int (i+j)) H):aS1 K (.int i) (.int j) H Q:=.inl (r_I0 k)
theorem bB9 {p q:Addr} {xs ys:List V} (h1:H p=some (.lst xs)) (h2:H q=some (.lst ys)) (hl:xs.length+ys.length<=1000) (k:∀ l,H l=none->Q (.ref l) (upd H l (.lst (xs++ys)))):aS1 K (.ref p) (.ref q) H Q :=
 .inr (.inl ⟨p,q,xs,ys,rfl,rfl,h1,h2,aI1 hl,k⟩)
noncomputable def aPr (K:PySem.W.Frag):List V->Hp->VK->Prop:=fun xs H Q=>∃ p ys,xs=[.ref p]/\(SqL K H p ys∨SqT K H p ys)/\∀ l,H l=none->Q (.ref l) (upd H l (.lst ys))
theorem aRy:aEc X (.type "list") (aPr X.K):=aKr
theorem aW6 {p:Addr} {xs:List V} (h:H p=some (.lst xs)) (k:∀ l,H l=none->Q (.ref l) (upd H l (.lst xs))):aPr K [.ref p] H Q:=⟨p,xs,rfl,.inl (SqL.of h),k⟩
noncomputable def bAp (R:Option Int->Hp->Prop):VK:=fun x H1=>∃ i,x=.int i/\R (some i) H1
theorem aY7 {t:TE} {R:Option Int->Hp->Prop} (k:t σ H (bAp R)):aYe t σ H R:=k
theorem aVv {R:Option Int->Hp->Prop} (k:R (some i) H):bAp R (.int i) H:=⟨i,rfl,k⟩
theorem aSw {R:Option Int->Hp->Prop} (k:R none H):aOx σ H R:=k
theorem r_sl {r:V->Option Int->Option Int->Hp->VK->Prop} {te:TE} {tl th:TO} (k:te σ H fun x H1=>tl σ H1 fun l H2=>th σ H2 fun u H3=>r x l u H3 Q):tSl r te tl th σ H Q:=k
theorem aAl {H:Hp} {q b:Addr} {o u:HO} (hq:H q=none) (h:H b=some u):upd H q o b=some u:=by rw [aAu (aAe h hq)]; exact h
end
end L2
namespace L2
open PySem PySem.Spec PyProof.Rows
noncomputable def aBp (X:Cx) (scope:Scope) (cl:List (Str×Addr)) (N:List Str) (C:Addr) (s0:Shared) (H0:Hp) (ex:List Addr):Cx :=
 { X with N:=N,s₀:=s0,H₀:=H0,env:=compEnvC scope cl C X.env,outer:=X.stack,stack:=X.stack,ex:=ex,fn:=fun _=>false,pn:=[],xe:=fun _ _=>False }
noncomputable def aBk (env:Env) (names:List Str):List (Str×Addr):=names.filterMap fun n=>(env.cells.lookup n).map fun c=>(n,c)
theorem aEl {env:Env}:∀ {names:List Str} {x:Str} {c:Addr},(aBk env names).lookup x=some c->env.cells.lookup x=some c
 | [],x,c,h=>by simp [aBk] at h
 | n::r,x,c,h=>by
  unfold aBk at h
  rw [List.filterMap_cons] at h
  cases e:env.cells.lookup n with
  | none =>
   rw [e] at h
   exact aEl (names:=r) h
  | some d =>
   rw [e] at h
   have h':List.lookup x ((n,d)::aBk env r)=some c:=h
   rw [List.lookup_cons] at h'
   by_cases hx:x=n
   ·subst hx
    rw [beq_self_eq_true] at h'
    cases h'
    exact e
   ·rw [beq_eq_false_iff_ne.mpr hx] at h'
    exact aEl (names:=r) h'
theorem aF3 {env:Env}:∀ {names:List Str} {x:Str} {c:Addr},x∈names->env.cells.lookup x=some c->(aBk env names).lookup x=some c
 | [],x,c,h,_=>by cases h
 | n::r,x,c,h,e=>by
  unfold aBk
  rw [List.filterMap_cons]
  by_cases hx:x=n
  ·subst hx
   rw [e]
   show List.lookup x ((x,c)::_)=some c
   rw [List.lookup_cons,beq_self_eq_true]
  ·have hr:x∈r:=(List.mem_cons.mp h).resolve_left hx
   have ih:=aF3 (env:=env) hr e
   cases e2:env.cells.lookup n with
   | none=>exact ih
   | some d =>
    show List.lookup x ((n,d)::aBk env r)=some c
    rw [List.lookup_cons,beq_eq_false_iff_ne.mpr hx]
    exact ih
noncomputable def aMj (σ:St) (is:List Nat):St:=is.map fun i=>(σ[i]?).join
noncomputable def aJe (te:TE) (tc:Option TT) (g:TG) (ts:St) (caps:St) (Q:VK):It->Hp->Prop:=fun J H1=>∀ acc,H1 acc=none ->
 ∃ W:Nat->Nat->List V->Hp->Prop,(∃ m,W 0 m [] (upd H1 acc (.lst [])))/\∀ i m ys H,W i m ys H ->
  H acc=some (.lst ys)/\((J.stop i H/\Q (.ref acc) H)∨(ys.length < sizeLine/\J.go i H/\∀ (us:St) x H',us.length=ts.length->J.yld i H x H'->g x (us++caps) H' fun σ2 H2 =>
   (∃ us2,us2.length=ts.length/\σ2=us2++caps) /\
   let made:=te σ2
   let next:=fun y H3=>H3 acc=some (.lst ys)/\∃ m',m' < m/\W (i+1) m' (ys++[y]) (upd H3 acc (.lst (ys++[y])))
   match tc with
   | none=>made H2 next
   | some c=>c σ2 H2 fun b H3=>if b=true then made H3 next else ∃ m',m' < m/\W (i+1) m' ys H3))
noncomputable def aSj (wi:TI) (te:TE) (tc:Option TT) (g:TG) (k:Nat) (is:List Nat):TE:=fun σ H Q=>wi σ H (aJe te tc g (List.replicate k none) (aMj σ is) Q)
section
variable {X:Cx} {scope:Scope} {N tn names:List Str} {is:List Nat} {elt iter tg:Expr} {ifs:List Expr} {pos:Pos} {wi:TI} {te:TE} {tc:Option TT} {g:TG}
structure aIf (X:Cx) (scope:Scope) (tn names:List Str) (is:List Nat):Prop where
 cls:(∀ x∈names,∃ c,X.env.cells.lookup x=some c)->closureFor scope X.env=pure (aBk X.env names)
 nocell:∀ y∈scope.names,y.2≠.cell
 kind:scope.kind=.function
 nms:∀ y∈scope.names,y.2=.local->scope.names.lookup y.1=some .local
 slots:∀ (j i:Nat) (x:Str),is[j]?=some i->names[j]?=some x->X.N[i]?=some x
 len:is.length=names.length
 outk:∀ x∈names,X.env.kindOf x=some .cell∨X.env.kindOf x=some .free
 ink:∀ x∈names,(relabel scope X.env).names.lookup x=some .cell∨(relabel scope X.env).names.lookup x=some .free
 free:∀ x,((relabel scope X.env).names.lookup x=some .cell∨(relabel scope X.env).names.lookup x=some .free)->x∈names
theorem aF2 {env:Env}:∀ (l:List (Str×NameKind)) (acc:List (Str×Addr)),(∀ x∈(l.filter fun y=>y.2==.free).map (·.1),∃ c,env.cells.lookup x=some c) ->
  (forIn l acc fun (x:Str×NameKind) (cs:List (Str×Addr))=>(if (x.2==.free)=true then (do let a ← cellOf env x.1; pure (ForInStep.yield ((x.1,a)::cs))) else pure (ForInStep.yield cs)):Sem (List (Str×Addr)))
   = pure ((((l.filter fun y=>y.2==.free).map (·.1)).reverse.filterMap fun n=>(env.cells.lookup n).map fun c=>(n,c))++acc)
 | [],acc,_=>rfl
 | (n,k)::r,acc,h=>by
  rw [List.forIn_cons]
  by_cases hk:(k==NameKind.free)=true
  ·have hf:((n,k)::r).filter (fun y=>y.2==.free)=(n,k)::r.filter fun y=>y.2==.free:=by rw [List.filter_cons]; exact if_pos hk
   rw [hf] at h ⊢
   obtain ⟨c,e⟩:=h n (by simp)
   have e1:cellOf env n=pure c:=by unfold cellOf; rw [e]
   show (((if (k==NameKind.free)=true then (do let a ← cellOf env n; pure (ForInStep.yield ((n,a)::acc))) else pure (ForInStep.yield acc)):Sem _) >>= _)=_
   rw [if_pos hk,e1]
   have ih:=aF2 r ((n,c)::acc) fun x hx=>h x (by simp at hx ⊢; exact .inr hx)
   have e2:(((n,k)::r.filter fun y=>y.2==.free).map (·.1)).reverse.filterMap (fun n=>(env.cells.lookup n).map fun c=>(n,c))=((r.filter fun y=>y.2==.free).map (·.1)).reverse.filterMap (fun n=>(env.cells.lookup n).map fun c=>(n,c))++[(n,c)]:=by
    rw [List.map_cons,List.reverse_cons,List.filterMap_append,List.filterMap_cons,e]
    rfl
   rw [e2,List.append_assoc]
   exact ih
  ·have hf:((n,k)::r).filter (fun y=>y.2==.free)=r.filter fun y=>y.2==.free:=by rw [List.filter_cons]; exact if_neg hk
   rw [hf] at h ⊢
   show (((if (k==NameKind.free)=true then (do let a ← cellOf env n; pure (ForInStep.yield ((n,a)::acc))) else pure (ForInStep.yield acc)):Sem _) >>= _)=_
   rw [if_neg hk]
   exact aF2 r acc h
theorem aHi {scope:Scope} {env:Env} {names:List Str} (hn:((scope.names.filter fun y=>y.2==.free).map (·.1)).reverse=names) (h:∀ x∈names,∃ c,env.cells.lookup x=some c) :
  closureFor scope env=pure (aBk env names):=by
 unfold closureFor aBk
 have q:=aF2 (env:=env) scope.names [] fun x hx=>h x (by rw [← hn]; exact List.mem_reverse.mpr hx)
 rw [hn,List.append_nil] at q
 show (_ >>= fun r=>pure r)=_
 have q2:(forIn scope.names ([]:List (Str×Addr)) fun (x:Str×NameKind) (cs:List (Str×Addr))=>match x with
   | (name,kind)=>(if (kind==.free)=true then (do let a ← cellOf env name; pure (ForInStep.yield ((name,a)::cs))) else pure (ForInStep.yield cs)):Sem (List (Str×Addr)))=pure (names.filterMap fun n=>(env.cells.lookup n).map fun c=>(n,c)):=q
 first
  | exact (congrArg (fun z=>z >>= fun r=>pure r) q2)
  | simpa using q2
noncomputable def aSv (scope sc:Scope):Scope:={ scope with names:=scope.names.map fun (n,k)=>if (k==.free&&sc.kind==.function&&sc.names.lookup n==some .cell) then (n,.cell) else (n,k) }
theorem aC6 {X:Cx} {scope sc:Scope} {N tn names:List Str} {is:List Nat} (hsc:X.env.scope=sc) (hN:X.N=N) (h1:((scope.names.filter fun y=>y.2==.free).map (·.1)).reverse=names) (h2:∀ y∈scope.names,y.2≠.cell) (h3:scope.kind=.function)
  (h4:∀ y∈scope.names,y.2=.local->scope.names.lookup y.1=some .local) (h5:(is.map fun i=>N[i]?)=names.map some) (h6:∀ x∈names,sc.names.lookup x=some .cell∨sc.names.lookup x=some .free)
  (h7:∀ x∈names,(aSv scope sc).names.lookup x=some .cell∨(aSv scope sc).names.lookup x=some .free) (h8:∀ y∈(aSv scope sc).names,(y.2=.cell∨y.2=.free)->y.1∈names):aIf X scope tn names is:=by
 subst hsc hN
 have hr:relabel scope X.env=aSv scope X.env.scope:=rfl
 refine ⟨aHi h1,h2,h3,h4,fun j i x e1 e2=>?_,?_,h6,?_,fun x hx=>?_⟩
 ·have q:=congrArg (fun l=>l[j]?) h5
  simp only [List.getElem?_map,e1,e2,Option.map_some] at q
  exact Option.some.inj q
 ·have q:=congrArg List.length h5
  simpa using q
 ·rw [hr]; exact h7
 ·rw [hr] at hx
  have mem:∀ {l:List (Str×NameKind)} {k:NameKind},l.lookup x=some k->(x,k)∈l:=fun {l} {k}=>by
   induction l with
   | nil=>intro e; cases e
   | cons y r ih =>
    intro e
    obtain ⟨n,k'⟩:=y
    rw [List.lookup_cons] at e
    by_cases hx:x=n
    ·subst hx
     rw [beq_self_eq_true] at e
     cases e
     exact List.mem_cons_self
    ·rw [beq_eq_false_iff_ne.mpr hx] at e
     exact List.mem_cons_of_mem _ (ih e)
  rcases hx with hx | hx
  ·exact h8 _ (mem hx) (.inl rfl)
  ·exact h8 _ (mem hx) (.inr rfl)
theorem aXp {X:Cx} {scope:Scope} {tn names:List Str} {is:List Nat} (C:aIf X scope tn names is) {pins:List (Addr×Obj)} {σ:St} {H:Hp} {s:Shared} (I:Inv X pins σ H s) {acc:Addr} {fp:List Addr}
  {s3:Shared} {h1:Heap} {t4:Nat} (I3:Inv X pins σ (upd H acc (.lst [])) s3) (hf:∀ b∈fp,aOl X pins H b) (hfl:∀ b∈fp,b < s3.heap.objs.size) (hacc:∀ b∈fp,b≠acc)
  (ns:h1.Ns s3.heap.objs.size fun _=>none) (kp:∀ b o,s3.heap.get? b=some o->h1.get? b=some o) :
  Inv (aBp X scope (aBk X.env names) (tn++names) s3.heap.objs.size s3 (upd H acc (.lst [])) fp) [] (List.replicate tn.length none++aMj σ is) (upd H acc (.lst [])) { s3 with heap:=h1,toks:=t4 }:=by
 have ok:=I3.ok
 have hC:∀ x c,(aBk X.env names).lookup x=some c->X.env.cells.lookup x=some c:=fun x c h=>aEl h
 have cellLt:∀ x c,X.env.cells.lookup x=some c->c < s3.heap.objs.size:=fun x c e=>let ⟨v,z⟩:=I3.cell x c e; z.lt
 refine ⟨⟨ok.mod,?_,ok.glob,ok.blt,Nat.le_refl _,fun x y c a b=>ok.inj x y c (hC _ _ a) (hC _ _ b),fun x hx=>?_,fun _ _ z=>absurd z (by simp [aBp]),ok.hd,ok.frames,.inl rfl,fun b hb=>?_,fun b o e=>I3.bs b o e,Nat.le_trans ok.bsz I3.sz,fun b o e hb=>?_,fun b hb z=>?_,I3.stack,fun b hb=>I3.stkFree b hb⟩,
  rfl,I3.bare,Un.kept kp,⟨_,ns,fun i x v e1 e2 e3=>?_⟩,fun x c e=>?_,?_,fun x c e=>I3.freeC x c (hC _ _ e),fun p hp=>absurd hp (by simp [aBp]),I3.hok.kept kp,?_⟩
 ·show (relabel scope X.env).kind=.function
  exact C.kind
 ·have hm:=C.free x hx
  obtain ⟨c,e⟩:=ok.has x (C.outk x hm)
  exact ⟨c,aF3 hm e⟩
 ·refine ⟨Nat.ne_of_lt (hfl b hb),fun x c e=>(hf b hb).2.2.2.2.1 x c (hC _ _ e)⟩
 ·rcases (hf b hb).2.2.2.1 with z | z
  ·exact ok.noex b o e z
  ·have:=Nat.lt_of_lt_of_le (Heap.lt_size e) ok.bsz
   omega
 ·have:=I3.stkSub b z
  rcases List.mem_cons.mp this with q | q
  ·exact (hf b hb).2.1 q
  ·exact (hf b hb).2.2.1 q
 ·by_cases hi:i < tn.length
  ·rw [List.getElem?_append_left (by rw [List.length_replicate]; exact hi),List.getElem?_replicate] at e2
   rw [if_pos hi] at e2
   cases e2
  ·have e1:(tn++names)[i]?=some x:=e1
   rw [List.getElem?_append_right (by omega)] at e1
   rw [List.getElem?_append_right (by rw [List.length_replicate]; omega),List.length_replicate] at e2
   generalize hj:i - tn.length=j at e1 e2
   unfold aMj at e2
   rw [List.getElem?_map] at e2
   cases e4:is[j]? with
   | none=>rw [e4] at e2; cases e2
   | some i0 =>
    rw [e4] at e2
    have e5:(σ[i0]?).join=some v:=Option.some.inj e2
    have e6:σ[i0]?=some (some v):=by
     cases q:σ[i0]? with
     | none=>rw [q] at e5; cases e5
     | some o=>rw [q] at e5; exact congrArg some e5
    have hx:x∈names:=List.mem_of_getElem? e1
    obtain ⟨m,hm,look⟩:=I3.loc
    have hv:Vis X.env.scope x:=by
     rcases C.outk x hx with q | q
     ·exact .inr (.inl q)
     ·exact .inr (.inr q)
    obtain ⟨u,ru,lk⟩:=look i0 x v (C.slots j i0 x e4 e1) e6 hv
    refine ⟨u,ru,.inr ⟨C.ink x hx,?_⟩⟩
    rcases lk with ⟨q,_⟩ | ⟨_,c,ec,z⟩
    ·rcases C.outk x hx with q' | q' <;> (rw [q] at q'; cases q')
    ·exact ⟨c,aF3 hx ec,let ⟨o,a,b⟩:=z; ⟨o,kp _ _ a,b⟩⟩
 ·obtain ⟨v,o,a,b⟩:=I3.cell x c (hC _ _ e)
  exact ⟨v,o,kp _ _ a,b⟩
 ·exact I3.hok.fresh (Nat.le_refl _)
 ·show (List.replicate tn.length none++aMj σ is).length=(tn++names).length
  rw [List.length_append,List.length_append,List.length_replicate]
  unfold aMj
  rw [List.length_map,C.len]
theorem aKp {prog:Program} {w:World} {A:Around} {R:Result->Shared->Prop} {s:Shared} {elt target iter:Expr} {ifs:List Expr} {scope:Scope} {pos:Pos} {it acc:Value} {env:Env} (I:Nat->Shared->Prop)
  (turn:∀ n s,I n s->wpAny (model prog w) A (pyNext it) (fun r s₁=>match r with
   | none=>R (.ok .next) s₁
   | some v=>wpAny (model prog w) A (letOwnedTupleGo target it v) (fun _ s₁'=>wpAny (model prog w) A (assign target env v) (fun _ s₂ =>
     wpAny (model prog w) A (forIn ifs true fun c r=>if r=true then do let ok ← isTrue c env (eval c env); pure (ForInStep.yield ok) else pure (ForInStep.yield r)) (fun ok s₃ =>
      if ok=true then wpAny (model prog w) A (eval elt env) (fun x s₄ =>
       wpAny (model prog w) A (call (.builtin "list.append") [acc,x]) (fun _ s₅=>∃ m,m < n/\I m s₅) (fun _ _=>False) s₄) (fun _ _=>False) s₃
      else ∃ m,m < n/\I m s₃) (fun _ _=>False) s₂) (fun _ _=>False) s₁') (fun _ _=>False) s₁) (fun _ _=>False) s)
  (n:Nat) (h:I n s) :
  codeAny (model prog w) A (.compLoop (.ListComp elt [⟨target,iter,ifs,0⟩] scope pos) 0 it acc env) R s:=by
 refine codeAny_loop rfl I (fun n s hI=>?_) n h
 show wpAny _ A ((compTurn (.ListComp elt [⟨target,iter,ifs,0⟩] scope pos) 0 it acc env).onRaise (fun x=>do noteFrame x env; theTreesLotGoes x)) _ _ s
 refine wpAny_noted ?_
 rw [compTurn_list]
 refine wpAny_bind (wpAny_standAt (wpAny_bind (wpAny_mono (turn n s hI) (fun r s₁ h₁=>?_) fun _ _ h'=>h'.elim)))
 cases r with
 | none=>exact wpAny_pure h₁
 | some v =>
  refine wpAny_bind (wpAny_mono h₁ (fun _ s₁' h₁'=>?_) fun _ _ h'=>h'.elim)
  refine wpAny_bind (wpAny_mono h₁' (fun _ s₂ h₂=>wpAny_bind (wpAny_mono h₂ (fun ok s₃ h₃=>?_) fun _ _ h'=>h'.elim)) fun _ _ h'=>h'.elim)
  cases ok with
  | false=>exact wpAny_pure ⟨rfl,h₃⟩
  | true =>
   exact wpAny_bind (wpAny_bind (wpAny_mono h₃ (fun x s₄ h₄=>wpAny_bind (wpAny_mono h₄ (fun _ s₅ h₅=>wpAny_pure (wpAny_pure ⟨rfl,h₅⟩)) fun _ _ h'=>h'.elim)) fun _ _ h'=>h'.elim))
noncomputable def PTs (X':Cx) (ifs:List Expr) (tc:Option TT):Prop:=match ifs,tc with
 | [],none=>True
 | [c],some t=>PT X' c t
 | _,_=>False
theorem aCs {X':Cx}:PTs X' [] none:=trivial
theorem aWb {X':Cx} {c:Expr} {t:TT} (h:PT X' c t):PTs X' [c] (some t):=h
structure TurnG (ok:Cx->Prop) (P:Program) (w:World) (K:PySem.W.Frag) (tg:Expr) (J:It) (fp:List Addr) (it:Addr) (tn:Nat->Heap->Prop):Prop where
 mem:it∈fp
 obj:∀ i h,tn i h->∀ b∈fp,∃ o,h.get? b=some o/\∀ v,o.data≠.cell v
 keep:∀ i h h',tn i h->(∀ b∈fp,∀ o,h.get? b=some o->h'.get? b=some o)->tn i h'
 item:∀ (X:Cx),X.prog=P->X.w=w->X.K=K->ok X->∀ (i:Nat) (pins:List (Addr×Obj)) (s:Shared) (σ:St) (H:Hp) (E:Value->Shared->Prop),Inv X pins σ H s->(∀ b∈fp,aOl X pins H b)->tn i s.heap->J.go i H ->
  wpAny (model P w) X.A (pyNext (.ref it)) (fun r s1=>∃ u,r=some u/\wpAny (model P w) X.A (letOwnedTupleGo tg (.ref it) u) (fun _ s2=>∃ x H',Inv X pins σ H' s2/\aBr x u/\J.yld i H x H'/\tn (i+1) s2.heap/\∀ b∈fp,H' b=none) E s1) E s
 done:∀ (X:Cx),X.prog=P->X.w=w->X.K=K->ok X->∀ (i:Nat) (pins:List (Addr×Obj)) (s:Shared) (σ:St) (H:Hp) (E:Value->Shared->Prop),Inv X pins σ H s->(∀ b∈fp,aOl X pins H b)->tn i s.heap->J.stop i H ->
  wpAny (model P w) X.A (pyNext (.ref it)) (fun r s1=>r=none/\Inv X pins σ H s1) E s
 self:∀ (A:Around) (i:Nat) (s:Shared) (Q:Value->Shared->Prop) (E:Value->Shared->Prop),tn i s.heap->Q (.ref it) s->wpAny (model P w) A (pyIter (.ref it)) Q E s
noncomputable def PIEG (ok:Cx->Prop) (X:Cx) (pins:List (Addr×Obj)) (σ:St) (tg:Expr) (R:It->Hp->Prop) (itv:Value) (s2:Shared):Prop :=
 ∃ (it:Addr) (fp:List Addr) (tn:Nat->Heap->Prop) (J:It) (H':Hp),itv=.ref it/\Inv X pins σ H' s2/\TurnG ok X.prog X.w X.K tg J fp it tn/\tn 0 s2.heap/\(∀ b∈fp,aOl X pins H' b)/\R J H'
theorem bAl {X:Cx} {pins:List (Addr×Obj)} {σ:St} {tg:Expr} {R:It->Hp->Prop} {itv:Value} {s2:Shared} (h:PIE X pins σ tg R itv s2):PIEG (fun X=>X.calm=true) X pins σ tg R itv s2 :=
 let ⟨it,fp,tn,J,H',a,b,T,c,d,e⟩:=h; ⟨it,fp,tn,J,H',a,b,⟨T.mem,T.obj,T.keep,T.item,T.done,T.self⟩,c,d,e⟩
theorem aNj {X:Cx} {ok:Cx->Prop} {scope:Scope} {tn names:List Str} {is:List Nat} (ck:aIf X scope tn names is) (hc:∀ C s0 H0 ex,ok (aBp X scope (aBk X.env names) (tn++names) C s0 H0 ex)) {elt tg iter:Expr} {ifs:List Expr} {pos:Pos} {te:TE} {tc:Option TT} {g:TG}
  (hg:∀ C s0 H0 ex,PG (aBp X scope (aBk X.env names) (tn++names) C s0 H0 ex) tg g) (he:∀ C s0 H0 ex,PE (aBp X scope (aBk X.env names) (tn++names) C s0 H0 ex) elt te)
  (ht:∀ C s0 H0 ex,PTs (aBp X scope (aBk X.env names) (tn++names) C s0 H0 ex) ifs tc)
  {pins:List (Addr×Obj)} {σ:St} {Q:VK} {s2:Shared} {itv:Value} {E:Value->Shared->Prop} (h2:PIEG ok X pins σ tg (aJe te tc g (List.replicate tn.length none) (aMj σ is) Q) itv s2) {RR:Value->Addr->Result->Shared->Prop}
  (fin:∀ (acc C:Addr) (H':Hp) (s':Shared) (m:Str->Option Value),Inv X pins σ H' s'->s'.heap.Ns C m->H' C=none->C≠X.env.locals->(∀ x c,X.env.cells.lookup x=some c->c≠C)->(∀ p∈X.pn++pins,p.1≠C)->X.s₀.heap.objs.size<=C->Q (.ref acc) H' ->
   RR (.ref acc) C (.ok .next) s') :
  wpAny (model X.prog X.w) X.A (newList []) (fun acc s₃=>wpAny (model X.prog X.w) X.A (newFunctionEnv scope X.env.globals (aBk X.env names) [] X.env.qual none .none (some X.env)) (fun cenv s₄ =>
   codeAny (model X.prog X.w) X.A (.compStart (.ListComp elt [⟨tg,iter,ifs,0⟩] scope pos) 0 itv acc { cenv with scope:=relabel scope X.env }) (RR acc cenv.locals) s₄) E s₃) E s2:=by
 obtain ⟨it,fp,tnx,J,H2,rfl,I2,T,st2,f2,hK⟩:=h2
 have facc:H2 s2.heap.objs.size=none:=I2.hok.fresh (Nat.le_refl _)
 refine wpAny_newObj_type ?_ (by show 0<=sizeLine; decide)
 have fpl:∀ b∈fp,b < s2.heap.objs.size:=fun b hb=>let ⟨o,e,_⟩:=T.obj 0 _ st2 b hb; Heap.lt_size e
 generalize hs3:({ s2 with heap:=s2.heap.push { cls:=.type "list",data:=.seq ([]:List Value).toArray } }:Shared)=s3
 have hsz3:s3.heap.objs.size=s2.heap.objs.size+1:=by rw [← hs3]; exact Heap.size_push ..
 have keep23:∀ b o,s2.heap.get? b=some o->s3.heap.get? b=some o:=fun b o e=>by rw [← hs3]; exact Heap.get?_push_of_some _ e
 have I3:Inv X pins σ (upd H2 s2.heap.objs.size (.lst [])) s3:=by
  rw [← hs3]
  exact I2.laid (t':=s2.toks) (fun b u e=>Heap.get?_push_of_some _ e) (Nat.le_refl _) ⟨Nat.zero_le _,[],0,.nil,Heap.get?_push_size _ rfl⟩
 refine wpAny_newFunctionEnv ck.nocell (by intro y hy; simp at hy) (fun h1 ns sb=>?_) ck.kind
 have kp:∀ b o,s3.heap.get? b=some o->h1.get? b=some o:=fun b o e=>sb.extBut b o (Nat.ne_of_lt (Heap.lt_size e)) (Heap.get?_push_of_some _ e)
 have lt3:∀ b:Addr,b < s2.heap.objs.size->b < s3.heap.objs.size:=fun b hb=>Nat.lt_of_lt_of_le hb (by rw [hsz3]; exact Nat.le_succ _)
 have ns':h1.Ns s3.heap.objs.size fun _=>none:=ns
 have I4:=aXp (t4:=s3.toks+([]:List (Str×Value)).length) ck I2 I3 f2 (fun b hb=>lt3 b (fpl b hb)) (fun b hb=>Nat.ne_of_lt (fpl b hb)) ns' kp
 generalize hX':aBp X scope (aBk X.env names) (tn++names) s3.heap.objs.size s3 (upd H2 s2.heap.objs.size (.lst [])) fp=X' at I4
 have hA:X'.A=X.A:=by rw [← hX']; rfl
 have hP:X'.prog=X.prog:=by rw [← hX']; rfl
 have hW:X'.w=X.w:=by rw [← hX']; rfl
 have hKK:X'.K=X.K:=by rw [← hX']; rfl
 have hcm:ok X':=by rw [← hX']; exact hc _ _ _ _
 have hfs:X'.fs=frs X.stack:=by rw [← hX']; rfl
 have hex:X'.ex=fp:=by rw [← hX']; rfl
 have hloc:X'.env.locals=s3.heap.objs.size:=by rw [← hX']; rfl
 have hs0:X'.s₀=s3:=by rw [← hX']; rfl
 have hH0:X'.H₀=upd H2 s2.heap.objs.size (.lst []):=by rw [← hX']; rfl
 have hxe:X'.xe=fun _ _=>False:=by rw [← hX']; rfl
 have henv:X'.env=compEnvC scope (aBk X.env names) s3.heap.objs.size X.env:=by rw [← hX']; rfl
 have hg':PG X' tg g:=by rw [← hX']; exact hg _ _ _ _
 have he':PE X' elt te:=by rw [← hX']; exact he _ _ _ _
 have ht':PTs X' ifs tc:=by rw [← hX']; exact ht _ _ _ _
 have cells':∀ x c,X'.env.cells.lookup x=some c->X.env.cells.lookup x=some c:=fun x c e=>by rw [henv] at e; exact aEl e
 obtain ⟨W,⟨m0,w0⟩,turn⟩:=hK _ facc
 have stat:∀ {H':Hp},(∀ b∈fp,H' b=none)->∀ b∈fp,aOl X' [] H' b:=fun {H'} hn b hb=>by
  refine ⟨hn b hb,?_,?_,.inl (by rw [hex]; exact hb),fun x c e=>(f2 b hb).2.2.2.2.1 x c (cells' x c e),fun p hp=>?_⟩
  ·rw [hloc]; exact Nat.ne_of_lt (lt3 b (fpl b hb))
  ·rw [hfs]
   intro z
   rcases List.mem_cons.mp (I2.stkSub b z) with q | q
   ·exact (f2 b hb).2.1 q
   ·exact (f2 b hb).2.2.1 q
  ·rw [← hX'] at hp
   exact absurd hp (by simp [aBp])
 have loop:∀ s4:Shared,Inv X' [] (List.replicate tn.length none++aMj σ is) (upd H2 s2.heap.objs.size (.lst [])) s4->tnx 0 s4.heap ->
   codeAny (model X.prog X.w) X.A (.compLoop (.ListComp elt [⟨tg,iter,ifs,0⟩] scope pos) 0 (.ref it) (.ref s2.heap.objs.size) X'.env) (RR (.ref s2.heap.objs.size) s3.heap.objs.size) s4:=by
  intro s4 J4 st4
  refine aKp (fun n s'=>∃ i ys ts H',Inv X' [] (ts++aMj σ is) H' s'/\ts.length=tn.length/\tnx i s'.heap/\(∀ b∈fp,H' b=none)/\W i n ys H') ?_ m0
   ⟨0,[],_,_,J4,List.length_replicate ..,st4,fun b hb=>by rw [aAu (Nat.ne_of_lt (fpl b hb))]; exact (f2 b hb).1,w0⟩
  rintro n s5 ⟨i,ys,ts,H5,I5,hts,st5,fr5,w5⟩
  obtain ⟨hacc5,hcase⟩:=turn i n ys H5 w5
  have hrun:∀ {α:Type} {m:Sem α} {Q':α->Shared->Prop} {s':Shared},wpAny (model X'.prog X'.w) X'.A m Q' (fun _ _=>False) s'->wpAny (model X.prog X.w) X.A m Q' (fun _ _=>False) s':=fun {α m Q' s'} z=>by
   rw [hP,hW,hA] at z; exact z
  rcases hcase with ⟨stop,qn⟩ | ⟨hlen,go,step⟩
  ·have z:=T.done X' hP hW hKK hcm i [] s5 _ H5 (fun _ _=>False) I5 (stat fr5) st5 stop
   rw [hA] at z
   refine thn z fun r s6 ⟨hr,I6⟩=>?_
   subst hr
   -- the frame around,behind the block
   have u23:Un (frs X.stack) fp H2 (upd H2 s2.heap.objs.size (.lst [])) s2.heap s3.heap:=Un.laid keep23 (Nat.le_refl _) facc
   have u36:Un (frs X.stack) fp (upd H2 s2.heap.objs.size (.lst [])) H5 s3.heap s6.heap:=by
    have b:=I6.base
    rw [hfs,hex,hs0,hH0] at b
    exact b
   have hos:s6.os=s2.os:=by
    have b:=I6.os
    rw [hs0,← hs3] at b
    exact b
   have IO:Inv X pins σ H5 s6:=I2.call' hos (u23.trans u36) (by have b:=I6.hok; rw [hP,hW] at b; exact b) I6.bare fun b hb=>by
    obtain ⟨_,f1,f2',f3,f4,f5⟩:=f2 b hb
    exact ⟨f3,f1,fun x c e=>f4 x c e,fun p hp=>f5 p hp⟩
   obtain ⟨m,hm,_⟩:=I6.loc
   rw [hloc] at hm
   have fC:H5 s3.heap.objs.size=none:=by have b:=I6.free; rw [hloc] at b; exact b
   refine fin _ _ H5 s6 m IO hm fC ?_ (fun x c e=>?_) (fun p hp=>?_) ?_ qn
   ·exact Nat.ne_of_gt (Nat.lt_of_lt_of_le I2.lt (by omega))
   ·obtain ⟨v,z⟩:=I2.cell x c e
    exact Nat.ne_of_lt (lt3 c z.lt)
   ·exact Nat.ne_of_lt (lt3 p.1 (Heap.lt_size (I2.pin p hp).1))
   ·exact Nat.le_trans I2.sz (by omega)
  ·have z:=T.item X' hP hW hKK hcm i [] s5 _ H5 (fun _ _=>False) I5 (stat fr5) st5 go
   rw [hA] at z
   refine thn z fun r s6 ⟨u,hr,h6⟩=>?_
   subst hr
   refine thn h6 fun _ s7 ⟨x,H7,I7,r7,y7,st7,fr7⟩=>?_
   have I7':=I7.pinned (stat fr7) (T.obj _ _ st7)
   have zg:=hg' _ s7 _ H7 x u _ I7' r7 (step ts x H7 (by rw [hts,List.length_replicate]) y7)
   rw [hxe] at zg
   refine thn (hrun zg) fun _ s8 ⟨σ8,H8,I8,⟨us2,hus,e8⟩,q8⟩=>?_
   subst e8
   rw [List.length_replicate] at hus
   have back:∀ {s9:Shared} {H9:Hp},Inv X' ([]++aG0 fp s7.heap) (us2++aMj σ is) H9 s9->tnx (i+1) s9.heap/\∀ b∈fp,H9 b=none:=fun {s9 H9} I9=>by
    refine ⟨T.keep _ _ _ st7 fun b hb o e=>(I9.pin (b,o) (List.mem_append_right _ (List.mem_append_right _ (aEi hb e)))).1,fun b hb=>?_⟩
    obtain ⟨o,e,d⟩:=T.obj _ _ st7 b hb
    exact (I9.pin (b,o) (List.mem_append_right _ (List.mem_append_right _ (aEi hb e)))).2.1
   have made:∀ {s9:Shared} {H9:Hp},Inv X' ([]++aG0 fp s7.heap) (us2++aMj σ is) H9 s9->te (us2++aMj σ is) H9 (fun y H3=>H3 s2.heap.objs.size=some (.lst ys)/\∃ m',m' < n/\W (i+1) m' (ys++[y]) (upd H3 s2.heap.objs.size (.lst (ys++[y])))) ->
     wpAny (model X.prog X.w) X.A (eval elt X'.env) (fun x s₄=>wpAny (model X.prog X.w) X.A (call (.builtin "list.append") [.ref s2.heap.objs.size,x]) (fun _ s₅=>∃ m,m < n/\∃ i ys ts H',Inv X' [] (ts++aMj σ is) H' s₅/\ts.length=tn.length/\tnx i s₅.heap/\(∀ b∈fp,H' b=none)/\W i m ys H') (fun _ _=>False) s₄) (fun _ _=>False) s9:=fun {s9 H9} I9 q9=>by
    have ze:=he' _ s9 _ H9 _ I9 q9
    rw [hxe] at ze
    refine thn (hrun ze) fun y s10 ⟨yv,H10,I10,ry,ha10,m',hm',w10⟩=>?_
    have za:=(aBs (X:=X')) ([]++aG0 fp s7.heap) s10 (us2++aMj σ is) H10 (.ref s2.heap.objs.size) [yv] (.ref s2.heap.objs.size) [y] (fun v H'=>v=.non/\H'=upd H10 s2.heap.objs.size (.lst (ys++[yv]))) I10 rfl (.cons ry .nil)
     ⟨_,ys,yv,rfl,rfl,ha10,hlen,rfl,rfl⟩
    rw [hxe] at za
    refine thn (hrun za) fun _ s11 ⟨_,H11,I11,_,_,e11⟩=>?_
    subst e11
    obtain ⟨b1,b2⟩:=back I11
    exact ⟨m',hm',i+1,_,us2,_,I11.unpinned,hus,b1,b2,w10⟩
   cases ifs with
   | nil =>
    cases tc with
    | some t=>exact ht'.elim
    | none=>exact wpAny_tests_nil (by rw [if_pos rfl]; exact made I8 q8)
   | cons c0 aDh =>
    cases aDh with
    | cons _ _=>cases tc <;> exact ht'.elim
    | nil =>
     cases tc with
     | none=>exact ht'.elim
     | some t =>
      have zt:=(show PT X' c0 t from ht') _ s8 _ H8 _ I8 q8
      rw [hxe] at zt
      refine wpAny_tests_one (thn (hrun zt) fun ok s9 ⟨H9,I9,q9⟩=>?_)
      cases ok with
      | true=>rw [if_pos rfl]; rw [if_pos rfl] at q9; exact made I9 q9
      | false =>
       rw [if_neg Bool.false_ne_true]
       rw [if_neg Bool.false_ne_true] at q9
       obtain ⟨m',hm',w9⟩:=q9
       obtain ⟨b1,b2⟩:=back I9
       exact ⟨m',hm',i+1,_,us2,_,I9.unpinned,hus,b1,b2,w9⟩
 have st4:tnx 0 h1:=T.keep _ _ _ st2 fun b hb o e=>kp b o (keep23 b o e)
 have goal0:=loop _ I4 st4
 rw [henv] at goal0
 refine codeAny_compStart_list goal0 (T.self X.A 0 _ _ _ st4 goal0)
theorem aDi (ck:aIf X scope tn names is) (hc:X.calm=true) (hi:PI X tg iter wi)
  (hg:∀ C s0 H0 ex,PG (aBp X scope (aBk X.env names) (tn++names) C s0 H0 ex) tg g) (he:∀ C s0 H0 ex,PE (aBp X scope (aBk X.env names) (tn++names) C s0 H0 ex) elt te)
  (ht:∀ C s0 H0 ex,PTs (aBp X scope (aBk X.env names) (tn++names) C s0 H0 ex) ifs tc) (hs:∀ x,foldedSetIterable iter X.env x=pure x:=by intro _; rfl) :
  PE X (.ListComp elt [⟨tg,iter,ifs,0⟩] scope pos) (aSj wi te tc g tn.length is):=by
 intro pins s σ H Q I h
 rw [eval_ListComp]
 refine wpAny_comprehension_free (use:=none) rfl hs (ck.cls fun x hx=>I.ok.has x (ck.outk x hx)) ck.kind ck.nms (thn (hi pins s σ H _ I h) fun v s1 h1=>thn h1 fun itv s2 h2=>?_)
 refine aNj (RR:=fun acc C=>compPost (model X.prog X.w) X.A X.xe none (EP X pins σ Q) acc C) (ok:=fun X=>X.calm=true) ck (fun _ _ _ _=>hc) hg he ht (bAl h2) fun acc C H' s' m I' hn hC hL hcl hpn hsz q=>?_
 refine ⟨m,hn,fun h' sb=>⟨.ref acc,H',?_,rfl,q⟩⟩
 exact I'.turned (t':=s'.toks) (fun b o hb e=>sb.extBut b o hb e) hC hL (.inr hsz) hcl hpn
theorem aWd {i:Nat} {x:Str} {pos' spos:Pos} (hN:X.N.Nodup) (hi':X.N[i]?=some x) (hx:Loc X.env.scope x) (ck:aIf X scope tn names is) (hc:X.calm=true) (hi:PI X tg iter wi)
  (hg:∀ C s0 H0 ex,PG (aBp X scope (aBk X.env names) (tn++names) C s0 H0 ex) tg g) (he:∀ C s0 H0 ex,PE (aBp X scope (aBk X.env names) (tn++names) C s0 H0 ex) elt te)
  (ht:∀ C s0 H0 ex,PTs (aBp X scope (aBk X.env names) (tn++names) C s0 H0 ex) ifs tc) (hs:∀ x,foldedSetIterable iter X.env x=pure x:=by intro _; rfl)
  (hsw:swapsWith (.ListComp elt [⟨tg,iter,ifs,0⟩] scope pos) (some (.Name x pos')) spos.line X.env=pure true:=by rfl) (hf:X.fn x=true∨X.env.scope.names.lookup x=some .local:=by first | exact .inl rfl | exact .inr rfl | assumption) :
  PS X (.Assign [.Name x pos'] (.ListComp elt [⟨tg,iter,ifs,0⟩] scope pos) spos) (tAsg (aSj wi te tc g tn.length is) (aF0 i)):=by
 intro pins s σ H D I h
 rw [exec_Assign_Name_used _ _ _ _ hsw]
 refine wpAny_bind (wpAny_standAt (wpAny_bind ?_))
 show wpAny _ X.A (do let _ ← comprehension (.ListComp elt [⟨tg,iter,ifs,0⟩] scope pos) scope X.env _ (newList []) false (eval iter X.env) (some (assign (.Name x pos') X.env))) _ _ s
 refine wpAny_bind (wpAny_mono (wpAny_comprehension_free (use:=some (assign (.Name x pos') X.env)) (Q:=fun _ s'=>SP X pins D .next s') rfl hs (ck.cls fun x hx=>I.ok.has x (ck.outk x hx)) ck.kind ck.nms
  (thn (hi pins s σ H _ I h) fun v s1 h1=>thn h1 fun itv s2 h2=>?_)) (fun _ s' hq=>wpAny_pure (wpAny_pure hq)) fun _ _ e=>e)
 refine aNj (RR:=fun acc C=>compPost (model X.prog X.w) X.A X.xe (some (assign (.Name x pos') X.env)) (fun _ s'=>SP X pins D .next s') acc C) (ok:=fun X=>X.calm=true) ck (fun _ _ _ _=>hc) hg he ht (bAl h2) fun acc C H' s' m I' hn hC hL hcl hpn hsz q=>?_
 show wpAny _ X.A (assign (.Name x pos') X.env (.ref acc)) _ _ s'
 refine wpAny_assign_Name (aJp I' hN hi' hx (v:=.ref acc) rfl (fun s'' I'' sb=>?_) hf)
 obtain ⟨a,sb,ha⟩:=sb
 have hne:C≠a:=by
  rcases ha with rfl | ha
  ·exact hL
  ·exact fun z=>hcl x a ha z.symm
 refine ⟨m,hn.sameBut sb hne,fun h' sb'=>⟨_,H',I''.turned (t':=s''.toks) (fun b o hb e=>sb'.extBut b o hb e) hC hL (.inr hsz) hcl hpn,q⟩⟩
end
section
variable {te:TE} {Q:VK} {H:Hp} {σ caps:St} {wi:TI} {tc:TT} {K:PySem.W.Frag}
theorem aZ5 {o:Option TT} {g:TG} {k:Nat} {is:List Nat} (h:wi σ H (aJe te o g (List.replicate k none) (aMj σ is) Q)):aSj wi te o g k is σ H Q:=h
theorem len1 {us:St} (h:us.length=1):∃ o,us=[o]:=by
 cases us with
 | nil=>cases h
 | cons o r =>
  cases r with
  | nil=>exact ⟨o,rfl⟩
  | cons _ _=>simp at h
noncomputable def cW (n:Nat) (acc:Addr) (Pv:Nat->List V->Hp->Prop):Nat->Nat->List V->Hp->Prop:=fun i m ys H1=>m=n - i/\i<=n/\ys.length=i/\H1 acc=some (.lst ys)/\Pv i ys H1
noncomputable def aOf (n:Nat) (acc:Addr) (Pv:Nat->List V->Hp->Prop) (ys:List V) (i:Nat):VK:=fun y H3=>H3 acc=some (.lst ys)/\∃ m',m' < n - i/\cW n acc Pv (i+1) m' (ys++[y]) (upd H3 acc (.lst (ys++[y])))
theorem aFj {n:Nat} {acc:Addr} {Pv:Nat->List V->Hp->Prop} {ys:List V} {i:Nat} {y:V} {H3:Hp} (hlt:i < n) (hl:ys.length=i) (ha:H3 acc=some (.lst ys)) (p:Pv (i+1) (ys++[y]) (upd H3 acc (.lst (ys++[y])))):aOf n acc Pv ys i y H3 :=
 ⟨ha,n - (i+1),by omega,rfl,hlt,by rw [List.length_append,hl]; rfl,aAb,p⟩
theorem aLu {a:Addr} {xs:List V} (hn:xs.length<=1000) (Pv:Addr->Nat->List V->Hp->Prop) (h0:∀ acc,H acc=none->Pv acc 0 [] (upd H acc (.lst []))) (hl':∀ acc i ys H1,H acc=none->i<=xs.length->Pv acc i ys H1->SqL K H1 a xs)
  (hs:∀ acc i ys H1 x,H acc=none->xs[i]?=some x->ys.length=i->H1 acc=some (.lst ys)->Pv acc i ys H1->te (some x::caps) H1 (aOf xs.length acc (Pv acc) ys i))
  (hd:∀ acc ys H1,H acc=none->H1 acc=some (.lst ys)->ys.length=xs.length->Pv acc xs.length ys H1->Q (.ref acc) H1):aJe te none (aF0 0) (List.replicate 1 none) caps Q (Itl K a) H:=by
 intro acc hacc
 refine ⟨cW xs.length acc (Pv acc),⟨xs.length,by simp,Nat.zero_le _,rfl,aAb,h0 acc hacc⟩,?_⟩
 rintro i m ys H1 ⟨rfl,hi,hl,ha,p⟩
 have q:=hl' acc i ys H1 hacc hi p
 refine ⟨ha,?_⟩
 by_cases hlt:i < xs.length
 ·refine .inr ⟨aCn (by omega),⟨xs,xs[i],q,by simp [hlt]⟩,fun us x H' hu y=>?_⟩
  obtain ⟨e,y⟩:=y
  subst e
  obtain ⟨o,rfl⟩:=len1 hu
  exact ⟨⟨[some x],rfl,rfl⟩,hs acc i ys _ x hacc (y xs q) hl ha p⟩
 ·have e:i=xs.length:=by omega
  subst e
  exact .inl ⟨⟨xs,q,Nat.le_refl _⟩,hd acc ys H1 hacc ha hl p⟩
end
end L2
namespace L2
open PySem
section
variable {H:Hp} {Q:VK} {u v:V} {a b c d:Int} {m n:Nat} {K:PySem.W.Frag}
end
end L2
namespace L2
theorem aRs {x y z:Int} (h1:Int.gcd x y=1) (h2:Int.gcd x z=1):Int.gcd x (y * z)=1:=by
 unfold Int.gcd at *
 rw [Int.natAbs_mul]
 exact Nat.Coprime.mul_right h1 h2
theorem aJd {x x' y:Int} (h:x' ∣ x) (h1:Int.gcd x y=1):Int.gcd x' y=1:=by
 unfold Int.gcd at *
 exact Nat.Coprime.coprime_dvd_left (Int.natAbs_dvd_natAbs.mpr h) h1
theorem aUn {t b f g:Int} (hb:b≠0) (hg:0 < g) (hc:Int.gcd f g=1) (e:f * b=t * g):(Rat.divInt t b).num=f/\((Rat.divInt t b).den:Int)=g:=by
 obtain ⟨n,rfl⟩:∃ n:Nat,g=n:=⟨g.toNat,by omega⟩
 have h1:Rat.divInt t b=Rat.divInt f n:=(Rat.divInt_eq_divInt_iff hb (by omega)).mpr e.symm
 have h2:Rat.divInt f n=Rat.mk' f n (by omega) hc:=Rat.num_divInt_den (Rat.mk' f n (by omega) hc)
 rw [h1,h2]
 exact ⟨rfl,rfl⟩
theorem aI7 {a g:Int} (hg:g≠0) (h:g ∣ a):a.fdiv g * g=a:=by
 obtain ⟨c,rfl⟩:=h
 rw [Int.mul_fdiv_cancel_left _ hg,Int.mul_comm]
theorem aGn {k n m:Int} (h:k ∣ n * m) (g:Int.gcd k n=1):k ∣ m:=by
 have q:=Int.dvd_gcd_mul_iff_dvd_mul.mpr h
 rw [g] at q
 simpa using q
theorem aH9 {x y:Int} (h:∀ k:Int,k ∣ x->k ∣ y->k ∣ 1):Int.gcd x y=1:=by
 have h1:=h (Int.gcd x y) (Int.gcd_dvd_left ..) (Int.gcd_dvd_right ..)
 have:=Int.le_of_dvd (by decide) h1
 have h0:Int.gcd x y≠0:=by
  intro z
  rw [z] at h1
  simp at h1
 omega
theorem aR6 {a b c d s k f u v:Int} (hb:0 < b) (hd:0 < d) (h1:Int.gcd a b=1) (h2:Int.gcd c d=1) (hs:s=(Int.gcd b d:Int)) (hu:u=d.fdiv s) (hv:v=b.fdiv s)
  (hk:k=(Int.gcd (a * u+c * v) s:Int)) (hf:f=(a * u+c * v).fdiv k) :
  0 < s/\0 < k/\s<=b/\k<=s/\(0 < b.fdiv k * u/\Int.gcd f (b.fdiv k * u)=1/\f * (b * d)=(a * d+c * b) * (b.fdiv k * u)) /\
   u.natAbs<=d.natAbs/\v.natAbs<=b.natAbs/\f.natAbs<=(a * u+c * v).natAbs/\(b.fdiv k).natAbs<=b.natAbs:=by
 have le_of_mul:∀ {a g c:Int},g≠0->a * g=c->a.natAbs<=c.natAbs:=fun {a g c} hg e=>by
  rw [← e,Int.natAbs_mul]
  exact Nat.le_mul_of_pos_right _ (by omega)
 have s0:0 < s:=by
  rw [hs]
  have:Int.gcd b d≠0:=fun e=>by
   have:=(Int.gcd_eq_zero_iff.mp e).1
   omega
  omega
 have sb:s ∣ b:=hs ▸ Int.gcd_dvd_left ..
 have sd:s ∣ d:=hs ▸ Int.gcd_dvd_right ..
 have eu:u * s=d:=hu ▸ aI7 (by omega) sd
 have ev:v * s=b:=hv ▸ aI7 (by omega) sb
 have k0:0 < k:=by
  rw [hk]
  have:Int.gcd (a * u+c * v) s≠0:=fun e=>by
   have:=(Int.gcd_eq_zero_iff.mp e).2
   omega
  omega
 have kt:k ∣ a * u+c * v:=hk ▸ Int.gcd_dvd_left ..
 have ks:k ∣ s:=hk ▸ Int.gcd_dvd_right ..
 have ef:f * k=a * u+c * v:=hf ▸ aI7 (by omega) kt
 obtain ⟨m,em⟩:=ks
 have m0:0 < m:=by
  rcases Int.lt_or_le 0 m with q | q
  ·exact q
  ·have:k * m<=0:=Int.mul_nonpos_of_nonneg_of_nonpos (by omega) q
   omega
 have u0:0 < u:=by
  rcases Int.lt_or_le 0 u with q | q
  ·exact q
  ·have:u * s<=0:=Int.mul_nonpos_of_nonpos_of_nonneg q (by omega)
   omega
 have v0:0 < v:=by
  rcases Int.lt_or_le 0 v with q | q
  ·exact q
  ·have:v * s<=0:=Int.mul_nonpos_of_nonpos_of_nonneg q (by omega)
   omega
 have ebk:b.fdiv k=v * m:=by
  have:b=k * (v * m):=by rw [← ev,em]; grind
  rw [this,Int.mul_fdiv_cancel_left _ (by omega)]
 have cuv:Int.gcd u v=1:=by
  have e:Int.gcd (u * s) (v * s)=Int.gcd u v * s.natAbs:=Int.gcd_mul_right ..
  rw [eu,ev,Int.gcd_comm] at e
  have:s.natAbs=Int.gcd b d:=by omega
  rw [this] at e
  have h0:0 < Int.gcd b d:=by omega
  have:1 * Int.gcd b d=Int.gcd u v * Int.gcd b d:=by omega
  exact (Nat.eq_of_mul_eq_mul_right h0 this).symm
 have cu:Int.gcd (a * u+c * v) u=1:=by
  refine aH9 fun z h3 h4=>?_
  have h5:z ∣ c * v:=(Int.dvd_add_right (Int.dvd_mul_of_dvd_right h4)).mp h3
  have h6:Int.gcd z c=1:=aJd (Int.dvd_trans h4 ⟨s,eu.symm⟩) (by rw [Int.gcd_comm]; exact h2)
  have h7:z ∣ v:=aGn h5 h6
  have:=Int.dvd_coe_gcd h4 h7
  rw [cuv] at this
  exact this
 have cv:Int.gcd (a * u+c * v) v=1:=by
  refine aH9 fun z h3 h4=>?_
  have h5:z ∣ a * u:=(Int.dvd_add_left (Int.dvd_mul_of_dvd_right h4)).mp h3
  have h6:Int.gcd z a=1:=aJd (Int.dvd_trans h4 ⟨s,ev.symm⟩) (by rw [Int.gcd_comm]; exact h1)
  have h7:z ∣ u:=aGn h5 h6
  have:=Int.dvd_coe_gcd h7 h4
  rw [cuv] at this
  exact this
 have cm:Int.gcd f m=1:=by
  have e:Int.gcd (f * k) (m * k)=Int.gcd f m * k.natAbs:=Int.gcd_mul_right ..
  have:m * k=s:=by rw [em,Int.mul_comm]
  rw [ef,this] at e
  have h3:k.natAbs=Int.gcd (a * u+c * v) s:=by omega
  rw [h3] at e
  have h0:0 < Int.gcd (a * u+c * v) s:=by omega
  have:1 * Int.gcd (a * u+c * v) s=Int.gcd f m * Int.gcd (a * u+c * v) s:=by omega
  exact (Nat.eq_of_mul_eq_mul_right h0 this).symm
 have fd:f ∣ a * u+c * v:=⟨k,ef.symm⟩
 refine ⟨s0,k0,Int.le_of_dvd hb sb,Int.le_of_dvd s0 ⟨m,em⟩,⟨?_,?_,?_⟩,le_of_mul (by omega) eu,le_of_mul (by omega) ev,le_of_mul (by omega) ef,le_of_mul (g:=k) (by omega) (by rw [ebk,← ev,em]; grind)⟩
 ·rw [ebk]; exact Int.mul_pos (Int.mul_pos v0 m0) u0
 ·rw [ebk]
  exact aRs (aRs (aJd fd cv) cm) (aJd fd cu)
 ·rw [ebk]
  have e1:a * d+c * b=(f * k) * s:=by rw [ef,← eu,← ev]; grind
  rw [e1,← eu,← ev]
  have:f * (v * s * (u * s))=f * s * v * u * s:=by grind
  rw [this]
  have:f * k * s * (v * m * u)=f * s * v * u * (k * m):=by grind
  rw [this,← em]
noncomputable def Sz (n:Nat) (q:Rat):Prop:=q.num.natAbs < 2 ^ n/\q.den < 2 ^ n
theorem Sz.mono {m n:Nat} {q:Rat} (h:Sz m q) (l:m<=n):Sz n q :=
 have:=Nat.pow_le_pow_right (n:=2) (by decide) l
 ⟨Nat.lt_of_lt_of_le h.1 this,Nat.lt_of_lt_of_le h.2 this⟩
theorem Sz.divInt {t b:Int} {n:Nat} (hb:b≠0) (ht:t.natAbs < 2 ^ n) (hs:b.natAbs < 2 ^ n):Sz n (Rat.divInt t b):=by
 have e:Rat.divInt (Rat.divInt t b).num (Rat.divInt t b).den=Rat.divInt t b:=Rat.num_divInt_den _
 have hd:((Rat.divInt t b).den:Int)≠0:=by have:=(Rat.divInt t b).den_pos; omega
 rw [Rat.divInt_eq_divInt_iff hd hb] at e
 generalize hq:Rat.divInt t b=q at *
 -- num * b=t * den,lowest
 have hc:Int.gcd q.num q.den=1:=q.reduced
 have h1:(q.den:Int) ∣ b:=aGn (k:=q.den) (n:=q.num) ⟨t,by rw [e,Int.mul_comm]⟩ (by rw [Int.gcd_comm]; exact hc)
 obtain ⟨m,em⟩:=h1
 have e2:t=q.num * m:=by
  have:t * q.den=(q.num * m) * q.den:=by rw [← e,em]; grind
  exact Int.eq_of_mul_eq_mul_right hd this
 have m0:m≠0:=by rintro rfl; simp at em; exact hb em
 have hm:1<=m.natAbs:=by omega
 constructor
 ·refine Nat.lt_of_le_of_lt ?_ ht
  rw [e2,Int.natAbs_mul]
  exact Nat.le_mul_of_pos_right _ hm
 ·refine Nat.lt_of_le_of_lt ?_ hs
  rw [em,Int.natAbs_mul]
  have:(q.den:Int).natAbs=q.den:=by omega
  rw [this]
  exact Nat.le_mul_of_pos_right _ hm
theorem aId (q r:Rat):q+r=Rat.divInt (q.num * r.den+r.num * q.den) (q.den * r.den):=by
 have h1:(q.den:Int)≠0:=by have:=q.den_pos; omega
 have h2:(r.den:Int)≠0:=by have:=r.den_pos; omega
 have:=Rat.divInt_add_divInt q.num r.num h1 h2
 rw [Rat.num_divInt_den,Rat.num_divInt_den] at this
 exact this
theorem aN7 (q r:Rat):q * r=Rat.divInt (q.num * r.num) (q.den * r.den):=by
 have:=Rat.divInt_mul_divInt q.num r.num (d₁:=q.den) (d₂:=r.den)
 rw [Rat.num_divInt_den,Rat.num_divInt_den] at this
 exact this
theorem aGz {x y m n:Nat} (h1:x < 2 ^ m) (h2:y < 2 ^ n):x * y < 2 ^ (m+n):=by
 rw [Nat.pow_add]
 exact Nat.mul_lt_mul'' h1 h2
theorem Sz.add {m n:Nat} {q r:Rat} (h1:Sz m q) (h2:Sz n r):Sz (m+n+1) (q+r):=by
 rw [aId]
 have h3:=q.den_pos
 have h4:=r.den_pos
 refine Sz.divInt (Int.ne_of_gt (Int.mul_pos (by omega) (by omega))) ?_ ?_
 ·have a1:=aGz h1.1 h2.2
  have a2:=aGz h2.1 h1.2
  have e1:(q.num * r.den).natAbs=q.num.natAbs * r.den:=by rw [Int.natAbs_mul]; rfl
  have e2:(r.num * q.den).natAbs=r.num.natAbs * q.den:=by rw [Int.natAbs_mul]; rfl
  rw [Nat.add_comm n m] at a2
  rw [Nat.pow_succ]
  omega
 ·have a1:=aGz h1.2 h2.2
  have e1:((q.den:Int) * r.den).natAbs=q.den * r.den:=by rw [Int.natAbs_mul]; rfl
  rw [Nat.pow_succ]
  omega
theorem Sz.neg {n:Nat} {q:Rat} (h:Sz n q):Sz n (-q):=⟨by rw [Rat.neg_num,Int.natAbs_neg]; exact h.1,h.2⟩
theorem Sz.sub {m n:Nat} {q r:Rat} (h1:Sz m q) (h2:Sz n r):Sz (m+n+1) (q - r):=by
 rw [Rat.sub_eq_add_neg]
 exact h1.add h2.neg
theorem Sz.mul {m n:Nat} {q r:Rat} (h1:Sz m q) (h2:Sz n r):Sz (m+n) (q * r):=by
 rw [aN7]
 have h3:=q.den_pos
 have h4:=r.den_pos
 refine Sz.divInt (Int.ne_of_gt (Int.mul_pos (by omega) (by omega))) ?_ ?_
 ·rw [Int.natAbs_mul]; exact aGz h1.1 h2.1
 ·have a1:=aGz h1.2 h2.2
  have e1:((q.den:Int) * r.den).natAbs=q.den * r.den:=by rw [Int.natAbs_mul]; rfl
  omega
theorem aTj (q r:Rat):decide (q.num * r.den < r.num * q.den)=decide (q < r):=by
 by_cases h:q < r
 ·rw [decide_eq_true h,decide_eq_true ((Rat.lt_iff q r).mp h)]
 ·rw [decide_eq_false h,decide_eq_false (fun z=>h ((Rat.lt_iff q r).mpr z))]
end L2
namespace L2
noncomputable def Bd (D M:Nat) (q:Rat):Prop:=q.den ∣ D/\-((M:Nat):Rat)<=q/\q<=((M:Nat):Rat)
theorem aQw {a b:Int} (ha:0<=a) (hb:1<=b):a<=a * b:=by
 have:=Int.mul_le_mul_of_nonneg_left hb ha
 omega
theorem aXm {t b:Int} (hb:b≠0):((Rat.divInt t b).den:Int) ∣ b:=by
 have e:Rat.divInt (Rat.divInt t b).num (Rat.divInt t b).den=Rat.divInt t b:=Rat.num_divInt_den _
 have hd:((Rat.divInt t b).den:Int)≠0:=by have:=(Rat.divInt t b).den_pos; omega
 rw [Rat.divInt_eq_divInt_iff hd hb] at e
 have hc:Int.gcd (Rat.divInt t b).num (Rat.divInt t b).den=1:=(Rat.divInt t b).reduced
 exact aGn (n:=(Rat.divInt t b).num) ⟨t,by rw [e,Int.mul_comm]⟩ (by rw [Int.gcd_comm]; exact hc)
theorem over {D:Nat} {q:Rat} (h:q.den ∣ D) (hD:D≠0):∃ a:Int,q=Rat.divInt a D:=by
 obtain ⟨m,e⟩:=h
 refine ⟨q.num * m,?_⟩
 have hq:=q.den_pos
 have e1:Rat.divInt (q.num * m) D=Rat.divInt q.num q.den:=by
  rw [Rat.divInt_eq_divInt_iff (by omega) (by omega),e]
  push_cast
  grind
 rw [e1,Rat.num_divInt_den]
theorem aXn {D:Nat} {q r:Rat} (hD:D≠0) (h1:q.den ∣ D) (h2:r.den ∣ D):(q+r).den ∣ D:=by
 obtain ⟨a,rfl⟩:=over h1 hD
 obtain ⟨b,rfl⟩:=over h2 hD
 rw [Rat.divInt_add_divInt a b (by omega) (by omega)]
 have e:Rat.divInt (a * D+b * D) (D * D)=Rat.divInt (a+b) D:=by
  rw [Rat.divInt_eq_divInt_iff (Int.mul_ne_zero (by omega) (by omega)) (by omega)]
  grind
 rw [e]
 exact Int.natCast_dvd_natCast.mp (aXm (by omega))
theorem Bd.add {D M N:Nat} {q r:Rat} (hD:D≠0) (h1:Bd D M q) (h2:Bd D N r):Bd D (M+N) (q+r):=by
 obtain ⟨a1,a2,a3⟩:=h1
 obtain ⟨b1,b2,b3⟩:=h2
 refine ⟨aXn hD a1 b1,?_,?_⟩
 ·have e:(((M+N:Nat)):Rat)=(M:Rat)+(N:Rat):=by push_cast; rfl
  rw [e]
  grind
 ·have e:(((M+N:Nat)):Rat)=(M:Rat)+(N:Rat):=by push_cast; rfl
  rw [e]
  grind
theorem Bd.mono {D M N:Nat} {q:Rat} (h:Bd D M q) (l:M<=N):Bd D N q:=by
 obtain ⟨a1,a2,a3⟩:=h
 have e:(M:Rat)<=(N:Rat):=by
  rw [Rat.le_iff]
  simp
  omega
 exact ⟨a1,by grind,by grind⟩
theorem Bd.sz {D M n:Nat} {q:Rat} (h:Bd D M q) (hD:D≠0) (h1:D < 2 ^ n) (h2:M * D < 2 ^ n):Sz n q:=by
 obtain ⟨a1,a2,a3⟩:=h
 have hle:=Nat.le_of_dvd (by omega) a1
 have k1:q.num<=M * q.den:=by
  have:=(Rat.le_iff q (M:Rat)).mp a3
  simpa using this
 have k2:-(M * q.den:Int)<=q.num:=by
  have:=(Rat.le_iff (-(M:Rat)) q).mp a2
  have e1:(-(M:Rat)).num=-(M:Int):=by rw [Rat.neg_num]; simp
  have e2:(-(M:Rat)).den=1:=by rw [Rat.neg_den]; simp
  rw [e1,e2] at this
  simp at this
  have e3:-(M:Int) * q.den=-((M:Int) * q.den):=by grind
  omega
 refine ⟨?_,by omega⟩
 have k3:M * q.den<=M * D:=Nat.mul_le_mul_left _ hle
 have k4:((M * q.den:Nat):Int)=(M:Int) * q.den:=by push_cast; rfl
 omega
theorem Bd.of {q:Rat} {M:Nat} (h:q.num.natAbs<=M):Bd q.den M q:=by
 have hp:=q.den_pos
 refine ⟨Nat.dvd_refl _,?_,?_⟩
 ·rw [Rat.le_iff]
  have e1:(-(M:Rat)).num=-(M:Int):=by rw [Rat.neg_num]; simp
  have e2:(-(M:Rat)).den=1:=by rw [Rat.neg_den]; simp
  rw [e1,e2]
  have:(M:Int)<=(M:Int) * q.den:=aQw (by omega) (by omega)
  have e3:-(M:Int) * q.den=-((M:Int) * q.den):=by grind
  simp
  omega
 ·rw [Rat.le_iff]
  have:(M:Int)<=(M:Int) * q.den:=aQw (by omega) (by omega)
  simp
  omega
theorem Bd.dvd {D E M:Nat} {q:Rat} (h:Bd D M q) (d:D ∣ E):Bd E M q:=⟨Nat.dvd_trans h.1 d,h.2⟩
end L2
namespace L2
open PySem
noncomputable def Ris (xs:Array Nat):Prop:=xs.toList.Pairwise (· < ·)
theorem Ris.lt {xs:Array Nat} (h:Ris xs) {i j:Nat} (hij:i < j) (hj:j < xs.size):xs[i]'(Nat.lt_trans hij hj) < xs[j]:=by
 have:=List.pairwise_iff_getElem.mp h i j (by simpa using Nat.lt_trans hij hj) (by simpa using hj) hij
 simpa using this
theorem Ris.le {xs:Array Nat} (h:Ris xs) {i j:Nat} (hij:i<=j) (hj:j < xs.size):xs[i]'(Nat.lt_of_le_of_lt hij hj)<=xs[j]:=by
 rcases Nat.lt_or_eq_of_le hij with h1 | h1
 ·exact Nat.le_of_lt (h.lt h1 hj)
 ·subst h1
  exact Nat.le_refl _
noncomputable def aR9 (xs:Array Nat) (j r:Nat):Prop:=r<=xs.size/\(∀ k (hk:k < xs.size),k < r->xs[k] < j)/\∀ k (hk:k < xs.size),r<=k->j<=xs[k]
theorem aJh {xs:Array Nat} {j:Nat} (h:Ris xs):∀ (fuel lo hi:Nat),hi - lo<=fuel->lo<=hi->hi<=xs.size->(∀ k (hk:k < xs.size),k < lo->xs[k] < j)->(∀ k (hk:k < xs.size),hi<=k->j<=xs[k])->aR9 xs j (SetTable.below.go xs j fuel lo hi)
 | 0,lo,hi,hf,hl,hh,h1,h2=>by
  have:lo=hi:=by omega
  subst this
  unfold SetTable.below.go
  exact ⟨hh,h1,h2⟩
 | fuel+1,lo,hi,hf,hl,hh,h1,h2=>by
  unfold SetTable.below.go
  by_cases hlt:lo < hi
  ·rw [if_pos hlt]
   have hm:(lo+hi) / 2 < xs.size:=by omega
   have eg:xs.getD ((lo+hi) / 2) j=xs[(lo+hi) / 2]:=by simp [Array.getD,hm]
   show aR9 xs j (if xs.getD ((lo+hi) / 2) j < j then SetTable.below.go xs j fuel ((lo+hi) / 2+1) hi else SetTable.below.go xs j fuel lo ((lo+hi) / 2))
   rw [eg]
   by_cases c:xs[(lo+hi) / 2] < j
   ·rw [if_pos c]
    exact aJh h fuel ((lo+hi) / 2+1) hi (by omega) (by omega) hh (fun k hk hk'=>Nat.lt_of_le_of_lt (h.le (show k<=(lo+hi) / 2 by omega) hm) c) h2
   ·rw [if_neg c]
    exact aJh h fuel lo ((lo+hi) / 2) (by omega) (by omega) (by omega) h1 fun k hk hk'=>Nat.le_trans (Nat.le_of_not_lt c) (h.le hk' hk)
  ·rw [if_neg hlt]
   have:lo=hi:=by omega
   subst this
   exact ⟨hh,h1,h2⟩
theorem aE2 {xs:Array Nat} (j:Nat) (h:Ris xs):aR9 xs j (SetTable.below xs j) :=
 aJh h xs.size 0 xs.size (by omega) (Nat.zero_le _) (Nat.le_refl _) (fun _ _ z=>absurd z (Nat.not_lt_zero _)) fun k hk z=>absurd hk (Nat.not_lt.mpr z)
theorem aJq {xs:Array Nat} {j r r':Nat} (h:aR9 xs j r) (h':aR9 xs j r'):r=r':=by
 rcases Nat.lt_trichotomy r r' with c | c | c
 ·have hk:r < xs.size:=Nat.lt_of_lt_of_le c h'.1
  exact absurd (h'.2.1 r hk c) (Nat.not_lt.mpr (h.2.2 r hk (Nat.le_refl _)))
 ·exact c
 ·have hk:r' < xs.size:=Nat.lt_of_lt_of_le c h.1
  exact absurd (h.2.1 r' hk c) (Nat.not_lt.mpr (h'.2.2 r' hk (Nat.le_refl _)))
theorem aOg {xs:Array Nat} (h:Ris xs):SetTable.below xs 0=0 :=
 aJq (aE2 0 h) ⟨Nat.zero_le _,fun _ _ z=>absurd z (Nat.not_lt_zero _),fun _ _ _=>Nat.zero_le _⟩
theorem aOh {xs:Array Nat} (h:Ris xs) {i:Nat} (hi:i < xs.size):SetTable.below xs (xs[i]+1)=i+1 :=
 aJq (aE2 _ h) ⟨hi,fun k hk z=>Nat.lt_succ_of_le (h.le (Nat.le_of_lt_succ z) hi),fun k hk z=>Nat.succ_le_of_lt (h.lt z hk)⟩
theorem aVr {xs:Array Nat} {j:Nat} (h:Ris xs) (hn:xs[SetTable.below xs j]?≠some j):Ris (SetTable.insertAt xs (SetTable.below xs j) j):=by
 have st:=aE2 j h
 generalize SetTable.below xs j=p at st hn
 unfold Ris
 rw [SetTable.toList_insertAt]
 have h1:∀ a∈xs.toList.take p,a < j:=fun a ha=>by
  obtain ⟨k,hk,e⟩:=List.getElem_of_mem ha
  rw [List.length_take] at hk
  rw [List.getElem_take,Array.getElem_toList] at e
  rw [← e]
  exact st.2.1 k (by simp at hk; omega) (by omega)
 have h2:∀ a∈xs.toList.drop p,j < a:=fun a ha=>by
  obtain ⟨k,hk,e⟩:=List.getElem_of_mem ha
  rw [List.length_drop,Array.length_toList] at hk
  rw [List.getElem_drop,Array.getElem_toList] at e
  have hp:p < xs.size:=by omega
  have h0:=st.2.2 p hp (Nat.le_refl _)
  have h3:xs[p]≠j:=fun z=>hn (by rw [Array.getElem?_eq_getElem hp,z])
  have h4:=h.le (show p<=p+k by omega) (by omega)
  rw [← e]
  omega
 refine List.pairwise_append.mpr ⟨h.sublist (List.take_sublist ..),List.pairwise_cons.mpr ⟨h2,h.sublist (List.drop_sublist ..)⟩,fun a ha b hb=>?_⟩
 rcases List.mem_cons.mp hb with rfl | hb
 ·exact h1 a ha
 ·exact Nat.lt_trans (h1 a ha) (h2 b hb)
noncomputable def Tb (w:World) (t:SetTable) (_n:Nat):Prop:=t.led=!(w.params.followText "set-order")/\Ris t.place/\t.dummies=#[]
theorem aE9 (n:Nat):Ris (Array.range n):=by
 unfold Ris
 rw [Array.toList_range]
 exact List.pairwise_lt_range
theorem aRa (j:Nat):SetTable.has #[] j=false:=by
 unfold SetTable.has
 simp
theorem aHz {t:SetTable} {f:Nat->Int} {h:Int} (ht:t.dummies=#[]):∀ (fuel:Nat) (p:SetTable.Probe) (j:Nat) (d:Option Nat),SetTable.probe.go t f h fuel p=some (.empty j d)->p.dummy=none->t.slot j=.empty/\d=none
 | 0,p,j,d,e,hd=>nomatch e
 | fuel+1,p,j,d,e,hd=>by
  have adv:(t.advance p).dummy=none:=by
   unfold SetTable.advance
   split
   ·exact hd
   ·exact hd
  unfold SetTable.probe.go at e
  cases hs:t.slot p.j with
  | empty =>
   rw [hs] at e
   have e:=Option.some.inj e
   injection e with e1 e2
   exact ⟨by rw [← e1]; exact hs,by rw [← e2]; exact hd⟩
  | dummy =>
   exfalso
   unfold SetTable.slot at hs
   dsimp only at hs
   rw [ht,aRa,if_neg Bool.false_ne_true] at hs
   split at hs <;> cases hs
  | live i =>
   rw [hs] at e
   dsimp only at e
   split at e
   ·exact nomatch Option.some.inj e
   ·exact aHz ht fuel _ j d e adv
theorem aPa {t:SetTable} {j:Nat} (h:t.slot j=.empty):t.place[SetTable.below t.place j]?≠some j:=fun e=>by
 unfold SetTable.slot at h
 dsimp only at h
 rw [e,if_pos (by simp)] at h
 cases h
theorem aQy {w:World} {t:SetTable} {n m:Nat} (es:Array (Int×Value)) (h:Int) (x:Value) (ht:Tb w t n):Tb w (layNew t es h x).2.1 m:=by
 obtain ⟨h1,h2,h3⟩:=ht
 unfold layNew
 split
 ·rename_i slot wd e
  dsimp only
  have hp:Tb w (t.put slot).1 m:=by
   have hs:t.place[SetTable.below t.place slot]?≠some slot:=by
    unfold SetTable.freeSlot at e
    split at e
    ·rename_i j d e'
     have:=aHz h3 _ _ _ _ e' rfl
     rw [this.2] at e
     have e:=Option.some.inj e
     have e1:j=slot:=congrArg Prod.fst e
     rw [← e1]
     exact aPa this.1
    ·cases e
   unfold SetTable.put
   refine ⟨h1,aVr h2 hs,?_⟩
   show (if SetTable.has t.dummies slot then _ else t.dummies)=#[]
   rw [h3,aRa,if_neg Bool.false_ne_true]
  unfold SetTable.orStandIn
  split
  ·exact hp
  ·exact ⟨h1,aE9 _,rfl⟩
 ·exact ⟨h1,aE9 _,rfl⟩
theorem aSu {w:World} {t:SetTable} {n m:Nat} (es:Array (Int×Value)) (k:Nat) (ht:Tb w t n):Tb w (relayAll t es k).2.1 m:=by
 obtain ⟨h1,h2,h3⟩:=ht
 unfold relayAll
 split
 ·rename_i t' order e
  unfold SetTable.relaid SetTable.laid at e
  cases hc:SetTable.layClean (SetTable.sizeAbove k - 1) (Array.map (fun x=>x.fst) es) with
  | none =>
   rw [hc] at e
   exact nomatch e
  | some ow =>
  rw [hc] at e
  have e3:=congrArg Prod.fst (Option.some.inj e)
  dsimp only at e3
  subst e3
  dsimp only
  split
  ·refine ⟨h1,?_,rfl⟩
   unfold Ris
   dsimp only
   refine List.pairwise_map.mpr (List.pairwise_filterMap.mpr (List.pairwise_lt_range.imp fun {a b} hab x hx y hy=>?_))
   simp only [Option.map_eq_some_iff] at hx hy
   obtain ⟨_,_,rfl⟩:=hx
   obtain ⟨_,_,rfl⟩:=hy
   exact hab
  ·exact ⟨h1,aE9 _,rfl⟩
 ·exact ⟨h1,aE9 _,rfl⟩
section
variable {prog:Program} {w:World} {K:Type} [DecidableEq K] {knd:KeyKind prog w K} {A:Around} {E:Value -> Shared -> Prop} {s:Shared}
theorem aT3 {a:Addr} {o:Obj} {es:Array (Int×Value)} {ep:Nat} {t:SetTable} {x:Value} {k:K} {Q:Bool->Shared->Prop} (hsc:x.scannable=true) (hkey:knd.is k x=true) (ho:s.heap.get? a=some o) (hex:o.ExactSet) (hd:o.data=.set es ep t)
  (hel:ElemsOf knd es.toList) (hb:es.size+1 < scanBound) (hf:t.fits es.size=true) (ht:Tb w t es.size)
  (h1:(∃ e∈es.toList,knd.is k e.2=true)->Q false s)
  (h2:(∀ e∈es.toList,knd.is k e.2=false)->∀ (h':Heap) (es':Array (Int×Value)) (t':SetTable) (ep':Nat),Heap.SameBut a s.heap h'->h'.get? a=some { o with data:=.set es' ep' t' }->List.Perm es'.toList (es.toList++[(knd.hash k,x)]) ->
   t'.fits es'.size=true->Tb w t' es'.size->Q true { s with heap:=h' }):wpAny (model prog w) A (setAddHashed a x (knd.hash k)) Q E s:=by
 unfold setAddHashed setAddHashedIn
 refine wpAny_holding (wpAny_bind (wpAny_setState_of ho hd hf ?_))
 dsimp only
 rw [byScan_of hsc (by omega) hel,if_pos rfl]
 unfold setAddByScan
 refine wpAny_bind (wpAny_bind (wpAny_rule (wpAny_bind (wpAny_setScan_of hkey ho hd hf hel ?_))))
 cases hr:List.findIdx? (fun e=>knd.is k e.2) es.toList with
 | some j =>
  obtain ⟨hj,hpj,_⟩:=List.findIdx?_eq_some_iff_getElem.mp hr
  exact wpAny_pure (wpAny_pure (h1 ⟨_,List.getElem_mem hj,hpj⟩))
 | none =>
  have hno:=List.findIdx?_eq_none_iff.mp hr
  have gw:∀ (b:Bool) {s₁:Shared} {Q':Unit->Shared->Prop},Q' () s₁->wpAny (model prog w) A (match b with | true=>rule "set.scan.the-table-gave-way" | false=>pure ()) Q' E s₁:=fun b _ _ hq=>by
   cases b
   ·exact wpAny_pure hq
   ·exact wpAny_rule hq
  dsimp only
  have p1:=layNew_perm t es (knd.hash k) x
  have f1:=layNew_fits t es (knd.hash k) x
  have l1:=fun m=>aQy (m:=m) es (knd.hash k) x ht
  generalize layNew t es (knd.hash k) x=L at p1 f1 l1 ⊢
  obtain ⟨es1,t1,wd,gave⟩:=L
  dsimp only at p1 f1 l1 ⊢
  rw [Array.toList_push] at p1
  have hz:es1.size=es.size+1:=by
   have:=p1.length_eq
   simpa using this
  refine wpAny_bind (gw _ ?_)
  have fin:∀ t2:SetTable,t2.fits es1.size=true->(∀ m,Tb w t2 m)->wpAny (model prog w) A (do
    storeSet a es1 t2
    if (!wd&&t2.tooFull)=true then do
      (match (relayAll t2 es1 (SetTable.grown es1.size)).2.2 with | true=>rule "set.scan.the-table-gave-way" | false=>pure ())
      storeSet a (relayAll t2 es1 (SetTable.grown es1.size)).1 (relayAll t2 es1 (SetTable.grown es1.size)).2.1
      pure (some true)
     else pure (some true)) (fun r s₁=>wpAny (model prog w) A (match r with | some added=>pure added | none=>setAddHashedIn a x (knd.hash k) 99999) Q E s₁) E s:=by
   intro t2 f2 l2
   refine wpAny_bind (wpAny_storeSet_of ho hd ?_ (fits_of_scanBound (by omega)))
   have g1:(s.heap.update a (Obj.putSet es1 t2)).get? a=some { o with data:=.set es1 (ep+1) t2 }:=by
    have z:=Heap.get?_update_self (Obj.putSet es1 t2) ho (by rw [putSet_of es1 t2 hd]; rfl)
    rw [putSet_of es1 t2 hd] at z
    exact z
   have sb1:=Heap.SameBut.update s.heap a (Obj.putSet es1 t2)
   split
   ·have p2:=relayAll_perm t2 es1 (SetTable.grown es1.size)
    have f3:=relayAll_fits t2 es1 (SetTable.grown es1.size)
    have l3:=fun m=>aSu (m:=m) es1 (SetTable.grown es1.size) (l2 0)
    generalize relayAll t2 es1 (SetTable.grown es1.size)=R at p2 f3 l3 ⊢
    obtain ⟨es2,t3,gave2⟩:=R
    dsimp only at p2 f3 l3 ⊢
    have hz2:es2.size=es1.size:=by
     have:=p2.length_eq
     simpa using this
    refine wpAny_bind (gw _ ?_)
    refine wpAny_bind (wpAny_storeSet_of g1 rfl ?_ (fits_of_scanBound (by omega)))
    have g2:((s.heap.update a (Obj.putSet es1 t2)).update a (Obj.putSet es2 t3)).get? a=some { o with data:=.set es2 (ep+1+1) t3 }:=by
     have z:=Heap.get?_update_self (Obj.putSet es2 t3) g1 (by rw [putSet_of es2 t3 rfl]; rfl)
     rw [putSet_of es2 t3 rfl] at z
     exact z
    exact wpAny_pure (wpAny_pure (h2 hno _ es2 t3 _ (sb1.trans (Heap.SameBut.update _ a _)) g2 (p2.trans p1) f3 (l3 _)))
   ·exact wpAny_pure (wpAny_pure (h2 hno _ es1 t2 _ sb1 g1 p1 f2 (l2 _)))
  split
  ·refine wpAny_bind ?_
   rw [hashByValue_scannable 8 hsc]
   refine wpAny_pure ?_
   cases plainKind x with
   | true =>
    rw [if_pos rfl]
    exact fin t1 f1 l1
   | false =>
    rw [if_neg Bool.false_ne_true]
    exact fin _ (SetTable.fits_plain_off f1) l1
  ·refine wpAny_bind (wpAny_pure ?_)
   rw [if_pos rfl]
   exact fin t1 f1 l1
end
end L2
namespace L2
open PySem
section
variable {prog:Program} {w:World} {A:Around} {E:Value -> Shared -> Prop} {s:Shared}
theorem aRj {M:Model} {src:Source} {n:Nat} {Q:Nat->Shared->Prop} (hn:n≠0) (h:∀ i d,i < n->Q i { s with drawn:=d }):wpAny M A (choose src n) Q E s:=by
 intro Γ p _
 show Sem.wp M Γ (.choose src n .pure) _ _ p s
 rw [Sem.wp_choose]
 exact ⟨hn,by rw [Sem.wp]; exact h _ _ (Nat.mod_lt _ (Nat.pos_of_ne_zero hn))⟩
theorem aEk {α:Type}:∀ {l:List α} {i:Nat} {x:α},l[i]?=some x->(x::l.eraseIdx i).Perm l
 | [],i,x,h=>by simp at h
 | a::l,0,x,h=>by simp at h; subst h; exact .refl _
 | a::l,i+1,x,h=>by
  have ih:=aEk (l:=l) (i:=i) (x:=x) (by simpa using h)
  show (x::a::l.eraseIdx i).Perm (a::l)
  exact (List.Perm.swap ..).trans (ih.cons a)
theorem aJ7 {M:Model} {α:Type}:∀ (n:Nat) (xs:List α) (s:Shared) (Q:List α->Shared->Prop),xs.length=n->(∀ ys d,ys.Perm xs->Q ys { s with drawn:=d })->wpAny M A (drawOrder n xs) Q E s
 | 0,xs,s,Q,hl,h=>by
  have:xs=[]:=List.length_eq_zero_iff.mp hl
  subst this
  exact wpAny_pure (h [] s.drawn (.refl _))
 | n+1,[],s,Q,hl,h=>by cases hl
 | n+1,x::xs,s,Q,hl,h=>by
  unfold drawOrder
  refine wpAny_bind (aRj (by simp) fun i d hi=>?_)
  obtain ⟨y,hy⟩:∃ y,(x::xs)[i]?=some y:=⟨_,List.getElem?_eq_getElem hi⟩
  rw [hy]
  refine wpAny_bind (aJ7 n _ _ _ ?_ fun ys d' hp=>wpAny_pure (h _ d' ?_))
  ·have:=(aEk hy).length_eq
   simp at this hl ⊢
   omega
  ·exact (hp.cons y).trans (aEk hy)
theorem aPz {α:Type} (next:Nat->Nat):∀ (fuel k:Nat) (left:List α) (out:Array α),left.length=fuel->(pickOrder.go next fuel k left out).toList.Perm (out.toList++left)
 | 0,k,left,out,hl=>by
  have:left=[]:=List.length_eq_zero_iff.mp hl
  subst this
  unfold pickOrder.go
  simp
 | fuel+1,k,left,out,hl=>by
  unfold pickOrder.go
  have hlt:next k % left.length < left.length:=Nat.mod_lt _ (by omega)
  obtain ⟨y,hy⟩:∃ y,left[next k % left.length]?=some y:=⟨_,List.getElem?_eq_getElem hlt⟩
  rw [hy]
  dsimp only
  have hp:=aEk hy
  have ih:=aPz next fuel (k+1) (left.eraseIdx (next k % left.length)) (out.push y) (by
   have:=hp.length_eq
   simp at this
   omega)
  refine ih.trans ?_
  rw [Array.toList_push,List.append_assoc]
  exact List.Perm.append_left _ hp
theorem aPy {α:Type} (next:Nat->Nat) (xs:Array α):(pickOrder next xs).toList.Perm xs.toList:=by
 unfold pickOrder
 have:=aPz next xs.size 0 xs.toList #[] (by simp)
 simpa using this
theorem aC2:Slot "set_iterator" "__next__" "set_iterator.__next__" :=
 .of (owner:="set_iterator") (n:="__next__") (by rw [typeLookup_type,builtinLookup_eq_fast]; kernel_rfl) (by decide +kernel) (by decide +kernel) (by decide +kernel) (by first | exact .inl (by decide +kernel) | exact .inr (by decide +kernel)) (by rw [isSubtype_type]; kernel_rfl)
theorem aI8:entryFor table "set_iterator.__next__"=some Builtin.«set_iterator.__next__»:=entryFor_of_tree (by kernel_rfl)
theorem aKl:entryFor table "set.__iter__"=some Builtin.«frozenset.__iter__»:=entryFor_alias (id':="frozenset.__iter__") (by kernel_rfl) rfl (by decide +kernel) (by kernel_rfl)
theorem aKx (a:Value):argsOk "set_iterator.__next__" ⟨[a],[]⟩:=by
 unfold argsOk
 kernel_rfl
end
end L2
namespace L2
open PySem
noncomputable def aCb (es:Array (Int×Value)) (ep:Nat) (t:SetTable):Obj:={ cls:=.type "set",dict:=none,data:=.set es ep t,slots:=#[] }
noncomputable def aK7 (h:Heap) (it:Addr) (first:Value) (i:Nat) (a:Addr) (n ep:Nat):Prop :=
 ∃ o,h.get? it=some o/\o.cls=.type "set_iterator"/\o.data=.fields #[first,.int i 0,.ref a,.int n 0,.int ep 0]
theorem aK7.typeIs {s:Shared} {it a:Addr} {first:Value} {i n ep:Nat} (x:aK7 s.heap it first i a n ep):s.TypeIs (.ref it) "set_iterator":=let ⟨o,ho,hc,_⟩:=x; ⟨o,ho,hc⟩
section
variable {prog:Program} {w:World} {A:Around} {E:Value -> Shared -> Prop} {s:Shared}
theorem aIj {it:Addr} {Q:Option Value->Shared->Prop} (hT:s.TypeIs (.ref it) "set_iterator")
  (h:wpAny (model prog w) A.in1 (Builtin.«set_iterator.__next__» ⟨[.ref it],[]⟩) (fun fin s'=>∃ v,fin=.done (.ret v)/\Q (some v) s') (fun e s'=>wpAny (model prog w) A (do if ← isInstance e (.type "StopIteration") then pure none else throw e) Q E s') s) :
  wpAny (model prog w) A (pyNext (.ref it)) Q E s:=by
 unfold pyNext
 have hc:wpAny (model prog w) A (callSpecial? (.ref it) (Str.ofString "__next__")) (fun r s'=>∃ v,r=some v/\Q (some v) s') (fun e s'=>wpAny (model prog w) A (do if ← isInstance e (.type "StopIteration") then pure none else throw e) Q E s') s :=
  wpAny_callSpecial?_slot (name:=Str.ofString "__next__") hT aC2 (wpAny_call_entry aC2 hT aI8 (wpAny_mono h (fun fin s' ⟨v,e,q⟩=>⟨v,e,v,rfl,q⟩) fun _ _ e=>e) (aKx _))
 refine wpAny_bind (wpAny_attempt (wpAny_mono hc (fun r s' hr=>?_) fun e s' he=>he))
 obtain ⟨v,rfl,q⟩:=hr
 exact wpAny_pure q
theorem aPb {e:Value} {Q:Option Value->Shared->Prop} (hT:s.TypeIs e "StopIteration") (h:Q none s):wpAny (model prog w) A (do if ← isInstance e (.type "StopIteration") then pure none else throw e) Q E s:=by
 refine wpAny_bind (wpAny_isInstance hT isSubtype_stop ?_)
 exact wpAny_pure h
theorem aMv {α:Type} {Q:α->Shared->Prop} (hh:A.handled=none) (h:∀ e h',(∀ b o,s.heap.get? b=some o->h'.get? b=some o)->Shared.TypeIs { s with heap:=h' } e "StopIteration"->E e { s with heap:=h' }) :
  wpAny (model prog w) A (do raiseNew (← newExc (.type "StopIteration") []):Sem α) Q E s:=by
 refine wpAny_bind ?_
 simp only [newExc,newTuple]
 refine wpAny_bind (wpAny_newObj_type ?_ (by size_fits))
 refine wpAny_bind (m:=firstArgMember _ _) (wpAny_of_eq (a:=Value.none) (by first | rfl | (simp only [firstArgMember]; rfl)) ?_)
 refine wpAny_newObj_type ?_ (by size_fits)
 simp only [raiseNew]
 refine wpAny_bind (wpAny_handled ?_)
 rw [hh]
 refine wpAny_bind (wpAny_pure (wpAny_throw ?_))
 exact h (.ref _) _ (fun b o e=>Heap.get?_push_of_some _ (Heap.get?_push_of_some _ e)) ⟨_,Heap.get?_push_size _ rfl,rfl⟩
variable {a it:Addr} {es:Array (Int×Value)} {ep i n:Nat} {t:SetTable} {first:Value}
theorem aIi {Q:Fin->Shared->Prop} (hi:aK7 s.heap it first i a es.size ep) (ha:s.heap.get? a=some (aCb es ep t)) (hf:t.fits es.size=true)
  (h:wpAny (model prog w) A (if let .int slot _:=first then do
    match ← setNext a slot.toNat i ep with
    | some (x,next) =>
     setField (.ref it) 0 (rawInt next)
     setField (.ref it) 1 (rawInt ((i:Int)+1))
     ret x
    | none=>setField (.ref it) 2 .none; raiseNew (← newExc (.type "StopIteration") [])
   else do
    let some places ← seqItems? first | unsupported "internal:set_iterator"
    match places[i]? with
    | some (.int place _) =>
     let x ← setNextDrawn a place.toNat ep
     setField (.ref it) 1 (rawInt ((i:Int)+1))
     ret x
    | some _=>unsupported "internal:set_iterator"
    | none=>setField (.ref it) 0 (rawInt 0); setField (.ref it) 2 .none; raiseNew (← newExc (.type "StopIteration") [])) Q E s) :
  wpAny (model prog w) A (Builtin.«set_iterator.__next__» ⟨[.ref it],[]⟩) Q E s:=by
 obtain ⟨o,ho,hc,hd⟩:=hi
 unfold Builtin.«set_iterator.__next__»
 refine wpAny_bind (m:=slotArgs _ _ _) (wpAny_pure ?_)
 refine wpAny_bind (wpAny_fieldsOf ho hd ?_)
 dsimp only
 refine wpAny_bind (wpAny_setEntries_of ha rfl hf ?_)
 rw [if_neg (by simp)]
 exact h
theorem aMu {o:Obj} {vs:Array Value} {k:Nat} {v:Value} (h:Heap) (ho:h.get? it=some o) (hd:o.data=.fields vs):(h.update it (Obj.mapFields (·.setIfInBounds k v))).get? it=some (o.mapFields (·.setIfInBounds k v)) :=
 Heap.get?_update_self _ ho (Obj.isFreed_of_fields (Obj.data_mapFields hd _))
theorem aPc {tp:Addr} {places:List Nat} {p:Nat} {x:Int×Value} {Q:Option Value->Shared->Prop} (hi:aK7 s.heap it (.ref tp) i a es.size ep) (ha:s.heap.get? a=some (aCb es ep t)) (hf:t.fits es.size=true) (hta:it≠a) (htt:it≠tp)
    (ht:∃ o k,s.heap.get? tp=some o/\o.data=.seq (places.map fun j=>rawInt (j:Nat)).toArray k) (hp:places[i]?=some p) (hx:es[p]?=some x)
    (h:∀ h',aK7 h' it (.ref tp) (i+1) a es.size ep->Heap.SameBut it s.heap h'->Q (some x.2) { s with heap:=h' }):wpAny (model prog w) A (pyNext (.ref it)) Q E s:=by
  refine aIj hi.typeIs (aIi hi ha hf ?_)
  obtain ⟨o,ho,hc,hd⟩:=hi
  obtain ⟨ot,kt,h1,h2⟩:=ht
  show wpAny (model prog w) A.in1 (do
        let some places ← seqItems? (.ref tp) | unsupported "internal:set_iterator"
        match places[i]? with
        | some (.int place _) =>
          let x ← setNextDrawn a place.toNat ep
          setField (.ref it) 1 (rawInt ((i:Int)+1))
          ret x
        | some _=>unsupported "internal:set_iterator"
        | none=>setField (.ref it) 0 (rawInt 0); setField (.ref it) 2 .none; raiseNew (← newExc (.type "StopIteration") [])) _ _ s
  unfold seqItems?
  refine wpAny_bind (wpAny_bind (wpAny_load h1 ?_))
  rw [h2]
  refine wpAny_pure ?_
  have e1:(places.map fun j=>rawInt (j:Nat)).toArray[i]?=some (rawInt (p:Nat)):=by simp [hp]
  dsimp only
  rw [e1]
  show wpAny (model prog w) A.in1 (do
          let x ← setNextDrawn a ((p:Int)).toNat ep
          setField (.ref it) 1 (rawInt ((i:Int)+1))
          ret x) _ _ s
  unfold setNextDrawn
  refine wpAny_bind (wpAny_bind (wpAny_setState_of ha rfl hf ?_))
  dsimp only
  rw [if_neg (by simp),Int.toNat_natCast,hx]
  refine wpAny_pure ?_
  refine wpAny_bind (wpAny_setField ho hd (by simp) ?_)
  refine wpAny_pure ⟨_,rfl,h _ ⟨_,aMu s.heap ho hd,(Obj.cls_mapFields ..).trans hc,?_⟩ (Heap.SameBut.update ..)⟩
  rw [Obj.data_mapFields hd]
  simp [rawInt]
theorem aSm {tp:Addr} {places:List Nat} {Q:Option Value->Shared->Prop} (hh:A.handled=none) (hi:aK7 s.heap it (.ref tp) i a es.size ep) (ha:s.heap.get? a=some (aCb es ep t)) (hf:t.fits es.size=true)
    (ht:∃ o k,s.heap.get? tp=some o/\o.data=.seq (places.map fun j=>rawInt (j:Nat)).toArray k) (hp:places[i]?=none)
    (h:∀ h',Heap.ExtBut it s.heap h'->Q none { s with heap:=h' }):wpAny (model prog w) A (pyNext (.ref it)) Q E s:=by
  refine aIj hi.typeIs (aIi hi ha hf ?_)
  obtain ⟨o,ho,hc,hd⟩:=hi
  obtain ⟨ot,kt,h1,h2⟩:=ht
  show wpAny (model prog w) A.in1 (do
        let some places ← seqItems? (.ref tp) | unsupported "internal:set_iterator"
        match places[i]? with
        | some (.int place _) =>
          let x ← setNextDrawn a place.toNat ep
          setField (.ref it) 1 (rawInt ((i:Int)+1))
          ret x
        | some _=>unsupported "internal:set_iterator"
        | none=>setField (.ref it) 0 (rawInt 0); setField (.ref it) 2 .none; raiseNew (← newExc (.type "StopIteration") [])) _ _ s
  unfold seqItems?
  refine wpAny_bind (wpAny_bind (wpAny_load h1 ?_))
  rw [h2]
  refine wpAny_pure ?_
  have e1:(places.map fun j=>rawInt (j:Nat)).toArray[i]?=none:=by simpa using hp
  dsimp only
  rw [e1]
  refine wpAny_bind (wpAny_setField ho hd (by simp) ?_)
  have g1:=aMu (k:=0) (v:=rawInt 0) s.heap ho hd
  refine wpAny_bind (wpAny_setField g1 (Obj.data_mapFields hd _) (by simp) ?_)
  refine aMv (by simpa using hh) fun e h' k hT=>?_
  refine aPb hT (h h' fun b o' hb e'=>k b o' ?_)
  exact (Heap.get?_update_other _ _ (Ne.symm hb)).trans ((Heap.get?_update_other _ _ (Ne.symm hb)).trans e')
theorem aJw {slot next:Nat} {x:Value} {Q:Option Value->Shared->Prop} (hi:aK7 s.heap it (.int slot 0) i a es.size ep) (ha:s.heap.get? a=some (aCb es ep t)) (hf:t.fits es.size=true)
    (hn:∀ (A:Around) (E:Value->Shared->Prop) (Q:Option (Value×Nat)->Shared->Prop),Q (some (x,next)) s->wpAny (model prog w) A (setNext a slot i ep) Q E s)
    (h:∀ h',aK7 h' it (.int next 0) (i+1) a es.size ep->Heap.SameBut it s.heap h'->Q (some x) { s with heap:=h' }):wpAny (model prog w) A (pyNext (.ref it)) Q E s:=by
  refine aIj hi.typeIs (aIi hi ha hf ?_)
  obtain ⟨o,ho,hc,hd⟩:=hi
  show wpAny (model prog w) A.in1 (do
        match ← setNext a ((slot:Int)).toNat i ep with
        | some (x,next) =>
          setField (.ref it) 0 (rawInt next)
          setField (.ref it) 1 (rawInt ((i:Int)+1))
          ret x
        | none=>setField (.ref it) 2 .none; raiseNew (← newExc (.type "StopIteration") [])) _ _ s
  rw [Int.toNat_natCast]
  refine wpAny_bind (hn _ _ _ ?_)
  refine wpAny_bind (wpAny_setField ho hd (by simp) ?_)
  have g1:=aMu (k:=0) (v:=rawInt next) s.heap ho hd
  refine wpAny_bind (wpAny_setField g1 (Obj.data_mapFields hd _) (by simp) ?_)
  refine wpAny_pure ⟨_,rfl,h _ ⟨_,aMu _ g1 (Obj.data_mapFields hd _),(Obj.cls_mapFields ..).trans ((Obj.cls_mapFields ..).trans hc),?_⟩ ((Heap.SameBut.update ..).trans (Heap.SameBut.update ..))⟩
  rw [Obj.data_mapFields (Obj.data_mapFields hd _)]
  simp [rawInt]
theorem aMw {slot:Nat} {Q:Option Value->Shared->Prop} (hh:A.handled=none) (hi:aK7 s.heap it (.int slot 0) i a es.size ep) (ha:s.heap.get? a=some (aCb es ep t)) (hf:t.fits es.size=true)
    (hn:∀ (A:Around) (E:Value->Shared->Prop) (Q:Option (Value×Nat)->Shared->Prop),Q none s->wpAny (model prog w) A (setNext a slot i ep) Q E s)
    (h:∀ h',Heap.ExtBut it s.heap h'->Q none { s with heap:=h' }):wpAny (model prog w) A (pyNext (.ref it)) Q E s:=by
  refine aIj hi.typeIs (aIi hi ha hf ?_)
  obtain ⟨o,ho,hc,hd⟩:=hi
  show wpAny (model prog w) A.in1 (do
        match ← setNext a ((slot:Int)).toNat i ep with
        | some (x,next) =>
          setField (.ref it) 0 (rawInt next)
          setField (.ref it) 1 (rawInt ((i:Int)+1))
          ret x
        | none=>setField (.ref it) 2 .none; raiseNew (← newExc (.type "StopIteration") [])) _ _ s
  rw [Int.toNat_natCast]
  refine wpAny_bind (hn _ _ _ ?_)
  refine wpAny_bind (wpAny_setField ho hd (by simp) ?_)
  refine aMv (by simpa using hh) fun e h' k hT=>?_
  refine aPb hT (h h' fun b o' hb e'=>k b o' ?_)
  exact (Heap.get?_update_other _ _ (Ne.symm hb)).trans e'
end
end L2
namespace L2
open PySem
section
variable {prog:Program} {w:World} {A:Around} {E:Value -> Shared -> Prop} {s:Shared} {a it:Addr} {es:Array (Int×Value)} {ep i n:Nat} {t:SetTable}
theorem aFk {Q:Bool->Shared->Prop} (h:Q (w.params.followText "set-order") s):wpAny (model prog w) A setsByText Q E s:=by
 unfold setsByText
 exact wpAny_bind (wpAny_askSetting (wpAny_pure h))
theorem aKb {slot:Nat} (ht:w.params.followText "set-order"=true) (ha:s.heap.get? a=some (aCb es ep t)) (hf:t.fits es.size=true) {Q:Option (Value×Nat)->Shared->Prop}
  (h:Q (((pickOrder (w.params.setOrder a ep) es)[i]?).map fun e=>(e.2,slot)) s):wpAny (model prog w) A (setNext a slot i ep) Q E s:=by
 unfold setNext
 refine wpAny_bind (wpAny_setState_of ha rfl hf ?_)
 dsimp only
 refine wpAny_bind (aFk ?_)
 rw [ht,if_pos rfl,if_neg (by simp)]
 unfold setWalk
 refine wpAny_bind (wpAny_bind (wpAny_setState_of ha rfl hf ?_))
 dsimp only
 refine wpAny_bind (aFk ?_)
 rw [ht,if_pos rfl]
 exact wpAny_bind (wpAny_askSetting (wpAny_pure (wpAny_pure h)))
theorem aNc {slot:Nat} (ht:w.params.followText "set-order"=false) (hl:t.led=true) (hd:(!t.plain&&decide (es.size > 1))=false) (ha:s.heap.get? a=some (aCb es ep t)) (hf:t.fits es.size=true) {Q:Option (Value×Nat)->Shared->Prop}
  (h:Q (match es[SetTable.below t.place slot]?,t.place[SetTable.below t.place slot]? with | some (_,x),some j=>some (x,j+1) | _,_=>none) s):wpAny (model prog w) A (setNext a slot i ep) Q E s:=by
 unfold setNext
 refine wpAny_bind (wpAny_setState_of ha rfl hf ?_)
 dsimp only
 refine wpAny_bind (aFk ?_)
 rw [ht,if_neg Bool.false_ne_true]
 show wpAny (model prog w) A (if (!t.plain&&decide (es.size > 1))=true then _ else _) Q E s
 rw [if_neg (by rw [hd]; exact Bool.false_ne_true)]
 refine wpAny_bind ?_
 show wpAny (model prog w) A (if (!t.led&&!es.isEmpty)=true then unsupported "set:maker-not-led" else pure ()) _ _ s
 rw [if_neg (by rw [hl]; simp)]
 exact wpAny_pure (wpAny_pure h)
structure aJj (prog:Program) (w:World) (A:Around) (it:Addr) (fp:List Addr) (ord:List Value) (St:Nat->Heap->Prop):Prop where
 ws:Walks prog w A it fp [it] ord.length (fun i v=>ord[i]?=some v) St
 ty:∀ i (s:Shared),St i s.heap->s.TypeIs (.ref it) "set_iterator"
theorem aLe {first:Value} {Q:Value->Shared->Prop} (hi:aK7 s.heap it first i a n ep) (h:Q (.ref it) s) (slot:Slot "set_iterator" "__iter__" "set_iterator.__iter__") (entry:entryFor table "set_iterator.__iter__"=some Builtin.«dict_keyiterator.__iter__»)
  (args:argsOk "set_iterator.__iter__" ⟨[.ref it],[]⟩):wpAny (model prog w) A (pyIter (.ref it)) Q E s:=by
 refine wpAny_pyIter_slot hi.typeIs slot (wpAny_call_entry slot hi.typeIs entry ?_ args)
 show wpAny _ _ (ret (.ref it)) _ _ s
 exact wpAny_pure ⟨_,rfl,"set_iterator",_,hi.typeIs,aC2.lookup,h⟩
end
theorem aDt:Slot "set_iterator" "__iter__" "set_iterator.__iter__" :=
 .of (owner:="set_iterator") (n:="__iter__") (by rw [typeLookup_type,builtinLookup_eq_fast]; kernel_rfl) (by decide +kernel) (by decide +kernel) (by decide +kernel) (by first | exact .inl (by decide +kernel) | exact .inr (by decide +kernel)) (by rw [isSubtype_type]; kernel_rfl)
theorem aDl:entryFor table "set_iterator.__iter__"=some Builtin.«dict_keyiterator.__iter__»:=entryFor_alias (id':="dict_keyiterator.__iter__") (by kernel_rfl) rfl (by decide +kernel) (by kernel_rfl)
theorem aD9 (a:Value):argsOk "set_iterator.__iter__" ⟨[a],[]⟩:=by
 unfold argsOk
 kernel_rfl
section
variable {prog:Program} {w:World} {A:Around} {E:Value -> Shared -> Prop} {s:Shared} {a it:Addr} {es:Array (Int×Value)} {ep i n:Nat} {t:SetTable}
theorem aK7.at {h h':Heap} {first:Value} (x:aK7 h it first i a n ep) (e:∀ o,h.get? it=some o->h'.get? it=some o):aK7 h' it first i a n ep:=let ⟨o,ho,r⟩:=x; ⟨o,e _ ho,r⟩
theorem aOm (hh:A.handled=none) (hne:a≠it) (ht:w.params.followText "set-order"=true) (hf:t.fits es.size=true) :
  aJj prog w A it [it,a] ((pickOrder (w.params.setOrder a ep) es).toList.map (·.2)) (fun i h=>aK7 h it (.int (0:Nat) 0) i a es.size ep/\h.get? a=some (aCb es ep t)) where
 ws:={
  sub:=fun b hb=>by simp at hb; simp [hb]
  frame:=fun _ _ _ st hk=>⟨st.1.at fun o e=>hk it (by simp) o e,hk a (by simp) _ st.2⟩
  item:=fun i s Q E hi st hQ=>by
   have hlt:i < (pickOrder (w.params.setOrder a ep) es).size:=by simpa using hi
   refine aJw (slot:=0) (next:=0) (x:=((pickOrder (w.params.setOrder a ep) es)[i]).2) st.1 st.2 hf (fun A E Q q=>aKb ht st.2 hf (by simpa [hlt] using q)) fun h' hit sb=>?_
   exact hQ _ h' s.toks (by simp [hlt]) ⟨hit,(sb.2 a hne).trans st.2⟩ fun b o hb e=>(sb.2 b (by simpa using hb)).trans e
  done:=fun s Q E st hQ=>by
   refine aMw (slot:=0) hh st.1 st.2 hf (fun A E Q q=>aKb ht st.2 hf (by simpa using q)) fun h' eb=>?_
   exact hQ h' s.toks fun b o hb e=>eb b o (by simpa using hb) e
  self:=fun _ _ _ _ st hQ=>aLe st.1 hQ aDt aDl (aD9 _) }
 ty:=fun _ _ st=>st.1.typeIs
theorem aSd (hh:A.handled=none) (hne:a≠it) (ht:w.params.followText "set-order"=false) (hl:t.led=true) (hd:(!t.plain&&decide (es.size > 1))=false) (hr:Ris t.place) (hf:t.fits es.size=true) :
  aJj prog w A it [it,a] (es.toList.map (·.2)) (fun i h=>(∃ slot:Nat,aK7 h it (.int slot 0) i a es.size ep/\SetTable.below t.place slot=i)/\h.get? a=some (aCb es ep t)) where
 ws:={
  sub:=fun b hb=>by simp at hb; simp [hb]
  frame:=fun _ _ _ ⟨⟨sl,st,r⟩,st2⟩ hk=>⟨⟨sl,st.at fun o e=>hk it (by simp) o e,r⟩,hk a (by simp) _ st2⟩
  item:=fun i s Q E hi st hQ=>by
   obtain ⟨⟨sl,st1,z1⟩,st2⟩:=st
   have hlt:i < es.size:=by simpa using hi
   have hps:i < t.place.size:=by
    have:=hf
    unfold SetTable.fits at this
    simp at this
    omega
   refine aJw (slot:=sl) (next:=t.place[i]+1) (x:=es[i].2) st1 st2 hf (fun A E Q q=>aNc ht hl hd st2 hf ?_) fun h' hit sb=>?_
   ·rw [z1,Array.getElem?_eq_getElem hlt,Array.getElem?_eq_getElem hps]
    exact q
   ·exact hQ _ h' s.toks (by simp [hlt]) ⟨⟨_,hit,aOh hr hps⟩,(sb.2 a hne).trans st2⟩ fun b o hb e=>(sb.2 b (by simpa using hb)).trans e
  done:=fun s Q E st hQ=>by
   obtain ⟨⟨sl,st1,z1⟩,st2⟩:=st
   rw [List.length_map,Array.length_toList] at st1 z1
   refine aMw (slot:=sl) hh st1 st2 hf (fun A E Q q=>aNc ht hl hd st2 hf ?_) fun h' eb=>?_
   ·rw [z1,Array.getElem?_eq_none (Nat.le_refl _)]
    exact q
   ·exact hQ h' s.toks fun b o hb e=>eb b o (by simpa using hb) e
  self:=fun _ _ _ _ ⟨⟨_,st,_⟩,_⟩ hQ=>aLe st hQ aDt aDl (aD9 _) }
 ty:=fun _ _ ⟨⟨_,st,_⟩,_⟩=>st.typeIs
theorem aNs {tp:Addr} {places:List Nat} (hh:A.handled=none) (hne:a≠it) (hnt:tp≠it) (hf:t.fits es.size=true) (hp:∀ p∈places,p < es.size) :
  aJj prog w A it [it,a,tp] (places.map fun p=>((es[p]?).getD (0,.none)).2) (fun i h=>aK7 h it (.ref tp) i a es.size ep/\h.get? a=some (aCb es ep t)/\∃ o k,h.get? tp=some o/\o.data=.seq (places.map fun j=>rawInt (j:Nat)).toArray k) where
 ws:={
  sub:=fun b hb=>by simp at hb; simp [hb]
  frame:=fun _ _ _ ⟨st,st2,o,k,e,d⟩ hk=>⟨st.at fun o e=>hk it (by simp) o e,hk a (by simp) _ st2,o,k,hk tp (by simp) _ e,d⟩
  item:=fun i s Q E hi st hQ=>by
   have hlt:i < places.length:=by simpa using hi
   have hps:=hp _ (List.getElem_mem hlt)
   obtain ⟨st1,st2,o,k,e,d⟩:=st
   refine aPc (p:=places[i]) (x:=es[places[i]]) st1 st2 hf hne.symm hnt.symm ⟨o,k,e,d⟩ (by simp [hlt]) (by simp [hps]) fun h' hit sb=>?_
   exact hQ _ h' s.toks (by simp [hlt,hps]) ⟨hit,(sb.2 a hne).trans st2,o,k,(sb.2 tp hnt).trans e,d⟩ fun b o hb e=>(sb.2 b (by simpa using hb)).trans e
  done:=fun s Q E st hQ=>by
   obtain ⟨st1,st2,o,k,e,d⟩:=st
   rw [List.length_map] at st1
   refine aSm hh st1 st2 hf ⟨o,k,e,d⟩ (by simp) fun h' eb=>?_
   exact hQ h' s.toks fun b o hb e=>eb b o (by simpa using hb) e
  self:=fun _ _ _ _ st hQ=>aLe st.1 hQ aDt aDl (aD9 _) }
 ty:=fun _ _ st=>st.1.typeIs
end
end L2
namespace L2
open PySem
theorem aIx {α:Type} (es:Array α) (d:α):(List.range es.size).map (fun p=>(es[p]?).getD d)=es.toList:=by
 apply List.ext_getElem
 ·simp
 ·intro i h1 h2
  simp at h1 h2 ⊢
  simp [h1]
section
variable {prog:Program} {w:World} {A A₂:Around} {E:Value -> Shared -> Prop} {s:Shared} {a it:Addr} {es:Array (Int×Value)} {ep i n:Nat} {t:SetTable}
theorem aJy (ha:s.heap.get? a=some (aCb es ep t)):s.TypeIs (.ref a) "set":=⟨_,ha,rfl⟩
theorem aTl (hh:A₂.handled=none) (ha:s.heap.get? a=some (aCb es ep t)) (hf:t.fits es.size=true) (ht:Tb w t es.size) (hb:es.size<=sizeLine) {Q:Value->Shared->Prop}
  (h:∀ it h' d fp ord St,aJj prog w A₂ it fp ord St->ord.Perm (es.toList.map (·.2))->St 0 h'->(∀ b o,s.heap.get? b=some o->h'.get? b=some o)->(∀ b∈fp,(b=a∨s.heap.objs.size<=b)/\b < h'.objs.size)->it∈fp->it≠a ->
   Q (.ref it) { s with heap:=h',drawn:=d }):wpAny (model prog w) A (pyIter (.ref a)) Q E s:=by
 have hT:=aJy ha
 have hlt:a < s.heap.objs.size:=Heap.lt_size ha
 refine wpAny_pyIter_slot hT F.slot_set_iter (wpAny_call_entry F.slot_set_iter hT aKl ?_ (F.args_set_iter_1 _))
 unfold Builtin.«frozenset.__iter__»
 refine wpAny_bind (m:=Builtin.Frozenset.slot0 _ _) (wpAny_pure ?_)
 refine wpAny_bind ?_
 show wpAny _ _ (do return (← setEntries a).size) _ _ s
 refine wpAny_bind (wpAny_setEntries_of ha rfl hf (wpAny_pure ?_))
 refine wpAny_bind ?_
 unfold setDrawn
 refine wpAny_bind (wpAny_setState_of ha rfl hf ?_)
 dsimp only
 refine wpAny_bind (aFk (wpAny_pure ?_))
 have fin:∀ (first:Value) (s1:Shared),s1.heap.get? a=some (aCb es ep t)->(∀ (h2:Q (.ref s1.heap.objs.size) { s1 with heap:=s1.heap.push { cls:=.type "set_iterator",data:=.fields #[first,.int (0:Nat) 0,.ref a,.int es.size 0,.int ep 0] } }),
   wpAny (model prog w) A.in1 (do ret (← newFields "set_iterator" [first,rawInt 0,.ref a,rawInt es.size,rawInt (← setEpoch a)])) (fun fin s'=>∃ v,fin=.done (.ret v)/\∃ T' r,s'.TypeIs v T'/\typeLookup (.type T') "__next__"=pure (some r)/\Q v s') E s1):=fun first s1 h1 h2=>by
  refine wpAny_bind (wpAny_setEpoch_of h1 rfl hf ?_)
  refine wpAny_bind (wpAny_newObj_type (wpAny_pure ⟨_,rfl,"set_iterator",_,⟨_,Heap.get?_push_size _ rfl,rfl⟩,aC2.lookup,?_⟩))
  exact h2
 by_cases hbt:w.params.followText "set-order"=true
 ·rw [hbt,if_neg (by simp)]
  refine wpAny_bind (wpAny_pure (fin _ s ha ?_))
  have W:=aOm (prog:=prog) (w:=w) (A:=A₂) (a:=a) (it:=s.heap.objs.size) (es:=es) (ep:=ep) (t:=t) hh (Nat.ne_of_lt hlt) hbt hf
  refine h _ (s.heap.push _) s.drawn _ _ _ W ?_ ⟨⟨_,Heap.get?_push_size _ rfl,rfl,rfl⟩,Heap.get?_push_of_some _ ha⟩ (fun b o e=>Heap.get?_push_of_some _ e) (fun b hb=>?_) (by simp) (Nat.ne_of_gt hlt)
  ·exact (aPy _ es).map _
  ·rw [Heap.size_push]
   simp at hb
   rcases hb with rfl | rfl
   ·exact ⟨.inr (Nat.le_refl _),Nat.lt_succ_self _⟩
   ·exact ⟨.inl rfl,Nat.lt_succ_of_lt hlt⟩
 ·have hbf:w.params.followText "set-order"=false:=by simpa using hbt
  rw [hbf]
  have hled:t.led=true:=by rw [ht.1,hbf]; rfl
  show wpAny _ _ (if (!false&&(!t.plain&&decide (es.size > 1)))=true then _ else _) _ _ s
  by_cases h1:(!t.plain&&decide (es.size > 1))=false
  ·have e0:(!false&&(!t.plain&&decide (es.size > 1)))=false:=by rw [h1]; rfl
   rw [if_neg (by rw [e0]; exact Bool.false_ne_true)]
   refine wpAny_bind (wpAny_pure (fin _ s ha ?_))
   have W:=aSd (prog:=prog) (w:=w) (A:=A₂) (a:=a) (it:=s.heap.objs.size) (es:=es) (ep:=ep) (t:=t) hh (Nat.ne_of_lt hlt) hbf hled h1 ht.2.1 hf
   refine h _ (s.heap.push _) s.drawn _ _ _ W (.refl _) ⟨⟨0,⟨_,Heap.get?_push_size _ rfl,rfl,rfl⟩,aOg ht.2.1⟩,Heap.get?_push_of_some _ ha⟩ (fun b o e=>Heap.get?_push_of_some _ e) (fun b hb=>?_) (by simp) (Nat.ne_of_gt hlt)
   rw [Heap.size_push]
   simp at hb
   rcases hb with rfl | rfl
   ·exact ⟨.inr (Nat.le_refl _),Nat.lt_succ_self _⟩
   ·exact ⟨.inl rfl,Nat.lt_succ_of_lt hlt⟩
  ·have e0:(!false&&(!t.plain&&decide (es.size > 1)))=true:=by rw [Bool.not_false,Bool.true_and]; simpa using h1
   rw [if_pos e0]
   refine wpAny_bind (aJ7 es.size (List.range es.size) s _ (by simp) fun ys d hp=>?_)
   unfold newTuple
   refine wpAny_bind (wpAny_newObj_type ?_ ?hs)
   case hs =>
    show (List.map (fun (i:Nat)=>rawInt i) ys).toArray.size<=sizeLine
    have:=hp.length_eq
    simp at this ⊢
    omega
   refine fin (.ref s.heap.objs.size) _ (Heap.get?_push_of_some _ ha) ?_
   have hys:∀ p∈ys,p < es.size:=fun p hm=>by simpa using hp.mem_iff.mp hm
   have W:=aNs (prog:=prog) (w:=w) (A:=A₂) (a:=a) (it:=(s.heap.push { cls:=.type "tuple",data:=.seq (List.map (fun (i:Nat)=>rawInt i) ys).toArray }).objs.size) (tp:=s.heap.objs.size) (es:=es) (ep:=ep) (t:=t) (places:=ys) hh
    (by rw [Heap.size_push]; exact Nat.ne_of_lt (Nat.lt_succ_of_lt hlt)) (by rw [Heap.size_push]; exact Nat.ne_of_lt (Nat.lt_succ_self _)) hf hys
   refine h _ _ d _ _ _ W ?_ ⟨⟨_,Heap.get?_push_size _ rfl,rfl,rfl⟩,Heap.get?_push_of_some _ (Heap.get?_push_of_some _ ha),_,0,Heap.get?_push_of_some _ (Heap.get?_push_size _ rfl),rfl⟩ (fun b o e=>Heap.get?_push_of_some _ (Heap.get?_push_of_some _ e)) (fun b hb=>?_) (by simp) (by rw [Heap.size_push]; exact Nat.ne_of_gt (Nat.lt_succ_of_lt hlt))
   ·have q:=hp.map (fun p=>((es[p]?).getD (0,.none)).2)
    have e1:(List.range es.size).map (fun p=>((es[p]?).getD (0,.none)).2)=es.toList.map (·.2):=by
     have:=congrArg (List.map (·.2)) (aIx es (0,Value.none))
     rw [List.map_map] at this
     exact this
    rw [e1] at q
    exact q
   ·rw [Heap.size_push,Heap.size_push]
    simp at hb
    rcases hb with rfl | rfl | rfl
    ·exact ⟨.inr (Nat.le_succ _),Nat.lt_succ_self _⟩
    ·exact ⟨.inl rfl,Nat.lt_succ_of_lt (Nat.lt_succ_of_lt hlt)⟩
    ·exact ⟨.inr (Nat.le_refl _),Nat.lt_succ_of_lt (Nat.lt_succ_self _)⟩
end
end L2
namespace L2
open PySem
theorem aLa:splitId "set.__len__"=some ("set","__len__"):=by kernel_rfl
theorem aVc:isSubtype (.type "set") (.type "set")=pure true:=by rw [isSubtype_type]; kernel_rfl
section
variable {prog:Program} {w:World} {A A₂:Around} {E:Value -> Shared -> Prop} {s:Shared} {a it:Addr} {es:Array (Int×Value)} {ep i n:Nat} {t:SetTable}
theorem aTn {Q:Bool->Shared->Prop} (ha:s.heap.get? a=some (aCb es ep t)) (h:Q false s):wpAny (model prog w) A (Builtin.List.listLengthHint (.ref a)) Q E s:=by
 unfold Builtin.List.listLengthHint
 have hT:=aJy ha
 refine wpAny_bind (wpAny_specialOf hT F.slot_set_len.lookup ?_)
 dsimp only
 rw [aLa]
 dsimp only
 refine wpAny_bind (wpAny_isInstance hT aVc ?_)
 rw [if_neg (by simp)]
 show wpAny (model prog w) A (if true=true then _ else _) Q E s
 rw [if_pos rfl]
 refine wpAny_bind (wpAny_typeOf hT ?_)
 exact wpAny_pure h
theorem aMi {Q:List Value->Shared->Prop} (hh:A.handled=none) (ha:s.heap.get? a=some (aCb es ep t)) (hf:t.fits es.size=true) (ht:Tb w t es.size) (hb:es.size<=sizeLine)
  (h:∀ vs h' d tk,vs.Perm (es.toList.map (·.2))->(∀ b o,s.heap.get? b=some o->h'.get? b=some o)->s.heap.objs.size<=h'.objs.size->Q vs { s with heap:=h',drawn:=d,toks:=tk }):wpAny (model prog w) A (collect (.ref a)) Q E s:=by
 have hlt:a < s.heap.objs.size:=Heap.lt_size ha
 unfold collect
 refine wpAny_bind (wpAny_runValue (codeAny_builtin F.entry_proto_collect ?_))
 rw [Around.under_plainId F.plain_proto_collect _]
 show wpAny _ A.in1 (newList [] >>= fun l=>again (.builtin "list.__iadd__" ⟨[l,.ref a],[]⟩)) _ _ s
 refine wpAny_bind (wpAny_newObj_type ?_)
 refine wpAny_pure ⟨plainId_quiet F.plain_list_iadd _,codeAny_builtin F.entry_list_iadd ?_⟩
 rw [Around.under_plainId F.plain_list_iadd _]
 generalize hN:s.heap.objs.size=S at *
 have g0:(s.heap.push { cls:=.type "list",data:=.seq ([]:List Value).toArray }).get? S=some { cls:=.type "list",data:=.seq ([]:List Value).toArray }:=hN ▸ Heap.get?_push_size _ rfl
 have kp0:∀ b o,s.heap.get? b=some o->(s.heap.push { cls:=.type "list",data:=.seq ([]:List Value).toArray }).get? b=some o:=fun b o e=>Heap.get?_push_of_some _ e
 have z0:(s.heap.push { cls:=.type "list",data:=.seq ([]:List Value).toArray }).objs.size=S+1:=by rw [Heap.size_push,hN]
 generalize s.heap.push { cls:=.type "list",data:=.seq ([]:List Value).toArray }=h0 at g0 kp0 z0 ⊢
 show wpAny _ A.in1 (Builtin.List.listExtendWith (.ref S) (.ref a) (.ref S)) _ _ _
 unfold Builtin.List.listExtendWith
 have hT0:Shared.TypeIs { s with heap:=h0 } (.ref a) "set":=⟨_,kp0 _ _ ha,rfl⟩
 refine wpAny_bind (wpAny_typeOf hT0 ?_)
 have h1:Builtin.List.listSameRef (.ref S) (.ref a)=false:=by
  simp [Builtin.List.listSameRef]
  exact Nat.ne_of_gt hlt
 have h2:(Value.type "set"==Value.type "list")=false:=by decide
 have h3:(Value.type "set"==Value.type "tuple")=false:=by decide
 simp only [h1,h2,h3,Bool.or_false,Bool.false_eq_true,if_false]
 refine wpAny_bind (aTl (A₂:=A.in1) (by simpa using hh) (show (Shared.heap { s with heap:=h0 }).get? a=_ from kp0 _ _ ha) hf ht hb fun it h' d fp ord St W hp st kp fpo hit hia=>?_)
 have hz:ord.length=es.size:=by
  have:=hp.length_eq
  simpa using this
 have ha':h'.get? a=some (aCb es ep t):=kp _ _ (kp0 _ _ ha)
 have gS:h'.get? S=some { cls:=.type "list",data:=.seq ([]:List Value).toArray }:=kp _ _ g0
 have hSf:S∉fp:=fun hm=>by
  rcases (fpo S hm).1 with e | e
  ·exact Nat.ne_of_gt hlt e
  ·have e:S+1<=S:=z0 ▸ e
   exact Nat.not_succ_le_self _ e
 refine wpAny_bind (wpAny_holding (aTn ha' ?_))
 show wpAny _ A.in1 (if (false || _)=true then _ else _) _ _ _
 rw [if_pos (by first | rfl | decide)]
 refine wpAny_bind (wpAny_rule ?_)
 refine wpAny_bind ?_
 show wpAny _ A.in1 (updateSeq S (·.push .none) >>= fun _=>updateSeq S (·.pop)) _ _ _
 refine wpAny_bind (wpAny_updateSeq gS rfl ?_)
 have gS2:=Heap.get?_update_self (Obj.mapSeq (·.push Value.none)) gS rfl
 refine wpAny_updateSeq gS2 rfl ?_
 have gS3:=Heap.get?_update_self (Obj.mapSeq (·.pop)) gS2 rfl
 have oth:∀ b o,b≠S->h'.get? b=some o->((h'.update S (Obj.mapSeq (·.push Value.none))).update S (Obj.mapSeq (·.pop))).get? b=some o :=
  fun b o hb e=>(Heap.get?_update_other _ _ (Ne.symm hb)).trans ((Heap.get?_update_other _ _ (Ne.symm hb)).trans e)
 generalize (h'.update S (Obj.mapSeq (·.push Value.none))).update S (Obj.mapSeq (·.pop))=h3 at gS3 oth ⊢
 refine wpAny_pure ⟨plainId_quiet F.plain_extend_loop _,codeAny_extend_loopS W.ws.toS (by omega) S hSf _ ord.length 0 _ _ _ rfl (Nat.zero_le _)
  (W.ws.frame 0 h' h3 st fun b hb o e=>oth b o (fun z=>hSf (z ▸ hb)) e) gS3 (ItemsOf.nil _) fun s' acc' c' hm hS' hacc=>?_⟩
 show wpAny _ A (load S >>= _) _ _ s'
 refine wpAny_bind (wpAny_load hS' ?_)
 refine wpAny_pure ?_
 obtain ⟨h4,g4,d4,t4,o4⟩:=s'
 have eg:g4=s.gens:=hm.gens
 have ed:d4=d:=hm.drawn
 have eo:o4=s.os:=hm.os
 subst eg ed eo
 have ev:acc'.toList=ord:=by
  apply List.ext_getElem?
  intro j
  by_cases hj:j < acc'.size
  ·have:=hacc.2 j acc'[j] (by simp [hj])
   rw [this]
   simp [hj]
  ·have e1:acc'.toList[j]?=none:=by simp; omega
   have e2:ord[j]?=none:=by
    have:=hacc.1
    simp
    omega
   rw [e1,e2]
 rw [ev]
 refine h ord h4 d4 t4 hp (fun b o e=>?_) (Nat.le_of_lt (Heap.lt_size hS'))
 have hbS:b≠S:=Nat.ne_of_lt (hN ▸ Heap.lt_size e)
 have hbi:b≠it:=fun z=>by
  subst z
  rcases (fpo b hit).1 with e2 | e2
  ·exact hia e2
  ·have e2:S+1<=b:=z0 ▸ e2
   have e3:b < S:=hN ▸ Heap.lt_size e
   exact Nat.lt_irrefl _ (Nat.lt_of_lt_of_le e3 (Nat.le_of_succ_le e2))
 exact hm.heap b o (by simp [hbS,hbi]) (oth b o hbS (kp _ _ (kp0 _ _ e)))
end
end L2
namespace L2
open PySem
noncomputable def aOp (prog:Program) (w:World):KeyKind prog w Str where
 is:=Value.isStrOf
 hash:=hashStr w
 inj:=Value.isStrOf_inj
 byValue:=fun k v h=>by obtain ⟨t,rfl⟩:=Value.isStrOf_shape h; rfl
 pyHash:=fun hv h=>by obtain ⟨t,rfl⟩:=Value.isStrOf_shape hv; exact wpAny_pyHash_str h
 eqBool:=fun hu hv h=>by
  obtain ⟨t,rfl⟩:=Value.isStrOf_shape hu
  obtain ⟨u,rfl⟩:=Value.isStrOf_shape hv
  exact wpAny_eqBool_str h
 «strs»:=fun k x t v h=>by
  obtain ⟨u,e⟩:=Value.isStrOf_shape h
  cases e
  cases v <;> rfl
noncomputable def aT5:Value->Str
 | .str x _=>x
 | _=>⟨#[]⟩
noncomputable def aFm (w:World) (h:Heap) (a:Addr) (xs:List Str):Prop :=
 ∃ es ep t,h.get? a=some (aCb es ep t)/\(∀ e∈es.toList,∃ y u,e=(hashStr w y,Value.str y u))/\es.toList.map (fun e=>aT5 e.2)=xs/\xs.Nodup/\es.size < scanBound/\t.fits es.size=true/\Tb w t es.size
theorem aFm.at {w:World} {h h':Heap} {a:Addr} {xs:List Str} (x:aFm w h a xs) (e:∀ o,h.get? a=some o->h'.get? a=some o):aFm w h' a xs :=
 let ⟨es,ep,t,g,r⟩:=x; ⟨es,ep,t,e _ g,r⟩
section
variable {prog:Program} {w:World} {A:Around} {E:Value -> Shared -> Prop} {s:Shared} {a:Addr}
theorem bB8 {xs:List Str} {y:Str} {tk:Tok} {Q:Bool->Shared->Prop} (hx:aFm w s.heap a xs) (hb:xs.length+1 < scanBound)
  (h1:y∈xs->Q false s) (h2:y∉xs->∀ h' xs',Heap.SameBut a s.heap h'->xs'.Perm (xs++[y])->aFm w h' a xs'->Q true { s with heap:=h' }):wpAny (model prog w) A (setAddHashed a (.str y tk) (hashStr w y)) Q E s:=by
 obtain ⟨es,ep,t,g,hel,hxs,hnd,hsz,hf,ht⟩:=hx
 have hl:xs.length=es.size:=by rw [← hxs]; simp
 have hE:ElemsOf (aOp prog w) es.toList:=fun e he=>by
  obtain ⟨z,u,rfl⟩:=hel e he
  exact ⟨⟨z,by show Value.isStrOf z (.str z u)=true; simp [Value.isStrOf],rfl⟩,rfl⟩
 have his:∀ e∈es.toList,((aOp prog w).is y e.2=true ↔ aT5 e.2=y):=fun e he=>by
  obtain ⟨z,u,rfl⟩:=hel e he
  constructor
  ·intro q
   obtain ⟨u',q'⟩:=Value.isStrOf_shape (show Value.isStrOf y (.str z u)=true from q)
   cases q'
   rfl
  ·intro q
   have q:z=y:=q
   subst q
   show Value.isStrOf z (.str z u)=true
   simp [Value.isStrOf]
 refine aT3 (knd:=aOp prog w) (k:=y) rfl (by show Value.isStrOf y (.str y tk)=true; simp [Value.isStrOf]) g ⟨rfl,rfl,rfl⟩ rfl hE (by omega) hf ht (fun ⟨e,he,q⟩=>h1 ?_) fun hno h' es' t' ep' sb g' hp hf' ht'=>h2 ?_ h' (es'.toList.map fun e=>aT5 e.2) sb ?_ ⟨es',ep',t',g',?_,rfl,?_,?_,hf',ht'⟩
 ·rw [← hxs]
  exact List.mem_map.mpr ⟨e,he,(his e he).mp q⟩
 ·intro hm
  rw [← hxs] at hm
  obtain ⟨e,he,q⟩:=List.mem_map.mp hm
  have:=hno e he
  rw [(his e he).mpr q] at this
  cases this
 ·have q:=hp.map fun e=>aT5 e.2
  rw [List.map_append,hxs] at q
  exact q
 ·intro e he
  rcases List.mem_append.mp (hp.mem_iff.mp he) with q | q
  ·exact hel e q
  ·rw [List.mem_singleton] at q
   exact ⟨y,tk,q⟩
 ·have q:=hp.map fun e=>aT5 e.2
  rw [List.map_append,hxs] at q
  refine q.nodup_iff.mpr (List.nodup_append.mpr ⟨hnd,by simp,fun z hz z' hz'=>?_⟩)
  have hz':z'=y:=by simpa [aT5] using hz'
  subst hz'
  rintro rfl
  rw [← hxs] at hz
  obtain ⟨e,he,q⟩:=List.mem_map.mp hz
  have:=hno e he
  rw [(his e he).mpr q] at this
  cases this
 ·have:=hp.length_eq
  simp at this
  omega
end
section
variable {prog:Program} {w:World} {A:Around} {R:Result -> Shared -> Prop} {I:Addr} {fp wr:List Addr} {G:Array GenState -> Array GenState -> Prop} {n:Nat} {P:Nat -> Value -> Prop} {St:Nat -> Shared -> Prop}
theorem aFh:entryFor table "set.update.loop"=some Builtin.«set.update.loop»:=entryFor_of_tree (by kernel_rfl)
theorem aCt:plainId "set.update.loop"=true:=by decide +kernel
theorem aXg (W:WalksS prog w A.in1 I fp wr G n P St) (S:Addr) (hSf:S∉fp) (val:Nat->Str) (hval:∀ i v,P i v->∃ t,v=.str (val i) t) (hb:n+1 < scanBound) :
  ∀ (k i:Nat) (s:Shared) (xs:List Str),n - i=k->i<=n->St i s->aFm w s.heap S xs->xs.length<=i->(∀ z,z∈xs ↔ ∃ j,j < i/\val j=z) ->
   (∀ s' xs',Moved (S::wr) G s s'->aFm w s'.heap S xs'->(∀ z,z∈xs' ↔ ∃ j,j < n/\val j=z)->R (.ok (.ret .none)) s') ->
   codeAny (model prog w) A (.builtin "set.update.loop" ⟨[.ref S,.ref I],[]⟩) R s:=by
 have hSw:S∉wr:=fun h=>hSf (W.sub _ h)
 have sub:∀ b∈wr,b∈S::wr:=fun b hb=>List.mem_cons_of_mem _ hb
 intro k
 induction k with
 | zero =>
  intro i s xs hk hi hst hS hl hm hR
  have:i=n:=by omega
  subst this
  refine codeAny_builtin aFh ?_
  rw [Around.under_plainId aCt _]
  show wpAny _ A.in1 (pyNext (.ref I) >>= _) _ _ s
  refine wpAny_bind (W.done s _ _ hst fun s' mv=>wpAny_pure (hR s' xs (mv.mono sub) (hS.at fun o e=>mv.heap S _ hSw e) hm))
 | succ k ih =>
  intro i s xs hk hi hst hS hl hm hR
  have hlt:i < n:=by omega
  refine codeAny_builtin aFh ?_
  rw [Around.under_plainId aCt _]
  show wpAny _ A.in1 (pyNext (.ref I) >>= _) _ _ s
  refine wpAny_bind (W.item i s _ _ hlt hst fun v s' hP hst' mv=>?_)
  obtain ⟨tk,rfl⟩:=hval i v hP
  have hS':aFm w s'.heap S xs:=hS.at fun o e=>mv.heap S _ hSw e
  show wpAny _ A.in1 (holding [Value.str (val i) tk] (setAdd S (.str (val i) tk)) >>= _) _ _ s'
  refine wpAny_bind (wpAny_holding ?_)
  unfold setAdd
  refine wpAny_holding (wpAny_bind (wpAny_pyHash_str ?_))
  have go:∀ (s2:Shared) (xs2:List Str),Moved (S::wr) G s s2->St (i+1) s2->aFm w s2.heap S xs2->xs2.length<=i+1->(∀ z,z∈xs2 ↔ z∈xs∨z=val i)->codeAny (model prog w) A (.builtin "set.update.loop" ⟨[.ref S,.ref I],[]⟩) R s2:=fun s2 xs2 mv2 st2 t2 l2 m2=>by
   refine ih (i+1) s2 xs2 (by omega) (by omega) st2 t2 l2 (fun z=>?_) fun s3 xs3 mv3 t3 m3=>hR s3 xs3 (Moved.trans W.gtrans mv2 mv3) t3 m3
   rw [m2,hm]
   constructor
   ·rintro (⟨j,hj,e⟩ | rfl)
    ·exact ⟨j,by omega,e⟩
    ·exact ⟨i,by omega,rfl⟩
   ·rintro ⟨j,hj,e⟩
    by_cases q:j < i
    ·exact .inl ⟨j,q,e⟩
    ·have:j=i:=by omega
     subst this
     exact .inr e.symm
  refine bB8 (s:={ s' with toks:=s'.toks+1 }) hS' (by omega) (fun hin=>?_) fun hout h' xs' sb hp ht=>?_
  ·refine wpAny_pure ⟨plainId_quiet aCt _,go _ xs ((mv.mono sub).then_heap (Nat.le_succ _) fun b o _ e=>e) ?_ hS' (by omega) fun z=>⟨.inl,fun q=>q.elim id fun e=>e ▸ hin⟩⟩
   exact W.frame _ s' _ _ hst' (Nat.le_succ _) fun b _ o e=>e
  ·refine wpAny_pure ⟨plainId_quiet aCt _,go _ xs' ((mv.mono sub).then_heap (Nat.le_succ _) fun b o hb e=>?_) ?_ ht ?_ fun z=>?_⟩
   ·rw [sb.2 b (fun q:b=S=>hb (by rw [q]; exact List.mem_cons_self))]; exact e
   ·exact W.frame _ s' _ _ hst' (Nat.le_succ _) fun b hb o e=>by rw [sb.2 b (fun q:b=S=>hSf (by rw [← q]; exact hb))]; exact e
   ·have:=hp.length_eq
    simp at this
    omega
   ·rw [hp.mem_iff]
    simp
end
end L2
namespace L2
open PySem
section
variable {prog:Program} {w:World} {A:Around} {E:Value -> Shared -> Prop} {s:Shared}
noncomputable abbrev aBo (w:World):Obj:=aCb #[] 0 (.fresh 0 0 (!(w.params.followText "set-order")))
theorem aSp (a:Value) {Q₁:Value->Shared->Prop} (h:Q₁ (.ref s.heap.objs.size) { s with heap:=s.heap.push (aBo w) }) :
  codeAny (model prog w) A (.call (.builtin "set.__new__") ⟨[.type "set",a],[]⟩) (wants Q₁ E) s:=by
 refine codeAny_of_tree ?_
 show wpAny _ A.in1 (checkBuiltinCall "set.__new__" ⟨[.type "set",a],[]⟩ >>= fun _=>again (.builtin "set.__new__" ⟨[.type "set",a],[]⟩)) _ _ s
 refine wpAny_bind (wpAny_of_eq (F.newCall_set_1 a) (wpAny_pure ⟨plainId_quiet F.plain_set_new _,codeAny_builtin F.entry_set_new ?_⟩))
 rw [Around.under_plainId F.plain_set_new _]
 unfold Builtin.«set.__new__» Builtin.Frozenset.newClass
 have hsub:=sub_set_self
 obtain ⟨hp,g,d,tk,os⟩:=s
 dsimp only
 wp_walk
 refine wpAny_askSetting (wpAny_pure ?_)
 dsimp only
 simp only [newObj]
 exact wpAny_bind (wpAny_alloc (wpAny_pure (wpAny_pure h)))
theorem aOo {h:Heap} {a:Addr} (g:h.get? a=some (aBo w)):aFm w h a [] :=
 ⟨#[],0,_,g,fun e he=>by simp at he,rfl,List.nodup_nil,by decide,rfl,rfl,List.Pairwise.nil,rfl⟩
set_option maxRecDepth 100000 in
set_option maxHeartbeats 3200000 in
theorem aPe {l:Addr} {items:Array Value} {xs:List Str} {Q:Value->Shared->Prop} (hh:A.handled=none) (hl:s.heap.IsList l items) (hi:∀ (i:Nat) (v:Value),items[i]?=some v->∃ t,v=.str (xs.getD i ⟨#[]⟩) t) (hlen:items.size=xs.length) (hb:xs.length+1 < scanBound)
  (h:∀ h' tk ys,aFm w h' s.heap.objs.size ys->(∀ z,z∈ys ↔ z∈xs)->(∀ b o,b < s.heap.objs.size->s.heap.get? b=some o->h'.get? b=some o)->Q (.ref s.heap.objs.size) { s with heap:=h',toks:=tk }) :
  wpAny (model prog w) A (call (.type "set") [.ref l]) Q E s:=by
 obtain ⟨c,tl,hmro⟩:=F.called_set.mro
 have hmade:=F.called_set.made
 have hsub:=F.called_set.sub
 refine wpAny_call (codeAny_of_tree ?_)
 show wpAny _ _ (callAny (.type "set") _) _ _ _
 refine wpAny_pure ⟨Code.quiet_builtin _ (by decide +kernel),codeAny_builtin F.entry_type_call ?_⟩
 rw [Around.under_plain (weight_type_call_type "set" [.ref l] []) rfl]
 have h1:=F.called_set.notType
 have h2:=F.called_set.canCreate
 have hct:=F.typeCall_set_1 (.ref l)
 repeat (any_goals (first | assumption | wp_step))
 refine codeAny_mono (aSp (.ref l) (E:=E) (Q₁:=fun obj s₁=>obj=.ref s.heap.objs.size/\s₁={ s with heap:=s.heap.push (aBo w) }) ⟨rfl,rfl⟩) fun r s₁ hr=>?_
 cases r with
 | error e=>exact hr
 | ok fl =>
  cases fl with
  | ret obj =>
   obtain ⟨rfl,rfl⟩:=hr
   have hS:(s.heap.push (aBo w)).get? s.heap.objs.size=some (aBo w):=Heap.get?_push_size _ rfl
   have hT:Shared.TypeIs { s with heap:=s.heap.push (aBo w) } (.ref s.heap.objs.size) "set":=⟨_,hS,rfl⟩
   have hli:=F.called_set.init.lookup
   have hbi:=F.called_set.init.bind (.ref s.heap.objs.size)
   repeat (any_goals (first | assumption | wp_step))
   refine codeAny_mono (codeAny_call_builtin (R:=wants (fun r s₂=>r=.none/\∃ h' tk ys,s₂={ s with heap:=h',toks:=tk }/\aFm w h' s.heap.objs.size ys/\(∀ z,z∈ys ↔ z∈xs) /\
     (∀ b o,b < s.heap.objs.size->s.heap.get? b=some o->h'.get? b=some o)) E) F.called_set.init.plain F.entry_set_init (check_set_init_1 hT ?_)) fun r₂ s₂ hr₂=>?_
   ·obtain ⟨ol,hol,hcl,nl,hdl⟩:=hl
    obtain ⟨ocls,odict,odata,oslots⟩:=ol
    simp only at hcl hdl
    subst hcl; subst hdl
    have hol':(s.heap.push (aBo w)).get? l=some { cls:=.type "list",dict:=odict,data:=.seq items nl,slots:=oslots }:=Heap.get?_push_of_some _ hol
    have hsls:=F.sub_list_set
    have hslf:=F.sub_list_frozenset
    have hne:(Value.type "list"==Value.type "dict")=false:=by decide
    have hl1:(s.heap.push (aBo w)).IsList l items:=⟨_,hol',rfl,nl,rfl⟩
    unfold Builtin.«set.__init__» noKeywords Builtin.Frozenset.updateFrom
    generalize hPI:pyIter=PI
    wp_walk
    subst hPI
    refine wpAny_pyIter_list hl1 ?_
    refine wpAny_bind (wpAny_runValue ?_)
    have hlS:l < s.heap.objs.size:=Heap.lt_size hol
    have hh3:A.in1.in1.in1.handled=none:=by simp [hh]
    have zP:(s.heap.push (aBo w)).objs.size=s.heap.objs.size+1:=Heap.size_push ..
    have hneI:l≠(s.heap.push (aBo w)).objs.size:=by rw [zP]; exact Nat.ne_of_lt (Nat.lt_succ_of_lt hlS)
    have hSf:s.heap.objs.size∉[(s.heap.push (aBo w)).objs.size,l]:=by
     rw [zP]
     simp only [List.mem_cons,List.not_mem_nil,or_false,not_or]
     exact ⟨Nat.ne_of_lt (Nat.lt_succ_self _),Nat.ne_of_gt hlS⟩
    refine aXg ((Walks.list hh3 _ l hneI items).toS) s.heap.objs.size hSf (fun i=>xs.getD i ⟨#[]⟩) hi (by rw [hlen]; exact hb) (items.size - 0) 0 _ [] (by omega) (Nat.zero_le _)
     ⟨⟨_,Heap.get?_push_size _ rfl,rfl,rfl⟩,(hl1.push _)⟩ (aOo (Heap.get?_push_of_some _ hS)) (Nat.le_refl _) (fun z=>by simp) fun s' ys hm hS' hmem=>?_
    obtain ⟨h',g',d',tk',os'⟩:=s'
    have eg:g'=s.gens:=hm.gens
    have ed:d'=s.drawn:=hm.drawn
    have eo:os'=s.os:=hm.os
    subst eg ed eo
    refine wpAny_pure ?_
    refine wpAny_pure ⟨rfl,h',tk',ys,rfl,hS',fun z=>?_,fun b o hb e=>?_⟩
    ·rw [hmem,hlen]
     constructor
     ·rintro ⟨j,hj,rfl⟩
      have:xs.getD j ⟨#[]⟩=xs[j]:=by simp [List.getD,hj]
      rw [this]
      exact List.getElem_mem hj
     ·intro hz
      obtain ⟨j,hj,e⟩:=List.getElem_of_mem hz
      exact ⟨j,hj,by simp [List.getD,hj,e]⟩
    ·have hb1:b≠s.heap.objs.size:=Nat.ne_of_lt hb
     have hb2:b≠(s.heap.push (aBo w)).objs.size:=by rw [zP]; exact Nat.ne_of_lt (Nat.lt_succ_of_lt hb)
     exact hm.heap b o (by simp only [List.mem_cons,List.not_mem_nil,or_false,not_or]; exact ⟨hb1,hb2⟩) (Heap.get?_push_of_some _ (Heap.get?_push_of_some _ e))
   ·cases r₂ with
    | error e=>exact hr₂
    | ok fl₂ =>
     cases fl₂ with
     | ret r =>
      obtain ⟨rfl,h',tk,ys,rfl,q1,q2,q3⟩:=hr₂
      repeat (any_goals (first | assumption | wp_step))
      exact h _ _ _ q1 q2 q3
     | _=>exact hr₂.elim
  | _=>exact hr.elim
end
end L2
namespace L2
open PySem PyProof.Rows
theorem aHv:∀ {vs:List Value} ,(∀ v∈vs,∃ y u,v=.str y u)->StrsAre vs (vs.map aT5)
 | [],_=>.nil
 | v::vs,h=>by
  obtain ⟨y,u,rfl⟩:=h v (List.mem_cons_self ..)
  exact .cons y u (aHv fun x hx=>h x (List.mem_cons_of_mem _ hx))
section
variable {prog:Program} {w:World} {A:Around} {E:Value -> Shared -> Prop} {s:Shared}
end
end L2
namespace L2
open PySem PyProof.Rows
theorem aLb:splitId "dict.__len__"=some ("dict","__len__"):=by kernel_rfl
theorem aVd:isSubtype (.type "dict") (.type "dict")=pure true:=by rw [isSubtype_type]; kernel_rfl
section
variable {prog:Program} {w:World} {K:Type} [DecidableEq K] {knd:KeyKind prog w K} {A A₂:Around} {E:Value -> Shared -> Prop} {s:Shared} {a it:Addr} {kvs:List (K×Value)} {ep:Nat}
theorem aQ8 {Q:Bool->Shared->Prop} (hT:s.TypeIs (.ref a) "dict") (h:Q false s):wpAny (model prog w) A (Builtin.List.listLengthHint (.ref a)) Q E s:=by
 unfold Builtin.List.listLengthHint
 refine wpAny_bind (wpAny_specialOf hT F.slot_dict_len.lookup ?_)
 dsimp only
 rw [aLb]
 dsimp only
 refine wpAny_bind (wpAny_isInstance hT aVd ?_)
 rw [if_neg (by simp)]
 show wpAny (model prog w) A (if true=true then _ else _) Q E s
 rw [if_pos rfl]
 refine wpAny_bind (wpAny_typeOf hT ?_)
 exact wpAny_pure h
theorem aKq {Q:List Value->Shared->Prop} (hh:A.handled=none) (hd:(a==sysModules)=false) (hm:s.heap.DictAt knd a kvs ep) (hb:kvs.length<=sizeLine)
  (h:∀ vs h' tk,vs.length=kvs.length->(∀ (i:Nat) (v:Value),vs[i]?=some v->∃ k x,kvs[i]?=some (k,x)/\knd.is k v=true)->(∀ b o,s.heap.get? b=some o->h'.get? b=some o)->s.heap.objs.size<=h'.objs.size->Q vs { s with heap:=h',toks:=tk }) :
  wpAny (model prog w) A (collect (.ref a)) Q E s:=by
 have hlt:a < s.heap.objs.size:=hm.lt_size
 unfold collect
 refine wpAny_bind (wpAny_runValue (codeAny_builtin F.entry_proto_collect ?_))
 rw [Around.under_plainId F.plain_proto_collect _]
 show wpAny _ A.in1 (newList [] >>= fun l=>again (.builtin "list.__iadd__" ⟨[l,.ref a],[]⟩)) _ _ s
 refine wpAny_bind (wpAny_newObj_type ?_)
 refine wpAny_pure ⟨plainId_quiet F.plain_list_iadd _,codeAny_builtin F.entry_list_iadd ?_⟩
 rw [Around.under_plainId F.plain_list_iadd _]
 generalize hN:s.heap.objs.size=S at *
 have g0:(s.heap.push { cls:=.type "list",data:=.seq ([]:List Value).toArray }).get? S=some { cls:=.type "list",data:=.seq ([]:List Value).toArray }:=hN ▸ Heap.get?_push_size _ rfl
 have kp0:∀ b o,s.heap.get? b=some o->(s.heap.push { cls:=.type "list",data:=.seq ([]:List Value).toArray }).get? b=some o:=fun b o e=>Heap.get?_push_of_some _ e
 have z0:(s.heap.push { cls:=.type "list",data:=.seq ([]:List Value).toArray }).objs.size=S+1:=by rw [Heap.size_push,hN]
 generalize s.heap.push { cls:=.type "list",data:=.seq ([]:List Value).toArray }=h0 at g0 kp0 z0 ⊢
 have hm0:h0.DictAt knd a kvs ep:=hm.keep kp0
 show wpAny _ A.in1 (Builtin.List.listExtendWith (.ref S) (.ref a) (.ref S)) _ _ _
 unfold Builtin.List.listExtendWith
 have hT0:Shared.TypeIs { s with heap:=h0 } (.ref a) "dict":=hm0.dictOf.typeIs
 refine wpAny_bind (wpAny_typeOf hT0 ?_)
 have h1:Builtin.List.listSameRef (.ref S) (.ref a)=false:=by
  simp [Builtin.List.listSameRef]
  exact Nat.ne_of_gt hlt
 have h2:(Value.type "dict"==Value.type "list")=false:=by decide
 have h3:(Value.type "dict"==Value.type "tuple")=false:=by decide
 simp only [h1,h2,h3,Bool.or_false,Bool.false_eq_true,if_false]
 refine wpAny_bind (wpAny_pyIter_dict (s:={ s with heap:=h0 }) hd hm0 ?_)
 have hni:a≠h0.objs.size:=by rw [z0]; exact Nat.ne_of_lt (Nat.lt_succ_of_lt hlt)
 have W:=Walks.dictKeys (prog:=prog) (w:=w) (knd:=knd) (A:=A.in1) (by simpa using hh) h0.objs.size a hni kvs ep
 have st:(h0.push { cls:=.type "dict_keyiterator",data:=.fields #[.ref a,.int (0:Nat) 0,.int kvs.length 0,.int ep 0] }).IsKeyIter h0.objs.size a 0 kvs.length ep /\
   (h0.push { cls:=.type "dict_keyiterator",data:=.fields #[.ref a,.int (0:Nat) 0,.int kvs.length 0,.int ep 0] }).DictAt knd a kvs ep:=⟨⟨_,Heap.get?_push_size _ rfl,rfl,rfl⟩,hm0.push _⟩
 have kp1:∀ b o,h0.get? b=some o->(h0.push { cls:=.type "dict_keyiterator",data:=.fields #[.ref a,.int (0:Nat) 0,.int kvs.length 0,.int ep 0] }).get? b=some o:=fun b o e=>Heap.get?_push_of_some _ e
 show wpAny _ A.in1 _ _ _ { s with heap:=h0.push { cls:=.type "dict_keyiterator",data:=.fields #[.ref a,.int (0:Nat) 0,.int kvs.length 0,.int ep 0] } }
 generalize h0.push { cls:=.type "dict_keyiterator",data:=.fields #[.ref a,.int (0:Nat) 0,.int kvs.length 0,.int ep 0] }=h' at st kp1 ⊢
 have gS:h'.get? S=some { cls:=.type "list",data:=.seq ([]:List Value).toArray }:=kp1 _ _ g0
 have hSf:S∉[h0.objs.size,a]:=by
  rw [z0]
  simp only [List.mem_cons,List.not_mem_nil,or_false,not_or]
  exact ⟨Nat.ne_of_lt (Nat.lt_succ_self _),Nat.ne_of_gt hlt⟩
 refine wpAny_bind (wpAny_holding (aQ8 (show Shared.TypeIs { s with heap:=h' } (.ref a) "dict" from st.2.dictOf.typeIs) ?_))
 show wpAny _ A.in1 (if (false || _)=true then _ else _) _ _ _
 rw [if_pos (by first | rfl | decide)]
 refine wpAny_bind (wpAny_rule ?_)
 refine wpAny_bind ?_
 show wpAny _ A.in1 (updateSeq S (·.push .none) >>= fun _=>updateSeq S (·.pop)) _ _ _
 refine wpAny_bind (wpAny_updateSeq gS rfl ?_)
 have gS2:=Heap.get?_update_self (Obj.mapSeq (·.push Value.none)) gS rfl
 refine wpAny_updateSeq gS2 rfl ?_
 have gS3:=Heap.get?_update_self (Obj.mapSeq (·.pop)) gS2 rfl
 have oth:∀ b o,b≠S->h'.get? b=some o->((h'.update S (Obj.mapSeq (·.push Value.none))).update S (Obj.mapSeq (·.pop))).get? b=some o :=
  fun b o hb e=>(Heap.get?_update_other _ _ (Ne.symm hb)).trans ((Heap.get?_update_other _ _ (Ne.symm hb)).trans e)
 generalize (h'.update S (Obj.mapSeq (·.push Value.none))).update S (Obj.mapSeq (·.pop))=h3 at gS3 oth ⊢
 refine wpAny_pure ⟨plainId_quiet F.plain_extend_loop _,codeAny_extend_loopS W.toS hb S hSf _ kvs.length 0 _ _ _ rfl (Nat.zero_le _)
  (W.frame 0 h' h3 st fun b hb o e=>oth b o (fun z=>hSf (z ▸ hb)) e) gS3 (ItemsOf.nil _) fun s' acc' c' mv hS' hacc=>?_⟩
 show wpAny _ A (load S >>= _) _ _ s'
 refine wpAny_bind (wpAny_load hS' ?_)
 refine wpAny_pure ?_
 obtain ⟨h4,g4,d4,t4,o4⟩:=s'
 have eg:g4=s.gens:=mv.gens
 have ed:d4=s.drawn:=mv.drawn
 have eo:o4=s.os:=mv.os
 subst eg ed eo
 refine h acc'.toList h4 t4 (by rw [Array.length_toList]; exact hacc.1) (fun i v hv=>hacc.2 i v (by simpa using hv)) (fun b o e=>?_) (Nat.le_of_lt (Heap.lt_size hS'))
 have hbS:b < S:=hN ▸ Heap.lt_size e
 exact mv.heap b o (by
  rw [z0]
  simp only [List.mem_cons,List.not_mem_nil,or_false,not_or]
  exact ⟨Nat.ne_of_lt hbS,Nat.ne_of_lt (Nat.lt_succ_of_lt hbS)⟩) (oth b o (Nat.ne_of_lt hbS) (kp1 _ _ (kp0 _ _ e)))
end
end L2
namespace L2
open PySem PyProof.Rows
theorem aKe:typeLookup (.type "list") "keys"=pure none:=by rw [typeLookup_type,builtinLookup_eq_fast]; kernel_rfl
theorem aFi:entryFor table "dict.update.loop"=some Builtin.«dict.update.loop»:=entryFor_of_tree (by kernel_rfl)
theorem aCu:plainId "dict.update.loop"=true:=by decide +kernel
section
variable {prog:Program} {w:World} {A:Around} {E:Value -> Shared -> Prop} {s:Shared}
theorem aQz {l:Addr} {xs:Array Value} {k:Nat} {Q:Option Value->Shared->Prop} (hx:s.heap.get? l=some { cls:=.type "list",data:=.seq xs k }) (hA:A.handled=none)
  (h:∀ h' tk,(∀ b o,s.heap.get? b=some o->h'.get? b=some o)->Q none { s with heap:=h',toks:=tk }):wpAny (model prog w) A (getAttr? (.ref l) "keys") Q E s:=by
 obtain ⟨hp,g,d,tk,os⟩:=s
 have hT:∀ tk',(⟨hp,g,d,tk',os⟩:Shared).TypeIs (.ref l) "list":=fun _=>⟨_,hx,rfl⟩
 have f1:=sub_AttributeError
 have f3:=F.slot_list_getattribute.lookup
 have f4:=F.slot_list_getattribute.bind (.ref l)
 have f5:=am_list_getattr_none
 unfold getAttr? getAttrBy? getAttrBy
 repeat (any_goals (first | assumption | exact hT _ | ((with_reducible show wpAny _ _ (call (Value.builtin "list.__getattribute__") _ _) _ _ _); refine call_meets F.slot_list_getattribute (hT _) am_entry_list_getattribute (F.args_list_getattribute_2 _ _) (meets_getattribute_miss_list l xs k #[] (Str.ofString "keys") _ aKe (by decide)) ⟨hx,by simpa using hA,fun h' tk' e hx'=>?_⟩) | wp_step))
 obtain ⟨t',u',he⟩:=hx'.there
 show wpAny _ _ (getattributeRaised _ _ _ _ _ _ _) _ _ _
 unfold getattributeRaised
 repeat (any_goals (first | assumption | wp_step))
 exact h h' tk' fun b o eb=>hx'.keeps b o eb
variable {K:Type} [DecidableEq K] {knd:KeyKind prog w K}
noncomputable def aI2 (kvs:List (K×Value)) (ps:List (K×Value)):List (K×Value):=ps.foldl (fun m p=>stored m p.1 p.2) kvs
theorem aP9 {R:Result->Shared->Prop} {I l D:Addr} {items:Array Value} {ps:List (K×Value)} (hh:A.handled=none) (hI:l≠I) (hDI:D≠I) (hDl:D≠l) (hlen:items.size=ps.length)
  (hps:∀ (h:Heap) (i:Nat) (v:Value),items[i]?=some v->(∀ b o,s.heap.get? b=some o->b≠I->b≠D->h.get? b=some o)->∃ a key k x,v=.ref a/\h.IsTuple a #[key,x]/\ps[i]?=some (k,x)/\knd.is k key=true) (hsz:ps.length<=1000) :
  ∀ (n i:Nat) (h:Heap) (tk:Nat) (kvs:List (K×Value)),items.size - i=n->i<=items.size->h.IsListIter I l i->h.IsList l items->h.DictOf knd D kvs->kvs.length<=i->(∀ b o,s.heap.get? b=some o->b≠I->b≠D->h.get? b=some o) ->
   (∀ h' tk',h'.DictOf knd D (aI2 kvs (ps.drop i))->(∀ b o,s.heap.get? b=some o->b≠I->b≠D->h'.get? b=some o)->R (.ok (.ret .none)) { s with heap:=h',toks:=tk' }) ->
   codeAny (model prog w) A (.builtin "dict.update.loop" ⟨[.ref D,.ref I,rawInt (i:Nat),.none],[]⟩) R { s with heap:=h,toks:=tk }:=by
 intro n
 induction n with
 | zero =>
  intro i h tk kvs hn hi hit hl hD hk kp hR
  have:i=items.size:=by omega
  subst this
  refine codeAny_builtin aFi ?_
  rw [Around.under_plainId aCu _]
  show wpAny _ A.in1 (pyNext (.ref I) >>= _) _ _ _
  refine wpAny_bind (wpAny_pyNext_list_end (by simpa using hh) hit hl (by simp) fun h' eb=>?_)
  show wpAny _ A.in1 (Builtin.Dict.addKeywords D [] >>= _) _ _ _
  refine wpAny_bind (wpAny_pure (wpAny_pure (hR h' tk ?_ fun b o e h1 h2=>eb b o h1 (kp b o e h1 h2))))
  rw [hlen,List.drop_length]
  obtain ⟨o,es,ep,g,r⟩:=hD
  exact ⟨o,es,ep,eb _ _ hDI g,r⟩
 | succ n ih =>
  intro i h tk kvs hn hi hit hl hD hk kp hR
  have hlt:i < items.size:=by omega
  refine codeAny_builtin aFi ?_
  rw [Around.under_plainId aCu _]
  show wpAny _ A.in1 (pyNext (.ref I) >>= _) _ _ _
  obtain ⟨v,hv⟩:∃ v,items[i]?=some v:=⟨_,Array.getElem?_eq_getElem hlt⟩
  refine wpAny_bind (wpAny_pyNext_list_item hit hl hv fun h' hit' sb=>?_)
  have kp':∀ b o,s.heap.get? b=some o->b≠I->b≠D->h'.get? b=some o:=fun b o e h1 h2=>(sb.2 b h1).trans (kp b o e h1 h2)
  obtain ⟨a,key,k,x,rfl,ht,hp,hkey⟩:=hps h' i v hv kp'
  have hD':h'.DictOf knd D kvs:=by
   obtain ⟨o,es,ep,g,r⟩:=hD
   exact ⟨o,es,ep,(sb.2 _ hDI).trans g,r⟩
  have hl':h'.IsList l items:=by
   obtain ⟨o,g,r⟩:=hl
   exact ⟨o,(sb.2 _ hI).trans g,r⟩
  refine wpAny_bind (wpAny_holding ?_)
  refine wpAny_bind (wpAny_tryCatch (wpAny_mono (Q:=fun r s'=>r=[key,x]/\s'={ s with heap:=h',toks:=tk }) (E:=fun _ _=>False) ?_ (fun r s' q=>?_) fun _ _ z=>z.elim))
  ·unfold Builtin.Dict.pairItems
   obtain ⟨ot,g,hc,nt,hd⟩:=ht
   refine wpAny_bind (wpAny_typeOf (T:="tuple") ⟨ot,g,hc⟩ ?_)
   rw [if_pos (by decide)]
   unfold seqItems?
   refine wpAny_bind (wpAny_bind (wpAny_load g ?_))
   rw [hd]
   exact wpAny_pure (wpAny_pure ⟨rfl,rfl⟩)
  ·obtain ⟨rfl,rfl⟩:=q
   show wpAny _ A.in1 (holding [key,x] (dictSet D key x)) _ _ _
   refine wpAny_holding (wpAny_dictSet_pairs hkey hD' (fun h2 hD2 sb2=>?_) (by rw [sizeLine_eq]; omega))
   have eD:ps.drop i=(k,x)::ps.drop (i+1):=by
    have hlt':i < ps.length:=by omega
    rw [List.drop_eq_getElem_cons hlt']
    have:ps[i]=(k,x):=by
     have:=hp
     rw [List.getElem?_eq_getElem hlt'] at this
     exact Option.some.inj this
    rw [this]
   refine wpAny_pure ⟨plainId_quiet aCu _,?_⟩
   have:=ih (i+1) h2 (tk+1) (stored kvs k x) (by omega) (by omega) (by
     obtain ⟨o,g,r⟩:=hit'
     exact ⟨o,(sb2.2 _ hDI.symm).trans g,r⟩) (by
     obtain ⟨o,g,r⟩:=hl'
     exact ⟨o,(sb2.2 _ hDl.symm).trans g,r⟩) hD2 (by
     have:(stored kvs k x).length<=kvs.length+1:=by unfold stored; split <;> simp
     omega) (fun b o e h1 h2'=>(sb2.2 b h2').trans (kp' b o e h1 h2')) fun h3 tk3 hD3 kp3=>hR h3 tk3 (by rw [eD]; exact hD3) kp3
   exact this
theorem aOd {Q:Value->Shared->Prop} {l:Addr} {items:Array Value} {k:Nat} {ps:List (K×Value)} (hh:A.handled=none) (hl:s.heap.get? l=some { cls:=.type "list",data:=.seq items k }) (hlen:items.size=ps.length)
  (hps:∀ (h:Heap) (i:Nat) (v:Value),items[i]?=some v->(∀ b o,s.heap.get? b=some o->h.get? b=some o)->∃ a key k x,v=.ref a/\h.IsTuple a #[key,x]/\ps[i]?=some (k,x)/\knd.is k key=true) (hsz:ps.length<=1000)
  (h:∀ h' tk,h'.DictOf knd s.heap.objs.size (aI2 [] ps)->(∀ b o,s.heap.get? b=some o->h'.get? b=some o)->Q (.ref s.heap.objs.size) { s with heap:=h',toks:=tk }):wpAny (model prog w) A (call (.type "dict") [.ref l]) Q E s:=by
 refine callType_codes (Q₁:=fun obj s₁=>obj=.ref s.heap.objs.size/\s₁={ s with heap:=s.heap.push { cls:=.type "dict",data:=.dict #[] } }) F.kt_called_dict (F.kt_typeCall_dict_1 _) F.entry_dict_init (kt_code_dict_new _ ⟨rfl,rfl⟩) ?_
 rintro obj s₁ ⟨rfl,rfl⟩
 have hlt:l < s.heap.objs.size:=Heap.lt_size hl
 have z0:(s.heap.push { cls:=.type "dict",data:=.dict #[] }).objs.size=s.heap.objs.size+1:=Heap.size_push ..
 have hnew:(s.heap.push { cls:=.type "dict",data:=.dict #[] }).DictOf knd s.heap.objs.size []:=Heap.DictOf.new s.heap
 have hl0:(s.heap.push { cls:=.type "dict",data:=.dict #[] }).get? l=some { cls:=.type "list",data:=.seq items k }:=Heap.get?_push_of_some _ hl
 have kp0:∀ b o,s.heap.get? b=some o->(s.heap.push { cls:=.type "dict",data:=.dict #[] }).get? b=some o:=fun b o e=>Heap.get?_push_of_some _ e
 generalize s.heap.push { cls:=.type "dict",data:=.dict #[] }=h0 at z0 hnew hl0 kp0 ⊢
 refine ⟨hnew.typeIs,F.args_dict_init_2 _ _,?_⟩
 unfold Builtin.«dict.__init__»
 refine wpAny_bind ?_
 unfold Builtin.Dict.selfAndRest
 refine wpAny_bind (wpAny_notOrdered_dict hnew.typeIs ?_)
 show wpAny _ _ (pure (s.heap.objs.size,[Value.ref l])) _ _ _
 refine wpAny_pure ?_
 show wpAny _ _ (Builtin.Dict.updateFrom "dict.__init__" s.heap.objs.size (.ref l) [] .none) _ _ _
 unfold Builtin.Dict.updateFrom
 refine wpAny_bind (wpAny_typeOf (T:="list") ⟨_,hl0,rfl⟩ ?_)
 rw [if_pos (by decide)]
 refine wpAny_bind (aQz hl0 (by simpa using hh) fun h1 tk1 kp1=>?_)
 rw [if_pos (by rfl)]
 refine wpAny_bind (wpAny_rule ?_)
 have hl1:h1.get? l=some { cls:=.type "list",data:=.seq items k }:=kp1 _ _ hl0
 have hD1:h1.DictOf knd s.heap.objs.size []:=by
  obtain ⟨o,es,ep,g,r⟩:=hnew
  exact ⟨o,es,ep,kp1 _ _ g,r⟩
 have hg1:s.heap.objs.size < h1.objs.size:=by
  obtain ⟨o,es,ep,g,r⟩:=hD1
  exact Heap.lt_size g
 refine wpAny_bind (wpAny_pyIter_list ⟨_,hl1,rfl,k,rfl⟩ ?_)
 refine wpAny_pure ⟨plainId_quiet aCu _,?_⟩
 have key:=aP9 (A:=A.in1) (knd:=knd) (s:=s) (R:=wants (fun r s₂=>r=.none/\Q (.ref s.heap.objs.size) s₂) E) (I:=h1.objs.size) (l:=l) (D:=s.heap.objs.size) (items:=items) (ps:=ps) (by simpa using hh) (Nat.ne_of_lt (Nat.lt_trans hlt hg1)) (Nat.ne_of_lt hg1) (Nat.ne_of_gt hlt) hlen
  (fun h i v hv kp=>hps h i v hv fun b o e=>kp b o e (Nat.ne_of_lt (Nat.lt_trans (Heap.lt_size e) hg1)) (Nat.ne_of_lt (Heap.lt_size e))) hsz items.size 0 (h1.push { cls:=.type "list_iterator",data:=.fields #[.ref l,.int 0 0] }) tk1 [] rfl (Nat.zero_le _)
  ⟨_,Heap.get?_push_size _ rfl,rfl,rfl⟩ ⟨_,Heap.get?_push_of_some _ hl1,rfl,k,rfl⟩ (hD1.push _) (Nat.zero_le _) (fun b o e _ _=>Heap.get?_push_of_some _ (kp1 _ _ (kp0 _ _ e)))
  fun h' tk' hD' kp'=>⟨rfl,h h' tk' (by simpa using hD') fun b o e=>kp' b o e (Nat.ne_of_lt (Nat.lt_trans (Heap.lt_size e) hg1)) (Nat.ne_of_lt (Heap.lt_size e))⟩
 exact key
end
end L2
namespace L2
open PySem PyProof.Rows
section
variable {prog:Program} {w:World} {K:Type} [DecidableEq K] {knd:KeyKind prog w K} {A:Around} {E:Value -> Shared -> Prop} {s:Shared} {d:Addr} {kvs:List (K×Value)} {k:K} {key dflt:Value}
theorem aJx {Q:Value->Shared->Prop} (hkey:knd.is k key=true) (hm:s.heap.DictOf knd d kvs) (hsz:kvs.length<=sizeLine)
  (h1:∀ v,valueAt kvs k=some v->Q v { s with toks:=s.toks+1 }) (h2:valueAt kvs k=none->∀ h',h'.DictOf knd d (kvs++[(k,dflt)])->Heap.SameBut d s.heap h'->Q dflt { s with heap:=h',toks:=s.toks+1 }) :
  wpAny (model prog w) A (dictSetDefault d key dflt) Q E s:=by
 obtain ⟨o,es,ep,ho,hc0,hd,hk0,hf⟩:=hm.mapOf
 obtain ⟨o',es',ep',ho',hc,hd',hk,hp,hn⟩:=hm
 rw [ho] at ho'
 cases ho'
 rw [hd] at hd'
 cases hd'
 have hes:es.size<=sizeLine:=by
  have e1:=hp.length
  simp at e1
  omega
 unfold dictSetDefault
 refine wpAny_holding (wpAny_bind (knd.pyHash hkey ?_))
 refine wpAny_bind (wpAny_dictFind_of (s:={ s with toks:=s.toks+1 }) hkey ho hd hk ?_)
 have hidx:(es.findIdx? fun e=>knd.is k e.key)=kvs.findIdx? fun kv=>decide (kv.1=k):=by
  rw [← hp.findIdx k]
  obtain ⟨l⟩:=es
  simp
 have hfk:=hf k
 rw [findBy_of_findIdx?] at hfk
 cases hi:es.findIdx? fun e=>knd.is k e.key with
 | some i =>
  rw [hi] at hfk
  have hlt:i < es.size:=(Array.findIdx?_eq_some_iff_findIdx_eq.mp hi).1
  have hge:es[i]?=some es[i]:=Array.getElem?_eq_getElem hlt
  refine wpAny_bind (wpAny_dictEntries (s:={ s with toks:=s.toks+1 }) ho hd ?_)
  rw [hge]
  refine wpAny_bind (wpAny_rule (wpAny_pure (h1 _ ?_)))
  rw [← hfk]
  simp [hge]
 | none =>
  rw [hi] at hfk
  have hnot:k∉kvs.map (·.1):=not_mem_of_findIdx_none (hidx ▸ hi)
  refine wpAny_bind (wpAny_rule (wpAny_bind (wpAny_updateDictKeys (hz:=hes) (s:={ s with toks:=s.toks+1 }) ho hd (wpAny_pure (h2 hfk.symm _ ⟨_,_,ep+1,Heap.get?_update_self _ ho (Obj.isFreed_of_dict (Obj.data_mapDictKeys hd _)),
   hc.mapDictKeys _,Obj.data_mapDictKeys hd _,hk.push hkey _,?_,?_⟩ (Heap.SameBut.update ..))))))
  ·have:=hp.append hkey (knd.hash k) dflt
   obtain ⟨l⟩:=es
   simpa using this
  ·rw [List.map_append,List.nodup_append]
   refine ⟨hn,by simp,fun a ha b hb=>?_⟩
   have hb:b=k:=by simpa using hb
   subst hb
   exact fun e=>hnot (e ▸ ha)
theorem aMk {Q:Value->Shared->Prop} (hkey:knd.is k key=true) (hs:(d==sysModules)=false) (hm:s.heap.DictOf knd d kvs) (hsz:kvs.length<=sizeLine)
  (h1:∀ v,valueAt kvs k=some v->Q v { s with toks:=s.toks+1 }) (h2:valueAt kvs k=none->∀ h',h'.DictOf knd d (kvs++[(k,dflt)])->Heap.SameBut d s.heap h'->Q dflt { s with heap:=h',toks:=s.toks+1 }) :
  wpAny (model prog w) A (call (.builtin "dict.setdefault") [.ref d,key,dflt]) Q E s:=by
 refine wpAny_call_entry F.slot_dict_setdefault hm.typeIs F.entry_dict_setdefault ?_ (F.args_dict_setdefault_3 _ _ _)
 unfold Builtin.«dict.setdefault»
 refine wpAny_bind ?_
 unfold Builtin.Dict.keyAndDefault
 refine wpAny_bind (wpAny_notOrdered_dict hm.typeIs ?_)
 show wpAny _ _ (pure (d,key,some dflt)) _ _ s
 refine wpAny_pure ?_
 show wpAny _ _ (if (d==sysModules)=true then _ else _) _ _ s
 rw [if_neg (by rw [hs]; exact Bool.false_ne_true)]
 refine wpAny_bind (aJx hkey hm hsz (fun v e=>wpAny_pure ⟨_,rfl,h1 v e⟩) fun e h' hd' sb=>wpAny_pure ⟨_,rfl,h2 e h' hd' sb⟩)
end
end L2
namespace L2
open PySem PyProof.Rows
end L2
namespace L2
open PySem PySem.Spec PyProof.Rows
noncomputable def melt (a:Addr) (H:Hp):Hp:=fun b=>if b=a then (match H a with | some (.frz _ u)=>some u | o=>o) else H b
theorem aIw {a b:Addr} {H:Hp} (h:b≠a):melt a H b=H b:=by unfold melt; rw [if_neg h]
theorem aQl {a:Addr} {H:Hp} {o:Obj} {u:HO} (h:H a=some (.frz o u)):melt a H a=some u:=by unfold melt; rw [if_pos rfl,h]
theorem aD5 {a b:Addr} {H:Hp} (h:H b=none):melt a H b=none:=by
 unfold melt
 split
 ·rename_i e
  subst e
  rw [h]
 ·exact h
theorem aEj {a b:Addr} {H:Hp} {o:HO} (hn:∀ ob u,o≠.frz ob u) (h:H b=some o):melt a H b=some o:=by
 unfold melt
 split
 ·rename_i e
  subst e
  rw [h]
  cases o <;> first | rfl | exact absurd rfl (hn _ _)
 ·exact h
theorem aNd {a:Addr} {H:Hp} {o:Obj} {u:HO} (h:H a=some (.frz o u)):melt a H=upd H a u:=by
 funext b
 by_cases hb:b=a
 ·subst hb; rw [aQl h,aAb]
 ·rw [aIw hb,aAu hb]
section
variable {X:Cx} {pins:List (Addr×Obj)} {σ:St} {H:Hp} {s:Shared} {a:Addr}
theorem Inv.melt (I:Inv X pins σ H s) (h0:∀ o u,X.H₀ a≠some (.frz o u)):Inv X pins σ (L2.melt a H) s:=by
 refine ⟨I.ok,I.os,I.bare,⟨I.base.keep,I.base.slot,fun b o e n hx=>aD5 (I.base.free b o e n hx),I.base.there,fun b xs e=>aEj (fun _ _ z=>nomatch z) (I.base.tups b xs e),fun b o u e=>?_,fun b ps e=>?_⟩,
  I.loc,I.cell,aD5 I.free,fun x c e=>aD5 (I.freeC x c e),fun p hp=>?_,fun b u e=>?_,I.len⟩
 ·have hb:b≠a:=fun z=>by subst z; exact h0 _ _ e
  rw [aIw hb]
  exact I.base.frzs b o u e
 ·obtain ⟨more,q⟩:=I.base.tbls b ps e
  exact ⟨more,aEj (fun _ _ z=>nomatch z) q⟩
 ·obtain ⟨e,n,r⟩:=I.pin p hp
  exact ⟨e,aD5 n,r⟩
 ·have st:∀ {v:HO},aB0 X.prog X.w H s.heap b v->aB0 X.prog X.w (L2.melt a H) s.heap b v:=fun {v} x =>
   x.stay (fun _ _ _ q=>q) (fun c q=>aEj (fun _ _ z=>nomatch z) q) fun c xs q=>aEj (fun _ _ z=>nomatch z) q
  by_cases hb:b=a
  ·subst hb
   cases q:H b with
   | none=>rw [aD5 q] at e; cases e
   | some z =>
    have hz:=I.hok b z q
    by_cases hf:∃ o v,z=.frz o v
    ·obtain ⟨o,v,rfl⟩:=hf
     rw [aQl q] at e
     cases e
     exact st hz.2
    ·rw [aEj (fun o v w=>hf ⟨o,v,w⟩) q] at e
     cases e
     exact st hz
  ·rw [aIw hb] at e
   exact st (I.hok b u e)
theorem Inv.freeze {kvs:List (Key×V)} {o:Obj} (I:Inv X pins σ H s) (h:H a=some (.dK kvs)) (hg:s.heap.get? a=some o):Inv X pins σ (upd H a (.frz o (.dK kvs))) s:=by
 have ne:∀ {b:Addr} {u:HO},H b=some u->u≠.dK kvs->b≠a:=fun {b u} e z w=>by subst w; rw [h] at e; exact z (Option.some.inj e).symm
 have nn:∀ {b:Addr},H b=none->upd H a (.frz o (.dK kvs)) b=none:=fun {b} e=>by rw [aAu (fun w=>by subst w; rw [h] at e; cases e)]; exact e
 have old:∀ {b:Addr} {u:HO},H b=some u->u≠.dK kvs->upd H a (.frz o (.dK kvs)) b=some u:=fun {b u} e z=>by rw [aAu (ne e z)]; exact e
 refine ⟨I.ok,I.os,I.bare,⟨I.base.keep,I.base.slot,fun b o e n hx=>nn (I.base.free b o e n hx),I.base.there,fun b xs e=>old (I.base.tups b xs e) (fun z=>nomatch z),fun b o u e=>old (I.base.frzs b o u e) (fun z=>nomatch z),fun b ps e=>?_⟩,
  I.loc,I.cell,nn I.free,fun x c e=>nn (I.freeC x c e),fun p hp=>?_,fun b u e=>?_,I.len⟩
 ·obtain ⟨more,q⟩:=I.base.tbls b ps e
  exact ⟨more,old q (fun z=>nomatch z)⟩
 ·obtain ⟨e,n,r⟩:=I.pin p hp
  exact ⟨e,nn n,r⟩
 ·have st:∀ {v:HO},aB0 X.prog X.w H s.heap b v->aB0 X.prog X.w (upd H a (.frz o (.dK kvs))) s.heap b v:=fun {v} x =>
   x.stay (fun _ _ _ q=>q) (fun c q=>old q (fun z=>nomatch z)) fun c xs q=>old q (fun z=>nomatch z)
  by_cases hb:b=a
  ·subst hb
   rw [aAb] at e
   cases e
   exact ⟨hg,st (I.hok b _ h)⟩
  ·rw [aAu hb] at e
   exact st (I.hok b u e)
end
noncomputable def Itd (a:Addr) (o:Obj) (kvs:List (Key×V)):It :=
 ⟨fun i H=>H a=some (.frz o (.dK kvs))/\i < kvs.length,fun i H x H'=>H'=H/\∃ k v,kvs[i]?=some (k,v)/\x=kV k,fun i H=>H a=some (.frz o (.dK kvs))/\kvs.length<=i⟩
theorem bA5 {κ:Type}:∀ {kvs:List (κ×V)} {vs:List (κ×Value)} {i:Nat} {k:κ} {v:V},KV kvs vs->kvs[i]?=some (k,v)->∃ u,vs[i]?=some (k,u)
 | _,_,_,_,_,.nil,e=>by simp at e
 | _,_,0,k,v,.cons (b:=q) r _,e=>by
  simp at e
  subst e
  exact ⟨q.2,by simp; exact Prod.ext r.1.symm rfl⟩
 | _,_,i+1,k,v,.cons _ t,e=>by
  obtain ⟨u,h⟩:=bA5 (i:=i) (k:=k) (v:=v) t (by simpa using e)
  exact ⟨u,by simpa using h⟩
theorem aQ0 {P:Program} {w:World} {k:Key} {u:Value} (h:(aA9 P w).is k u=true):aBr (kV k) u:=by
 rcases aBj h with ⟨i,t,rfl,rfl⟩ | ⟨x,t,rfl,rfl⟩
 ·exact ⟨t,rfl⟩
 ·exact ⟨t,rfl⟩
section
variable {X:Cx} {tg:Expr}
theorem aRl {pins:List (Addr×Obj)} {σ:St} {H:Hp} {s:Shared} {a:Addr} {kvs:List (Key×V)} {o:Obj} (I:Inv X pins σ H s) (h:H a=some (.frz o (.dK kvs))) :
  (a==sysModules)=false/\∃ vs es ep,KV kvs vs/\o.data=.dict es ep/\s.heap.DictAt (aA9 X.prog X.w) a vs ep:=by
 obtain ⟨g,hz⟩:=I.hok a _ h
 obtain ⟨_,hd,vs,rel,o',es,ep,e,r⟩:=hz
 rw [g] at e
 cases e
 exact ⟨hd,vs,es,ep,rel,r.2.1,o,es,g,r⟩
theorem aOu {P:Program} {w:World} {K:PySem.W.Frag} (a it:Addr) (o:Obj) (kvs:List (Key×V)):aXu P w K tg (Itd a o kvs) [it] it (fun i h=>∃ es ep,o.data=.dict es ep/\h.IsKeyIter it a i kvs.length ep) where
 mem:=by simp
 obj:=fun i h st b hb=>by
  have e:b=it:=by simpa using hb
  subst e
  obtain ⟨_,_,_,o,e,c,d⟩:=st
  exact ⟨o,e,fun v z=>by rw [d] at z; cases z⟩
 keep:=fun i h h' ⟨es,ep,q,st⟩ k=>⟨es,ep,q,st.at fun o e=>k it (by simp) o e⟩
 item:=by
  intro X hP hw hK hc i pins s σ H E I hf st hg
  subst hP hw hK
  obtain ⟨ha,hi⟩:=hg
  obtain ⟨hd,vs,es,ep,rel,ed,dd⟩:=aRl I ha
  obtain ⟨es',ep',ed',st⟩:=st
  rw [ed] at ed'
  cases ed'
  obtain ⟨f0,f1,f2,f3,f4,f5⟩:=hf it (by simp)
  obtain ⟨⟨k,v⟩,hx⟩:∃ p,kvs[i]?=some p:=⟨_,List.getElem?_eq_getElem hi⟩
  obtain ⟨u,hu⟩:=bA5 rel hx
  rw [rel.length] at st
  refine wpAny_pyNext_dict_item st dd hu fun key h' hkey hit' sb=>?_
  rw [← rel.length] at hit'
  have I1:Inv X pins σ H { s with heap:=h' }:=I.turned (t':=s.toks) (fun b o hb e=>(sb.2 b hb).trans e) f0 f1 f3 f4 f5
  obtain ⟨oi,e,c,d⟩:=id hit'
  exact ⟨key,rfl,aTr (s:={ s with heap:=h' }) e c d (by decide) ⟨kV k,H,I1,aQ0 hkey,⟨rfl,k,v,hx,rfl⟩,⟨es,ep,ed,hit'⟩,fun b hb=>(hf b hb).1⟩⟩
 done:=by
  intro X hP hw hK hc i pins s σ H E I hf st hg
  subst hP hw hK
  obtain ⟨ha,hi⟩:=hg
  obtain ⟨hd,vs,es,ep,rel,ed,dd⟩:=aRl I ha
  obtain ⟨es',ep',ed',st⟩:=st
  rw [ed] at ed'
  cases ed'
  obtain ⟨f0,f1,f2,f3,f4,f5⟩:=hf it (by simp)
  rw [rel.length] at st hi
  exact wpAny_pyNext_dict_end (I.ok.hd hc) st dd (by simpa using hi) fun h' eb=>⟨rfl,I.turned (t':=s.toks) (fun b o hb e=>eb b o hb e) f0 f1 f3 f4 f5⟩
 self:=fun _ _ _ _ _ ⟨_,_,_,st⟩ h=>wpAny_pyIter_keyiter st h
noncomputable def aXc (a:Addr) (tl:TE):TI:=fun σ H R=>tl σ H fun x H1=>x=.ref a/\∃ kvs,H1 a=some (.dK kvs)/\∀ o,R (Itd a o kvs) (upd H1 a (.frz o (.dK kvs)))
theorem aP2 {l:Expr} {tl:TE} (a:Addr) (hl:PE X l tl):PI X tg l (aXc a tl):=by
 intro pins s σ H R I h
 refine thn (hl pins s σ H _ I h) fun v s1 ⟨x,H1,I1,r1,q1⟩=>?_
 obtain ⟨e,kvs,hk,q⟩:=q1
 subst e
 cases r1
 obtain ⟨_,hd,vs,rel,o,es,ep,g,r⟩:=I1.hok a _ hk
 have I2:=I1.freeze hk g
 refine wpAny_pyIter_dict hd ⟨o,es,g,r⟩ ?_
 refine ⟨s1.heap.objs.size,[s1.heap.objs.size],_,_,_,rfl,I2.kept (t':=s1.toks) fun b o e=>Heap.get?_push_of_some _ e,aOu a _ o kvs,⟨es,ep,r.2.1,?_⟩,fun b hb=>?_,q o⟩
 ·rw [rel.length]
  exact ⟨_,Heap.get?_push_size _ rfl,rfl,rfl⟩
 ·have e:b=s1.heap.objs.size:=by simpa using hb
  subst e
  exact I2.fpOk (Nat.le_refl _) (I2.hok.fresh (Nat.le_refl _))
noncomputable def Dm (a:Addr) (D:aE4):aE4:=⟨fun σ H=>D.nx σ (melt a H),fun v H=>D.rt v (melt a H),fun σ H=>D.bk σ (melt a H),fun σ H=>D.ct σ (melt a H)⟩
noncomputable def aK1 (H:Hp) (a:Addr):Prop:=∀ o u,H a≠some (.frz o u)
noncomputable def aYj (tl:TE) (g:TG) (tb:TS):TS:=fun D σ H=>∃ a,aK1 H a/\tFor (aXc a tl) g tb (Dm a D) σ H
theorem aWe {iter:Expr} {body:List Stmt} {tl:TE} {g:TG} {tb:TS} {pos:Pos} (hp:PassesOwn (model X.prog X.w) X.A X.env X.xe) (hc:X.calm=true) (hi:PE X iter tl) (hg:PG X tg g) (hb:PSs X body tb)
  (hs:∀ x,foldedSetIterable iter X.env x=pure x:=by intro _; rfl):PS X (.For tg iter body [] pos) (aYj tl g tb):=by
 intro pins s σ H D I h
 obtain ⟨a,nf,h⟩:=h
 have h0:∀ o u,X.H₀ a≠some (.frz o u):=fun o u e=>nf _ _ (I.base.frzs a o u e)
 refine thn (aCx hp hc (aP2 a hi) hg hb hs pins s σ H (Dm a D) I h) fun f s' q=>?_
 cases f with
 | next=>obtain ⟨σ',H',I',q⟩:=q; exact ⟨σ',_,I'.melt h0,q⟩
 | brk=>obtain ⟨σ',H',I',q⟩:=q; exact ⟨σ',_,I'.melt h0,q⟩
 | cont=>obtain ⟨σ',H',I',q⟩:=q; exact ⟨σ',_,I'.melt h0,q⟩
 | ret u=>obtain ⟨v,σ',H',I',r,q⟩:=q; exact ⟨v,σ',_,I'.melt h0,r,q⟩
variable {scope:Scope} {tn names:List Str} {is:List Nat} {elt iter:Expr} {ifs:List Expr} {pos:Pos} {tl te:TE} {tc:Option TT} {g:TG}
noncomputable def aUc (tl:TE) (te:TE) (tc:Option TT) (g:TG) (k:Nat) (is:List Nat):TE:=fun σ H Q=>∃ a,aK1 H a/\aSj (aXc a tl) te tc g k is σ H fun v H'=>Q v (melt a H')
theorem aS5 (ck:aIf X scope tn names is) (hc:X.calm=true) (hi:PE X iter tl)
  (hg:∀ C s0 H0 ex,PG (aBp X scope (aBk X.env names) (tn++names) C s0 H0 ex) tg g) (he:∀ C s0 H0 ex,PE (aBp X scope (aBk X.env names) (tn++names) C s0 H0 ex) elt te)
  (ht:∀ C s0 H0 ex,PTs (aBp X scope (aBk X.env names) (tn++names) C s0 H0 ex) ifs tc) (hs:∀ x,foldedSetIterable iter X.env x=pure x:=by intro _; rfl) :
  PE X (.ListComp elt [⟨tg,iter,ifs,0⟩] scope pos) (aUc tl te tc g tn.length is):=by
 intro pins s σ H Q I h
 obtain ⟨a,nf,h⟩:=h
 have h0:∀ o u,X.H₀ a≠some (.frz o u):=fun o u e=>nf _ _ (I.base.frzs a o u e)
 refine thn (aDi ck hc (aP2 a hi) hg he ht hs pins s σ H _ I h) fun u s' ⟨v,H',I',r,q⟩=>⟨v,_,I'.melt h0,r,q⟩
end
end L2
namespace L2
open PySem PySem.Spec PyProof.Rows
section
variable {X:Cx} {pins:List (Addr×Obj)} {σ:St} {H:Hp} {s:Shared} {tg:Expr}
theorem Inv.dr (I:Inv X pins σ H s) (d:Drawn):Inv X pins σ H { s with drawn:=d }:=⟨I.ok,I.os,I.bare,I.base,I.loc,I.cell,I.free,I.freeC,I.pin,I.hok,I.len⟩
noncomputable def Ite (K:PySem.W.Frag) (a:Addr):It :=
 ⟨fun i H=>∃ xs x,SqL K H a xs/\xs[i]?=some x,fun i H v H'=>∃ T x,v=.ref T/\H T=none/\H'=upd H T (.tup [.int i,x])/\∀ xs,SqL K H a xs->xs[i]?=some x,fun i H=>∃ xs,SqL K H a xs/\xs.length<=i⟩
theorem aOt {P:Program} {w:World} {K:PySem.W.Frag} {elts:List Expr} {k1:Nat} {tpos:Pos} (a e it:Addr) (hei:e≠it) :
  aXu P w K (.Tuple elts k1 tpos) (Ite K a) [e,it] e (fun i h=>(∃ old,IsEnum h e it i old)/\h.IsListIter it a i) where
 mem:=by simp
 obj:=fun i h st b hb=>by
  obtain ⟨⟨old,he⟩,o,e1,c,d⟩:=st
  rcases List.mem_cons.mp hb with rfl | hb
  ·exact ⟨_,he,fun v z=>nomatch z⟩
  ·have hb:b=it:=by simpa using hb
   subst hb
   exact ⟨o,e1,fun v z=>by rw [d] at z; cases z⟩
 keep:=fun i h h' ⟨⟨old,he⟩,st⟩ k=>⟨⟨old,k e (by simp) _ he⟩,st.at fun o q=>k it (by simp) o q⟩
 item:=by
  intro X hP hw hK hc i pins s σ H E I hf st hg
  subst hP hw hK
  obtain ⟨xs,x,hq,hx⟩:=hg
  obtain ⟨its,rv,p,hz⟩:=I.list hq
  obtain ⟨u,hu,ru⟩:=rv.get hx
  obtain ⟨⟨old,he⟩,hit⟩:=st
  obtain ⟨f0,f1,f2,f3,f4,f5⟩:=hf e (by simp)
  obtain ⟨g0,g1,g2,g3,g4,g5⟩:=hf it (by simp)
  refine wpAny_pyNext_enum_item he hit p.isList (by simpa using hu) hei fun h' ho hit' hT hsz hk=>?_
  refine ⟨_,rfl,wpAny_letOwnedTupleGo_enum (s:={ s with heap:=h',toks:=s.toks+1 }) ho fun h2 he2 sb=>?_⟩
  have hTn:H s.heap.objs.size=none:=I.hok.fresh (Nat.le_refl _)
  have hTe:s.heap.objs.size≠e:=Nat.ne_of_gt (Heap.lt_size he)
  have hTi:s.heap.objs.size≠it:=by obtain ⟨_,q,_⟩:=hit; exact Nat.ne_of_gt (Heap.lt_size q)
  have k2:∀ b o,b≠e->b≠it->s.heap.get? b=some o->h2.get? b=some o:=fun b o n1 n2 q=>(sb.2 b n1).trans (hk b o n1 n2 q)
  -- first the iterators turn,then the tuple is tracked
  have I1:Inv X pins σ H { s with heap:=h2,toks:=s.toks+1 }:=by
   refine I.step (g':=s.gens) (d':=s.drawn) (t':=s.toks+1) (ch:=[e,it]) (fun b hb=>?_) (fun b o _ _ hb q _=>k2 b o (fun z=>hb (by simp [z])) (fun z=>hb (by simp [z])) q) (fun b o _ _ hb q _=>⟨o.slots,k2 b o (fun z=>hb (by simp [z])) (fun z=>hb (by simp [z])) q⟩)
    (fun b o _ _ q=>q) (fun b o hb q=>⟨o,k2 b o (fun z=>hb (by simp [z])) (fun z=>hb (by simp [z])) q⟩) (fun _ _ q=>q) (fun _ _ _ q=>q) (fun _ ps q=>⟨#[],by simpa using q⟩) (fun m hm=>?_) ?_ I.bare
   ·rcases List.mem_cons.mp hb with rfl | hb
    ·exact ⟨f3,f1,f4,f5⟩
    ·have hb:b=it:=by simpa using hb
     subst hb
     exact ⟨g3,g1,g4,g5⟩
   ·obtain ⟨o,es,ep,q,r⟩:=hm
    exact ⟨o,es,ep,k2 _ _ (Ne.symm f1) (Ne.symm g1) q,r⟩
   ·intro b u q
    refine (I.hok b u q).stay (fun c v hc r=>k2 c v ?_ ?_ r) (fun _ q=>q) fun _ _ q=>q
    ·rintro rfl
     rcases hc with rfl | hc
     ·rw [f0] at q; cases q
     ·rw [f0] at hc; cases hc
    ·rintro rfl
     rcases hc with rfl | hc
     ·rw [g0] at q; cases q
     ·rw [g0] at hc; cases hc
  have hT2:h2.get? s.heap.objs.size=some { cls:=.type "tuple",data:=.seq #[.int i s.toks,u] }:=(sb.2 _ hTe).trans hT
  have I2:Inv X pins σ (upd H s.heap.objs.size (.tup [.int i,x])) { s with heap:=h2,toks:=s.toks+1 }:=by
   have nn:∀ {b:Addr},b < s.heap.objs.size->H b=none->upd H s.heap.objs.size (.tup [.int i,x]) b=none:=fun {b} hb e=>by rw [aAu (Nat.ne_of_lt hb)]; exact e
   have old:∀ {b:Addr} {o:HO},H b=some o->upd H s.heap.objs.size (.tup [.int i,x]) b=some o:=fun {b o} e=>by rw [aAu (aAe e hTn)]; exact e
   refine ⟨I1.ok,I1.os,I1.bare,⟨I1.base.keep,I1.base.slot,fun b o q n hx=>nn ?_ (I1.base.free b o q n hx),I1.base.there,fun b ys q=>old (I1.base.tups b ys q),fun b o v q=>old (I1.base.frzs b o v q),fun b ps q=>?_⟩,I1.loc,I1.cell,nn I.lt I1.free,fun y c q=>nn ?_ (I1.freeC y c q),fun p hp=>?_,fun b o q=>?_,I1.len⟩
   ·exact Nat.lt_of_lt_of_le (Heap.lt_size q) I.sz
   ·obtain ⟨more,z⟩:=I1.base.tbls b ps q
    exact ⟨more,old z⟩
   ·obtain ⟨v,z⟩:=I.cell y c q
    exact z.lt
   ·obtain ⟨z1,z2,z3⟩:=I1.pin p hp
    exact ⟨z1,nn (Heap.lt_size (I.pin p hp).1) z2,z3⟩
   ·by_cases hb:b=s.heap.objs.size
    ·subst hb
     rw [aAb] at q
     cases q
     exact ⟨⟨by rw [sizeLine_eq]; simp,_,hT2,rfl⟩,[.int i s.toks,u],.cons ⟨_,rfl⟩ (.cons ru .nil),_,hT2,rfl,_,rfl⟩
    ·rw [aAu hb] at q
     exact (I1.hok b o q).stay (fun _ _ _ z=>z) (fun c z=>old z) fun c ys z=>old z
  exact ⟨.ref s.heap.objs.size,_,I2,rfl,⟨s.heap.objs.size,x,rfl,hTn,rfl,fun ys hy=>by rw [I.list_inj hy hq]; exact hx⟩,⟨⟨u,by simpa using he2⟩,hit'.at fun o q=>(sb.2 it (Ne.symm hei)).trans q⟩,fun b hb=>by
   rcases List.mem_cons.mp hb with rfl | hb
   ·rw [aAu (Ne.symm hTe)]; exact f0
   ·have hb:b=it:=by simpa using hb
    subst hb
    rw [aAu (Ne.symm hTi)]; exact g0⟩
 done:=by
  intro X hP hw hK hc i pins s σ H E I hf st hg
  subst hP hw hK
  obtain ⟨xs,hq,hx⟩:=hg
  obtain ⟨its,rv,p,hz⟩:=I.list hq
  obtain ⟨⟨old,he⟩,hit⟩:=st
  obtain ⟨g0,g1,g2,g3,g4,g5⟩:=hf it (by simp)
  have hl:=rv.length
  exact wpAny_pyNext_enum_end (I.ok.hd hc) he hit p.isList (by simp; omega) fun h' eb=>⟨rfl,I.turned (t':=s.toks) (fun b o hb e=>eb b o hb e) g0 g1 g3 g4 g5⟩
 self:=fun _ _ _ _ _ ⟨⟨_,he⟩,_⟩ h=>wpAny_pyIter_enum he h
noncomputable def bBl (K:PySem.W.Frag) (tl:TA):TI:=fun σ H R=>tl σ H fun vs H1=>∃ a,vs=[.ref a]/\(∃ xs,SqL K H1 a xs)/\R (Ite K a) H1
theorem aWi {l:Expr} {tl:TA} {elts:List Expr} {k1:Nat} {tpos p pos:Pos} (hg:Gl X "enumerate") (hm:X.mg "enumerate"=none) (ha:PA X [l] tl) (hs:starEach [l] X.env=[(false,eval l X.env)]:=by rfl) :
  PI X (.Tuple elts k1 tpos) (.Call (.Name "enumerate" p) [l] [] pos) (bBl X.K tl):=by
 intro pins s σ H R I h
 refine Call_ (aEo I hg hm aKs (PyProof.Rows.callWith_type1 (thn (ha pos pins s σ H _ I h) fun us s1 ⟨vs,H1,I1,r1,q1⟩=>?_) hs rfl))
 obtain ⟨a,e,⟨xs,hq⟩,q⟩:=q1
 subst e
 cases r1 with
 | cons r rr =>
  cases rr
  cases r
  obtain ⟨its,rv,p,hz⟩:=I1.list hq
  refine call_enumerate_list p.isList fun h' he hit hsz kp=>?_
  refine wpAny_pyIter_enum he ?_
  have I2:Inv X pins σ H1 { s1 with heap:=h' }:=I1.kept (t':=s1.toks) kp
  refine ⟨_,[s1.heap.objs.size+1,s1.heap.objs.size],_,_,H1,rfl,I2,aOt a _ _ (Nat.ne_of_gt (Nat.lt_succ_self _)),⟨⟨_,he⟩,hit⟩,fun b hb=>?_,q⟩
  rcases List.mem_cons.mp hb with rfl | hb
  ·exact I1.fpOk (Nat.le_succ _) (I1.hok.fresh (Nat.le_succ _))
  ·have hb:b=s1.heap.objs.size:=by simpa using hb
   subst hb
   exact I1.fpOk (Nat.le_refl _) (I1.hok.fresh (Nat.le_refl _))
noncomputable def SetS (w:World) (a:Addr) (xs:List Str):HO:=.ext fun h=>aFm w h a xs
theorem aJl:∀ {xs:List Str} {us:List Value},aBn (xs.map V.str) us->StrsAre us xs
 | [],_,.nil=>.nil
 | x::xs,_,.cons r t=>by
  obtain ⟨tk,rfl⟩:=r
  exact .cons x tk (aJl t)
theorem aJo:∀ {us:List Value} {xs:List Str},StrsAre us xs->aBn (xs.map V.str) us
 | _,_,.nil=>.nil
 | _,_,.cons x t h=>.cons ⟨t,rfl⟩ (aJo h)
noncomputable def rSetS (w:World):List V->Hp->VK->Prop:=fun vs H Q=>∃ (p:Addr) (xs:List Str),vs=[.ref p]/\H p=some (.lst (xs.map V.str))/\xs.length<=4000/\∀ (l:Addr) (ys:List Str),H l=none->ys.Nodup->(∀ z,z∈ys ↔ z∈xs)->Q (.ref l) (upd H l (SetS w l ys))
theorem aRu (hc:X.calm=true):aEc X (.type "set") (rSetS X.w):=by
 intro pins s σ H vs us Q I r h
 obtain ⟨p,xs,rfl,hp,hl,q⟩:=h
 obtain ⟨u,rfl,ru⟩:=r.one
 cases ru
 obtain ⟨z,its,n,rv,hlen,e⟩:=I.lstM hp
 have hst:=aJl rv
 refine aPe (items:=its.toArray) (xs:=xs) (I.ok.hd hc) ⟨_,e,rfl,n,rfl⟩ (fun i v hv=>?_) (by rw [List.size_toArray,← hlen,List.length_map]) (by unfold scanBound; omega) fun h' tk ys ht hm kp=>?_
 ·have hv:its[i]?=some v:=by simpa using hv
  have hi:i < xs.length:=by
   have:=(List.getElem?_eq_some_iff.mp hv).1
   rw [← hlen,List.length_map] at this
   exact this
  obtain ⟨u,e1,r1⟩:=rv.get (i:=i) (x:=.str xs[i]) (by simp [hi])
  rw [hv] at e1
  cases e1
  obtain ⟨t,rfl⟩:=r1
  exact ⟨t,by simp [List.getD,hi]⟩
 ·have hnd:ys.Nodup:=by obtain ⟨_,_,_,_,_,_,nd,_⟩:=ht; exact nd
  have hex:∃ o,h'.get? s.heap.objs.size=some o:=by obtain ⟨es,ep,t,g,_⟩:=ht; exact ⟨_,g⟩
  refine ⟨.ref s.heap.objs.size,_,I.laid (o:=SetS X.w s.heap.objs.size ys) (fun b o e=>kp b o (Heap.lt_size e) e) (Nat.le_refl _) ⟨ht,hex,fun h1 h2 x k=>x.at k⟩,rfl,q _ ys (I.hok.fresh (Nat.le_refl _)) hnd hm⟩
noncomputable abbrev aMn (H:Hp):List V->List (Key×V)->Prop:=Paired fun v kv=>∃ a,v=.ref a/\H a=some (.tup [kV kv.1,kv.2])
noncomputable def bAe:List V->Hp->VK->Prop:=fun vs H Q=>∃ (p:Addr) (ts:List V) (kvs:List (Key×V)),vs=[.ref p]/\H p=some (.lst ts)/\aMn H ts kvs/\ts.length<=1000/\∀ l:Addr,H l=none->Q (.ref l) (upd H l (.dK (aDb [] kvs)))
theorem Paired.at {α β:Type} {F:α->β->Prop}:∀ {xs:List α} {ys:List β} {i:Nat} {x:α},Paired F xs ys->xs[i]?=some x->∃ y,ys[i]?=some y/\F x y
 | _,_,_,_,.nil,e=>by simp at e
 | _,_,0,_,.cons r _,e=>by simp at e; subst e; exact ⟨_,rfl,r⟩
 | _,_,i+1,x,.cons _ t,e=>by
  obtain ⟨y,h1,h2⟩:=Paired.at (i:=i) (x:=x) t (by simpa using e)
  exact ⟨y,by simpa using h1,h2⟩
theorem aH1 {H:Hp} {h:Heap} {P:Program} {w:World} (ok:HOk P w H h):∀ {ts:List V} {kvs:List (Key×V)} {its:List Value},aMn H ts kvs->aBn ts its ->
  ∃ ps:List (Key×Value),KV kvs ps/\Paired (fun v p=>∃ a key,v=Value.ref a/\h.IsTuple a #[key,p.2]/\(aA9 P w).is p.1 key=true) its ps
 | _,_,_,.nil,.nil=>⟨[],.nil,.nil⟩
 | _,_,_,.cons (b:=kv) ⟨a,e,g⟩ t,.cons r rt=>by
  obtain ⟨ps,h1,h2⟩:=aH1 ok t rt
  subst e
  cases r
  obtain ⟨_,its,rv,tp⟩:=ok a _ g
  cases rv with
  | cons r1 rv =>
   cases rv with
   | cons r2 rv =>
    cases rv
    rename_i k1 x1
    exact ⟨(kv.1,x1)::ps,.cons ⟨rfl,r2⟩ h1,.cons ⟨a,k1,rfl,tp,aHc r1⟩ h2⟩
theorem aH6:∀ {kvs:List (Key×V)} {ps:List (Key×Value)} {m:List (Key×V)} {n:List (Key×Value)},KV kvs ps->KV m n->KV (aDb m kvs) (aI2 n ps)
 | _,_,_,_,.nil,r=>r
 | _,_,m,n,.cons (a:=p) (b:=q) ⟨e,rv⟩ t,r=>by
  show KV (aDb (aDn m p.1 p.2) _) (aI2 (stored n q.1 q.2) _)
  refine aH6 t ?_
  rw [← e]
  exact r.put p.1 rv
theorem aIb (hc:X.calm=true):aEc X (.type "dict") bAe:=by
 intro pins s σ H vs us Q I r h
 obtain ⟨p,ts,kvs,rfl,hp,hpr,hl,q⟩:=h
 obtain ⟨u,rfl,ru⟩:=r.one
 cases ru
 obtain ⟨z,its,n,rv,hlen,e⟩:=I.lstM hp
 obtain ⟨ps,h1,h2⟩:=aH1 I.hok hpr rv
 have hps:its.length=ps.length:=h2.length
 refine aOd (knd:=aA9 X.prog X.w) (ps:=ps) (I.ok.hd hc) e (by rw [List.size_toArray]; exact hps) (fun h' i v hv kp=>?_) (by rw [← hps,← hlen]; exact hl) fun h' tk hd kp=>?_
 ·obtain ⟨y,e1,a,key,rfl,tp,hk⟩:=Paired.at h2 (show its[i]?=some v by simpa using hv)
  obtain ⟨o,g,r⟩:=tp
  exact ⟨a,key,y.1,y.2,rfl,⟨o,kp _ _ g,r⟩,e1,hk⟩
 ·have rel:=aH6 h1 (.nil:KV [] [])
  refine ⟨.ref s.heap.objs.size,_,I.laid (o:=.dK (aDb [] kvs)) kp (Nat.le_refl _) (aKo ?_ (beq_eq_false_iff_ne.mpr (Ne.symm (Nat.ne_of_lt I.big))) rel hd),rfl,q _ (I.hok.fresh (Nat.le_refl _))⟩
  have h3:=aDj kvs []
  have h4:ts.length=kvs.length:=hpr.length
  simp at h3
  rw [sizeLine_eq]
  omega
end
end L2
namespace L2
open PySem PySem.Spec PyProof.Rows
section
variable {X:Cx}
noncomputable def aPq:V->List V->Hp->VK->Prop:=fun x vs H Q=>∃ (a:Addr) (kvs:List (Key×V)) (k:Key) (d:V),x=.ref a/\vs=[kV k,d]/\H a=some (.dK kvs)/\kvs.length<=1000/\(∀ v,aBu kvs k=some v->Q v H)/\(aBu kvs k=none->Q d (upd H a (.dK (kvs++[(k,d)]))))
theorem aKc:MtR X "dict.setdefault" aPq:=by
 intro pins s σ H x vs v us Q I rx rv h
 obtain ⟨a,kvs,k,d,rfl,rfl,ha,hl,h1,h2⟩:=h
 cases rx
 obtain ⟨u1,u2,rfl,r1,r2⟩:=aBn.two rv
 obtain ⟨z,hs,ws,rel,dd⟩:=aRk I.hok ha
 have hrel:=rel.val k
 refine aMk (aHc r1) hs dd (by rw [← rel.length]; exact z) (fun w e=>?_) fun e h' dd' sb=>?_
 ·rw [e] at hrel
  cases ev:aBu kvs k with
  | none=>rw [ev] at hrel; exact hrel.elim
  | some v =>
   rw [ev] at hrel
   exact ⟨v,H,I.tok _,hrel,h1 v ev⟩
 ·rw [e] at hrel
  have ev:aBu kvs k=none:=by
   cases ev:aBu kvs k with
   | none=>rfl
   | some v=>rw [ev] at hrel; exact hrel.elim
  have he:∃ q,h'.get? a=some q:=let ⟨q,_,_,hq,_⟩:=dd'; ⟨q,hq⟩
  refine ⟨d,_,aHh (t':=s.toks+1) I (by rw [ha]; exact True.intro) sb he (aKo ?_ hs (show KV (kvs++[(k,d)]) (ws++[(k,u2)]) from ?_) dd'),r2,h2 ev⟩
  ·rw [List.length_append,List.length_singleton,sizeLine_eq]
   omega
  ·have:∀ {p:List (Key×V)} {q:List (Key×Value)},KV p q->KV (p++[(k,d)]) (q++[(k,u2)]):=fun {p q} r=>by
    induction r with
    | nil=>exact .cons ⟨rfl,r2⟩ .nil
    | cons r _ ih=>exact .cons r ih
   exact this rel
noncomputable def rSlS:V->Option Int->Option Int->Hp->VK->Prop:=fun x lo hi H Q=>∃ z:Str,x=.str z/\z.length<=sizeLine/\Q (.str (Txt.slice z lo hi)) H
theorem aP8 {v:Value} {lo:Option Int} (h:IsPart v lo):∃ l:Option (Int×Tok),l.map (·.1)=lo/\v=partValue l:=by
 cases h with
 | none=>exact ⟨none,rfl,rfl⟩
 | int i t=>exact ⟨some (i,t),rfl,rfl⟩
theorem aUl:SlR X rSlS:=by
 intro pins s σ H x v vl vu lo hi sl Q I rx hs pl pu h
 obtain ⟨z,rfl,hz,q⟩:=h
 obtain ⟨t,rfl⟩:=rx
 obtain ⟨l,e1,rfl⟩:=aP8 pl
 obtain ⟨u,e2,rfl⟩:=aP8 pu
 subst e1 e2
 refine ⟨"str",_,F.slot_str_getitem.lookup,typeIs_str _ _ _,wpAny_getItem_str_slice (l:=l) (u:=u) (st:=none) ?_ rfl (post_val_or_str ?_)⟩
 ·obtain ⟨o,a,b,c⟩:=hs
  exact ⟨o,a,b,c⟩
 ·exact ⟨Nat.le_trans (Txt.slice_le z _ _) hz,fun t' k=>⟨.str _,H,I.tok _,⟨_,rfl⟩,q⟩⟩
end
end L2
namespace L2
section
variable {α:Type} [DecidableEq α]
noncomputable abbrev aEa (α:Type):=α×α×Rat
noncomputable abbrev aEq (α:Type):=Rat×Option (Nat×α)
noncomputable abbrev AL (α β:Type):=List (α×β)
noncomputable def aBf {β:Type} (l:AL α β) (k:α):Option β:=(l.find? fun kv=>decide (kv.1=k)).map (·.2)
noncomputable def aDp {β:Type} (l:AL α β) (k:α) (v:β):AL α β:=if (l.any fun kv=>decide (kv.1=k)) then l.map (fun kv=>if kv.1=k then (kv.1,v) else kv) else l++[(k,v)]
noncomputable def aE3 {β:Type} (l:AL α β) (k:α):AL α β:=l.filter fun kv=>decide (kv.1≠k)
theorem aBm {β:Type} {l:AL α β} {k:α} {v:β} (h:aBf l k=some v):(k,v)∈l:=by
 unfold aBf at h
 rw [Option.map_eq_some_iff] at h
 obtain ⟨kv,h1,h2⟩:=h
 have h3:=List.find?_some h1
 have h4:=List.mem_of_find?_eq_some h1
 simp at h3
 obtain ⟨a,b⟩:=kv
 simp at h2 h3
 subst h2 h3
 exact h4
theorem aFl {β:Type} {l:AL α β} {k:α} (h:aBf l k=none):∀ v,(k,v)∉l:=by
 intro v hm
 unfold aBf at h
 rw [Option.map_eq_none_iff,List.find?_eq_none] at h
 have:=h _ hm
 simp at this
theorem aBz {β:Type} {l:AL α β} {k:α} {v:β} (nd:(l.map (·.1)).Nodup) (h:(k,v)∈l):aBf l k=some v:=by
 cases e:aBf l k with
 | none=>exact absurd h (aFl e v)
 | some u =>
  have h2:=aBm e
  induction l with
  | nil=>cases h
  | cons x r ih =>
   rw [List.map_cons,List.nodup_cons] at nd
   rcases List.mem_cons.mp h with rfl | h'
   ·rcases List.mem_cons.mp h2 with h3 | h3
    ·cases h3; rfl
    ·exact absurd (List.mem_map.mpr ⟨_,h3,rfl⟩) nd.1
   ·rcases List.mem_cons.mp h2 with h3 | h3
    ·subst h3
     exact absurd (List.mem_map.mpr ⟨_,h',rfl⟩) nd.1
    ·have e':aBf r k=some u:=by
      unfold aBf at e ⊢
      rw [List.find?_cons] at e
      have:(decide (x.1=k))=false:=by
       apply decide_eq_false
       intro z
       subst z
       exact nd.1 (List.mem_map.mpr ⟨_,h',rfl⟩)
      rw [this] at e
      exact e
     exact ih nd.2 h' e' h3
theorem aCl {β:Type} {l:AL α β} {k:α} {v:β} {x:α} {y:β} (h:(x,y)∈aDp l k v):(x=k/\y=v)∨(x≠k/\(x,y)∈l):=by
 unfold aDp at h
 split at h
 ·rw [List.mem_map] at h
  obtain ⟨kv,h1,h2⟩:=h
  split at h2
  ·rename_i e
   cases h2
   exact .inl ⟨e,rfl⟩
  ·rename_i e
   subst h2
   exact .inr ⟨e,h1⟩
 ·rename_i e
  rcases List.mem_append.mp h with h1 | h1
  ·refine .inr ⟨?_,h1⟩
   rintro rfl
   apply e
   rw [List.any_eq_true]
   exact ⟨_,h1,by simp⟩
  ·rw [List.mem_singleton] at h1
   cases h1
   exact .inl ⟨rfl,rfl⟩
theorem aNm {β:Type} {l:AL α β} {k:α} {v:β}:(k,v)∈aDp l k v:=by
 unfold aDp
 split
 ·rename_i e
  rw [List.any_eq_true] at e
  obtain ⟨kv,h1,h2⟩:=e
  rw [List.mem_map]
  refine ⟨kv,h1,?_⟩
  have:=of_decide_eq_true h2
  rw [if_pos this,this]
 ·exact List.mem_append_right _ (List.mem_singleton.mpr rfl)
theorem aT1 {β:Type} {l:AL α β} {k:α} {v:β} {x:α} {y:β} (hx:x≠k) (h:(x,y)∈l):(x,y)∈aDp l k v:=by
 unfold aDp
 split
 ·rw [List.mem_map]
  exact ⟨_,h,by rw [if_neg hx]⟩
 ·exact List.mem_append_left _ h
theorem aHj {β:Type} {l:AL α β} {k:α} {v:β} (nd:(l.map (·.1)).Nodup):((aDp l k v).map (·.1)).Nodup:=by
 unfold aDp
 split
 ·rw [List.map_map]
  have:((fun x=>x.1) ∘ fun (kv:α×β)=>if kv.1=k then (kv.1,v) else kv)=fun kv=>kv.1:=by
   funext kv
   simp only [Function.comp]
   split <;> rfl
  rw [this]
  exact nd
 ·rename_i e
  rw [List.map_append,List.nodup_append]
  refine ⟨nd,by simp,?_⟩
  intro a ha b hb
  simp at hb
  subst hb
  rintro rfl
  apply e
  rw [List.mem_map] at ha
  obtain ⟨kv,h1,h2⟩:=ha
  rw [List.any_eq_true]
  exact ⟨kv,h1,by simp [h2]⟩
theorem aR5 {β:Type} {l:AL α β} {k:α} {v:β} {x:α} (h:x∈(aDp l k v).map (·.1)):x=k∨x∈l.map (·.1):=by
 rw [List.mem_map] at h
 obtain ⟨⟨a,b⟩,h1,rfl⟩:=h
 rcases aCl h1 with ⟨e,_⟩ | ⟨_,e⟩
 ·exact .inl e
 ·exact .inr (List.mem_map.mpr ⟨_,e,rfl⟩)
theorem aD4 {β:Type} {l:AL α β} {k:α} {x:α×β}:x∈aE3 l k ↔ x∈l/\x.1≠k:=by
 unfold aE3
 rw [List.mem_filter]
 simp
theorem aT2 {β:Type} {l:AL α β} {k:α} (nd:(l.map (·.1)).Nodup):((aE3 l k).map (·.1)).Nodup:=by
 unfold aE3
 exact nd.sublist (List.filter_sublist.map _)
theorem aEm {β:Type} (l:AL α β) (k j:α) (v:β):aBf (aDp l k v) j=if j=k then some v else aBf l j:=by
 by_cases e:j=k
 ·subst e
  rw [if_pos rfl]
  unfold aBf aDp
  split
  ·rename_i h
   induction l with
   | nil=>simp at h
   | cons x r ih =>
    rw [List.map_cons,List.find?_cons]
    by_cases hx:x.1=j
    ·simp [hx]
    ·rw [if_neg hx]
     simp only [hx,decide_false]
     apply ih
     rw [List.any_cons] at h
     simpa [hx] using h
  ·rename_i h
   induction l with
   | nil=>simp
   | cons x r ih =>
    rw [List.any_cons] at h
    have hx:¬ x.1=j:=fun z=>h (by simp [z])
    rw [List.cons_append,List.find?_cons]
    simp only [hx,decide_false]
    exact ih (by simpa [hx] using h)
 ·rw [if_neg e]
  unfold aBf aDp
  split
  ·rename_i h
   clear h
   induction l with
   | nil=>rfl
   | cons x r ih =>
    rw [List.map_cons,List.find?_cons,List.find?_cons]
    by_cases hx:x.1=k
    ·rw [if_pos hx]
     have:¬ x.1=j:=fun z=>e (z.symm.trans hx)
     simp only [this,decide_false]
     exact ih
    ·rw [if_neg hx]
     by_cases hj:x.1=j
     ·simp [hj]
     ·simp only [hj,decide_false]
      exact ih
  ·rename_i h
   rw [List.find?_append]
   have:List.find? (fun kv=>decide (kv.1=j)) [(k,v)]=none:=by
    simp [Ne.symm e]
   rw [this,Option.or_none]
noncomputable def Jn (r:aEa α) (q p:α):Prop:=(r.1=q/\r.2.1=p)∨(r.2.1=q/\r.1=p)
noncomputable def aB5 (tk:Nat->Option Rat) (k:Nat) (t:Rat):Prop:=∀ u,tk k=some u->t<=u
theorem aB5.le {tk:Nat->Option Rat} {k:Nat} {s t:Rat} (h:aB5 tk k t) (l:s<=t):aB5 tk k s:=fun u e=>Rat.le_trans l (h u e)
variable (net:List (aEa α)) (push:α -> Option Rat) (tk:Nat -> Option Rat)
inductive Arr:α->Rat->Prop
 | push {p t}:push p=some t->Arr p t
 | run {q s p k r}:Arr q s->net[k]?=some r->Jn r q p->aB5 tk k (s+r.2.2)->Arr p (s+r.2.2)
structure aJk (m:α->Option Rat):Prop where
 arr:∀ p t,m p=some t->Arr net push tk p t
 le:∀ p t,Arr net push tk p t->∃ u,m p=some u/\u<=t
variable {net push tk}
theorem aJk.uniq {m m':α->Option Rat} (h:aJk net push tk m) (h':aJk net push tk m'):m=m':=by
 have key:∀ {m m':α->Option Rat},aJk net push tk m->aJk net push tk m'->∀ p t,m p=some t->∃ u,m' p=some u/\u<=t:=fun h h' p t e=>h'.le p t (h.arr p t e)
 funext p
 cases e:m p with
 | none =>
  cases e':m' p with
  | none=>rfl
  | some u =>
   obtain ⟨w,e2,_⟩:=key h' h p u e'
   rw [e] at e2
   cases e2
 | some t =>
  obtain ⟨u,e1,l1⟩:=key h h' p t e
  obtain ⟨w,e2,l2⟩:=key h' h p u e1
  rw [e] at e2
  cases e2
  rw [e1]
  exact congrArg some (Rat.le_antisymm l2 l1)
noncomputable def Sup (net:List (aEa α)) (push:α->Option Rat) (tk:Nat->Option Rat) (F:AL α (aEq α)) (p:α):aEq α->Prop
 | (t,none)=>push p=some t
 | (t,some (k,q))=>∃ r e,net[k]?=some r/\Jn r q p/\(q,e)∈F/\t=e.1+r.2.2/\aB5 tk k t
theorem Sup.mono {F F':AL α (aEq α)} {p:α} {e:aEq α} (h:Sup net push tk F p e) (s:∀ x∈F,x∈F'):Sup net push tk F' p e:=by
 obtain ⟨t,o⟩:=e
 cases o with
 | none=>exact h
 | some kq =>
  obtain ⟨r,e,a,b,c,d⟩:=h
  exact ⟨r,e,a,b,s _ c,d⟩
noncomputable def Has (W F:AL α (aEq α)) (p:α) (t:Rat):Prop:=∃ e,((p,e)∈W∨(p,e)∈F)/\e.1<=t
structure aIe (net:List (aEa α)) (push:α->Option Rat) (tk:Nat->Option Rat) (C:α->Nat->α->Prop) (W F:AL α (aEq α)):Prop where
 ndW:(W.map (·.1)).Nodup
 ndF:(F.map (·.1)).Nodup
 dis:∀ p,p∈W.map (·.1)->p∉F.map (·.1)
 sup:∀ p e,(p,e)∈W->Sup net push tk F p e
 ord:∀ i p e,F[i]?=some (p,e)->Sup net push tk (F.take i) p e
 mono:∀ f∈F,∀ w∈W,f.2.1<=w.2.1
 psh:∀ p t,push p=some t->Has W F p t
 clo:∀ q e,(q,e)∈F->∀ k r p,net[k]?=some r->Jn r q p->C q k p->aB5 tk k (e.1+r.2.2)->Has W F p (e.1+r.2.2)
theorem aIe.start {W:AL α (aEq α)} {C:α->Nat->α->Prop} (nd:(W.map (·.1)).Nodup) (h:∀ p e,(p,e)∈W->e.2=none/\push p=some e.1) (h2:∀ p t,push p=some t->(p,(t,none))∈W):aIe net push tk C W []:=by
 refine ⟨nd,by simp,fun _ _=>by simp,fun p e he=>?_,fun i p e he=>by simp at he,fun f hf=>by simp at hf,fun p t e=>⟨_,.inl (h2 p t e),Rat.le_refl⟩,fun q e he=>by simp at he⟩
 obtain ⟨t,o⟩:=e
 obtain ⟨rfl,z⟩:=h p _ he
 exact z
theorem aIe.pop {W F:AL α (aEq α)} {p:α} {e:aEq α} {C:α->Nat->α->Prop} (I:aIe net push tk (fun _ _ _=>True) W F) (hp:(p,e)∈W) (hm:∀ w∈W,e.1<=w.2.1) (hC:∀ q k x,C q k x->q≠p):aIe net push tk C (aE3 W p) (F++[(p,e)]):=by
 have hpF:p∉F.map (·.1):=I.dis p (List.mem_map.mpr ⟨_,hp,rfl⟩)
 have has:∀ {x t},Has W F x t->Has (aE3 W p) (F++[(p,e)]) x t:=fun {x t} ⟨u,h1,h2⟩=>by
  rcases h1 with h1 | h1
  ·by_cases hx:x=p
   ·subst hx
    have:u=e:=Option.some.inj ((aBz I.ndW h1).symm.trans (aBz I.ndW hp))
    subst this
    exact ⟨u,.inr (by simp),h2⟩
   ·exact ⟨u,.inl (aD4.mpr ⟨h1,hx⟩),h2⟩
  ·exact ⟨u,.inr (List.mem_append_left _ h1),h2⟩
 refine ⟨aT2 I.ndW,?_,fun x hx=>?_,fun x u hu=>?_,fun i x u hi=>?_,fun f hf w hw=>?_,fun x t hx=>has (I.psh x t hx),fun q u hq k r x h1 h2 h3 h4=>?_⟩
 ·rw [List.map_append,List.nodup_append]
  refine ⟨I.ndF,by simp,fun a ha b hb=>?_⟩
  simp at hb
  subst hb
  rintro rfl
  exact hpF ha
 ·rw [List.mem_map] at hx
  obtain ⟨y,hy,rfl⟩:=hx
  have hy:=aD4.mp hy
  rw [List.map_append,List.mem_append]
  rintro (z | z)
  ·exact I.dis _ (List.mem_map.mpr ⟨_,hy.1,rfl⟩) z
  ·simp at z
   exact hy.2 z
 ·exact (I.sup x u (aD4.mp hu).1).mono fun y hy=>List.mem_append_left _ hy
 ·by_cases hi2:i < F.length
  ·rw [List.getElem?_append_left hi2] at hi
   rw [List.take_append_of_le_length (Nat.le_of_lt hi2)]
   exact I.ord i x u hi
  ·rw [List.getElem?_append_right (by omega)] at hi
   have:i - F.length=0:=by
    cases e2:i - F.length with
    | zero=>rfl
    | succ n=>rw [e2] at hi; simp at hi
   have hi3:i=F.length:=by omega
   subst hi3
   simp at hi
   obtain ⟨rfl,rfl⟩:=hi
   rw [List.take_left]
   exact I.sup _ _ hp
 ·have hw:=aD4.mp hw
  rcases List.mem_append.mp hf with hf | hf
  ·exact I.mono f hf w hw.1
  ·simp at hf
   subst hf
   exact hm w hw.1
 ·rcases List.mem_append.mp hq with hq | hq
  ·exact has (I.clo q u hq k r x h1 h2 trivial h4)
  ·simp at hq
   exact absurd hq.1 (hC _ _ _ h3)
theorem aIe.turn {W F:AL α (aEq α)} {p x:α} {e:aEq α} {k:Nat} {r:aEa α} {C C':α->Nat->α->Prop} (I:aIe net push tk C W F) (hp:(p,e)∈F) (hr:net[k]?=some r) (hj:Jn r p x) (hle:∀ w∈F,w.2.1<=e.1) (h0:0 < r.2.2)
  (hC:∀ q j y,C' q j y->C q j y∨(q=p/\j=k/\y=x)) {W':AL α (aEq α)}
  (hW:(W'=W/\(x∈F.map (·.1)∨¬ aB5 tk k (e.1+r.2.2)∨∃ u,(x,u)∈W/\u.1<=e.1+r.2.2)) ∨
   (x∉F.map (·.1)/\aB5 tk k (e.1+r.2.2)/\(∀ u,(x,u)∈W->e.1+r.2.2<=u.1)/\W'=aDp W x (e.1+r.2.2,some (k,p)))):aIe net push tk C' W' F:=by
 rcases hW with ⟨rfl,h⟩ | ⟨hxF,hno,hu,rfl⟩
 ·refine ⟨I.ndW,I.ndF,I.dis,I.sup,I.ord,I.mono,I.psh,fun q u hq j r' y h1 h2 h3 h4=>?_⟩
  rcases hC q j y h3 with h3 | ⟨rfl,rfl,rfl⟩
  ·exact I.clo q u hq j r' y h1 h2 h3 h4
  ·rw [hr] at h1
   cases h1
   have:u=e:=Option.some.inj ((aBz I.ndF hq).symm.trans (aBz I.ndF hp))
   subst this
   rcases h with h | h | ⟨w,h5,h6⟩
   ·rw [List.mem_map] at h
    obtain ⟨⟨a,b⟩,h5,rfl⟩:=h
    refine ⟨b,.inr h5,?_⟩
    have:=hle _ h5
    simp only at this
    grind
   ·exact absurd h4 h
   ·exact ⟨w,.inl h5,h6⟩
 ·have has:∀ {y t},Has W F y t->Has (aDp W x (e.1+r.2.2,some (k,p))) F y t:=fun {y t} ⟨u,h1,h2⟩=>by
   rcases h1 with h1 | h1
   ·by_cases hy:y=x
    ·subst hy
     exact ⟨_,.inl aNm,Rat.le_trans (hu u h1) h2⟩
    ·exact ⟨u,.inl (aT1 hy h1),h2⟩
   ·exact ⟨u,.inr h1,h2⟩
  refine ⟨aHj I.ndW,I.ndF,fun y hy=>?_,fun y u hy=>?_,I.ord,fun f hf w hw=>?_,fun y t hy=>has (I.psh y t hy),fun q u hq j r' y h1 h2 h3 h4=>?_⟩
  ·rcases aR5 hy with rfl | hy
   ·exact hxF
   ·exact I.dis y hy
  ·rcases aCl hy with ⟨rfl,rfl⟩ | ⟨_,hy⟩
   ·exact ⟨r,e,hr,hj,hp,rfl,hno⟩
   ·exact I.sup y u hy
  ·obtain ⟨y,u⟩:=w
   rcases aCl hw with ⟨rfl,rfl⟩ | ⟨_,hy⟩
   ·have:=hle f hf
    show f.2.1<=e.1+r.2.2
    grind
   ·exact I.mono f hf _ hy
  ·rcases hC q j y h3 with h3 | ⟨rfl,rfl,rfl⟩
   ·exact has (I.clo q u hq j r' y h1 h2 h3 h4)
   ·rw [hr] at h1
    cases h1
    have:u=e:=Option.some.inj ((aBz I.ndF hq).symm.trans (aBz I.ndF hp))
    subst this
    exact ⟨_,.inl aNm,Rat.le_refl⟩
structure aU0 (net:List (aEa α)) (push:α->Option Rat) (tk:Nat->Option Rat) (F:AL α (aEq α)):Prop where
 nd:(F.map (·.1)).Nodup
 ord:∀ i p e,F[i]?=some (p,e)->Sup net push tk (F.take i) p e
 psh:∀ p t,push p=some t->∃ e,(p,e)∈F/\e.1<=t
 clo:∀ q e,(q,e)∈F->∀ k r p,net[k]?=some r->Jn r q p->aB5 tk k (e.1+r.2.2)->∃ u,(p,u)∈F/\u.1<=e.1+r.2.2
theorem aIe.done {F:AL α (aEq α)} (I:aIe net push tk (fun _ _ _=>True) [] F):aU0 net push tk F:=by
 refine ⟨I.ndF,I.ord,fun p t h=>?_,fun q e hq k r p h1 h2 h3=>?_⟩
 ·obtain ⟨e,h1,h2⟩:=I.psh p t h
  exact ⟨e,h1.resolve_left (by simp),h2⟩
 ·obtain ⟨u,h4,h5⟩:=I.clo q e hq k r p h1 h2 trivial h3
  exact ⟨u,h4.resolve_left (by simp),h5⟩
noncomputable def aCh (F:AL α (aEq α)) (p:α):Option Rat:=(aBf F p).map (·.1)
theorem aU0.arr {F:AL α (aEq α)} (O:aU0 net push tk F):∀ (i:Nat) (p:α) (e:aEq α),F[i]?=some (p,e)->Arr net push tk p e.1:=by
 intro i
 induction i using Nat.strongRecOn with
 | ind i ih =>
  intro p e hi
  have h:=O.ord i p e hi
  obtain ⟨t,o⟩:=e
  cases o with
  | none=>exact .push h
  | some kq =>
   obtain ⟨k,q⟩:=kq
   obtain ⟨r,e,h1,h2,h3,h4,h5⟩:=h
   obtain ⟨j,hj⟩:=List.mem_iff_getElem?.mp h3
   rw [List.getElem?_take] at hj
   split at hj
   ·rename_i hlt
    subst h4
    exact .run (ih j hlt q e hj) h1 h2 h5
   ·cases hj
theorem aU0.falls {F:AL α (aEq α)} (O:aU0 net push tk F):aJk net push tk (aCh F):=by
 refine ⟨fun p t h=>?_,fun p t h=>?_⟩
 ·unfold aCh at h
  rw [Option.map_eq_some_iff] at h
  obtain ⟨e,h1,rfl⟩:=h
  obtain ⟨i,hi⟩:=List.mem_iff_getElem?.mp (aBm h1)
  exact O.arr i p e hi
 ·induction h with
  | push h =>
   obtain ⟨e,h1,h2⟩:=O.psh _ _ h
   exact ⟨e.1,by unfold aCh; rw [aBz O.nd h1]; rfl,h2⟩
  | run h1 h2 h3 h4 ih =>
   obtain ⟨u,h5,h6⟩:=ih
   unfold aCh at h5
   rw [Option.map_eq_some_iff] at h5
   obtain ⟨e,h7,rfl⟩:=h5
   rename_i q s p k r
   have hle:e.1+r.2.2<=s+r.2.2:=by grind
   obtain ⟨u,h8,h9⟩:=O.clo q e (aBm h7) k r p h2 h3 (h4.le hle)
   exact ⟨u.1,by unfold aCh; rw [aBz O.nd h8]; rfl,Rat.le_trans h9 hle⟩
end
end L2
namespace L2
section
variable {α:Type} [DecidableEq α] {net:List (aEa α)} {push:α -> Option Rat} {tk:Nat -> Option Rat} {F:AL α (aEq α)}
noncomputable def Sat (f:α->Option Rat) (p:α) (t:Rat):Prop:=∃ u,f p=some u/\u<=t
noncomputable def Snd (net:List (aEa α)) (push:α->Option Rat) (tk:Nat->Option Rat) (f:α->Option Rat):Prop:=∀ p t,f p=some t->Arr net push tk p t
end
end L2
namespace L2
section
variable {κ:Type} [DecidableEq κ]
noncomputable def aDo (m:AL κ Rat) (x:κ×Rat):AL κ Rat:=match aBf m x.1 with
 | none=>aDp m x.1 x.2
 | some r=>if x.2 < r then aDp m x.1 x.2 else m
noncomputable def lst (l:List (κ×Rat)):AL κ Rat:=l.foldl aDo []
theorem aGl (l:List (κ×Rat)) (x:κ×Rat):lst (l++[x])=aDo (lst l) x:=by
 unfold lst
 rw [List.foldl_append]
 rfl
theorem aTh {m:AL κ Rat} {x:κ×Rat} (h:(m.map (·.1)).Nodup):((aDo m x).map (·.1)).Nodup:=by
 unfold aDo
 split
 ·exact aHj h
 ·split
  ·exact aHj h
  ·exact h
theorem aQn {m:AL κ Rat} {x:κ×Rat} {k:κ} {q:Rat} (h:(k,q)∈aDo m x):(k,q)∈m∨(k,q)=x:=by
 unfold aDo at h
 split at h
 ·rcases aCl h with ⟨rfl,rfl⟩ | ⟨_,h⟩
  ·exact .inr rfl
  ·exact .inl h
 ·split at h
  ·rcases aCl h with ⟨rfl,rfl⟩ | ⟨_,h⟩
   ·exact .inr rfl
   ·exact .inl h
  ·exact .inl h
theorem aQp (P:AL κ Rat->Prop) (l:List (κ×Rat)) (h0:P []) (hs:∀ m x,x∈l->P m->P (aDo m x)):P (lst l):=by
 unfold lst
 have:∀ (l':List (κ×Rat)) (m:AL κ Rat),(∀ x∈l',x∈l)->P m->P (l'.foldl aDo m):=by
  intro l'
  induction l' with
  | nil=>intro m _ h; exact h
  | cons x r ih=>intro m hl h; exact ih _ (fun y hy=>hl y (List.mem_cons_of_mem _ hy)) (hs m x (hl x List.mem_cons_self) h)
 exact this l [] (fun x h=>h) h0
theorem aQq (l:List (κ×Rat)):((lst l).map (·.1)).Nodup:=aQp (fun m=>(m.map (·.1)).Nodup) l (by simp) fun m x _ h=>aTh h
theorem aG6 {l:List (κ×Rat)} {x:κ×Rat} (h:x∈lst l):x∈l:=by
 refine aQp (fun m=>∀ y∈m,y∈l) l (by simp) (fun m x hx ih y hy=>?_) x h
 obtain ⟨k,q⟩:=y
 rcases aQn hy with h | h
 ·exact ih _ h
 ·rw [h]; exact hx
theorem aQo {m:AL κ Rat} {x:κ×Rat}:(aDo m x).length<=m.length+1:=by
 have:∀ v,(aDp m x.1 v).length<=m.length+1:=fun v=>by unfold aDp; split <;> simp
 unfold aDo
 split
 ·exact this _
 ·split
  ·exact this _
  ·omega
end
end L2
namespace L2
theorem aQr {κ:Type} [DecidableEq κ] (l:List (κ×Rat)):(lst l).length<=l.length:=by
 have:∀ (l':List (κ×Rat)) (m:AL κ Rat),(l'.foldl aDo m).length<=m.length+l'.length:=by
  intro l'
  induction l' with
  | nil=>intro m; simp
  | cons x r ih =>
   intro m
   have h1:=ih (aDo m x)
   have h2:=aQo (m:=m) (x:=x)
   rw [List.foldl_cons,List.length_cons]
   omega
 have:=this l []
 unfold lst
 simpa using this
end L2
namespace L2
open PySem PySem.Spec PyProof.Rows
section
variable {X:Cx} {a b:Expr} {ta tb td ty tv:TE} {pos:Pos} {aDh:List Expr} {σ:St} {H H':Hp} {Q:VK} {D:aE4} {K:PySem.W.Frag} {w:World} {v x:V}
noncomputable def tOrT (K:PySem.W.Frag) (ta tb:TE):TE:=fun σ H Q=>ta σ H fun x H1=>∃ k,aR8 K x H1 k/\if k=true then Q x H1 else tb σ H1 Q
theorem aUq (ha:PE X a ta) (hb:PE X (.BoolOp .Or (b::aDh) pos) tb):PE X (.BoolOp .Or (a::b::aDh) pos) (tOrT X.K ta tb):=by
 intro pins s σ H Q I h
 refine BoolOp_or (thn (ha pins s σ H _ I h) fun v s1 ⟨x,H1,I1,r1,k,tr,q1⟩=>?_)
 refine thn (aT7 pins s1 σ H1 x v (fun k' H2=>H2=H1/\k'=k) I1 r1 ⟨k,tr,rfl,rfl⟩) fun k' s2 ⟨H2,I2,e1,e2⟩=>?_
 subst e1 e2
 cases k' with
 | true=>exact ⟨x,H2,I2,r1,by rw [if_pos rfl] at q1; exact q1⟩
 | false=>exact hb pins s2 σ H2 Q I2 (by rw [if_neg Bool.false_ne_true] at q1; exact q1)
theorem r_orT (k:ta σ H fun x H1=>∃ k,aR8 K x H1 k/\if k=true then Q x H1 else tb σ H1 Q):tOrT K ta tb σ H Q:=k
noncomputable def tTru (K:PySem.W.Frag) (ta:TE):TT:=fun σ H R=>ta σ H fun x H'=>∃ k,aR8 K x H' k/\R k H'
theorem bAh (ha:PE X a ta) (he:∀ whole,isTrue a X.env whole=(do let v ← whole; standAt a.pos; holding [v] (truthy v)):=by intro _; rfl):PT X a (tTru X.K ta):=aS2 ha he
theorem r_tru {R:Bool->Hp->Prop} (k:ta σ H fun x H'=>∃ k,aR8 K x H' k/\R k H'):tTru K ta σ H R:=k
theorem aYc {p:Addr} {kvs:List (Key×V)} {R:Bool->Hp->Prop} (h:H p=some (.dK kvs)) (k:R (!kvs.isEmpty) H):∃ k,aR8 K (.ref p) H k/\R k H:=⟨_,.inr (.inr ⟨kvs,h,rfl⟩),k⟩
theorem aYb {p:Addr} {xs:List V} {R:Bool->Hp->Prop} (h:H p=some (.lst xs)) (k:R (!xs.isEmpty) H):∃ k,aR8 K (.ref p) H k/\R k H:=⟨_,.inl ⟨xs,SqL.of h,rfl⟩,k⟩
theorem aYa {R:Bool->Hp->Prop} (k:R false H):∃ k,aR8 K .non H k/\R k H:=⟨false,rfl,k⟩
theorem aJ4 (k:∀ p,H p=none->Q (.ref p) (upd H p (.dK []))):aT9 σ H Q:=k
noncomputable def dG (x y:V) (H:Hp) (Q:VK):Prop:=∃ a v,x=.ref a/\aK3 H a y (some v)/\Q v H
theorem aZ0 (k:td σ H fun x H1=>ty σ H1 fun y H2=>dG x y H2 Q):aYm td ty σ H Q:=k
theorem aCa {p:Addr} {kvs:List (Key×V)} {s:Str} (h:Rd H p (.dK kvs)) (e:aBu kvs (Sum.inr s)=some v) (k:Q v H):dG (.ref p) (.str s) H Q:=⟨p,v,rfl,.inl ⟨kvs,Sum.inr s,h,rfl,e.symm⟩,k⟩
theorem aFw {p:Addr} {kvs:List (Key×V)} {i:Int} (h:Rd H p (.dK kvs)) (e:aBu kvs (Sum.inl i)=some v) (k:Q v H):dG (.ref p) (.int i) H Q:=⟨p,v,rfl,.inl ⟨kvs,Sum.inl i,h,rfl,e.symm⟩,k⟩
noncomputable def dI (y x:V) (H:Hp) (Q:VK):Prop:=∃ a o,x=.ref a/\aK3 H a y o/\Q (.bl o.isSome) H
noncomputable def dN (y x:V) (H:Hp) (Q:VK):Prop:=∃ a o,x=.ref a/\aK3 H a y o/\Q (.bl (!o.isSome)) H
theorem r_din (k:ty σ H fun y H1=>td σ H1 fun x H2=>dI y x H2 Q):tDIn ty td σ H Q:=k
theorem aZy (k:ty σ H fun y H1=>td σ H1 fun x H2=>dN y x H2 Q):aOy ty td σ H Q:=k
theorem r_dIs {p:Addr} {kvs:List (Key×V)} {s:Str} (h:Rd H p (.dK kvs)) (k:Q (.bl (aBu kvs (Sum.inr s)).isSome) H):dI (.str s) (.ref p) H Q:=⟨p,_,rfl,.inl ⟨kvs,Sum.inr s,h,rfl,rfl⟩,k⟩
theorem aLt {p:Addr} {kvs:List (Key×V)} {i:Int} (h:Rd H p (.dK kvs)) (k:Q (.bl (aBu kvs (Sum.inl i)).isSome) H):dI (.int i) (.ref p) H Q:=⟨p,_,rfl,.inl ⟨kvs,Sum.inl i,h,rfl,rfl⟩,k⟩
theorem aV6 {p:Addr} {kvs:List (Key×V)} {i:Int} (h:Rd H p (.dK kvs)) (k:Q (.bl (!(aBu kvs (Sum.inl i)).isSome)) H):dN (.int i) (.ref p) H Q:=⟨p,_,rfl,.inl ⟨kvs,Sum.inl i,h,rfl,rfl⟩,k⟩
theorem aN0 {p:Addr} {kvs:List (Key×V)} {c:Key} (h:Rd H p (.dK kvs)) (e:aBu kvs c=some v) (k:Q v H):dG (.ref p) (kV c) H Q:=⟨p,v,rfl,.inl ⟨kvs,c,h,rfl,e.symm⟩,k⟩
theorem r_dIk {p:Addr} {kvs:List (Key×V)} {c:Key} (h:Rd H p (.dK kvs)) (k:Q (.bl (aBu kvs c).isSome) H):dI (kV c) (.ref p) H Q:=⟨p,_,rfl,.inl ⟨kvs,c,h,rfl,rfl⟩,k⟩
theorem aZ1 {p:Addr} {kvs:List (Key×V)} {c:Key} (h:Rd H p (.dK kvs)) (k:Q (.bl (!(aBu kvs c).isSome)) H):dN (kV c) (.ref p) H Q:=⟨p,_,rfl,.inl ⟨kvs,c,h,rfl,rfl⟩,k⟩
noncomputable def dP (D:aE4) (σ:St) (v x y:V) (H:Hp):Prop:=∃ a H4,x=.ref a/\aX2 H a y v H4/\D.nx σ H4
theorem aZx (k:tv σ H fun v H1=>td σ H1 fun x H2=>ty σ H2 fun y H3=>dP D σ v x y H3):aYx td ty tv D σ H:=k
theorem aJ5 {p:Addr} {kvs:List (Key×V)} {c:Key} (h:H p=some (.dK kvs)) (hl:kvs.length<=1000) (k:D.nx σ (upd H p (.dK (aDn kvs c v)))):dP D σ v (.ref p) (kV c) H:=⟨p,_,rfl,aX2.k h (aCn hl),k⟩
noncomputable def dG1 (ty:TE) (σ:St) (Q:VK) (x:V) (H1:Hp):Prop:=∃ a,x=.ref a/\IsD H1 a/\ty σ H1 fun y H2=>∃ o,aK3 H2 a y o/\Q (o.getD .non) H2
theorem aV5 (k:td σ H (dG1 ty σ Q)):aUb td ty σ H Q:=k
noncomputable def dG2 (ty tx:TE) (σ:St) (Q:VK) (x:V) (H1:Hp):Prop:=∃ a,x=.ref a/\IsD H1 a/\ty σ H1 fun y H2=>tx σ H2 fun z H3=>∃ o,aK3 H3 a y o/\Q (o.getD z) H3
theorem aV4 {tx:TE} (k:td σ H (dG2 ty tx σ Q)):aUa td ty tx σ H Q:=k
noncomputable def dpK (ty:TE) (σ:St) (Q:VK) (x:V) (H1:Hp):Prop:=∃ a,x=.ref a/\IsD H1 a/\ty σ H1 fun y H2=>∃ kvs k v,H2 a=some (.dK kvs)/\y=kV k/\aBu kvs k=some v/\Q v (upd H2 a (.dK (aCi kvs k)))
theorem aV2 (k:td σ H (dpK ty σ Q)):aT8 td ty σ H Q:=k
theorem aZv {g:TG} {tl:TE} {tb:TS} (a:Addr) (nf:aK1 H a) (k:tl σ H fun x H1=>x=.ref a/\∃ kvs,H1 a=some (.dK kvs)/\∀ o,aSa g tb (Dm a D) σ (Itd a o kvs) (upd H1 a (.frz o (.dK kvs)))):aYj tl g tb D σ H:=⟨a,nf,k⟩
theorem aV1 {a:Addr} {o:Obj} {kvs:List (Key×V)} {g:TG} {tb:TS} {D:aE4} (Pv:Nat->St->Hp->Prop) (h0:Pv 0 σ H) (hl:∀ i σ H,i<=kvs.length->Pv i σ H->H a=some (.frz o (.dK kvs)))
  (hs:∀ i k v σ H,kvs[i]?=some (k,v)->Pv i σ H->g (kV k) σ H fun σ2 H2=>tb ⟨Pv (i+1),D.rt,D.nx,Pv (i+1)⟩ σ2 H2) (hd:∀ σ H,Pv kvs.length σ H->D.nx σ H):aSa g tb D σ (Itd a o kvs) H:=by
 refine ⟨fun i m σ H=>m=kvs.length - i/\i<=kvs.length/\Pv i σ H,⟨_,rfl,Nat.zero_le _,h0⟩,?_⟩
 rintro i m σ H ⟨rfl,hi,p⟩
 by_cases hlt:i < kvs.length
 ·refine .inr ⟨⟨hl i σ H hi p,hlt⟩,Pv (i+1),fun σ' H' q=>⟨kvs.length - (i+1),by omega,rfl,hlt,q⟩,fun x H' y=>?_⟩
  obtain ⟨rfl,k,v,e,rfl⟩:=y
  exact hs i k v σ _ e p
 ·have:i=kvs.length:=by omega
  subst this
  exact .inl ⟨⟨hl _ σ H (Nat.le_refl _) p,Nat.le_refl _⟩,hd σ H p⟩
theorem aZu {a:Addr} {xs:List V} {g:TG} {tb:TS} (Pv:Nat->St->Hp->Prop) (h0:Pv 0 σ H) (hl:∀ i σ H,i<=xs.length->Pv i σ H->SqL K H a xs)
  (hs:∀ i x T σ H,xs[i]?=some x->H T=none->Pv i σ H->g (.ref T) σ (upd H T (.tup [.int i,x])) fun σ2 H2=>tb ⟨Pv (i+1),D.rt,D.nx,Pv (i+1)⟩ σ2 H2) (hd:∀ σ H,Pv xs.length σ H->D.nx σ H):aSa g tb D σ (Ite K a) H:=by
 refine ⟨fun i m σ H=>m=xs.length - i/\i<=xs.length/\Pv i σ H,⟨_,rfl,Nat.zero_le _,h0⟩,?_⟩
 rintro i m σ H ⟨rfl,hi,p⟩
 have q:=hl i σ H hi p
 by_cases hlt:i < xs.length
 ·refine .inr ⟨⟨xs,xs[i],q,by simp [hlt]⟩,Pv (i+1),fun σ' H' q=>⟨xs.length - (i+1),by omega,rfl,hlt,q⟩,fun x H' y=>?_⟩
  obtain ⟨T,x',rfl,hT,rfl,e⟩:=y
  exact hs i x' T σ H (e xs q) hT p
 ·have:i=xs.length:=by omega
  subst this
  exact .inl ⟨⟨xs,q,Nat.le_refl _⟩,hd σ H p⟩
theorem aVy {tl:TA} {R:It->Hp->Prop} (k:tl σ H fun vs H1=>∃ a,vs=[.ref a]/\(∃ xs,SqL K H1 a xs)/\R (Ite K a) H1):bBl K tl σ H R:=k
theorem e_K {a:Addr} {xs:List V} {R:It->Hp->Prop} (h:H a=some (.lst xs)) (k:R (Ite K a) H):∃ a',[V.ref a]=[.ref a']/\(∃ xs,SqL K H a' xs)/\R (Ite K a') H:=⟨a,rfl,⟨xs,SqL.of h⟩,k⟩
theorem aLs {p:Addr} {x y:V} {t:TGs} {R:St->Hp->Prop} (h:H p=some (.tup [x,y])) (k:t [x,y] σ H R):aXe K 2 t (.ref p) σ H R:=⟨p,_,rfl,SqT.of h,rfl,k⟩
theorem aPn {p:Addr} {x y z:V} {t:TGs} {R:St->Hp->Prop} (h:H p=some (.tup [x,y,z])) (k:t [x,y,z] σ H R):aXe K 3 t (.ref p) σ H R:=⟨p,_,rfl,SqT.of h,rfl,k⟩
theorem aZq {R:St->Hp->Prop} (k:R σ H):bBn [] σ H R:=⟨rfl,k⟩
theorem aV0 {t:TG} {u:TGs} {r:List V} {R:St->Hp->Prop} (k:t v σ H fun σ' H'=>u r σ' H' R):aI5 t u (v::r) σ H R:=⟨v,r,rfl,k⟩
end
noncomputable def TK (H H':Hp):Prop:=∀ p xs,H p=some (.tup xs)->H' p=some (.tup xs)
theorem TK.trans {H H1 H2:Hp} (a:TK H H1) (b:TK H1 H2):TK H H2:=fun p xs h=>b p xs (a p xs h)
theorem aAo.tk {H H':Hp} (s:aAo H H'):TK H H':=fun p xs h=>s _ _ h
theorem TK.new {H:Hp} {q:Addr} {o:HO} (h:H q=none):TK H (upd H q o):=(aAo.new h).tk
theorem TK.lst {H:Hp} {q:Addr} {o:HO} {ys:List V} (h:H q=some (.lst ys)):TK H (upd H q o):=fun p xs e=>by rw [aAu (aHu e h (by intro z; cases z))]; exact e
theorem TK.dic {H:Hp} {q:Addr} {o:HO} {ys:List (Key×V)} (h:H q=some (.dK ys)):TK H (upd H q o):=fun p xs e=>by rw [aAu (aHu e h (by intro z; cases z))]; exact e
theorem TK.melt {H:Hp} {a:Addr}:TK H (melt a H):=fun p xs e=>aEj (fun _ _ z=>nomatch z) e
noncomputable def FrQ (H:Hp) (v:V) (q:Rat):Prop:=∃ p,v=.ref p/\H p=some (.tup [.int q.num,.int q.den])
theorem FrQ.tk {H H':Hp} {v:V} {q:Rat} (h:FrQ H v q) (t:TK H H'):FrQ H' v q:=let ⟨p,e,h⟩:=h; ⟨p,e,t _ _ h⟩
noncomputable def KvQ (H:Hp) (v:V) (x:Key×Rat):Prop:=∃ p u,v=.ref p/\H p=some (.tup [kV x.1,u])/\FrQ H u x.2
theorem KvQ.tk {H H':Hp} {v:V} {x:Key×Rat} (h:KvQ H v x) (t:TK H H'):KvQ H' v x:=let ⟨p,u,e,h,f⟩:=h; ⟨p,u,e,t _ _ h,f.tk t⟩
noncomputable def aHk (H:Hp) (v:V) (r:Key×Key×Rat):Prop:=∃ p u,v=.ref p/\H p=some (.tup [kV r.1,kV r.2.1,u])/\FrQ H u r.2.2
theorem aHk.tk {H H':Hp} {v:V} {r:Key×Key×Rat} (h:aHk H v r) (t:TK H H'):aHk H' v r:=let ⟨p,u,e,h,f⟩:=h; ⟨p,u,e,t _ _ h,f.tk t⟩
noncomputable def aHq (H:Hp) (v:V) (e:Rat×Option (Nat×Key)):Prop:=∃ p u,v=.ref p/\H p=some (.tup [u,(match e.2 with | none=>.non | some kq=>.int kq.1),(match e.2 with | none=>.non | some kq=>kV kq.2)])/\FrQ H u e.1
theorem aHq.tk {H H':Hp} {v:V} {e:Rat×Option (Nat×Key)} (h:aHq H v e) (t:TK H H'):aHq H' v e:=let ⟨p,u,a,h,f⟩:=h; ⟨p,u,a,t _ _ h,f.tk t⟩
noncomputable def NpQ (H:Hp) (v:V) (x:Nat×Key):Prop:=∃ p,v=.ref p/\H p=some (.tup [.int x.1,kV x.2])
theorem NpQ.tk {H H':Hp} {v:V} {x:Nat×Key} (h:NpQ H v x) (t:TK H H'):NpQ H' v x:=let ⟨p,e,h⟩:=h; ⟨p,e,t _ _ h⟩
section
variable {α β:Type} {F G:α -> β -> Prop}
theorem Pd.imp:∀ {l:List α} {m:List β},Paired F l m->(∀ a b,F a b->G a b)->Paired G l m
 | _,_,.nil,_=>.nil
 | _,_,.cons r t,f=>.cons (f _ _ r) (Pd.imp t f)
theorem Pd.snoc:∀ {l:List α} {m:List β} {a:α} {b:β},Paired F l m->F a b->Paired F (l++[a]) (m++[b])
 | _,_,_,_,.nil,r=>.cons r .nil
 | _,_,_,_,.cons q t,r=>.cons q (Pd.snoc t r)
theorem Pd.get:∀ {l:List α} {m:List β} {i:Nat} {b:β},Paired F l m->m[i]?=some b->∃ a,l[i]?=some a/\F a b
 | _,_,_,_,.nil,e=>by simp at e
 | _,_,0,_,.cons r _,e=>by simp at e; subst e; exact ⟨_,rfl,r⟩
 | _,_,i+1,b,.cons _ t,e=>by
  obtain ⟨y,h1,h2⟩:=Pd.get (i:=i) (b:=b) t (by simpa using e)
  exact ⟨y,by simpa using h1,h2⟩
end
noncomputable def LQ {β:Type} (R:Hp->V->β->Prop) (H:Hp) (l:Addr) (ds:List β):Prop:=∃ vs,H l=some (.lst vs)/\Paired (R H) vs ds
noncomputable def KQ {β:Type} (R:Hp->V->β->Prop) (H:Hp) (kvs:List (Key×V)) (m:List (Key×β)):Prop:=Paired (fun kv ab=>kv.1=ab.1/\R H kv.2 ab.2) kvs m
noncomputable def DQ {β:Type} (R:Hp->V->β->Prop) (H:Hp) (d:Addr) (m:List (Key×β)):Prop:=∃ kvs,H d=some (.dK kvs)/\KQ R H kvs m
section
variable {β:Type} {R:Hp -> V -> β -> Prop} {H H':Hp} {l d:Addr} {ds:List β} {m:List (Key×β)} {kvs:List (Key×V)}
theorem LQ.same (h:LQ R H l ds) (hR:∀ v b,R H v b->R H' v b) (s:aAo H H'):LQ R H' l ds:=let ⟨vs,a,b⟩:=h; ⟨vs,s _ _ a,Pd.imp b hR⟩
theorem KQ.imp {R':Hp->V->β->Prop} (h:KQ R H kvs m) (hR:∀ v b,R H v b->R' H' v b):KQ R' H' kvs m:=Pd.imp h fun _ _ q=>⟨q.1,hR _ _ q.2⟩
theorem KQ.keys:∀ {kvs:List (Key×V)} {m:List (Key×β)},KQ R H kvs m->kvs.map (·.1)=m.map (·.1)
 | _,_,.nil=>rfl
 | _,_,.cons r t=>by rw [List.map_cons,List.map_cons,r.1,KQ.keys t]
theorem KQ.len (h:KQ R H kvs m):kvs.length=m.length:=Paired.length h
theorem KQ.val:∀ {kvs:List (Key×V)} {m:List (Key×β)} {k:Key},KQ R H kvs m->(aBu kvs k=none/\aBf m k=none)∨∃ v b,aBu kvs k=some v/\aBf m k=some b/\R H v b
 | _,_,_,.nil=>.inl ⟨rfl,rfl⟩
 | _,_,k,.cons (a:=p) (b:=q) (l₁:=as) (l₂:=bs) r t=>by
  by_cases e:p.1=k
  ·refine .inr ⟨p.2,q.2,aC1 e,?_,r.2⟩
   have e':q.1=k:=r.1 ▸ e
   simp [aBf,List.find?_cons,e']
  ·have e':¬ q.1=k:=fun z=>e (r.1.trans z)
   have h1:aBu (p::as) k=aBu as k:=aCr e
   rw [h1]
   have h2:aBf (q::bs) k=aBf bs k:=by simp [aBf,List.find?_cons,e']
   rw [h2]
   exact KQ.val t
theorem KQ.repl {k:Key} {v:V} {b:β} (hv:R H v b):∀ {kvs:List (Key×V)} {m:List (Key×β)},KQ R H kvs m->KQ R H (kvs.map fun kv=>if kv.1=k then (kv.1,v) else kv) (m.map fun kv=>if kv.1=k then (kv.1,b) else kv)
 | _,_,.nil=>.nil
 | _,_,.cons (a:=p) (b:=q) r t=>by
  refine .cons ?_ (KQ.repl hv t)
  dsimp only
  by_cases e:p.1=k
  ·rw [if_pos e,if_pos (r.1 ▸ e)]
   exact ⟨r.1,hv⟩
  ·rw [if_neg e,if_neg (fun z=>e (r.1.trans z))]
   exact r
theorem KQ.any {k:Key}:∀ {kvs:List (Key×V)} {m:List (Key×β)},KQ R H kvs m->(kvs.any fun kv=>decide (kv.1=k))=m.any fun kv=>decide (kv.1=k)
 | _,_,.nil=>rfl
 | _,_,.cons r t=>by rw [List.any_cons,List.any_cons,r.1,KQ.any t]
theorem KQ.put {k:Key} {v:V} {b:β} (h:KQ R H kvs m) (hv:R H v b):KQ R H (aDn kvs k v) (aDp m k b):=by
 unfold aDn aDp
 rw [KQ.any h]
 split
 ·exact KQ.repl hv h
 ·exact Pd.snoc h ⟨rfl,hv⟩
theorem KQ.drop {k:Key}:∀ {kvs:List (Key×V)} {m:List (Key×β)},KQ R H kvs m->KQ R H (aCi kvs k) (aE3 m k)
 | _,_,.nil=>.nil
 | _,_,.cons (a:=p) (b:=q) (l₁:=as) (l₂:=bs) r t=>by
  have ih:=KQ.drop (k:=k) t
  by_cases e:p.1=k
  ·have h1:aCi (p::as) k=aCi as k:=aRh e
   rw [h1]
   have h2:aE3 (q::bs) k=aE3 bs k:=by unfold aE3; rw [List.filter_cons]; simp [show q.1=k from r.1 ▸ e]
   rw [h2]
   exact ih
  ·have h1:aCi (p::as) k=p::aCi as k:=aRi e
   rw [h1]
   have h2:aE3 (q::bs) k=q::aE3 bs k:=by unfold aE3; rw [List.filter_cons]; simp [show ¬ q.1=k from fun z=>e (r.1.trans z)]
   rw [h2]
   exact .cons r ih
end
theorem i_sN {β:Type} {A B:Prop} (k:B):if (none:Option β).isSome=true then A else B:=k
theorem i_sS {β:Type} {b:β} {A B:Prop} (k:A):if (some b).isSome=true then A else B:=k
theorem aSf {H:Hp} {a:Addr} {o:HO} (h:H a=some o):upd H a o=H:=by
 funext b
 by_cases e:b=a
 ·subst e; rw [aAb,h]
 ·rw [aAu e]
theorem r_nxD {D:aE4} {σ:St} {H:Hp} (k:D.nx σ H):D.nx σ H:=k
theorem r_rtD {D:aE4} {v:V} {H:Hp} (k:D.rt v H):D.rt v H:=k
theorem r_ctD {D:aE4} {σ:St} {H:Hp} (k:D.ct σ H):D.ct σ H:=k
theorem aZz {a:Addr} {D:aE4} {σ:St} {H:Hp} (k:D.nx σ (melt a H)):(Dm a D).nx σ H:=k
theorem aFp.u1 {k:Nat} {A:Around} (r:aFp k A):A.units+1 < cLine:=by have:=r.units; omega
section
variable {X:Cx} {σ:St} {H H':Hp} {Q:VK} {K:PySem.W.Frag} {v x y:V} {w:World}
theorem aBb {q b:Addr} {o u:HO} (n:b≠q) (h:H b=some u):upd H q o b=some u:=by rw [aAu n]; exact h
noncomputable def aXz:R2:=fun x y H Q=>y=.non/\Q (.bl (decide (x=.non))) H
noncomputable def aS0:R2:=fun x y H Q=>y=.non/\Q (.bl (!decide (x=.non))) H
theorem aD2:OpR X (compareOp .Is) aXz:=bAs
theorem aIt:OpR X (compareOp .IsNot) aS0:=aWo
theorem aZm {p:Addr} (k:Q (.bl false) H):aXz (.ref p) .non H Q:=⟨rfl,k⟩
theorem aZn (k:Q (.bl true) H):aXz .non .non H Q:=⟨rfl,k⟩
theorem aZl {s:Str} (k:Q (.bl false) H):aXz (.str s) .non H Q:=⟨rfl,k⟩
theorem aZp {i:Int} (k:Q (.bl false) H):aXz (.int i) .non H Q:=⟨rfl,k⟩
theorem aZo {c:Key} (k:Q (.bl false) H):aXz (kV c) .non H Q:=⟨rfl,by cases c <;> exact k⟩
theorem aZc {p:Addr} (k:Q (.bl true) H):aS0 (.ref p) .non H Q:=⟨rfl,k⟩
theorem aZd (k:Q (.bl false) H):aS0 .non .non H Q:=⟨rfl,k⟩
noncomputable def bmK (K:PySem.W.Frag) (T:String) (r:V->List V->Hp->VK->Prop) (t:TA) (σ:St) (Q:VK):VK:=fun x H1=>tyV K T x H1/\t σ H1 fun xs H2=>r x xs H2 Q
theorem r_bm {T:String} {r:V->List V->Hp->VK->Prop} {to:TE} {t:TA} (k:to σ H (bmK K T r t σ Q)):tBM K T r to t σ H Q:=k
theorem r_bmL {r:V->List V->Hp->VK->Prop} {t:TA} {l:Addr} {xs:List V} (h:H l=some (.lst xs)) (k:t σ H fun vs H2=>r (.ref l) vs H2 Q):bmK K "list" r t σ Q (.ref l) H:=⟨.inl ⟨rfl,xs,SqL.of h⟩,k⟩
theorem r_bmD {r:V->List V->Hp->VK->Prop} {t:TA} {l:Addr} {xs:List (Key×V)} (h:H l=some (.dK xs)) (k:t σ H fun vs H2=>r (.ref l) vs H2 Q):bmK K "dict" r t σ Q (.ref l) H:=⟨.inr (.inr (.inl ⟨rfl,.inl ⟨xs,h⟩⟩)),k⟩
theorem aEw {l:Addr} {xs:List V} (h:H l=some (.lst xs)) (hl:xs.length<=1000) (k:Q .non (upd H l (.lst (xs++[y])))):aPs (.ref l) [y] H Q:=⟨l,xs,y,rfl,rfl,h,aCn hl,k⟩
theorem aIp {a:Addr} {kvs:List (Key×V)} {c:Key} (h:H a=some (.dK kvs)) (hl:kvs.length<=1000) (k1:∀ u,aBu kvs c=some u->Q u H) (k2:aBu kvs c=none->Q v (upd H a (.dK (kvs++[(c,v)])))):aPq (.ref a) [kV c,v] H Q:=⟨a,kvs,c,v,rfl,rfl,h,hl,k1,k2⟩
theorem aV7 {tl te:TE} {o:Option TT} {g:TG} {k:Nat} {is:List Nat} (a:Addr) (nf:aK1 H a) (h:tl σ H fun x H1=>x=.ref a/\∃ kvs,H1 a=some (.dK kvs)/\∀ o',aJe te o g (List.replicate k none) (aMj σ is) (fun v H'=>Q v (melt a H')) (Itd a o' kvs) (upd H1 a (.frz o' (.dK kvs)))):aUc tl te o g k is σ H Q:=⟨a,nf,h⟩
theorem aK1.dK {a:Addr} {kvs:List (Key×V)} (h:H a=some (.dK kvs)):aK1 H a:=fun o u e=>by rw [h] at e; cases e
end
end L2
namespace L2
open PySem PySem.Spec PyProof.Rows
theorem aEd {kvs:List (Key×V)} {p q:Key} {v:V} (h:aBu kvs p=none):aBu (kvs++[(p,v)]) q=if q=p then some v else aBu kvs q:=by
 by_cases e:q=p
 ·subst e
  rw [if_pos rfl]
  induction kvs with
  | nil=>exact aC1 rfl
  | cons kv r ih =>
   by_cases z:kv.1=q
   ·rw [aC1 z] at h; cases h
   ·rw [aCr z] at h
    rw [List.cons_append,aCr z]
    exact ih h
 ·rw [if_neg e]
  clear h
  induction kvs with
  | nil=>exact aCr (fun z=>e z.symm)
  | cons kv r ih =>
   by_cases z:kv.1=q
   ·rw [List.cons_append,aC1 z,aC1 z]
   ·rw [List.cons_append,aCr z,aCr z]
    exact ih
structure BI (H H1:Hp) (d:Addr) (f:Key->List (Nat×Key)) (n:Nat):Prop where
 same:aAo H H1
 dn:H d=none
 ex:∃ kvs,H1 d=some (.dK kvs)/\kvs.length<=n/\(∀ p,aBu kvs p=none->f p=[])/\(∀ p v,aBu kvs p=some v->∃ l,v=.ref l/\H l=none/\LQ NpQ H1 l (f p))/\∀ p q l,aBu kvs p=some (.ref l)->aBu kvs q=some (.ref l)->p=q
noncomputable def bs1 (f:Key->List (Nat×Key)) (p:Key) (x:Nat×Key):Key->List (Nat×Key):=fun q=>if q=p then f q++[x] else f q
theorem BI.start {H:Hp} {d:Addr} (h:H d=none):BI H (upd H d (.dK [])) d (fun _=>[]) 0 :=
 ⟨aAo.new h,h,[],aAb,Nat.le_refl _,fun _ _=>rfl,fun p v e=>(by cases e),fun p q l e=>(by cases e)⟩
theorem NpQ.imp {H H':Hp} (t:TK H H'):∀ v b,NpQ H v b->NpQ H' v b:=fun v b h=>h.tk t
theorem BI.alloc {H H1:Hp} {d q:Addr} {o:HO} {f:Key->List (Nat×Key)} {n:Nat} (B:BI H H1 d f n) (h:H1 q=none):BI H (upd H1 q o) d f n:=by
 obtain ⟨kvs,a,b,c,e,g⟩:=B.ex
 refine ⟨B.same.trans (aAo.new h),B.dn,kvs,aAl h a,b,c,fun p v z=>?_,g⟩
 obtain ⟨l,rfl,hl,q⟩:=e p v z
 exact ⟨l,rfl,hl,q.same (NpQ.imp (TK.new h)) (aAo.new h)⟩
theorem BI.old {H H1:Hp} {d l t:Addr} {p:Key} {x:Nat×Key} {f:Key->List (Nat×Key)} {n:Nat} {kvs:List (Key×V)} {xs:List V} (B:BI H H1 d f n) (hd:H1 d=some (.dK kvs)) (hv:aBu kvs p=some (.ref l)) (hl:H1 l=some (.lst xs)) (ht:H1 t=some (.tup [.int x.1,kV x.2])) :
  BI H (upd H1 l (.lst (xs++[.ref t]))) d (bs1 f p x) n:=by
 obtain ⟨kvs',a,b,c,e,g⟩:=B.ex
 rw [hd] at a
 cases a
 have tk:TK H1 (upd H1 l (.lst (xs++[.ref t]))):=TK.lst hl
 obtain ⟨l',e1,hln,ys,hy,py⟩:=e p _ hv
 cases e1
 rw [hl] at hy
 cases hy
 refine ⟨fun b o h=>?_,B.dn,kvs,?_,b,fun q z=>?_,fun q v z=>?_,g⟩
 ·rw [aAu (aAe h hln)]
  exact B.same _ _ h
 ·rw [aAu (aHu hd hl (by intro z; cases z))]
  exact hd
 ·have hq:q≠p:=fun w=>by subst w; rw [hv] at z; cases z
  show (if q=p then _ else _)=_
  rw [if_neg hq]
  exact c q z
 ·obtain ⟨m,rfl,hm,zs,hz,pz⟩:=e q v z
  by_cases hq:q=p
  ·subst hq
   rw [hv] at z
   cases z
   refine ⟨l,rfl,hln,xs++[.ref t],aAb,?_⟩
   show Paired _ _ (if q=q then _ else _)
   rw [if_pos rfl]
   exact Pd.snoc (Pd.imp py (NpQ.imp tk)) ⟨t,rfl,tk _ _ ht⟩
  ·refine ⟨m,rfl,hm,zs,?_,?_⟩
   ·have:m≠l:=fun w=>by subst w; exact hq (g _ _ _ z hv)
    rw [aAu this]
    exact hz
   ·show Paired _ _ (if q=p then _ else _)
    rw [if_neg hq]
    exact Pd.imp pz (NpQ.imp tk)
theorem BI.key {H H1:Hp} {d l:Addr} {p:Key} {f:Key->List (Nat×Key)} {n:Nat} {kvs:List (Key×V)} (B:BI H H1 d f n) (hd:H1 d=some (.dK kvs)) (hv:aBu kvs p=none) (hl:H1 l=some (.lst [])) (hn:H l=none) (hf:∀ q,aBu kvs q≠some (.ref l)) :
  BI H (upd H1 d (.dK (kvs++[(p,.ref l)]))) d f (n+1):=by
 obtain ⟨kvs',a,b,c,e,g⟩:=B.ex
 rw [hd] at a
 cases a
 have tk:TK H1 (upd H1 d (.dK (kvs++[(p,.ref l)]))):=TK.dic hd
 refine ⟨fun b o h=>?_,B.dn,kvs++[(p,.ref l)],aAb,by simp; exact b,fun q z=>?_,fun q v z=>?_,fun q r m z1 z2=>?_⟩
 ·rw [aAu (aAe h B.dn)]
  exact B.same _ _ h
 ·rw [aEd hv] at z
  by_cases hq:q=p
  ·rw [if_pos hq] at z; cases z
  ·rw [if_neg hq] at z; exact c q z
 ·rw [aEd hv] at z
  by_cases hq:q=p
  ·rw [if_pos hq] at z
   cases z
   subst hq
   refine ⟨l,rfl,hn,[],?_,?_⟩
   ·rw [aAu (aHu hl hd (by intro z; cases z))]; exact hl
   ·rw [c q hv]; exact .nil
  ·rw [if_neg hq] at z
   obtain ⟨m,rfl,hm,zs,hz,pz⟩:=e q v z
   refine ⟨m,rfl,hm,zs,?_,Pd.imp pz (NpQ.imp tk)⟩
   rw [aAu (aHu hz hd (by intro z; cases z))]; exact hz
 ·rw [aEd hv] at z1 z2
  by_cases h1:q=p <;> by_cases h2:r=p
  ·rw [h1,h2]
  ·rw [if_pos h1] at z1; rw [if_neg h2] at z2
   cases z1
   exact absurd z2 (hf r)
  ·rw [if_neg h1] at z1; rw [if_pos h2] at z2
   cases z2
   exact absurd z1 (hf q)
  ·rw [if_neg h1] at z1; rw [if_neg h2] at z2
   exact g q r m z1 z2
theorem BI.mono {H H1:Hp} {d:Addr} {f:Key->List (Nat×Key)} {m n:Nat} (B:BI H H1 d f m) (h:m<=n):BI H H1 d f n:=by
 obtain ⟨kvs,a,b,c⟩:=B.ex
 exact ⟨B.same,B.dn,kvs,a,Nat.le_trans b h,c⟩
theorem BI.non {H H1:Hp} {d l:Addr} {f:Key->List (Nat×Key)} {n:Nat} (B:BI H H1 d f n) (h:H1 l=none):H l=none:=by
 cases e:H l with
 | none=>rfl
 | some o=>rw [B.same _ _ e] at h; cases h
theorem BI.more {H H1:Hp} {d l q t:Addr} {p:Key} {x:Nat×Key} {f:Key->List (Nat×Key)} {n:Nat} {kvs:List (Key×V)} {xs:List V} (B:BI H H1 d f n) (hd:H1 d=some (.dK kvs)) (hv:aBu kvs p=some (.ref l)) (hl:H1 l=some (.lst xs)) (hq:H1 q=none) (ht:upd H1 q (.lst []) t=none) :
  BI H (upd (upd (upd H1 q (.lst [])) t (.tup [.int x.1,kV x.2])) l (.lst (xs++[.ref t]))) d (bs1 f p x) (n+1) :=
 (((B.alloc hq).alloc ht).old (aAl ht (aAl hq hd)) hv (aAl ht (aAl hq hl)) aAb).mono (Nat.le_succ _)
theorem BI.new {H H1:Hp} {d l t:Addr} {p:Key} {x:Nat×Key} {f:Key->List (Nat×Key)} {n:Nat} {kvs:List (Key×V)} (B:BI H H1 d f n) (hd:H1 d=some (.dK kvs)) (hv:aBu kvs p=none) (hl:H1 l=none) (ht:upd (upd H1 l (.lst [])) d (.dK (kvs++[(p,.ref l)])) t=none) :
  BI H (upd (upd (upd (upd H1 l (.lst [])) d (.dK (kvs++[(p,.ref l)]))) t (.tup [.int x.1,kV x.2])) l (.lst ([]++[.ref t]))) d (bs1 f p x) (n+1):=by
 have hdl:l≠d:=fun z=>by subst z; rw [hl] at hd; cases hd
 have B1:=(B.alloc (o:=.lst []) hl).key (l:=l) (aAl hl hd) hv aAb (B.non hl) (fun q z=>by
  obtain ⟨kvs',a,_,_,e,_⟩:=B.ex
  rw [hd] at a
  cases a
  obtain ⟨m,e1,_,zs,hz,_⟩:=e q _ z
  cases e1
  rw [hl] at hz
  cases hz)
 exact (B1.alloc ht).old (aAl ht aAb) (by rw [aEd hv,if_pos rfl]) (aAl ht (by rw [aAu hdl]; exact aAb)) aAb
noncomputable def aT4 (net:List (aEa Key)) (i:Nat) (f:Key->List (Nat×Key)):Prop:=∀ q k x,(k,x)∈f q ↔ k < i/\∃ r,net[k]?=some r/\Jn r q x
theorem aT4.zero {net:List (aEa Key)}:aT4 net 0 (fun _=>[]):=fun q k x=>⟨fun h=>by simp at h,fun h=>absurd h.1 (Nat.not_lt_zero _)⟩
theorem aT4.next {net:List (aEa Key)} {i:Nat} {f:Key->List (Nat×Key)} {r:aEa Key} (h:aT4 net i f) (hr:net[i]?=some r):aT4 net (i+1) (bs1 (bs1 f r.1 (i,r.2.1)) r.2.1 (i,r.1)):=by
 intro q k x
 have key:(k,x)∈bs1 (bs1 f r.1 (i,r.2.1)) r.2.1 (i,r.1) q ↔ (k,x)∈f q∨(q=r.1/\k=i/\x=r.2.1)∨(q=r.2.1/\k=i/\x=r.1):=by
  unfold bs1
  split <;> split <;> simp_all
 rw [key,h q k x]
 constructor
 ·rintro (⟨h1,h2⟩ | ⟨rfl,rfl,rfl⟩ | ⟨rfl,rfl,rfl⟩)
  ·exact ⟨by omega,h2⟩
  ·exact ⟨by omega,r,hr,.inl ⟨rfl,rfl⟩⟩
  ·exact ⟨by omega,r,hr,.inr ⟨rfl,rfl⟩⟩
 ·rintro ⟨h1,r',h2,h3⟩
  by_cases hk:k=i
  ·subst hk
   rw [hr] at h2
   cases h2
   rcases h3 with ⟨rfl,rfl⟩ | ⟨rfl,rfl⟩
   ·exact .inr (.inl ⟨rfl,rfl,rfl⟩)
   ·exact .inr (.inr ⟨rfl,rfl,rfl⟩)
  ·exact .inl ⟨by omega,r',h2,h3⟩
theorem aC7 {f:Key->List (Nat×Key)} {p:Key} {x:Nat×Key} {n:Nat} (h:∀ q,(f q).length<=n) (q:Key):(bs1 f p x q).length<=n+1:=by
 unfold bs1
 have:=h q
 split
 ·rw [List.length_append]; simp; exact this
 ·omega
noncomputable def Bes (H:Hp) (d:Addr) (net:List (aEa Key)):Prop:=∃ kvs f,H d=some (.dK kvs)/\aT4 net net.length f/\(∀ q,(f q).length<=2 * net.length)/\(∀ p,aBu kvs p=none->f p=[])/\∀ p v,aBu kvs p=some v->∃ l,v=.ref l/\LQ NpQ H l (f p)
theorem BI.bes {H H1:Hp} {d:Addr} {net:List (aEa Key)} {f:Key->List (Nat×Key)} {n:Nat} (B:BI H H1 d f n) (h:aT4 net net.length f) (hl:∀ q,(f q).length<=2 * net.length):Bes H1 d net:=by
 obtain ⟨kvs,a,b,c,e,g⟩:=B.ex
 exact ⟨kvs,f,a,h,hl,c,fun p v z=>let ⟨l,a,b,c⟩:=e p v z; ⟨l,a,c⟩⟩
theorem aH4 {α:Type} [DecidableEq α]:∀ {l m:List α},l.Nodup->(∀ x∈l,x∈m)->l.length<=m.length
 | [],_,_,_=>Nat.zero_le _
 | a::l,m,nd,h=>by
  rw [List.nodup_cons] at nd
  have ha:=h a (by simp)
  have:=aH4 (l:=l) (m:=m.erase a) nd.2 fun x hx=>by
   have hne:x≠a:=fun z=>nd.1 (by rw [← z]; exact hx)
   exact (List.mem_erase_of_ne hne).mpr (h x (by simp [hx]))
  have h2:=List.length_erase_of_mem ha
  have h3:0 < m.length:=List.length_pos_of_mem ha
  rw [List.length_cons]
  omega
theorem aPt {kvs:List (Key×V)} {k:Key} {v:V} (h:k∉kvs.map (·.1)):aDn kvs k v=kvs++[(k,v)]:=by
 unfold aDn
 rw [if_neg]
 intro z
 obtain ⟨x,hx,e⟩:=List.any_eq_true.mp z
 exact h (List.mem_map.mpr ⟨x,hx,of_decide_eq_true e⟩)
theorem aR4 {β:Type} {m:AL Key β} {k:Key} {v:β} (h:k∉m.map (·.1)):aDp m k v=m++[(k,v)]:=by
 unfold aDp
 rw [if_neg]
 intro z
 obtain ⟨x,hx,e⟩:=List.any_eq_true.mp z
 exact h (List.mem_map.mpr ⟨x,hx,of_decide_eq_true e⟩)
theorem aFf:∀ {more kvs:List (Key×V)},((kvs++more).map (·.1)).Nodup->aDb kvs more=kvs++more
 | [],kvs,_=>by simp [aDb]
 | kv::r,kvs,nd=>by
  have h1:kv.1∉kvs.map (·.1):=by
   rw [List.map_append,List.nodup_append] at nd
   intro z
   exact nd.2.2 _ z kv.1 (by simp) rfl
  show aDb (aDn kvs kv.1 kv.2) r=_
  rw [aPt h1,aFf (by simpa using nd)]
  simp
section
variable {te:TE} {Q:VK} {H:Hp} {caps:St}
theorem aSz {a:Addr} {o:Obj} {kvs:List (Key×V)} (hn:kvs.length<=1000) (Pv:Addr->Nat->List V->Hp->Prop) (h0:∀ acc,H acc=none->Pv acc 0 [] (upd H acc (.lst []))) (hl':∀ acc i ys H1,H acc=none->i<=kvs.length->Pv acc i ys H1->H1 a=some (.frz o (.dK kvs)))
  (hs:∀ acc i ys H1 k v,H acc=none->kvs[i]?=some (k,v)->ys.length=i->H1 acc=some (.lst ys)->Pv acc i ys H1->te (some (kV k)::caps) H1 (aOf kvs.length acc (Pv acc) ys i))
  (hd:∀ acc ys H1,H acc=none->H1 acc=some (.lst ys)->ys.length=kvs.length->Pv acc kvs.length ys H1->Q (.ref acc) H1):aJe te none (aF0 0) (List.replicate 1 none) caps Q (Itd a o kvs) H:=by
 intro acc hacc
 refine ⟨cW kvs.length acc (Pv acc),⟨kvs.length,by simp,Nat.zero_le _,rfl,aAb,h0 acc hacc⟩,?_⟩
 rintro i m ys H1 ⟨rfl,hi,hl,ha,p⟩
 have q:=hl' acc i ys H1 hacc hi p
 refine ⟨ha,?_⟩
 by_cases hlt:i < kvs.length
 ·refine .inr ⟨aCn (by omega),⟨q,hlt⟩,fun us x H' hu y=>?_⟩
  obtain ⟨rfl,k,v,e,rfl⟩:=y
  obtain ⟨o,rfl⟩:=len1 hu
  exact ⟨⟨[some (kV k)],rfl,rfl⟩,hs acc i ys _ k v hacc e hl ha p⟩
 ·have e:i=kvs.length:=by omega
  subst e
  exact .inl ⟨⟨q,Nat.le_refl _⟩,hd acc ys H1 hacc ha hl p⟩
end
noncomputable def Kp2 (a b:Addr) (H H':Hp):Prop:=∀ c o,c≠a->c≠b->H c=some o->H' c=some o
theorem Kp2.refl {a b:Addr} (H:Hp):Kp2 a b H H:=fun _ _ _ _ h=>h
theorem Kp2.trans {a b:Addr} {H H1 H2:Hp} (x:Kp2 a b H H1) (y:Kp2 a b H1 H2):Kp2 a b H H2:=fun c o h1 h2 h=>y c o h1 h2 (x c o h1 h2 h)
theorem aAo.kp2 {a b:Addr} {H H':Hp} (s:aAo H H'):Kp2 a b H H':=fun c o _ _ h=>s _ _ h
theorem Kp2.l {a b:Addr} {H:Hp} {o:HO}:Kp2 a b H (upd H a o):=fun c u h1 _ h=>by rw [aAu h1]; exact h
theorem Kp2.r {a b:Addr} {H:Hp} {o:HO}:Kp2 a b H (upd H b o):=fun c u _ h2 h=>by rw [aAu h2]; exact h
theorem Kp2.tk {a b:Addr} {H H':Hp} {x y:List (Key×V)} (k:Kp2 a b H H') (ha:H a=some (.dK x)) (hb:H b=some (.dK y)):TK H H':=fun p xs h=>k p _ (aHu h ha (by intro z; cases z)) (aHu h hb (by intro z; cases z)) h
theorem Kp2.lst {a b p:Addr} {H H':Hp} {x y:List (Key×V)} {xs:List V} (k:Kp2 a b H H') (ha:H a=some (.dK x)) (hb:H b=some (.dK y)) (h:H p=some (.lst xs)):H' p=some (.lst xs):=k p _ (aHu h ha (by intro z; cases z)) (aHu h hb (by intro z; cases z)) h
theorem Kp2.same {a b:Addr} {H0 H H':Hp} (k:Kp2 a b H H') (s:aAo H0 H) (ha:H0 a=none) (hb:H0 b=none):aAo H0 H':=fun c o h=>k c o (aAe h ha) (aAe h hb) (s _ _ h)
structure aMo (H:Hp) (l:Addr) (net:List (aEa Key)) (D M:Nat):Prop where
 lq:LQ aHk H l net
 len:net.length<=120
 bd:∀ r∈net,Bd D M r.2.2
 pos:∀ r∈net,0 < r.2.2
structure aX1 (H:Hp) (l:Addr) (ps:List (Key×Rat)) (D M:Nat):Prop where
 lq:LQ KvQ H l ps
 len:ps.length<=100
 bd:∀ r∈ps,Bd D M r.2
structure aXv (H:Hp) (v:V) (ts:List (Key×Rat)):Prop where
 lq:(v=.non/\ts=[])∨∃ l,v=.ref l/\LQ KvQ H l ts
 len:ts.length<=100
 sz:∀ r∈ts,Sz 8000 r.2
structure aOj (D M:Nat):Prop where
 ne:D≠0
 d:D < 2 ^ 8000
 m:M * 1000 * D < 2 ^ 8000
theorem aOj.sz {D M N:Nat} {q:Rat} (R:aOj D M) (h:Bd D N q) (hn:N<=M * 1000):Sz 8000 q:=h.sz R.ne R.d (Nat.lt_of_le_of_lt (Nat.mul_le_mul_right _ hn) R.m)
theorem LQ.sm {β:Type} {R:Hp->V->β->Prop} {H H':Hp} {l:Addr} {ds:List β} (h:LQ R H l ds) (hR:∀ {H H' v b},R H v b->TK H H'->R H' v b) (s:aAo H H'):LQ R H' l ds:=h.same (fun v b q=>hR q s.tk) s
theorem DQ.sm {β:Type} {R:Hp->V->β->Prop} {H H':Hp} {l:Addr} {ds:List (Key×β)} (h:DQ R H l ds) (hR:∀ {H H' v b},R H v b->TK H H'->R H' v b) (s:aAo H H'):DQ R H' l ds:=let ⟨k,a,b⟩:=h; ⟨k,s _ _ a,b.imp fun v b q=>hR q s.tk⟩
theorem aMo.sm {H H':Hp} {l:Addr} {net:List (aEa Key)} {D M:Nat} (h:aMo H l net D M) (s:aAo H H'):aMo H' l net D M:=⟨h.lq.sm aHk.tk s,h.len,h.bd,h.pos⟩
theorem aX1.sm {H H':Hp} {l:Addr} {ps:List (Key×Rat)} {D M:Nat} (h:aX1 H l ps D M) (s:aAo H H'):aX1 H' l ps D M:=⟨h.lq.sm KvQ.tk s,h.len,h.bd⟩
theorem aXv.sm {H H':Hp} {v:V} {ts:List (Key×Rat)} (h:aXv H v ts) (s:aAo H H'):aXv H' v ts:=⟨h.lq.imp id fun ⟨l,e,q⟩=>⟨l,e,q.sm KvQ.tk s⟩,h.len,h.sz⟩
theorem Bes.k2 {H H':Hp} {d a b:Addr} {net:List (aEa Key)} {x y:List (Key×V)} (h:Bes H d net) (k:Kp2 a b H H') (ha:H a=some (.dK x)) (hb:H b=some (.dK y)) (h1:d≠a) (h2:d≠b):Bes H' d net:=by
 obtain ⟨kvs,f,z1,z2,z3,z4,z5⟩:=h
 refine ⟨kvs,f,k _ _ h1 h2 z1,z2,z3,z4,fun p v e=>?_⟩
 obtain ⟨l,rfl,vs,q1,q2⟩:=z5 p v e
 exact ⟨l,rfl,vs,k.lst ha hb q1,Pd.imp q2 (NpQ.imp (k.tk ha hb))⟩
theorem Bes.sm {H H':Hp} {d:Addr} {net:List (aEa Key)} (h:Bes H d net) (s:aAo H H'):Bes H' d net:=by
 obtain ⟨kvs,f,z1,z2,z3,z4,z5⟩:=h
 exact ⟨kvs,f,s _ _ z1,z2,z3,z4,fun p v e=>let ⟨l,a,q⟩:=z5 p v e; ⟨l,a,q.sm NpQ.tk s⟩⟩
section
variable {σ:St} {H:Hp} {Q:VK} {K:PySem.W.Frag}
theorem aY9 {vt:V} {ts:List (Key×Rat)} (h:aXv H vt ts) (k:∀ lt H1,aAo H H1->LQ KvQ H1 lt ts->Q (.ref lt) H1):∃ b,aR8 K vt H b/\if b=true then Q vt H else aXx aSh σ H Q:=by
 have hn:ts=[]->aXx aSh σ H Q:=fun e=>by
  subst e
  exact aZh (aZe (aB7 fun p hp=>k p _ (aAo.new hp) ⟨[],aAb,.nil⟩))
 rcases h.lq with ⟨rfl,e⟩ | ⟨l,rfl,q⟩
 ·exact aYa (R:=fun b H=>if b=true then Q .non H else aXx aSh σ H Q) (hn e)
 ·obtain ⟨vs,q1,q2⟩:=q
  refine aYb (R:=fun b H=>if b=true then Q (.ref l) H else aXx aSh σ H Q) q1 ?_
  cases q2 with
  | nil=>exact hn rfl
  | cons a b=>exact k l H (aAo.refl _) ⟨_,q1,.cons a b⟩
theorem aZ7 {d z:Addr} {c:Key} {net:List (aEa Key)} (B:Bes H d net) (hz:H z=some (.lst [])) (k:∀ l L,LQ NpQ H l L->L.length<=2 * net.length->(∀ j x,(j,x)∈L ↔ ∃ r,net[j]?=some r/\Jn r c x)->Q (.ref l) H):∃ o,aK3 H d (kV c) o/\Q (o.getD (.ref z)) H:=by
 obtain ⟨kvs,f,z1,z2,z3,z4,z5⟩:=B
 refine ⟨aBu kvs c,.inl ⟨kvs,c,.inl z1,rfl,rfl⟩,?_⟩
 have mem:∀ j x,(j,x)∈f c ↔ ∃ r,net[j]?=some r/\Jn r c x:=fun j x=>by
  rw [z2 c j x]
  exact ⟨fun h=>h.2,fun h=>⟨let ⟨r,e,_⟩:=h; (List.getElem?_eq_some_iff.mp e).1,h⟩⟩
 cases e:aBu kvs c with
 | none=>exact k z (f c) (by rw [z4 c e]; exact ⟨[],hz,.nil⟩) (z3 c) mem
 | some v =>
  obtain ⟨l,rfl,q⟩:=z5 c v e
  exact k l (f c) q (z3 c) mem
end
theorem aOi {β:Type} {m:AL Key β} {k:Key} (h:aBf m k=none):k∉m.map (·.1):=fun z=>by
 obtain ⟨y,hy,rfl⟩:=List.mem_map.mp z
 exact aFl h y.2 hy
theorem aVb {K:PySem.W.Frag} {H:Hp} {p:Addr} {kvs:List (Key×V)} {A B:Prop} (h:H p=some (.dK kvs)) (k1:kvs≠[]->A) (k2:kvs=[]->B):∃ k,aR8 K (.ref p) H k/\if k=true then A else B:=by
 refine aYc (R:=fun k _=>if k=true then A else B) h ?_
 cases kvs with
 | nil=>exact k2 rfl
 | cons a b=>exact k1 (by simp)
theorem aIe.imp {net:List (aEa Key)} {push:Key->Option Rat} {tk:Nat->Option Rat} {C C':Key->Nat->Key->Prop} {W F:AL Key (aEq Key)} (I:aIe net push tk C W F) (h:∀ q k x r,net[k]?=some r->Jn r q x->C' q k x->C q k x):aIe net push tk C' W F :=
 ⟨I.ndW,I.ndF,I.dis,I.sup,I.ord,I.mono,I.psh,fun q e hq k r p h1 h2 h3 h4=>I.clo q e hq k r p h1 h2 (h q k p r h1 h2 h3) h4⟩
noncomputable def univ (net:List (aEa Key)) (ps:List (Key×Rat)):List Key:=ps.map (·.1)++(net.map (·.1)++net.map (·.2.1))
theorem Sup.univ {net:List (aEa Key)} {ps:List (Key×Rat)} {tk:Nat->Option Rat} {F:AL Key (aEq Key)} {p:Key} {e:aEq Key} (h:Sup net (aBf (lst ps)) tk F p e):p∈univ net ps:=by
 obtain ⟨t,o⟩:=e
 cases o with
 | none =>
  have:=aG6 (aBm (show aBf (lst ps) p=some t from h))
  exact List.mem_append_left _ (List.mem_map.mpr ⟨_,this,rfl⟩)
 | some kq =>
  obtain ⟨r,e,h1,h2,_⟩:=h
  have hr:=List.mem_of_getElem? h1
  refine List.mem_append_right _ ?_
  rcases h2 with ⟨_,rfl⟩ | ⟨_,rfl⟩
  ·exact List.mem_append_right _ (List.mem_map.mpr ⟨r,hr,rfl⟩)
  ·exact List.mem_append_left _ (List.mem_map.mpr ⟨r,hr,rfl⟩)
theorem aIe.lens {net:List (aEa Key)} {ps:List (Key×Rat)} {tk:Nat->Option Rat} {C:Key->Nat->Key->Prop} {W F:AL Key (aEq Key)} (I:aIe net (aBf (lst ps)) tk C W F):W.length<=ps.length+2 * net.length/\F.length<=ps.length+2 * net.length:=by
 have hu:(univ net ps).length=ps.length+2 * net.length:=by simp [univ]; omega
 rw [← hu]
 constructor
 ·have:=aH4 (m:=univ net ps) I.ndW fun x hx=>by
   obtain ⟨y,hy,rfl⟩:=List.mem_map.mp hx
   exact (I.sup y.1 y.2 hy).univ
  rwa [List.length_map] at this
 ·have:=aH4 (m:=univ net ps) I.ndF fun x hx=>by
   obtain ⟨y,hy,rfl⟩:=List.mem_map.mp hx
   obtain ⟨i,hi⟩:=List.getElem?_of_mem hy
   exact (I.ord i y.1 y.2 hi).univ
  rwa [List.length_map] at this
theorem aIs {β:Type} {R:Hp->V->β->Prop} {H:Hp}:∀ {ys:List V} {m:List (Key×β)},Paired (fun v (x:Key×β)=>∃ a u,v=.ref a/\H a=some (.tup [kV x.1,u])/\R H u x.2) ys m->∃ kvs,aMn H ys kvs/\KQ R H kvs m
 | _,_,.nil=>⟨[],.nil,.nil⟩
 | _,_,.cons (b:=b) r t=>by
  obtain ⟨a,u,rfl,h1,h2⟩:=r
  obtain ⟨kvs,p,q⟩:=aIs t
  exact ⟨(b.1,u)::kvs,.cons ⟨a,rfl,h1⟩ p,.cons ⟨rfl,h2⟩ q⟩
theorem aH7 {X:Cx} {scope:Scope} {caps:List (Str×Addr)} {N:List Str} {C:Addr} {s0:Shared} {H0:Hp} {ex:List Addr}:IxR (aBp X scope caps N C s0 H0 ex) (aN1 X.K):=aA0
noncomputable abbrev aJi:=Str×Str×Rat
noncomputable def kn (n:List aJi):List (aEa Key):=n.map fun r=>(Sum.inr r.1,Sum.inr r.2.1,r.2.2)
noncomputable def names (n:List aJi):List Str:=n.map (·.1)++n.map (·.2.1)
theorem bA6 {n:List aJi} {i:Nat} {r:aEa Key} (h:(kn n)[i]?=some r):∃ s,n[i]?=some s/\r=(Sum.inr s.1,Sum.inr s.2.1,s.2.2):=by
 unfold kn at h
 rw [List.getElem?_map] at h
 cases e:n[i]? with
 | none=>rw [e] at h; cases h
 | some s=>rw [e] at h; exact ⟨s,rfl,(Option.some.inj h).symm⟩
noncomputable def aK0 (H:Hp) (v:V) (o:Option Rat):Prop:=match o with | none=>v=.non | some q=>FrQ H v q
theorem aK0.tk {H H':Hp} {v:V} {o:Option Rat} (h:aK0 H v o) (t:TK H H'):aK0 H' v o:=by
 cases o with
 | none=>exact h
 | some q=>exact FrQ.tk h t
theorem aG9 {t b:Int} (hb:b≠0):(Rat.divInt t b).num=aB1 t b/\((Rat.divInt t b).den:Int)=aB2 t b:=aUn hb (aGm hb) (aW5 hb) (aG8 hb)
theorem FrQ.low {H:Hp} {t b:Int} {p:Addr} (hb:b≠0) (h:H p=some (.tup [.int (aB1 t b),.int (aB2 t b)])):FrQ H (.ref p) (Rat.divInt t b):=⟨p,rfl,by rw [h,(aG9 hb).1,(aG9 hb).2]⟩
theorem aW4 {t b:Int} (ht:0 < t) (hb:0 < b):0 < Rat.divInt t b:=by
 rw [Rat.lt_iff,(aG9 (t:=t) (b:=b) (by omega)).1]
 show (0:Int) * _ < aB1 t b * 1
 rw [Int.zero_mul,Int.mul_one]
 have e:=aG8 (t:=t) (b:=b) (by omega)
 have hp:=aGm (t:=t) (b:=b) (by omega)
 have:0 < aB1 t b * b:=by rw [e]; exact Int.mul_pos ht hp
 exact Int.pos_of_mul_pos_left this hb
noncomputable abbrev abc:Str:=Str.ofString "abcdefghijklmnopqrstuvwxyz"
theorem aR7:abc.length=26:=by decide +kernel
theorem aNo:∀ j:Nat,j < 26->atI abc.cps.toList (j:Int)=some (97+j):=by decide +kernel
section
variable {σ:St} {H:Hp} {Q:VK} {K:PySem.W.Frag}
theorem aSx {z:Str} {i:Int} {c:Nat} (hz:z.length<=100000) (e:atI z.cps.toList i=some c) (k:Q (.str ⟨#[c]⟩) H):aN1 K (.str z) (.int i) H Q:=.inr (.inr ⟨z,i,c,rfl,rfl,by rw [sizeLine_eq]; omega,e,k⟩)
theorem aGw {a b:Str} (h:a.length+b.length<=100000) (k:Q (.str (a++b)) H):aS1 K (.str a) (.str b) H Q:=.inr (.inr (.inr ⟨a,b,rfl,rfl,by rw [sizeLine_eq]; omega,k⟩))
end
theorem aI0 (a b:Str):(a++b).length=a.length+b.length:=by
 show (a.cps++b.cps).size=_
 simp [Str.length]
theorem Kp.sm {p:Addr} {H H1 H2:Hp} (k:Kp p H1 H2) (s:aAo H H1) (hp:H p=none):aAo H H2:=fun b o h=>k _ _ (aAe h hp) (s _ _ h)
theorem aQi {H:Hp} {l:Addr} {n:List aJi} {D M:Nat} (lq:LQ aHk H l (kn n)) (hl:n.length<=120) (hb:∀ r∈n,Bd D M r.2.2) (hp:∀ r∈n,0 < r.2.2):aMo H l (kn n) D M:=by
 refine ⟨lq,by simpa [kn] using hl,fun r hr=>?_,fun r hr=>?_⟩
 ·obtain ⟨s,hs,rfl⟩:=List.mem_map.mp hr
  exact hb s hs
 ·obtain ⟨s,hs,rfl⟩:=List.mem_map.mp hr
  exact hp s hs
noncomputable def dFr (q:Rat):Dt:=.tup [.int q.num,.int q.den]
noncomputable def aX0 (r:aJi):Dt:=.tup [.str r.1,.str r.2.1,dFr r.2.2]
noncomputable def dKey:Key->Dt
 | .inl i=>.int i
 | .inr s=>.str s
noncomputable def dKv (x:Key×Rat):Dt:=.tup [dKey x.1,dFr x.2]
theorem aUw {H:Hp} {v:V} {q:Rat} (h:FrQ H v q):Den H (dFr q) v:=let ⟨p,e,h⟩:=h; e ▸ den2 h
theorem aXl {H:Hp} (k:Key):Den H (dKey k) (kV k):=by cases k <;> rfl
theorem aJb {H:Hp}:∀ {n:List aJi} {vs:List V},Paired (aHk H) vs (kn n)->aF7 H (n.map aX0) vs
 | [],_,.nil=>rfl
 | r::n,_,.cons h t=>by
  obtain ⟨p,u,rfl,h1,h2⟩:=h
  exact ⟨_,_,rfl,⟨p,_,rfl,h1,_,_,rfl,rfl,_,_,rfl,rfl,_,_,rfl,aUw h2,rfl⟩,aJb t⟩
theorem aF1 {H:Hp}:∀ {ps:List (Key×Rat)} {vs:List V},Paired (KvQ H) vs ps->aF7 H (ps.map dKv) vs
 | [],_,.nil=>rfl
 | x::ps,_,.cons h t=>by
  obtain ⟨p,u,rfl,h1,h2⟩:=h
  exact ⟨_,_,rfl,⟨p,_,rfl,h1,_,_,rfl,aXl _,_,_,rfl,aUw h2,rfl⟩,aF1 t⟩
theorem aNh:∀ n:List aJi,aHo (n.map aX0)<=10
 | []=>by decide
 | r::n=>by
  have h1:=aNh n
  have h2:dep (aX0 r)<=10:=Nat.le_of_ble_eq_true rfl
  show max _ _<=_
  omega
theorem aJa:∀ n:List (Key×Rat),aHo (n.map dKv)<=10
 | []=>by decide
 | r::n=>by
  have h1:=aJa n
  have h2:dep (dKv r)<=10:=by
   obtain ⟨k,q⟩:=r
   cases k <;> exact Nat.le_of_ble_eq_true rfl
  show max _ _<=_
  omega
noncomputable abbrev sA:Str:=Str.ofString "a"
noncomputable abbrev sB:Str:=Str.ofString "b"
noncomputable def n0:List aJi:=[(sA,sB,Rat.divInt 1 2)]
theorem aVu {H:Hp} {Q:VK} (k:Q (.int 1000000000000) H):rI bCb (fun i j=>.int (i ^ j.toNat)) (.int 10) (.int 12) H Q:=r_I ⟨by decide,by decide,by decide⟩ k
end L2
namespace L2
open PySem PySem.Spec PyProof.Rows
section
variable {σ:St} {H:Hp} {Q:VK} {K:PySem.W.Frag}
end
noncomputable abbrev sC:Str:=Str.ofString "c"
noncomputable def n2:List aJi:=[(sA,sB,Rat.divInt 1 2),(sB,sC,Rat.divInt 1 3)]
end L2
namespace L2
open PySem PySem.Spec PyProof.Rows
section
variable {H:Hp} {Q:VK} {K:PySem.W.Frag} {σ:St} {D:aE4} {v:V}
end
theorem aTm {i:Int} {ys:List Int}:inV (.int i) (ys.map V.int)=decide (i∈ys):=by
 unfold inV
 induction ys with
 | nil=>rfl
 | cons y r ih =>
  rw [List.map_cons,List.any_cons,ih]
  show ((y==i) || _)=_
  by_cases h:i=y
  ·subst h
   simp
  ·by_cases h2:i∈r
   ·simp [h2]
   ·simp [h2,h,Ne.symm h]
theorem aKj:∀ ys:List Int,(ys.map V.int).all aI6=true
 | []=>rfl
 | y::r=>by
  rw [List.map_cons,List.all_cons,aKj r]
  rfl
theorem r_inI {K:PySem.W.Frag} {H:Hp} {Q:VK} {p:Addr} {ys:List Int} {i:Int} (h:H p=some (.lst (ys.map V.int))) (k:Q (.bl (decide (i∈ys))) H):rIn K false (.int i) (.ref p) H Q:=⟨p,_,rfl,.inl (SqL.of h),rfl,aKj _,by rw [aTm]; exact k⟩
end L2
namespace L2
open PySem PySem.Spec PyProof.Rows
noncomputable def gK {α:Type} (n:Nat) (us ws:List α):List α:=if us.length=n/\ws.length=1 then us++ws else []
theorem bBo {n:Nat} {vs zs:List V} {us ws:List Value} (h1:aBn vs us) (h2:aBn zs ws):aBn (gK n vs zs) (gK n us ws):=by
 unfold gK
 rw [h1.length,h2.length]
 split
 ·exact h1.append h2
 ·exact .nil
structure DfK (K:PySem.W.Frag) (mg:Str->Option Value) (x:Str) (st:Stmt) (ps:List Str) (dvs:List V) (n:Nat) (ks:List Str):Prop where
 ex:∃ (f:Addr) (fd:FuncData),(∃ (oc:Value) (od:Option Addr) (dV kV doc pm:Value) (an:Option Addr) (cdv ct:Value) (osl:Array (Option Value)),
  fd=PySem.W.fnOf x x (aBc st) (aA6 st) (aAg st) dV kV doc pm an cdv ct/\K.lookup f=some ⟨oc,od,.func fd,osl⟩/\PySem.W.codeIn K cdv x=true)/\PySem.W.keepIn K (.ref f)=true/\mg x=some (.ref f)/\aFo K fd ps []/\(∃ ds,aBn dvs ds/\aFo K fd ps ds)/\aNr K fd ps ks (gK n) (gK n)
structure aOk (P:Program) (w:World) (K:PySem.W.Frag) (mg:Str->Option Value) (base:Heap) (k:Nat) (x:Str) (ps:List Str) (dvs:List V) (n:Nat) (ks:List Str) (sp:Sp):Prop where
 ex:∃ (f:Addr) (fd:FuncData),mg x=some (.ref f)/\PySem.W.keepIn K (.ref f)=true/\aFo K fd ps []/\(∃ ds,aBn dvs ds/\aFo K fd ps ds)/\aNr K fd ps ks (gK n) (gK n)/\aK2 P w K mg base CX0 k f fd ps sp
theorem aOk.mono {P:Program} {w:World} {K:PySem.W.Frag} {mg:Str->Option Value} {base:Heap} {j k:Nat} {x:Str} {ps:List Str} {dvs:List V} {n:Nat} {ks:List Str} {sp:Sp} (o:aOk P w K mg base j x ps dvs n ks sp) (h:j<=k):aOk P w K mg base k x ps dvs n ks sp :=
 let ⟨f,fd,a,b,c,e,z,d⟩:=o.ex; ⟨f,fd,a,b,c,e,z,d.mono h⟩
theorem aOk.d {P:Program} {w:World} {K:PySem.W.Frag} {mg:Str->Option Value} {base:Heap} {k:Nat} {x:Str} {ps:List Str} {dvs:List V} {n:Nat} {ks:List Str} {sp:Sp} (o:aOk P w K mg base k x ps dvs n ks sp):aHp P w K mg base k x ps dvs sp :=
 let ⟨f,fd,a,b,c,e,_,d⟩:=o.ex; ⟨f,fd,a,b,c,e,d⟩
theorem aOk.of {P:Program} {w:World} {K:PySem.W.Frag} {mg:Str->Option Value} {base:Heap} {k:Nat} {x:Str} {st:Stmt} {N ps:List Str} {dvs:List V} {n:Nat} {ks:List Str} {sp:Sp} (d:DfK K mg x st ps dvs n ks) (S:aAq N ps (aAg st)) (len:∀ vs H Q E,sp vs H Q E->vs.length=ps.length)
  (hbody:∀ (f:Addr) (cdv:Value) (A:Around) (outer:List Env) (s:Shared) (H:Hp) (vs:List V) (Q:VK) (E:XK),aFp k (A.deeper (envOfC x (aAg st) s.heap.objs.size f cdv))->sp vs H Q E ->
   ∃ t,PSs (aTy CX0 P w K mg base N x (aAg st) f cdv A outer s H E).nox (aA6 st) t/\t { nx:=fun _ H'=>Q .non H',rt:=Q } (start N vs) H):aOk P w K mg base (k+1) x ps dvs n ks sp:=by
 obtain ⟨f,fd,⟨oc,od,dV,kV,doc,pm,an,cdv,ct,osl,rfl,lk,hcd⟩,kp,a,b,b2,b3⟩:=d.ex
 refine ⟨f,_,a,kp,b,b2,b3,aTu lk hcd S len fun A outer s H vs Q E hr hsp=>?_⟩
 obtain ⟨t,h,q⟩:=hbody f cdv A outer s H vs Q E hr hsp
 exact ⟨t,h.nox,q⟩
theorem bBz {K:PySem.W.Frag} {mg:Str->Option Value} {h:Heap} {x:Str} {st:Stmt} {ps:List Str} {f T:Addr} {oc:Value} {od an:Option Addr} {osl:Array (Option Value)} {kV doc pm cdv ct:Value} {o:Obj} {items:Array Value} {n:Nat} {dvs:List V} {ds:List Value} {m:Nat} {ks:List Str} (X:K.In h) (G:h.Ns mainGlobals mg)
  (a:PySem.W.nsIn K mainGlobals x=some (some (.ref f))) (l:K.lookup f=some ⟨oc,od,.func (PySem.W.fnOf x x (aBc st) (aA6 st) (aAg st) (.ref T) kV doc pm an cdv ct),osl⟩)
  (c:PySem.W.codeIn K cdv x=true) (k:PySem.W.keepIn K (.ref f)=true) (t:K.lookup T=some o) (ho:o.data=.seq items n)
  (b:∀ (s:Shared) (us:List Value),s.heap.get? T=some o->us.length=ps.length->BindsTo s (PySem.W.fnOf x x (aBc st) (aA6 st) (aAg st) (.ref T) kV doc pm an cdv ct) ⟨us,[]⟩ (ps.zip us)) (hv:aBn dvs ds)
  (b2:∀ (s:Shared) (us:List Value),s.heap.get? T=some o->(us++ds).length=ps.length->BindsTo s (PySem.W.fnOf x x (aBc st) (aA6 st) (aAg st) (.ref T) kV doc pm an cdv ct) ⟨us,[]⟩ (ps.zip (us++ds)))
  (hps:ps.length≠0) (b3:∀ (s:Shared) (us ws:List Value),s.heap.get? T=some o->us.length=m->ws.length=1->BindsTo s (PySem.W.fnOf x x (aBc st) (aA6 st) (aAg st) (.ref T) kV doc pm an cdv ct) ⟨us,ks.zip ws⟩ (ps.zip (us++ws))):DfK K mg x st ps dvs m ks :=
 ⟨f,_,⟨oc,od,.ref T,kV,doc,pm,an,cdv,ct,osl,rfl,l,c⟩,k,PySem.W.mg_of X G a,fun s us KI hl=>by rw [List.append_nil] at hl ⊢; exact b s us (KI T o t) hl,⟨ds,hv,fun s us KI hl=>b2 s us (KI T o t) hl⟩,fun s us ws KI hl=>by
  unfold gK at hl ⊢
  split
  ·next z=>exact b3 s us ws (KI T o t) z.1 z.2
  ·next z=>rw [if_neg z] at hl; exact absurd hl.symm hps,fun h1 h2=>bBo h1 h2⟩
section
variable {X:Cx} {k n:Nat} {x:Str} {ps ks:List Str} {dvs:List V} {sp:Sp} {p pos:Pos} {e:Expr} {es:List Expr} {kws:List Keyword} {t tk:TA}
theorem aP5 (o:aOk X.prog X.w X.K X.mg X.base k x ps dvs n ks sp) (hr:aFp k X.A) (hg:Gl X x) (ha:PA X (e::es) t) (hkw:PK X kws tk) (hall:(backToKw pos (keywordEach kws X.env)).all (·.1.isSome)=true:=by rfl) (hks:(backToKw pos (keywordEach kws X.env)).filterMap (·.1)=ks:=by rfl)
  (hdb:(x==("__debug__":Str))=false:=by decide) (he:starEach (e::es) X.env=(false,eval e X.env)::starEach es X.env:=by rfl)
  (hpl:((backTo pos (starEach (e::es) X.env)).any (·.1) || (backToKw pos (keywordEach kws X.env)).any (·.1.isNone))=false:=by rfl) :
  PE X (.Call (.Name x p) (e::es) kws pos) (aMq sp (gK n) E0 t tk):=by
 obtain ⟨f,fd,a,b,_,_,z,d⟩:=o.ex
 exact aS6 d hr hg a b z aWm ha hkw hall hks hdb he hpl
theorem aP6 {nm:Str} {ek:Expr} {kpos:Pos} {te:TE} (o:aOk X.prog X.w X.K X.mg X.base k x ps dvs n [nm] sp) (hr:aFp k X.A) (hg:Gl X x) (ha:PA X (e::es) t) (hk:PE X ek te)
  (hdb:(x==("__debug__":Str))=false:=by decide) (he:starEach (e::es) X.env=(false,eval e X.env)::starEach es X.env:=by rfl) (hpl:(backTo pos (starEach es X.env)).any (·.1)=false:=by rfl) :
  PE X (.Call (.Name x p) (e::es) [⟨some nm,ek,kpos⟩] pos) (aMq sp (gK n) E0 t (aSi te aSh)):=by
 refine aP5 o hr hg ha (aWg hk bAk) rfl rfl hdb he ?_
 rw [he]
 show ((false || (backTo pos (starEach es X.env)).any (·.1)) || (false || false))=false
 rw [hpl]
 rfl
theorem aV8 {σ:St} {H:Hp} {Q:VK} {E:XK} {gV:List V->List V->List V} {ta tb:TA} (k:ta σ H fun vs H1=>tb σ H1 fun zs H2=>sp (gV vs zs) H2 Q E):aMq sp gV E ta tb σ H Q:=k
end
theorem aZ2 {s:TS} {D:aE4} {σ:St} {H:Hp} (J:St->Hp->Prop) (hJ:∀ σ H,J σ H->D.nx σ H) (k:∀ NX:St->Hp->Prop,(∀ σ H,J σ H->NX σ H)->s ⟨NX,D.rt,D.bk,D.ct⟩ σ H):s D σ H:=k D.nx hJ
section
variable {σ:St} {H:Hp} {Q:VK} {K:PySem.W.Frag}
end
noncomputable def n3:List aJi:=[(sA,sB,Rat.divInt 1 2),(sB,sC,Rat.divInt 1 1)]
noncomputable def ts3:List (Key×Rat):=[(Sum.inl 0,Rat.divInt 1 2),(Sum.inl 1,Rat.divInt 1 1)]
noncomputable def tk3:Nat->Option Rat:=fun k=>aBf (lst ts3) (Sum.inl (k:Int))
end L2
namespace L2
open PySem PySem.Spec PyProof.Rows
section
variable {X:Cx}
end
section
variable {H:Hp} {Q:VK} {u v:V} {a b:Option Rat}
end
section
variable {net:List (aEa Key)} {a b:Key} {m:Rat} {tk:Nat -> Option Rat} {f:Key -> Option Rat}
end
end L2
namespace L2
open PySem PySem.Spec PyProof.Rows
noncomputable def fW (n:Nat) (acc:Addr) (Pv:Nat->List V->Hp->Prop):Nat->Nat->List V->Hp->Prop:=fun i m ys H1=>m=n - i/\i<=n/\ys.length<=i/\H1 acc=some (.lst ys)/\Pv i ys H1
noncomputable def bBt (n:Nat) (acc:Addr) (Pv:Nat->List V->Hp->Prop) (ys:List V) (i:Nat):VK:=fun y H3=>H3 acc=some (.lst ys)/\∃ m',m' < n - i/\fW n acc Pv (i+1) m' (ys++[y]) (upd H3 acc (.lst (ys++[y])))
noncomputable def bBs (n:Nat) (acc:Addr) (Pv:Nat->List V->Hp->Prop) (ys:List V) (i:Nat) (H3:Hp):Prop:=∃ m',m' < n - i/\fW n acc Pv (i+1) m' ys H3
theorem bBr {n:Nat} {acc:Addr} {Pv:Nat->List V->Hp->Prop} {ys:List V} {i:Nat} {y:V} {H3:Hp} (hlt:i < n) (hl:ys.length<=i) (ha:H3 acc=some (.lst ys)) (p:Pv (i+1) (ys++[y]) (upd H3 acc (.lst (ys++[y])))):bBt n acc Pv ys i y H3 :=
 ⟨ha,n - (i+1),by omega,rfl,hlt,by rw [List.length_append]; simp; exact hl,aAb,p⟩
theorem bBq {n:Nat} {acc:Addr} {Pv:Nat->List V->Hp->Prop} {ys:List V} {i:Nat} {H3:Hp} (hlt:i < n) (hl:ys.length<=i) (ha:H3 acc=some (.lst ys)) (p:Pv (i+1) ys H3):bBs n acc Pv ys i H3 :=
 ⟨n - (i+1),by omega,rfl,hlt,by omega,ha,p⟩
section
variable {te:TE} {Q:VK} {H:Hp} {caps:St} {K:PySem.W.Frag}
end
theorem aF8 (a b c:Value):checkTypeCall "range" ⟨[a,b,c],[]⟩=pure ():=by kernel_rfl
theorem aG4 (a b c:Value):checkBuiltinCall "range.__new__" ⟨[.type "range",a,b,c],[]⟩=pure ():=by kernel_rfl
theorem aGc (obj a b c:Value):argsOk "object.__init__" ⟨[obj,a,b,c],[]⟩:=by
 unfold argsOk
 rw [signature?_of (id:="object.__init__") (n:=['_','_','t','i','n','i','_','_']) (o:=['t','c','e','j','b','o']) (by kernel_rfl) F.owner_object]
 kernel_rfl
section
variable {X:Cx} {tg:Expr}
end
section
variable {σ:St} {H:Hp} {D:aE4} {K:PySem.W.Frag}
end
noncomputable def aLq (n:Nat):List V:=(List.range n).map fun (i:Nat)=>V.int (i:Int)
noncomputable def aYi (ta:TA):TE:=fun σ H Q=>ta σ H fun vs H1=>∃ n:Nat,vs=[.int n]/\n<=1000/\∀ p,H1 p=none->Q (.ref p) (upd H1 p (.lst (aLq n)))
theorem aZi {σ:St} {H:Hp} {Q:VK} {ta:TA} (k:ta σ H fun vs H1=>∃ n:Nat,vs=[.int n]/\n<=1000/\∀ p,H1 p=none->Q (.ref p) (upd H1 p (.lst (aLq n)))):aYi ta σ H Q:=k
theorem aSt {acc:Array Value} {n:Nat} (h:ItemsOf (fun i x=>∃ t,x=Value.int (0+(i:Nat) * 1) t) acc n):aBn (aLq n) acc.toList:=by
 have key:∀ (l:List Value) (k:Nat),(∀ j v,l[j]?=some v->∃ t,v=Value.int ((k+j:Nat):Int) t)->aBn ((List.range' k l.length).map fun (i:Nat)=>V.int (i:Int)) l:=by
  intro l
  induction l with
  | nil=>exact fun k _=>.nil
  | cons u r ih =>
   intro k hk
   rw [List.length_cons,List.range'_succ,List.map_cons]
   refine .cons ?_ (ih (k+1) fun j v e=>?_)
   ·obtain ⟨t,e⟩:=hk 0 u rfl
    exact ⟨t,e⟩
   ·obtain ⟨t,e2⟩:=hk (j+1) v e
    exact ⟨t,by rw [e2,show k+(j+1)=k+1+j by omega]⟩
 have:=key acc.toList 0 fun j v e=>by
  obtain ⟨t,e2⟩:=h.2 j v (by rw [← Array.getElem?_toList]; exact e)
  exact ⟨t,by rw [e2]; simp⟩
 rw [Array.length_toList,h.1,← List.range_eq_range'] at this
 exact this
theorem aWk {X:Cx} {a:Expr} {ta:TA} {p p2 pos pos2:Pos} (hc:X.calm=true) (hgl:Gl X "list") (hml:X.mg "list"=none) (hg:Gl X "range") (hm:X.mg "range"=none) (ha:PA X [a] ta)
  (he:starEach [.Call (.Name "range" p2) [a] [] pos2] X.env=[(false,eval (.Call (.Name "range" p2) [a] [] pos2) X.env)]:=by rfl) (hs:starEach [a] X.env=[(false,eval a X.env)]:=by rfl) :
  PE X (.Call (.Name "list" p) [.Call (.Name "range" p2) [a] [] pos2] [] pos) (aYi ta):=by
 intro pins s σ H Q I h
 refine wpAny_Call_Name_kw (aEo I hgl hml aE1 ?_ (by decide) (by decide))
 refine PyProof.Rows.callWith_type1 ?_ he rfl
 rw [he]
 show wpAny _ _ (spliced ((false,eval (.Call (.Name "range" p2) [a] [] pos2) X.env)::backTo pos [])) _ _ s
 refine Calls.spliced_cons ?_
 refine Call_ (aEo I hg hm boot_range (PyProof.Rows.callWith_type1 (thn (ha pos2 pins s σ H _ I h) fun us s1 ⟨vs,H1,I1,r1,q1⟩=>?_) hs rfl))
 obtain ⟨n,e,hn,q⟩:=q1
 subst e
 cases r1 with
 | cons r rr =>
  cases rr
  obtain ⟨t,rfl⟩:=r
  refine call_range_1 ?_
  refine Calls.spliced_nil ?_
  refine call_list_range (I.ok.hd hc) (IsRange.new ..) (small_one (by decide) (by decide) (by omega) (by omega)) (n:=n) (by rw [rangeSize_one]; split <;> omega) (by omega) fun h' tk acc' c' hk hD hacc=>?_
  have hr:=aSt hacc
  refine ⟨.ref _,_,I1.laid (t':=tk) (a:=(s1.heap.push { cls:=.type "range",data:=.fields #[.int 0 s1.toks,.int n t,.int 1 (s1.toks+1)] }).objs.size) (o:=.lst (aLq n)) (fun b o e=>hk b o (Heap.get?_push_of_some _ e)) (by rw [Heap.size_push]; exact Nat.le_succ _) ?_,rfl,q _ (I1.hok.fresh (by rw [Heap.size_push]; exact Nat.le_succ _))⟩
  refine ⟨?_,_,c',hr,?_⟩
  ·have:(aLq n).length=n:=by simp [aLq]
   rw [this,sizeLine_eq]
   omega
  ·rw [Array.toArray_toList]
   exact hD
section
variable {X:Cx}
end
section
variable {H:Hp} {Q:VK}
end
end L2
namespace L2
open PySem PySem.Spec PyProof.Rows
section
variable {net:List (aEa Key)} {push:Key -> Option Rat} {tk:Nat -> Option Rat}
end
noncomputable def but (ks:List Nat) (j:Nat):List Nat:=ks.filter fun k=>decide (k≠j)
noncomputable def n4:List aJi:=[(sA,sB,Rat.divInt 1 1),(sB,sA,Rat.divInt 1 1)]
theorem aUo {H:Hp} {Q:VK} {z:Str} {lo hi:Option Int} (hz:z.length<=100000) (k:Q (.str (Txt.slice z lo hi)) H):rSlS (.str z) lo hi H Q:=⟨z,rfl,by rw [sizeLine_eq]; omega,k⟩
section
variable {X:Cx} {scope:Scope} {caps:List (Str×Addr)} {N:List Str} {C:Addr} {s0:Shared} {H0:Hp} {ex:List Addr}
end
section
variable {te:TE} {Q:VK} {H:Hp} {caps:St} {K:PySem.W.Frag} {σ:St}
end
noncomputable def n5:List aJi:=[(sA,sB,Rat.divInt 1 1)]
end L2
namespace L2
open PySem PySem.Spec PyProof.Rows
mutual
theorem Den.inj {H:Hp}:∀ (d e:Dt) {x:V},Den H d x->Den H e x->d=e
 | .tup ds,.tup es,x,h1,h2=>by
  obtain ⟨p,vs,rfl,a,b⟩:=h1
  obtain ⟨q,ws,e1,c,d⟩:=h2
  cases e1
  rw [a] at c
  cases c
  rw [aF7.inj ds es b d]
 | .lst ds,.lst es,x,h1,h2=>by
  obtain ⟨p,vs,rfl,a,b⟩:=h1
  obtain ⟨q,ws,e1,c,d⟩:=h2
  cases e1
  rw [a] at c
  cases c
  rw [aF7.inj ds es b d]
 | .tup ds,.lst es,x,h1,h2=>by
  obtain ⟨p,vs,rfl,a,b⟩:=h1
  obtain ⟨q,ws,e1,c,d⟩:=h2
  cases e1
  rw [a] at c
  cases c
 | .lst ds,.tup es,x,h1,h2=>by
  obtain ⟨p,vs,rfl,a,b⟩:=h1
  obtain ⟨q,ws,e1,c,d⟩:=h2
  cases e1
  rw [a] at c
  cases c
 | .non,e,x,h1,h2=>by
  have h1:x=.non:=h1
  subst h1
  cases e <;> first | rfl | (have h2:V.non=_:=h2; cases h2) | (obtain ⟨_,_,z,_⟩:=h2; cases z)
 | .bl b,e,x,h1,h2=>by
  have h1:x=.bl b:=h1
  subst h1
  cases e <;> first | (have h2:V.bl b=_:=h2; cases h2; rfl) | (have h2:V.bl b=_:=h2; cases h2; done) | (obtain ⟨_,_,z,_⟩:=h2; cases z)
 | .int b,e,x,h1,h2=>by
  have h1:x=.int b:=h1
  subst h1
  cases e <;> first | (have h2:V.int b=_:=h2; cases h2; rfl) | (have h2:V.int b=_:=h2; cases h2; done) | (obtain ⟨_,_,z,_⟩:=h2; cases z)
 | .str b,e,x,h1,h2=>by
  have h1:x=.str b:=h1
  subst h1
  cases e <;> first | (have h2:V.str b=_:=h2; cases h2; rfl) | (have h2:V.str b=_:=h2; cases h2; done) | (obtain ⟨_,_,z,_⟩:=h2; cases z)
 | .tup ds,.non,x,h1,h2=>by obtain ⟨p,vs,rfl,_⟩:=h1; have h2:V.ref p=_:=h2; cases h2
 | .tup ds,.bl _,x,h1,h2=>by obtain ⟨p,vs,rfl,_⟩:=h1; have h2:V.ref p=_:=h2; cases h2
 | .tup ds,.int _,x,h1,h2=>by obtain ⟨p,vs,rfl,_⟩:=h1; have h2:V.ref p=_:=h2; cases h2
 | .tup ds,.str _,x,h1,h2=>by obtain ⟨p,vs,rfl,_⟩:=h1; have h2:V.ref p=_:=h2; cases h2
 | .lst ds,.non,x,h1,h2=>by obtain ⟨p,vs,rfl,_⟩:=h1; have h2:V.ref p=_:=h2; cases h2
 | .lst ds,.bl _,x,h1,h2=>by obtain ⟨p,vs,rfl,_⟩:=h1; have h2:V.ref p=_:=h2; cases h2
 | .lst ds,.int _,x,h1,h2=>by obtain ⟨p,vs,rfl,_⟩:=h1; have h2:V.ref p=_:=h2; cases h2
 | .lst ds,.str _,x,h1,h2=>by obtain ⟨p,vs,rfl,_⟩:=h1; have h2:V.ref p=_:=h2; cases h2
theorem aF7.inj {H:Hp}:∀ (ds es:List Dt) {xs:List V},aF7 H ds xs->aF7 H es xs->ds=es
 | [],[],xs,_,_=>rfl
 | [],e::es,xs,h1,h2=>by
  have h1:xs=[]:=h1
  subst h1
  obtain ⟨_,_,z,_⟩:=h2
  cases z
 | d::ds,[],xs,h1,h2=>by
  have h2:xs=[]:=h2
  subst h2
  obtain ⟨_,_,z,_⟩:=h1
  cases z
 | d::ds,e::es,xs,h1,h2=>by
  obtain ⟨v,r,rfl,a,b⟩:=h1
  obtain ⟨v',r',z,a',b'⟩:=h2
  cases z
  rw [Den.inj d e a a',aF7.inj ds es b b']
end
end L2
namespace L2
open PySem PySem.Spec PyProof.Rows
section
variable {prog:Program} {w:World} {A:Around} {E:Value -> Shared -> Prop} {s:Shared} {r:Addr}
end
end L2
namespace L2
open PySem PySem.Spec PyProof.Rows
section
variable {X:Cx} {a:Expr} {ta:TE}
noncomputable def tRev (ta:TE):TE:=fun σ H Q=>ta σ H fun x H1=>∃ l xs,x=.ref l/\H1 l=some (.lst xs)/\∀ p,H1 p=none->Q (.ref p) (upd H1 p (.lst xs.reverse))
theorem r_rev {σ:St} {H:Hp} {Q:VK} (k:ta σ H fun x H1=>∃ l xs,x=.ref l/\H1 l=some (.lst xs)/\∀ p,H1 p=none->Q (.ref p) (upd H1 p (.lst xs.reverse))):tRev ta σ H Q:=k
theorem bAn {j:Nat} {p1 p2 p3 pos:Pos} (ha:PE X a ta):PE X (.Subscript a (.Slice none none (some (.UnaryOp .USub (.Constant (.int 1) j p1) p2)) p3) pos) (tRev ta):=by
 intro pins s σ H Q I h
 refine Subscript_ (thn (ha pins s σ H _ I h) fun v s1 ⟨x,H1,I1,r1,l,xs,e,hx,q⟩=>?_)
 subst e
 cases r1
 refine wpAny_Slice ?_
 rw [evalPart_none,evalPart_some]
 refine wpAny_pure (wpAny_pure ?_)
 refine thn ((aWj (pos:=p2) aOn (aAf (X:=X) (i:=1) (j:=j) (pos:=p1))) pins s1 σ H1 (fun y H2=>y=.int (-1)/\H2=H1) I1 ⟨1,rfl,rfl,rfl⟩) fun st s2 ⟨y,H2,I2,r2,e1,e2⟩=>?_
 subst e1 e2
 obtain ⟨t,rfl⟩:=r2
 have I3:Inv X pins σ H2 { s2 with heap:=s2.heap.push { cls:=.type "slice",data:=.fields #[.none,.none,.int (-1) t] } }:=I2.kept (t':=s2.toks) fun b ob q=>Heap.get?_push_of_some _ q
 obtain ⟨its,r,ht,hz⟩:=I3.list (SqL.of hx)
 have hlen:=r.length
 refine tail_any (ops:=[.ref l,.ref s2.heap.objs.size]) ht.isList.typeIs slot_list_getitem.lookup ?_ (by with_unfolding_all rfl)
 refine wpAny_getItem_list_slice ht.isList (Heap.IsSliceOf.new ..) .none .none (.int (-1) t) (by decide) ?_ (by rw [List.size_toArray] <;> omega)
 rw [PySem.W.krv_pick]
 refine ⟨.ref _,_,I3.laid (t':=s2.toks) (o:=.lst xs.reverse) (fun b ob q=>Heap.get?_push_of_some _ q) (Nat.le_refl _) ?_,rfl,q _ (I3.hok.fresh (Nat.le_refl _))⟩
 exact ⟨by rw [List.length_reverse]; exact hz,its.reverse,0,r.reverse,Heap.get?_push_size _ rfl⟩
end
section
variable {te:TE} {Q:VK} {H:Hp} {caps:St}
end
end L2
namespace L2
open PySem PySem.Spec PyProof.Rows
section
variable (net:List (aEa Key)) (tk:Nat -> Option Rat) (f:Key -> Option Rat) (s:Key)
end
section
variable {net:List (aEa Key)} {push:Key -> Option Rat} {tk:Nat -> Option Rat} {F:AL Key (aEq Key)}
end
theorem aHy {H:Hp} {Q:VK} {i:Int} (k:Q (.bl true) H):aS0 (.int i) .non H Q:=⟨rfl,k⟩
section
variable {c m:Nat -> Int}
end
section
variable {σ:St} {H:Hp} {D:aE4} {K:PySem.W.Frag}
theorem aIr {lo:Int} {n:Nat} {g:TG} {tb:TS} (Pv:Nat->St->Hp->Prop) (h0:Pv 0 σ H)
  (hs:∀ (P':Nat->St->Hp->Prop) (rt:VK) (bk:St->Hp->Prop),(∀ i σ H,Pv i σ H->P' i σ H)->∀ i σ H,i < n->Pv i σ H->g (.int (lo+i)) σ H fun σ2 H2=>tb ⟨P' (i+1),rt,bk,P' (i+1)⟩ σ2 H2) (hd:∀ σ H,Pv n σ H->D.nx σ H):aSa g tb D σ (Itr lo n) H:=aZt Pv h0 (hs Pv D.rt D.nx fun _ _ _ h=>h) hd
theorem aGv {a:Addr} {xs:List V} {g:TG} {tb:TS} (Pv:Nat->St->Hp->Prop) (h0:Pv 0 σ H) (hl:∀ i σ H,i<=xs.length->Pv i σ H->SqL K H a xs)
  (hs:∀ (P':Nat->St->Hp->Prop) (rt:VK) (bk:St->Hp->Prop),(∀ i σ H,Pv i σ H->P' i σ H)->∀ i x σ H,xs[i]?=some x->Pv i σ H->g x σ H fun σ2 H2=>tb ⟨P' (i+1),rt,bk,P' (i+1)⟩ σ2 H2) (hd:∀ σ H,Pv xs.length σ H->D.nx σ H):aSa g tb D σ (Itl K a) H:=aPo Pv h0 hl (hs Pv D.rt D.nx fun _ _ _ h=>h) hd
end
end L2
namespace L2
open PySem PySem.Spec PyProof.Rows
section
variable {net:List (aEa Key)} {push push':Key -> Option Rat} {tk tk':Nat -> Option Rat}
end
section
variable {net:List (aEa Key)} {push push':Key -> Option Rat} {tk tk':Nat -> Option Rat}
end
section
variable {n:List aJi} {ps:List (Key×Rat)} {tk:Nat -> Option Rat} {f:Key -> Option Rat} {y:Str} {ms:List Rat}
end
theorem len2 {us:St} (h:us.length=2):∃ o p,us=[o,p]:=by
 cases us with
 | nil=>cases h
 | cons o us=>cases us with
  | nil=>cases h
  | cons p us=>cases us with
   | nil=>exact ⟨o,p,rfl⟩
   | cons q us=>cases h
section
variable {te:TE} {Q:VK} {H:Hp} {caps:St} {K:PySem.W.Frag}
theorem aSy {c:TT} {a:Addr} {xs:List V} (hn:xs.length<=1000) (Pv:Addr->Nat->List V->Hp->Prop) (h0:∀ acc,H acc=none->Pv acc 0 [] (upd H acc (.lst []))) (hl':∀ acc i ys H1,H acc=none->i<=xs.length->Pv acc i ys H1->SqL K H1 a xs)
  (hs:∀ acc i ys H1 x,H acc=none->xs[i]?=some x->ys.length<=i->H1 acc=some (.lst ys)->Pv acc i ys H1->∃ p u v,x=.ref p/\H1 p=some (.tup [u,v])/\c (some u::some v::caps) H1 fun b H3=>if b=true then te (some u::some v::caps) H3 (bBt xs.length acc (Pv acc) ys i) else bBs xs.length acc (Pv acc) ys i H3)
  (hd:∀ acc ys H1,H acc=none->H1 acc=some (.lst ys)->ys.length<=xs.length->Pv acc xs.length ys H1->Q (.ref acc) H1):aJe te (some c) (aXe K 2 (aI5 (aF0 0) (aI5 (aF0 1) bBn))) (List.replicate 2 none) caps Q (Itl K a) H:=by
 intro acc hacc
 refine ⟨fW xs.length acc (Pv acc),⟨xs.length,by simp,Nat.zero_le _,Nat.le_refl _,aAb,h0 acc hacc⟩,fun i m ys H1 hW=>?_⟩
 obtain ⟨rfl,hi,hl,ha,p⟩:=hW
 have q:=hl' acc i ys H1 hacc hi p
 refine ⟨ha,?_⟩
 rcases Nat.lt_or_ge i xs.length with hlt | hge
 ·refine .inr ⟨aCn (Nat.le_trans hl (by omega)),⟨xs,xs[i],q,by simp [hlt]⟩,fun us x H' hu z=>?_⟩
  obtain ⟨rfl,z⟩:=z
  obtain ⟨o1,o2,rfl⟩:=len2 hu
  obtain ⟨b,u,v,rfl,hb,k⟩:=hs acc i ys H' x hacc (z xs q) hl ha p
  exact aLs hb ⟨u,[v],rfl,v,[],rfl,rfl,⟨[some u,some v],rfl,rfl⟩,k⟩
 ·cases (Nat.le_antisymm hi hge:i=xs.length)
  exact .inl ⟨⟨xs,q,Nat.le_refl _⟩,hd acc ys H1 hacc ha hl p⟩
theorem aPp {a:Addr} {xs:List V} (hn:xs.length<=1000) (Pv:Addr->Nat->List V->Hp->Prop) (h0:∀ acc,H acc=none->Pv acc 0 [] (upd H acc (.lst []))) (hl':∀ acc i ys H1,H acc=none->i<=xs.length->Pv acc i ys H1->SqL K H1 a xs)
  (hs:∀ acc i ys H1 x,H acc=none->xs[i]?=some x->ys.length=i->H1 acc=some (.lst ys)->Pv acc i ys H1->∃ p u v,x=.ref p/\H1 p=some (.tup [u,v])/\te (some u::some v::caps) H1 (aOf xs.length acc (Pv acc) ys i))
  (hd:∀ acc ys H1,H acc=none->H1 acc=some (.lst ys)->ys.length=xs.length->Pv acc xs.length ys H1->Q (.ref acc) H1):aJe te none (aXe K 2 (aI5 (aF0 0) (aI5 (aF0 1) bBn))) (List.replicate 2 none) caps Q (Itl K a) H:=by
 intro acc hacc
 refine ⟨cW xs.length acc (Pv acc),⟨xs.length,by simp,Nat.zero_le _,rfl,aAb,h0 acc hacc⟩,fun i m ys H1 hW=>?_⟩
 obtain ⟨rfl,hi,hl,ha,p⟩:=hW
 have q:=hl' acc i ys H1 hacc hi p
 refine ⟨ha,?_⟩
 rcases Nat.lt_or_ge i xs.length with hlt | hge
 ·refine .inr ⟨aCn (by omega),⟨xs,xs[i],q,by simp [hlt]⟩,fun us x H' hu z=>?_⟩
  obtain ⟨rfl,z⟩:=z
  obtain ⟨o1,o2,rfl⟩:=len2 hu
  obtain ⟨b,u,v,rfl,hb,k⟩:=hs acc i ys H' x hacc (z xs q) hl ha p
  exact aLs hb ⟨u,[v],rfl,v,[],rfl,rfl,⟨[some u,some v],rfl,rfl⟩,k⟩
 ·cases (Nat.le_antisymm hi hge:i=xs.length)
  exact .inl ⟨⟨xs,q,Nat.le_refl _⟩,hd acc ys H1 hacc ha hl p⟩
end
theorem aFy {X:Cx} {scope:Scope} {caps:List (Str×Addr)} {N:List Str} {C:Addr} {s0:Shared} {H0:Hp} {ex:List Addr} {es:List Expr} {k:Nat} {t:TGs} {n:Nat} {pos:Pos} (hc:(aBp X scope caps N C s0 H0 ex).calm=true) (h:PGs (aBp X scope caps N C s0 H0 ex) es t)
  (hn:(assignEach es (aBp X scope caps N C s0 H0 ex).env).length=n:=by rfl) (hst:(assignEach es (aBp X scope caps N C s0 H0 ex).env).findIdx? (·.1)=none:=by rfl):PG (aBp X scope caps N C s0 H0 ex) (.Tuple es k pos) (aXe X.K n t):=aD1 hc h hn hst
end L2
namespace L2
open PySem PySem.Spec PyProof.Rows
theorem aN2 {X:Cx} {scope:Scope} {caps:List (Str×Addr)} {N:List Str} {C:Addr} {s0:Shared} {H0:Hp} {ex:List Addr}:OpR (aBp X scope caps N C s0 H0 ex) (compareOp .In) (rIn X.K false):=aQb
end L2
namespace L2
open PySem PySem.Spec PyProof.Rows
theorem aW1 (q r:Rat):Rat.divInt (q.num * r.num) ((q.den:Int) * r.den)=q * r:=by
 rw [← Rat.divInt_mul_divInt,Rat.num_divInt_den,Rat.num_divInt_den]
theorem aXk (q r:Rat):Rat.divInt (q.num * r.den) ((q.den:Int) * r.num)=q / r:=by
 rw [Rat.div_def,← Rat.divInt_mul_divInt,Rat.num_divInt_den]
 congr 1
 rw [← Rat.inv_divInt,Rat.num_divInt_den]
inductive aBg where
 | stands | swept (p:Str) (t:Rat) | met (t s:Rat) | taken (t:Rat)
noncomputable def swp (o:Option Rat) (T:Rat) (p:Option Rat):Bool:=match o with | none=>false | some f=>match p with | none=>true | some g=>!decide (g < f+T)
noncomputable def aHn (a b:Str) (oa ob:Option Rat) (T:Rat):aBg :=
 if oa=none/\ob=none then .stands else if swp oa T ob=true then .swept a (oa.getD 0+T) else if swp ob T oa=true then .swept b (ob.getD 0+T) else .met ((oa.getD 0+ob.getD 0+T) * (1 / 2)) (((oa.getD 0+ob.getD 0+T) * (1 / 2) - oa.getD 0) / T)
noncomputable def aOc:aBg->Option Rat
 | .stands=>none
 | .swept _ t=>some t
 | .met t _=>some t
 | .taken t=>some t
noncomputable def aDk (u:Rat) (o:Option Rat):Bool:=match o with | none=>true | some t=>decide (u < t)
noncomputable def aTv (e:aBg) (tk:Option Rat):aBg:=match tk with | none=>e | some u=>if aDk u (aOc e)=true then .taken u else e
noncomputable def aEb (H:Hp) (v:V):aBg->Prop
 | .stands=>∃ p,v=.ref p/\H p=some (.tup [.str "stands"])
 | .swept s t=>∃ p u,v=.ref p/\H p=some (.tup [.str "swept",.str s,u])/\FrQ H u t
 | .met t s=>∃ p u w,v=.ref p/\H p=some (.tup [.str "met",u,w])/\FrQ H u t/\FrQ H w s
 | .taken t=>∃ p u,v=.ref p/\H p=some (.tup [.str "taken",u])/\FrQ H u t
theorem aEb.tk {H H':Hp} {v:V} {e:aBg} (h:aEb H v e) (t:TK H H'):aEb H' v e:=by
 cases e with
 | stands=>obtain ⟨p,e,h⟩:=h; exact ⟨p,e,t _ _ h⟩
 | swept s q=>obtain ⟨p,u,e,h,f⟩:=h; exact ⟨p,u,e,t _ _ h,f.tk t⟩
 | met q s=>obtain ⟨p,u,w,e,h,f,g⟩:=h; exact ⟨p,u,w,e,t _ _ h,f.tk t,g.tk t⟩
 | taken q=>obtain ⟨p,u,e,h,f⟩:=h; exact ⟨p,u,e,t _ _ h,f.tk t⟩
section
variable {H:Hp} {Q:VK}
theorem aIq (k:Q (.int 1000000000000000000000000000000) H):rI bCb (fun i j=>.int (i ^ j.toNat)) (.int 10) (.int 30) H Q:=r_I ⟨by decide,by decide,by decide⟩ k
theorem aVt (k:Q (.int 1000000000000000000000000000000000000000000000000000000000) H):rI bCb (fun i j=>.int (i ^ j.toNat)) (.int 10) (.int 57) H Q:=r_I ⟨by decide,by decide,by decide⟩ k
end
theorem len3 {us:St} (h:us.length=3):∃ o p q,us=[o,p,q]:=by
 cases us with
 | nil=>cases h
 | cons o us=>cases us with
  | nil=>cases h
  | cons p us=>cases us with
   | nil=>cases h
   | cons q us=>cases us with
    | nil=>exact ⟨o,p,q,rfl⟩
    | cons r us=>cases h
theorem aLv {te:TE} {Q:VK} {H:Hp} {caps:St} {K:PySem.W.Frag} {a:Addr} {xs:List V} (hn:xs.length<=1000) (Pv:Addr->Nat->List V->Hp->Prop) (h0:∀ acc,H acc=none->Pv acc 0 [] (upd H acc (.lst []))) (hl':∀ acc i ys H1,H acc=none->i<=xs.length->Pv acc i ys H1->SqL K H1 a xs)
  (hs:∀ acc i ys H1 x,H acc=none->xs[i]?=some x->ys.length=i->H1 acc=some (.lst ys)->Pv acc i ys H1->∃ p u v z,x=.ref p/\H1 p=some (.tup [u,v,z])/\te (some u::some v::some z::caps) H1 (aOf xs.length acc (Pv acc) ys i))
  (hd:∀ acc ys H1,H acc=none->H1 acc=some (.lst ys)->ys.length=xs.length->Pv acc xs.length ys H1->Q (.ref acc) H1):aJe te none (aXe K 3 (aI5 (aF0 0) (aI5 (aF0 1) (aI5 (aF0 2) bBn)))) (List.replicate 3 none) caps Q (Itl K a) H:=by
 intro acc hacc
 refine ⟨cW xs.length acc (Pv acc),⟨xs.length,by simp,Nat.zero_le _,rfl,aAb,h0 acc hacc⟩,fun i m ys H1 hW=>?_⟩
 obtain ⟨rfl,hi,hl,ha,p⟩:=hW
 have q:=hl' acc i ys H1 hacc hi p
 refine ⟨ha,?_⟩
 rcases Nat.lt_or_ge i xs.length with hlt | hge
 ·refine .inr ⟨aCn (by omega),⟨xs,xs[i],q,by simp [hlt]⟩,fun us x H' hu z=>?_⟩
  obtain ⟨rfl,z⟩:=z
  obtain ⟨o1,o2,o3,rfl⟩:=len3 hu
  obtain ⟨b,u,v,y,rfl,hb,k⟩:=hs acc i ys H' x hacc (z xs q) hl ha p
  exact aPn hb ⟨u,[v,y],rfl,v,[y],rfl,y,[],rfl,rfl,⟨[some u,some v,some y],rfl,rfl⟩,k⟩
 ·cases (Nat.le_antisymm hi hge:i=xs.length)
  exact .inl ⟨⟨xs,q,Nat.le_refl _⟩,hd acc ys H1 hacc ha hl p⟩
end L2
namespace L2
open PySem PySem.Spec PyProof.Rows
noncomputable def UQ (u:Int) (q:Rat):Prop:=Bd u.toNat (10 ^ 31) q/\0<=q
theorem aX7 {u z:Int} (hu:0 < u) (h0:0<=z) (h1:z<=10 ^ 31):UQ u (Rat.divInt z u):=by
 have hu0:u≠0:=by omega
 have e:=aG9 (t:=z) hu0
 have hb:=aFg (t:=z) hu0
 have hq0:0<=Rat.divInt z u:=by
  rw [← Rat.num_nonneg,e.1]
  have e':=aG8 (t:=z) hu0
  have hp:=aGm (t:=z) hu0
  have:0<=aB1 z u * u:=by rw [e']; exact Int.mul_nonneg h0 (by omega)
  exact Int.nonneg_of_mul_nonneg_left this hu
 have hM:(Rat.divInt z u).num.natAbs<=10 ^ 31:=by
  rw [e.1]
  have:=aQu (t:=z) hu0
  omega
 refine ⟨(Bd.of hM).dvd ?_,hq0⟩
 have h2:((Rat.divInt z u).den:Int) ∣ u:=by rw [e.2]; exact ⟨_,hb.symm⟩
 have h3:(u.toNat:Int)=u:=Int.toNat_of_nonneg (by omega)
 exact Int.natCast_dvd_natCast.mp (h3.symm ▸ h2:((Rat.divInt z u).den:Int) ∣ (u.toNat:Int))
theorem aPl {u:Int} (h0:0 < u) (h1:u<=10 ^ 12):aOj u.toNat (10 ^ 31):=⟨by omega,Nat.lt_of_le_of_lt (show u.toNat<=10 ^ 12 by omega) (by decide),Nat.lt_of_le_of_lt (Nat.mul_le_mul_left _ (show u.toNat<=10 ^ 12 by omega)) (by decide)⟩
theorem sz_u {u:Int} (h0:0 < u) (h1:u<=10 ^ 12) (t:Rat) (h:Bd u.toNat (10 ^ 31 * 1000) t):Sz 400 t:=h.sz (by omega) (Nat.lt_of_le_of_lt (show u.toNat<=10 ^ 12 by omega) (by decide)) (Nat.lt_of_le_of_lt (Nat.mul_le_mul_left _ (show u.toNat<=10 ^ 12 by omega)) (by decide))
noncomputable def aK6 (H:Hp) (v:V) (r:Int×Int×Int):Prop:=∃ p,v=.ref p/\H p=some (.tup [.int r.1,.int r.2.1,.int r.2.2])
theorem aK6.tk {H H':Hp} {v:V} {r:Int×Int×Int} (h:aK6 H v r) (t:TK H H'):aK6 H' v r:=let ⟨p,e,h⟩:=h; ⟨p,e,t _ _ h⟩
noncomputable def aHl (H:Hp) (v:V) (r:Int×Int):Prop:=∃ p,v=.ref p/\H p=some (.tup [.int r.1,.int r.2])
theorem aHl.tk {H H':Hp} {v:V} {r:Int×Int} (h:aHl H v r) (t:TK H H'):aHl H' v r:=let ⟨p,e,h⟩:=h; ⟨p,e,t _ _ h⟩
noncomputable def aGd (ln:Addr) (u:Int) (lr lp lt:Addr):List (Key×V):=[(Sum.inr "names",.ref ln),(Sum.inr "unit",.int u),(Sum.inr "runs",.ref lr),(Sum.inr "pushes",.ref lp),(Sum.inr "takings",.ref lt)]
section
variable {ln lr lp lt:Addr} {u:Int}
theorem aB9:aBu (aGd ln u lr lp lt) (Sum.inr "names")=some (.ref ln):=by with_unfolding_all rfl
theorem aHe:aBu (aGd ln u lr lp lt) (Sum.inr "unit")=some (.int u):=by with_unfolding_all rfl
theorem aBt:aBu (aGd ln u lr lp lt) (Sum.inr "runs")=some (.ref lr):=by with_unfolding_all rfl
theorem aHf:aBu (aGd ln u lr lp lt) (Sum.inr "pushes")=some (.ref lp):=by with_unfolding_all rfl
theorem aD8:aBu (aGd ln u lr lp lt) (Sum.inr "takings")=some (.ref lt):=by with_unfolding_all rfl
end
structure HereI (U:List Str) (u:Int) (rs:List (Int×Int×Int)) (ps ts:List (Int×Int)) (m:Nat):Prop where
 u0:0 < u
 u1:u<=10 ^ 12
 n2:2<=U.length
 n8:U.length<=8
 rok:∀ r∈rs,0<=r.1/\r.1 < U.length/\0<=r.2.1/\r.2.1 < U.length/\1<=r.2.2/\r.2.2<=10 ^ 30
 pok:∀ r∈ps,0<=r.1/\r.1 < U.length/\0<=r.2/\r.2<=10 ^ 30
 tok:∀ r∈ts,0<=r.1/\0<=r.2/\r.2<=10 ^ 30
 len:rs.length+ps.length+ts.length<=m
structure aDd (H:Hp) (dd:Addr) (U:List Str) (u:Int) (rs:List (Int×Int×Int)) (ps ts:List (Int×Int)) (ln lr lp lt:Addr):Prop where
 d:H dd=some (.dK (aGd ln u lr lp lt))
 nm:H ln=some (.lst (U.map V.str))
 rq:LQ aK6 H lr rs
 pq:LQ aHl H lp ps
 tq:LQ aHl H lt ts
theorem aDd.sm {H H':Hp} {dd:Addr} {U:List Str} {u:Int} {rs:List (Int×Int×Int)} {ps ts:List (Int×Int)} {ln lr lp lt:Addr} (h:aDd H dd U u rs ps ts ln lr lp lt) (s:aAo H H'):aDd H' dd U u rs ps ts ln lr lp lt:=⟨s _ _ h.d,s _ _ h.nm,h.rq.sm aK6.tk s,h.pq.sm aHl.tk s,h.tq.sm aHl.tk s⟩
theorem aNi {H:Hp}:∀ {zs:List V} {rs:List (Int×Int×Int)},Paired (aK6 H) zs rs->aF7 H (rs.map fun r=>.tup [.int r.1,.int r.2.1,.int r.2.2]) zs
 | _,_,.nil=>rfl
 | _,_,.cons ⟨p,e,h⟩ t=>⟨_,_,rfl,⟨p,_,e,h,_,_,rfl,rfl,_,_,rfl,rfl,_,_,rfl,rfl,rfl⟩,aNi t⟩
theorem aNg:∀ rs:List (Int×Int×Int),aHo (rs.map fun r=>Dt.tup [.int r.1,.int r.2.1,.int r.2.2])<=10
 | []=>by decide
 | u::r=>by
  have:=aNg r
  show max (dep (Dt.tup [.int u.1,.int u.2.1,.int u.2.2])) (aHo (r.map fun r=>Dt.tup [.int r.1,.int r.2.1,.int r.2.2]))<=10
  have e:dep (Dt.tup [.int u.1,.int u.2.1,.int u.2.2])<=10:=by simp [dep,aHo]
  omega
theorem bBy {H:Hp} {Q:VK} {l p:Addr} {zs:List V} {rs:List (Int×Int×Int)} (h1:H l=some (.lst zs)) (pz:Paired (aK6 H) zs rs) (h2:H p=some (.lst [])) (k:Q (.bl (decide (rs=[]))) H):aWa (.ref l) (.ref p) H Q:=by
 refine aXi (es:=[]) ⟨l,_,rfl,h1,aNi pz⟩ ⟨p,_,rfl,h2,rfl⟩ (Nat.le_trans (aNg rs) (by decide)) ?_
 cases rs with
 | nil=>rw [decide_eq_true rfl] at k; exact k
 | cons r rs=>rw [decide_eq_false (List.cons_ne_nil _ _)] at k; exact k
noncomputable def dsp5 (p:Addr) (Q:VK) (x1 y1 x2 y2 x3 y3 x4 y4 x5 y5:V) (H4:Hp):Prop:=H4 p=some (.dK [])/\∃ kvs:List (Key×V),[(x1,y1),(x2,y2),(x3,y3),(x4,y4),(x5,y5)]=kvs.map (fun kv=>(kV kv.1,kv.2))/\kvs.length<=15/\Q (.ref p) (upd H4 p (.dK (aDb [] kvs)))
theorem aV3 {σ:St} {H:Hp} {Q:VK} {k1 v1 k2 v2 k3 v3 k4 v4 k5 v5:TE} (k:∀ p,H p=none->k1 σ (upd H p (.dK [])) fun x1 H1=>v1 σ H1 fun y1 H2=>k2 σ H2 fun x2 H3=>v2 σ H3 fun y2 H4=>k3 σ H4 fun x3 H5=>v3 σ H5 fun y3 H6=>k4 σ H6 fun x4 H7=>v4 σ H7 fun y4 H8=>k5 σ H8 fun x5 H9=>v5 σ H9 fun y5 H10=>dsp5 p Q x1 y1 x2 y2 x3 y3 x4 y4 x5 y5 H10):aYl [(k1,v1),(k2,v2),(k3,v3),(k4,v4),(k5,v5)] σ H Q:=k
theorem aRg {p ln lr lp lt:Addr} {u:Int} {H:Hp} {Q:VK} (h:H p=some (.dK [])) (k:Q (.ref p) (upd H p (.dK (aGd ln u lr lp lt)))):dsp5 p Q (.str "names") (.ref ln) (.str "unit") (.int u) (.str "runs") (.ref lr) (.str "pushes") (.ref lp) (.str "takings") (.ref lt) H :=
 ⟨h,aGd ln u lr lp lt,rfl,Nat.le_of_ble_eq_true rfl,by
  rw [aFf (by rw [List.nil_append]; show (([Sum.inr "names",Sum.inr "unit",Sum.inr "runs",Sum.inr "pushes",Sum.inr "takings"]:List Key)).Nodup; decide +kernel),List.nil_append]
  exact k⟩
end L2
namespace L2
open PySem PySem.Spec PyProof.Rows
end L2
namespace L2
open PySem PySem.Spec PyProof.Rows
noncomputable abbrev gal:Bool->Keyed->Array Keyed->Nat->Nat->Nat->StateT SortSt Sem (Option Nat):=sortPriv% PySem.Builtin.gallop
noncomputable abbrev mgL:Array Keyed->Array Keyed->StateT SortSt Sem (Array Keyed):=sortPriv% PySem.Builtin.mergeLo
noncomputable abbrev mgH:Array Keyed->Array Keyed->StateT SortSt Sem (Array Keyed):=sortPriv% PySem.Builtin.mergeHi
noncomputable def InA (a₀ x:Array Keyed):Prop:=∀ p∈x.toList,p∈a₀.toList
structure SB (a₀:Array Keyed) (st:SortSt):Prop where
 perm:(arrOf st).Perm a₀
 kind:kindOf st=oneType'
 ok:failedOf st=none
noncomputable def aNq (prog:Program) (w:World) (a₀:Array Keyed):Prop:=∀ {A:Around} {E:Value->Shared->Prop} {s:Shared} {st:SortSt} {x y:Keyed} {Q:Option Bool->SortSt->Prop},kindOf st=oneType'->x∈a₀.toList->y∈a₀.toList->(∀ b,Q (some b) st)->wpS (model prog w) A E s (lt' x y) Q st
theorem ltOk {prog:Program} {w:World} {a₀:Array Keyed} {κ:PyProof.Rows.KeyKind} (hO:κ.OneLt) (h:KeysOf κ a₀):aNq prog w a₀:=by
 intro A E s st x y Q hk hx hy q
 obtain ⟨a,ha⟩:=h _ hx
 obtain ⟨b,hb⟩:=h _ hy
 rw [lt'_eq]
 refine wpS_bind (wpS_get ?_)
 rw [hk,keyLt'_oneType]
 refine wpS_bind (wpS_lift (wpAny_attempt (hO prog w A _ s x.1 y.1 a b ha hb ⟨rfl,?_⟩)))
 exact wpS_pure (q _)
theorem InA.at {a₀ x:Array Keyed} (h:InA a₀ x) {i:Nat} (hi:i < x.size):x[i]∈a₀.toList:=h _ (by simp)
theorem InA.ext {a₀ x:Array Keyed} (h:InA a₀ x) (i j:Nat):InA a₀ (x.extract i j):=fun p hp=>h p (by
 rw [Array.toList_extract] at hp
 exact List.mem_of_mem_drop (List.mem_of_mem_take hp))
section
variable {prog:Program} {w:World} {A:Around} {E:Value -> Shared -> Prop} {s:Shared} {a₀:Array Keyed} {M:Model}
theorem aAr {st:SortSt} {arr:Array Keyed} {i:Nat} {Q:Keyed->SortSt->Prop} (h:i < arr.size) (q:Q arr[i] st):wpS M A E s (elem' arr i) Q st:=by
 rw [elem'_eq,getElem?_pos arr i h]
 exact wpS_pure q
theorem SB.in {st:SortSt} (h:SB a₀ st):InA a₀ (arrOf st):=fun p hp=>(Array.perm_iff_toList_perm.mp h.perm).mem_iff.mp hp
theorem SB.sz {st:SortSt} (h:SB a₀ st):(arrOf st).size=a₀.size:=h.perm.size_eq
theorem SB.set {st:SortSt} (h:SB a₀ st) {xs:Array Keyed} (hp:xs.Perm (arrOf st)):SB a₀ (setArr st xs):=⟨hp.trans h.perm,h.kind,h.ok⟩
theorem aFq (HL:aNq prog w a₀) {st:SortSt} {i j:Nat} {Q:Option Bool->SortSt->Prop} (hB:SB a₀ st) (hi:i < a₀.size) (hj:j < a₀.size) (h:∀ b,Q (some b) st):wpS (model prog w) A E s (ltAt' i j) Q st:=by
 rw [ltAt'_eq]
 have hi':i < (arrOf st).size:=by rw [hB.sz]; exact hi
 have hj':j < (arrOf st).size:=by rw [hB.sz]; exact hj
 refine wpS_bind (wpS_get ?_)
 exact wpS_bind (aAr hi' (wpS_bind (aAr hj' (HL hB.kind (hB.in.at hi') (hB.in.at hj') h))))
theorem aDq (HL:aNq prog w a₀) {st:SortSt} {left:Bool} {key:Keyed} {arr:Array Keyed} {base n hint:Nat} {Q:Option Nat->SortSt->Prop} (hk:kindOf st=oneType') (hkey:key∈a₀.toList) (harr:InA a₀ arr) (hb:base+n<=arr.size) (hh:hint < n) (h:∀ k,k<=n->Q (some k) st):wpS (model prog w) A E s (gal left key arr base n hint) Q st:=by
 have bey:∀ i,i < n->∀ Q:Option Bool->SortSt->Prop,(∀ b,Q (some b) st)->wpS (model prog w) A E s (do
   let x ← elem' arr (base+i)
   if left=true then lt' x key else do
    let l ← lt' key x
    pure (Option.map (fun x=>!x) l)) Q st:=by
  intro i hi Q q
  have hi':base+i < arr.size:=by omega
  refine wpS_bind (aAr hi' ?_)
  split
  ·exact HL hk (harr.at hi') hkey q
  ·exact wpS_bind (HL hk hkey (harr.at hi') fun b=>wpS_pure (q _))
 refine wpS_bind (bey hint hh _ fun right=>?_)
 dsimp only
 cases right
 all_goals
  simp only [if_true,Bool.false_eq_true,if_false]
  refine wpS_bind (wpS_mono (wpS_forRange (I:=fun _ c st'=>st'=st/\∃ l o,c=(none,l,o)) (Q:=fun c st'=>st'=st/\∃ l o,c=(none,l,o)) ?_ (fun _ _ h=>h) ⟨rfl,0,1,rfl⟩) ?_)
  ·rintro x c st' _ _ ⟨rfl,l,o,rfl⟩
   dsimp only
   split
   ·exact wpS_pure ⟨rfl,l,o,rfl⟩
   ·refine wpS_bind (bey _ (by omega) _ fun more=>?_)
    dsimp only
    split <;> exact wpS_pure ⟨rfl,_,_,rfl⟩
  ·rintro c st' ⟨rfl,l,o,rfl⟩
   dsimp only
   refine wpS_bind (wpS_mono (wpS_forRange (I:=fun _ c st''=>st''=st'/\∃ l o,c=(none,l,o)/\o<=n) (Q:=fun c st''=>st''=st'/\∃ l o,c=(none,l,o)/\o<=n) ?_ (fun _ _ h=>h) ⟨rfl,_,_,rfl,by omega⟩) ?_)
   ·rintro x c st'' _ _ ⟨rfl,l,o,rfl,ho⟩
    dsimp only
    split
    ·exact wpS_pure ⟨rfl,l,o,rfl,ho⟩
    ·refine wpS_bind (bey _ (by omega) _ fun more=>?_)
     dsimp only
     split
     ·exact wpS_pure ⟨rfl,_,_,rfl,ho⟩
     ·exact wpS_pure ⟨rfl,_,_,rfl,by omega⟩
   ·rintro c st'' ⟨rfl,l,o,rfl,ho⟩
    exact wpS_pure (h _ ho)
structure SG (st st':SortSt):Prop where
 kind:kindOf st'=kindOf st
 arr:arrOf st'=arrOf st
 pend:pendingOf st'=pendingOf st
 ok:failedOf st'=failedOf st
theorem SG.refl (st:SortSt):SG st st:=⟨rfl,rfl,rfl,rfl⟩
theorem SG.gal {st st':SortSt} (h:SG st st') (g:Nat):SG st (SortSt.mk' (kindOf st') (arrOf st') (pendingOf st') g (failedOf st')):=⟨h.1,h.2,h.3,h.4⟩
theorem aDe (a:Array Keyed) (i:Nat):(a.extract i a.size).toList=a.toList.drop i:=by
 rw [Array.toList_extract]
 exact List.take_of_length_le (by simp)
theorem aFr (a:Array Keyed) (i k:Nat):(a.extract i (i+k)).toList=(a.toList.drop i).take k:=by
 rw [Array.toList_extract]
 show (a.toList.drop i).take (i+k - i)=_
 rw [Nat.add_sub_cancel_left]
noncomputable def MI (a b out:Array Keyed) (ia ib:Nat):Prop:=out.toList.Perm (a.toList.take ia++b.toList.take ib)
theorem aM4 {o X Y Z:List Keyed} (h:o.Perm (X++Y)):(o++Z).Perm ((X++Z)++Y):=by
 refine (h.append_right Z).trans ?_
 rw [List.append_assoc,List.append_assoc]
 exact List.perm_append_comm.append_left X
theorem aM3 {o X Y Z:List Keyed} (h:o.Perm (X++Y)):(o++Z).Perm (X++(Y++Z)):=by
 rw [← List.append_assoc]
 exact h.append_right Z
theorem MI.xa {a b out:Array Keyed} {ia ib:Nat} (h:MI a b out ia ib) (k:Nat):MI a b (out++a.extract ia (ia+k)) (ia+k) ib:=by
 unfold MI
 rw [Array.toList_append,aFr,List.take_add]
 exact aM4 h
theorem MI.xb {a b out:Array Keyed} {ia ib:Nat} (h:MI a b out ia ib) (k:Nat):MI a b (out++b.extract ib (ib+k)) ia (ib+k):=by
 unfold MI
 rw [Array.toList_append,aFr,List.take_add]
 exact aM3 h
theorem aIh {a:Array Keyed} {i:Nat} (hi:i < a.size):a.toList.take (i+1)=a.toList.take i++[a[i]]:=by
 rw [List.take_succ_eq_append_getElem (by simpa using hi)]
 rfl
theorem MI.pa {a b out:Array Keyed} {ia ib:Nat} (h:MI a b out ia ib) (hi:ia < a.size):MI a b (out.push a[ia]) (ia+1) ib:=by
 unfold MI
 rw [Array.toList_push,aIh hi]
 exact aM4 h
theorem MI.pb {a b out:Array Keyed} {ia ib:Nat} (h:MI a b out ia ib) (hi:ib < b.size):MI a b (out.push b[ib]) ia (ib+1):=by
 unfold MI
 rw [Array.toList_push,aIh hi]
 exact aM3 h
theorem MI.done {a b out:Array Keyed} {ia ib:Nat} (h:MI a b out ia ib):(out++a.extract ia a.size++b.extract ib b.size).toList.Perm (a.toList++b.toList):=by
 rw [Array.toList_append,Array.toList_append,aDe,aDe]
 have:=aM3 (Z:=b.toList.drop ib) (aM4 (Z:=a.toList.drop ia) h)
 rwa [List.take_append_drop,List.take_append_drop] at this
theorem MI.last {a b out:Array Keyed} {ia ib:Nat} (h:MI a b out ia ib):(out++b.extract ib b.size++a.extract ia a.size).toList.Perm (a.toList++b.toList):=by
 rw [Array.toList_append,Array.toList_append,aDe,aDe]
 have:=aM4 (Z:=a.toList.drop ia) (aM3 (Z:=b.toList.drop ib) h)
 rwa [List.take_append_drop,List.take_append_drop] at this
theorem aA8 {α:Type} {st:SortSt} {c:Prop} {i:Decidable c} {p q:StateT SortSt Sem α} {Q:α->SortSt->Prop} (h1:c->wpS M A E s p Q st) (h2:¬c->wpS M A E s q Q st):wpS M A E s (if c then p else q) Q st:=by
 split
 ·exact h1 ‹_›
 ·exact h2 ‹_›
theorem aA1 {α:Type} {st:SortSt} {x y:Nat} {i:Decidable ((x==y)=true)} {p q:StateT SortSt Sem α} {Q:α->SortSt->Prop} (h1:x=y->wpS M A E s p Q st) (h2:x≠y->wpS M A E s q Q st):wpS M A E s (if (x==y)=true then p else q) Q st:=by
 split
 ·exact h1 (eq_of_beq ‹(x==y)=true›)
 ·exact h2 (fun e=>‹¬(x==y)=true› (by rw [e]; exact beq_self_eq_true y))
theorem aU4 (HL:aNq prog w a₀) {st:SortSt} {a b:Array Keyed} {Q:Array Keyed->SortSt->Prop} (hk:kindOf st=oneType') (ha:InA a₀ a) (hb:InA a₀ b) (h1:0 < a.size) (h2:0 < b.size) (h:∀ r st',SG st st'->r.toList.Perm (a.toList++b.toList)->Q r st'):wpS (model prog w) A E s (mgL a b) Q st:=by
 refine wpS_bind (wpS_lift (wpAny_rule ⟨rfl,?_⟩))
 refine wpS_bind (aAr h2 ?_)
 dsimp only
 have m0:MI a b #[b[0]] 0 1:=by
  unfold MI
  rw [aIh h2]
  exact List.Perm.refl _
 refine aA1 (fun _=>?_) fun _=>?_
 ·exact wpS_pure (h _ _ (SG.refl _) m0.done)
 ·refine aA1 (fun _=>?_) fun _=>?_
  ·exact wpS_pure (h _ _ (SG.refl _) m0.last)
  ·rename_i n1 n2
   refine wpS_bind (wpS_get ?_)
   refine wpS_bind (wpS_mono (wpS_forRange
    (I:=fun j c st'=>SG st st'/\∃ out ia ib g,c=(none,out,ia,ib,g)/\MI a b out ia ib/\ia+1 < a.size/\ib < b.size/\j+1<=ia+ib)
    (Q:=fun c st'=>SG st st'/\∃ r x,c=(some r,x)/\r.toList.Perm (a.toList++b.toList)) ?step ?fin ⟨SG.refl _,_,0,1,_,rfl,m0,by omega,by omega,by omega⟩) ?post)
   case post =>
    rintro c st' ⟨g,r,x,rfl,hr⟩
    exact wpS_pure (h _ _ g hr)
   case fin =>
    rintro c st' ⟨g,out,ia,ib,_,rfl,_,q1,q2,q3⟩
    omega
   case step =>
    rintro j c st1 _ hj ⟨g1,out,ia,ib,mg,rfl,mi,q1,q2,q3⟩
    dsimp only
    refine wpS_bind (wpS_mono (wpS_forRange
     (I:=fun i c st'=>st'=st1/\∃ out ia' ib' x y,c=(none,out,ia',ib',x,y)/\MI a b out ia' ib'/\ia'+1 < a.size/\ib' < b.size/\ia+ib+i<=ia'+ib')
     (Q:=fun c st'=>st'=st1/\∃ out ia' ib' x y,(∃ r,c=(some r,out,ia',ib',x,y)/\r.toList.Perm (a.toList++b.toList))∨(c=(none,out,ia',ib',x,y)/\MI a b out ia' ib'/\ia'+1 < a.size/\ib' < b.size/\ia+ib+1<=ia'+ib')) ?s1 ?f1 ⟨rfl,out,ia,ib,_,_,rfl,mi,q1,q2,by omega⟩) ?p1)
    case f1 =>
     rintro c st' ⟨rfl,out,ia',ib',x,y,rfl,m,p1,p2,p3⟩
     exact ⟨rfl,out,ia',ib',x,y,.inr ⟨rfl,m,p1,p2,by omega⟩⟩
    case s1 =>
     rintro i c st' _ hi ⟨rfl,out,ia',ib',x,y,rfl,m,p1,p2,p3⟩
     dsimp only
     have p0:ia' < a.size:=by omega
     refine wpS_bind (aAr p2 (wpS_bind (aAr p0 (wpS_bind (HL (g1.kind.trans hk) (hb.at p2) (ha.at p0) fun bw=>?_)))))
     dsimp only
     split
     ·refine wpS_bind (aAr p2 ?_)
      refine aA1 (fun _=>?_) fun _=>?_
      ·exact wpS_pure ⟨rfl,_,_,_,_,_,.inl ⟨_,rfl,(m.pb p2).done⟩⟩
      ·split
       ·exact wpS_pure ⟨rfl,_,_,_,_,_,.inr ⟨rfl,m.pb p2,p1,by omega,by omega⟩⟩
       ·exact wpS_pure ⟨rfl,_,_,_,_,_,rfl,m.pb p2,p1,by omega,by omega⟩
     ·refine wpS_bind (aAr p0 ?_)
      refine aA1 (fun _=>?_) fun _=>?_
      ·exact wpS_pure ⟨rfl,_,_,_,_,_,.inl ⟨_,rfl,(m.pa p0).last⟩⟩
      ·split
       ·exact wpS_pure ⟨rfl,_,_,_,_,_,.inr ⟨rfl,m.pa p0,by omega,p2,by omega⟩⟩
       ·exact wpS_pure ⟨rfl,_,_,_,_,_,rfl,m.pa p0,by omega,p2,by omega⟩
    case p1 =>
     rintro c st' ⟨rfl,out,ia',ib',x,y,(⟨r,rfl,hr⟩ | ⟨rfl,m,p1,p2,p3⟩)⟩
     ·exact wpS_pure ⟨g1,r,_,rfl,hr⟩
     ·dsimp only
      refine wpS_bind (wpS_lift (wpAny_rule ⟨rfl,?_⟩))
      refine wpS_bind (wpS_mono (wpS_forRange
       (I:=fun i c st'=>SG st st'/\∃ out ia'' ib'' mg x y,c=(none,out,ia'',ib'',mg,x,y)/\MI a b out ia'' ib''/\ia''+1 < a.size/\ib'' < b.size/\ia'+ib'<=ia''+ib'')
       (Q:=fun c st'=>SG st st'/\∃ out ia'' ib'' mg x y,(∃ r,c=(some r,out,ia'',ib'',mg,x,y)/\r.toList.Perm (a.toList++b.toList))∨(c=(none,out,ia'',ib'',mg,x,y)/\MI a b out ia'' ib''/\ia''+1 < a.size/\ib'' < b.size/\ia'+ib'<=ia''+ib'')) ?s2 ?f2 ⟨g1,_,_,_,_,_,_,rfl,m,p1,p2,Nat.le_refl _⟩) ?p2)
      case f2 =>
       rintro c st' ⟨g2,out,i1,i2,mg,x,y,rfl,m,u1,u2,u3⟩
       exact ⟨g2,out,i1,i2,mg,x,y,.inr ⟨rfl,m,u1,u2,u3⟩⟩
      case p2 =>
       rintro c st' ⟨g2,out,i1,i2,mg,x,y,(⟨r,rfl,hr⟩ | ⟨rfl,m,u1,u2,u3⟩)⟩
       ·exact wpS_pure ⟨g2,r,_,rfl,hr⟩
       ·dsimp only
        refine wpS_bind (wpS_modify (wpS_pure ⟨g2.gal _,_,_,_,_,rfl,m,u1,u2,by omega⟩))
      case s2 =>
       rintro i c st2 _ hi ⟨g2,out,i1,i2,mg,x,y,rfl,m,u1,u2,u3⟩
       refine aA8 (fun _=>?_) fun _=>?_
       all_goals
        refine wpS_bind (wpS_modify ?_)
        refine wpS_bind (aAr u2 ?_)
        refine wpS_bind (aDq HL (g2.kind.trans hk) (hb.at u2) ha (by (try dsimp only at *); omega) (by (try dsimp only at *); omega) fun k hk1=>?_)
        refine aA8 (fun _=>?_) fun _=>?_
        ·refine aA1 (fun _=>?_) fun _=>?_
         ·exact wpS_pure ⟨g2.gal _,_,_,_,_,_,_,.inl ⟨_,rfl,(m.xa k).last⟩⟩
         ·refine aA1 (fun _=>?_) fun _=>?_
          ·exact wpS_pure ⟨g2.gal _,_,_,_,_,_,_,.inl ⟨_,rfl,(m.xa k).done⟩⟩
          ·refine wpS_bind (aAr u2 ?_)
           refine aA1 (fun _=>?_) fun _=>?_
           ·exact wpS_pure ⟨g2.gal _,_,_,_,_,_,_,.inl ⟨_,rfl,((m.xa k).pb u2).done⟩⟩
           ·have v1:i1+k < a.size:=by (try dsimp only at *); omega
            refine wpS_bind (aAr v1 ?_)
            refine wpS_bind (aDq HL (g2.kind.trans hk) (ha.at v1) hb (by (try dsimp only at *); omega) (by (try dsimp only at *); omega) fun k2 hk2=>?_)
            refine aA8 (fun _=>?_) fun _=>?_
            ·refine aA1 (fun _=>?_) fun _=>?_
             ·exact wpS_pure ⟨g2.gal _,_,_,_,_,_,_,.inl ⟨_,rfl,(((m.xa k).pb u2).xb k2).done⟩⟩
             ·refine wpS_bind (aAr v1 ?_)
              refine aA1 (fun _=>?_) fun _=>?_
              ·exact wpS_pure ⟨g2.gal _,_,_,_,_,_,_,.inl ⟨_,rfl,((((m.xa k).pb u2).xb k2).pa v1).last⟩⟩
              ·refine aA8 (fun _=>?_) fun _=>?_
               ·exact wpS_pure ⟨g2.gal _,_,_,_,_,_,_,.inr ⟨rfl,(((m.xa k).pb u2).xb k2).pa v1,by (try dsimp only at *); omega,by (try dsimp only at *); omega,by (try dsimp only at *); omega⟩⟩
               ·exact wpS_pure ⟨g2.gal _,_,_,_,_,_,_,rfl,(((m.xa k).pb u2).xb k2).pa v1,by (try dsimp only at *); omega,by (try dsimp only at *); omega,by (try dsimp only at *); omega⟩
            ·refine wpS_bind (aAr v1 ?_)
             refine aA1 (fun _=>?_) fun _=>?_
             ·exact wpS_pure ⟨g2.gal _,_,_,_,_,_,_,.inl ⟨_,rfl,(((m.xa k).pb u2).pa v1).last⟩⟩
             ·refine aA8 (fun _=>?_) fun _=>?_
              ·exact wpS_pure ⟨g2.gal _,_,_,_,_,_,_,.inr ⟨rfl,((m.xa k).pb u2).pa v1,by (try dsimp only at *); omega,by (try dsimp only at *); omega,by (try dsimp only at *); omega⟩⟩
              ·exact wpS_pure ⟨g2.gal _,_,_,_,_,_,_,rfl,((m.xa k).pb u2).pa v1,by (try dsimp only at *); omega,by (try dsimp only at *); omega,by (try dsimp only at *); omega⟩
        ·refine wpS_bind (aAr u2 ?_)
         refine aA1 (fun _=>?_) fun _=>?_
         ·exact wpS_pure ⟨g2.gal _,_,_,_,_,_,_,.inl ⟨_,rfl,(m.pb u2).done⟩⟩
         ·have v1:i1 < a.size:=by (try dsimp only at *); omega
          refine wpS_bind (aAr v1 ?_)
          refine wpS_bind (aDq HL (g2.kind.trans hk) (ha.at v1) hb (by (try dsimp only at *); omega) (by (try dsimp only at *); omega) fun k2 hk2=>?_)
          refine aA8 (fun _=>?_) fun _=>?_
          ·refine aA1 (fun _=>?_) fun _=>?_
           ·exact wpS_pure ⟨g2.gal _,_,_,_,_,_,_,.inl ⟨_,rfl,((m.pb u2).xb k2).done⟩⟩
           ·refine wpS_bind (aAr v1 ?_)
            refine aA1 (fun _=>?_) fun _=>?_
            ·exact wpS_pure ⟨g2.gal _,_,_,_,_,_,_,.inl ⟨_,rfl,(((m.pb u2).xb k2).pa v1).last⟩⟩
            ·refine aA8 (fun _=>?_) fun _=>?_
             ·exact wpS_pure ⟨g2.gal _,_,_,_,_,_,_,.inr ⟨rfl,((m.pb u2).xb k2).pa v1,by (try dsimp only at *); omega,by (try dsimp only at *); omega,by (try dsimp only at *); omega⟩⟩
             ·exact wpS_pure ⟨g2.gal _,_,_,_,_,_,_,rfl,((m.pb u2).xb k2).pa v1,by (try dsimp only at *); omega,by (try dsimp only at *); omega,by (try dsimp only at *); omega⟩
          ·refine wpS_bind (aAr v1 ?_)
           refine aA1 (fun _=>?_) fun _=>?_
           ·exact wpS_pure ⟨g2.gal _,_,_,_,_,_,_,.inl ⟨_,rfl,((m.pb u2).pa v1).last⟩⟩
           ·refine aA8 (fun _=>?_) fun _=>?_
            ·exact wpS_pure ⟨g2.gal _,_,_,_,_,_,_,.inr ⟨rfl,(m.pb u2).pa v1,by (try dsimp only at *); omega,by (try dsimp only at *); omega,by (try dsimp only at *); omega⟩⟩
            ·exact wpS_pure ⟨g2.gal _,_,_,_,_,_,_,rfl,(m.pb u2).pa v1,by (try dsimp only at *); omega,by (try dsimp only at *); omega,by (try dsimp only at *); omega⟩
noncomputable def MH (a b out:Array Keyed) (na nb:Nat):Prop:=out.toList.Perm (a.toList.drop na++b.toList.drop nb)
theorem aM2 {o X Y Z:List Keyed} (h:o.Perm (X++Y)):(o++Z).Perm ((Z++X)++Y):=by
 rw [List.append_assoc]
 exact List.perm_append_comm.trans (h.append_left Z)
theorem aP3 {o X Y Z:List Keyed} (h:o.Perm (X++Y)):(o++Z).Perm (X++(Z++Y)):=by
 rw [← List.append_assoc]
 exact (aM2 h).trans (List.perm_append_comm.append_right Y)
theorem aJn (a:Array Keyed) (n:Nat):(a.extract 0 n).toList=a.toList.take n:=by
 rw [Array.toList_extract]
 show (a.toList.drop 0).take (n - 0)=_
 rw [Nat.sub_zero,List.drop_zero]
theorem aGo (a:Array Keyed) {i n:Nat} (h:i<=n):a.toList.drop i=(a.extract i n).toList++a.toList.drop n:=by
 obtain ⟨k,rfl⟩:∃ k,n=i+k:=⟨n - i,by omega⟩
 rw [aFr,← List.drop_drop,List.take_append_drop]
theorem aI9 {a:Array Keyed} {i:Nat} (hi:i < a.size):a.toList.drop i=[a[i]]++a.toList.drop (i+1):=by
 rw [List.drop_eq_getElem_cons (by simpa using hi)]
 rfl
theorem MH.xa {a b out:Array Keyed} {na nb:Nat} (h:MH a b out na nb) {k:Nat} (hk:k<=na):MH a b (out++(a.extract k na).reverse) k nb:=by
 unfold MH
 rw [Array.toList_append,Array.toList_reverse,aGo a hk]
 exact ((List.reverse_perm _).append_left _).trans (aM2 h)
theorem MH.xb {a b out:Array Keyed} {na nb:Nat} (h:MH a b out na nb) {k:Nat} (hk:k<=nb):MH a b (out++(b.extract k nb).reverse) na k:=by
 unfold MH
 rw [Array.toList_append,Array.toList_reverse,aGo b hk]
 exact ((List.reverse_perm _).append_left _).trans (aP3 h)
theorem MH.pa {a b out:Array Keyed} {na nb:Nat} (h:MH a b out na nb) (h0:0 < na) (hi:na - 1 < a.size):MH a b (out.push a[na - 1]) (na - 1) nb:=by
 unfold MH
 rw [Array.toList_push,aI9 hi,Nat.sub_add_cancel h0]
 exact aM2 h
theorem MH.pb {a b out:Array Keyed} {na nb:Nat} (h:MH a b out na nb) (h0:0 < nb) (hi:nb - 1 < b.size):MH a b (out.push b[nb - 1]) na (nb - 1):=by
 unfold MH
 rw [Array.toList_push,aI9 hi,Nat.sub_add_cancel h0]
 exact aP3 h
theorem MH.done {a b out:Array Keyed} {na nb:Nat} (h:MH a b out na nb):(a.extract 0 na++b.extract 0 nb++out.reverse).toList.Perm (a.toList++b.toList):=by
 rw [Array.toList_append,Array.toList_append,aJn,aJn,Array.toList_reverse]
 have:=aM2 (Z:=a.toList.take na) (aP3 (Z:=b.toList.take nb) h)
 rw [List.take_append_drop,List.take_append_drop] at this
 refine List.Perm.trans ?_ this
 refine ((List.reverse_perm _).append_left _).trans (List.perm_append_comm.trans ?_)
 rw [List.append_assoc]
 exact List.perm_append_comm.append_left _
theorem MH.first {a b out:Array Keyed} {na nb:Nat} (h:MH a b out na nb):(b.extract 0 nb++a.extract 0 na++out.reverse).toList.Perm (a.toList++b.toList):=by
 refine List.Perm.trans ?_ h.done
 simp only [Array.toList_append]
 exact List.perm_append_comm.append_right _
theorem aU5 (HL:aNq prog w a₀) {st:SortSt} {a b:Array Keyed} {Q:Array Keyed->SortSt->Prop} (hk:kindOf st=oneType') (ha:InA a₀ a) (hb:InA a₀ b) (h1:0 < a.size) (h2:0 < b.size) (h:∀ r st',SG st st'->r.toList.Perm (a.toList++b.toList)->Q r st'):wpS (model prog w) A E s (mgH a b) Q st:=by
 refine wpS_bind (wpS_lift (wpAny_rule ⟨rfl,?_⟩))
 have w0:a.size - 1 < a.size:=by omega
 refine wpS_bind (aAr w0 ?_)
 have m0:MH a b #[a[a.size - 1]] (a.size - 1) b.size:=by
  unfold MH
  rw [aI9 w0,Nat.sub_add_cancel h1,List.drop_of_length_le (by simp),List.drop_of_length_le (by simp)]
  exact List.Perm.refl _
 dsimp only
 refine aA1 (fun _=>?_) fun _=>?_
 ·exact wpS_pure (h _ _ (SG.refl _) m0.done)
 ·refine aA1 (fun _=>?_) fun _=>?_
  ·exact wpS_pure (h _ _ (SG.refl _) m0.first)
  ·refine wpS_bind (wpS_get ?_)
   refine wpS_bind (wpS_mono (wpS_forRange
    (I:=fun j c st'=>SG st st'/\∃ na nb out g,c=(none,na,nb,out,g)/\MH a b out na nb/\0 < na/\na<=a.size/\1 < nb/\nb<=b.size/\na+nb+j+1<=a.size+b.size)
    (Q:=fun c st'=>SG st st'/\∃ r x,c=(some r,x)/\r.toList.Perm (a.toList++b.toList)) ?step ?fin ⟨SG.refl _,_,_,_,_,rfl,m0,by omega,by omega,by omega,by omega,by omega⟩) ?post)
   case post =>
    rintro c st' ⟨g,r,x,rfl,hr⟩
    exact wpS_pure (h _ _ g hr)
   case fin =>
    rintro c st' ⟨g,na,nb,out,_,rfl,_,q1,q2,q3,q4,q5⟩
    omega
   case step =>
    rintro j c st1 _ hj ⟨g1,na,nb,out,mg,rfl,mi,q1,q2,q3,q4,q5⟩
    dsimp only
    refine wpS_bind (wpS_mono (wpS_forRange
     (I:=fun i c st'=>st'=st1/\∃ na' nb' out x y,c=(none,na',nb',out,x,y)/\MH a b out na' nb'/\0 < na'/\na'<=a.size/\1 < nb'/\nb'<=b.size/\na'+nb'+i<=na+nb)
     (Q:=fun c st'=>st'=st1/\∃ na' nb' out x y,(∃ r,c=(some r,na',nb',out,x,y)/\r.toList.Perm (a.toList++b.toList))∨(c=(none,na',nb',out,x,y)/\MH a b out na' nb'/\0 < na'/\na'<=a.size/\1 < nb'/\nb'<=b.size/\na'+nb'+1<=na+nb)) ?s1 ?f1 ⟨rfl,na,nb,out,_,_,rfl,mi,q1,q2,q3,q4,by omega⟩) ?p1)
    case f1 =>
     rintro c st' ⟨rfl,na',nb',out,x,y,rfl,m,p1,p2,p3,p4,p5⟩
     exact ⟨rfl,na',nb',out,x,y,.inr ⟨rfl,m,p1,p2,p3,p4,by omega⟩⟩
    case s1 =>
     rintro i c st' _ hi ⟨rfl,na',nb',out,x,y,rfl,m,p1,p2,p3,p4,p5⟩
     dsimp only
     have p6:na' - 1 < a.size:=by omega
     have p7:nb' - 1 < b.size:=by omega
     refine wpS_bind (aAr p7 (wpS_bind (aAr p6 (wpS_bind (HL (g1.kind.trans hk) (hb.at p7) (ha.at p6) fun bw=>?_)))))
     dsimp only
     refine aA8 (fun _=>?_) fun _=>?_
     ·refine wpS_bind (aAr p6 ?_)
      refine aA1 (fun _=>?_) fun _=>?_
      ·exact wpS_pure ⟨rfl,_,_,_,_,_,.inl ⟨_,rfl,(m.pa p1 p6).done⟩⟩
      ·refine aA8 (fun _=>?_) fun _=>?_
       ·exact wpS_pure ⟨rfl,_,_,_,_,_,.inr ⟨rfl,m.pa p1 p6,by omega,by omega,p3,p4,by omega⟩⟩
       ·exact wpS_pure ⟨rfl,_,_,_,_,_,rfl,m.pa p1 p6,by omega,by omega,p3,p4,by omega⟩
     ·refine wpS_bind (aAr p7 ?_)
      refine aA1 (fun _=>?_) fun _=>?_
      ·exact wpS_pure ⟨rfl,_,_,_,_,_,.inl ⟨_,rfl,(m.pb (by omega) p7).first⟩⟩
      ·refine aA8 (fun _=>?_) fun _=>?_
       ·exact wpS_pure ⟨rfl,_,_,_,_,_,.inr ⟨rfl,m.pb (by omega) p7,p1,p2,by omega,by omega,by omega⟩⟩
       ·exact wpS_pure ⟨rfl,_,_,_,_,_,rfl,m.pb (by omega) p7,p1,p2,by omega,by omega,by omega⟩
    case p1 =>
     rintro c st' ⟨rfl,na',nb',out,x,y,(⟨r,rfl,hr⟩ | ⟨rfl,m,p1,p2,p3,p4,p5⟩)⟩
     ·exact wpS_pure ⟨g1,r,_,rfl,hr⟩
     ·dsimp only
      refine wpS_bind (wpS_lift (wpAny_rule ⟨rfl,?_⟩))
      refine wpS_bind (wpS_mono (wpS_forRange
       (I:=fun i c st'=>SG st st'/\∃ n1 n2 out mg x y,c=(none,n1,n2,out,mg,x,y)/\MH a b out n1 n2/\0 < n1/\n1<=a.size/\1 < n2/\n2<=b.size/\n1+n2<=na'+nb')
       (Q:=fun c st'=>SG st st'/\∃ n1 n2 out mg x y,(∃ r,c=(some r,n1,n2,out,mg,x,y)/\r.toList.Perm (a.toList++b.toList))∨(c=(none,n1,n2,out,mg,x,y)/\MH a b out n1 n2/\0 < n1/\n1<=a.size/\1 < n2/\n2<=b.size/\n1+n2<=na'+nb')) ?s2 ?f2 ⟨g1,_,_,_,_,_,_,rfl,m,p1,p2,p3,p4,Nat.le_refl _⟩) ?p2)
      case f2 =>
       rintro c st' ⟨g2,n1,n2,out,mg,x,y,rfl,m,u1,u2,u3,u4,u5⟩
       exact ⟨g2,n1,n2,out,mg,x,y,.inr ⟨rfl,m,u1,u2,u3,u4,u5⟩⟩
      case p2 =>
       rintro c st' ⟨g2,n1,n2,out,mg,x,y,(⟨r,rfl,hr⟩ | ⟨rfl,m,u1,u2,u3,u4,u5⟩)⟩
       ·exact wpS_pure ⟨g2,r,_,rfl,hr⟩
       ·dsimp only
        refine wpS_bind (wpS_modify (wpS_pure ⟨g2.gal _,_,_,_,_,rfl,m,u1,u2,u3,u4,by omega⟩))
      case s2 =>
       rintro i c st2 _ hi ⟨g2,n1,n2,out,mg,x,y,rfl,m,u1,u2,u3,u4,u5⟩
       refine aA8 (fun _=>?_) fun _=>?_
       all_goals
        refine wpS_bind (wpS_modify ?_)
        have u6:n2 - 1 < b.size:=by omega
        refine wpS_bind (aAr u6 ?_)
        refine wpS_bind (aDq HL (g2.kind.trans hk) (hb.at u6) ha (by (try dsimp only at *); omega) (by (try dsimp only at *); omega) fun k hk1=>?_)
        refine aA8 (fun _=>?_) fun _=>?_
        ·have m1:=m.xa hk1
         refine aA1 (fun _=>?_) fun _=>?_
         ·exact wpS_pure ⟨g2.gal _,_,_,_,_,_,_,.inl ⟨_,rfl,m1.done⟩⟩
         ·refine wpS_bind (aAr u6 ?_)
          have m2:=m1.pb (by omega) u6
          refine aA1 (fun _=>?_) fun _=>?_
          ·exact wpS_pure ⟨g2.gal _,_,_,_,_,_,_,.inl ⟨_,rfl,m2.first⟩⟩
          ·have v1:k - 1 < a.size:=by (try dsimp only at *); omega
           refine wpS_bind (aAr v1 ?_)
           refine wpS_bind (aDq HL (g2.kind.trans hk) (ha.at v1) hb (by (try dsimp only at *); omega) (by (try dsimp only at *); omega) fun k2 hk2=>?_)
           refine aA8 (fun _=>?_) fun _=>?_
           ·have m3:=m2.xb hk2
            refine aA1 (fun _=>?_) fun _=>?_
            ·exact wpS_pure ⟨g2.gal _,_,_,_,_,_,_,.inl ⟨_,rfl,m3.first⟩⟩
            ·refine aA1 (fun _=>?_) fun _=>?_
             ·exact wpS_pure ⟨g2.gal _,_,_,_,_,_,_,.inl ⟨_,rfl,m3.done⟩⟩
             ·refine wpS_bind (aAr v1 ?_)
              have m4:=m3.pa (by (try dsimp only at *); omega) v1
              refine aA1 (fun _=>?_) fun _=>?_
              ·exact wpS_pure ⟨g2.gal _,_,_,_,_,_,_,.inl ⟨_,rfl,m4.done⟩⟩
              ·refine aA8 (fun _=>?_) fun _=>?_
               ·exact wpS_pure ⟨g2.gal _,_,_,_,_,_,_,.inr ⟨rfl,m4,by (try dsimp only at *); omega,by (try dsimp only at *); omega,by (try dsimp only at *); omega,by (try dsimp only at *); omega,by (try dsimp only at *); omega⟩⟩
               ·exact wpS_pure ⟨g2.gal _,_,_,_,_,_,_,rfl,m4,by (try dsimp only at *); omega,by (try dsimp only at *); omega,by (try dsimp only at *); omega,by (try dsimp only at *); omega,by (try dsimp only at *); omega⟩
           ·refine wpS_bind (aAr v1 ?_)
            have m4:=m2.pa (by (try dsimp only at *); omega) v1
            refine aA1 (fun _=>?_) fun _=>?_
            ·exact wpS_pure ⟨g2.gal _,_,_,_,_,_,_,.inl ⟨_,rfl,m4.done⟩⟩
            ·refine aA8 (fun _=>?_) fun _=>?_
             ·exact wpS_pure ⟨g2.gal _,_,_,_,_,_,_,.inr ⟨rfl,m4,by (try dsimp only at *); omega,by (try dsimp only at *); omega,by (try dsimp only at *); omega,by (try dsimp only at *); omega,by (try dsimp only at *); omega⟩⟩
             ·exact wpS_pure ⟨g2.gal _,_,_,_,_,_,_,rfl,m4,by (try dsimp only at *); omega,by (try dsimp only at *); omega,by (try dsimp only at *); omega,by (try dsimp only at *); omega,by (try dsimp only at *); omega⟩
        ·refine wpS_bind (aAr u6 ?_)
         have m2:=m.pb (by omega) u6
         refine aA1 (fun _=>?_) fun _=>?_
         ·exact wpS_pure ⟨g2.gal _,_,_,_,_,_,_,.inl ⟨_,rfl,m2.first⟩⟩
         ·have v1:n1 - 1 < a.size:=by (try dsimp only at *); omega
          refine wpS_bind (aAr v1 ?_)
          refine wpS_bind (aDq HL (g2.kind.trans hk) (ha.at v1) hb (by (try dsimp only at *); omega) (by (try dsimp only at *); omega) fun k2 hk2=>?_)
          refine aA8 (fun _=>?_) fun _=>?_
          ·have m3:=m2.xb hk2
           refine aA1 (fun _=>?_) fun _=>?_
           ·exact wpS_pure ⟨g2.gal _,_,_,_,_,_,_,.inl ⟨_,rfl,m3.first⟩⟩
           ·refine aA1 (fun _=>?_) fun _=>?_
            ·exact wpS_pure ⟨g2.gal _,_,_,_,_,_,_,.inl ⟨_,rfl,m3.done⟩⟩
            ·refine wpS_bind (aAr v1 ?_)
             have m4:=m3.pa (by (try dsimp only at *); omega) v1
             refine aA1 (fun _=>?_) fun _=>?_
             ·exact wpS_pure ⟨g2.gal _,_,_,_,_,_,_,.inl ⟨_,rfl,m4.done⟩⟩
             ·refine aA8 (fun _=>?_) fun _=>?_
              ·exact wpS_pure ⟨g2.gal _,_,_,_,_,_,_,.inr ⟨rfl,m4,by (try dsimp only at *); omega,by (try dsimp only at *); omega,by (try dsimp only at *); omega,by (try dsimp only at *); omega,by (try dsimp only at *); omega⟩⟩
              ·exact wpS_pure ⟨g2.gal _,_,_,_,_,_,_,rfl,m4,by (try dsimp only at *); omega,by (try dsimp only at *); omega,by (try dsimp only at *); omega,by (try dsimp only at *); omega,by (try dsimp only at *); omega⟩
          ·refine wpS_bind (aAr v1 ?_)
           have m4:=m2.pa (by (try dsimp only at *); omega) v1
           refine aA1 (fun _=>?_) fun _=>?_
           ·exact wpS_pure ⟨g2.gal _,_,_,_,_,_,_,.inl ⟨_,rfl,m4.done⟩⟩
           ·refine aA8 (fun _=>?_) fun _=>?_
            ·exact wpS_pure ⟨g2.gal _,_,_,_,_,_,_,.inr ⟨rfl,m4,by (try dsimp only at *); omega,by (try dsimp only at *); omega,by (try dsimp only at *); omega,by (try dsimp only at *); omega,by (try dsimp only at *); omega⟩⟩
            ·exact wpS_pure ⟨g2.gal _,_,_,_,_,_,_,rfl,m4,by (try dsimp only at *); omega,by (try dsimp only at *); omega,by (try dsimp only at *); omega,by (try dsimp only at *); omega,by (try dsimp only at *); omega⟩
theorem aU3 {σ:Type} {x st:σ} {Q:PUnit->σ->Prop} (h:Q ⟨⟩ x):wpS M A E s (set x:StateT σ Sem PUnit) Q st:=by
 unfold wpS
 rw [StateT.run_set]
 exact wpAny_pure ⟨rfl,h⟩
noncomputable abbrev Pn:=Nat×Nat×Nat
noncomputable def Chn:List Pn->Nat->Nat->Prop
 | [],b,e=>b=e
 | x::r,b,e=>x.1=b/\0 < x.2.1/\Chn r (b+x.2.1) e
theorem Chn.le:∀ {l:List Pn} {b e:Nat},Chn l b e->b<=e
 | [],_,_,h=>Nat.le_of_eq h
 | _::_,_,_,⟨_,_,h⟩=>by
  have:=h.le
  omega
theorem Chn.add:∀ {l:List Pn} {b e n q:Nat},Chn l b e->0 < n->Chn (l++[(e,n,q)]) b (e+n)
 | [],b,e,n,q,h,hn=>by
  cases h
  exact ⟨rfl,hn,rfl⟩
 | _::_,_,_,_,_,⟨h1,h2,h⟩,hn=>⟨h1,h2,h.add hn⟩
theorem Chn.at:∀ {l:List Pn} {b e i:Nat} {x y:Pn},Chn l b e->l[i]?=some x->l[i+1]?=some y->y.1=x.1+x.2.1/\0 < x.2.1/\0 < y.2.1/\y.1+y.2.1<=e/\Chn ((l.set i (x.1,x.2.1+y.2.1,x.2.2)).eraseIdx (i+1)) b e
 | [],_,_,_,_,_,_,h1,_=>by simp at h1
 | [_],_,_,0,_,_,_,_,h2=>by simp at h2
 | u::v::r,b,e,0,x,y,⟨p1,p2,q1,q2,h⟩,h1,h2=>by
  simp only [List.getElem?_cons_zero,Option.some.injEq] at h1
  simp only [List.getElem?_cons_succ,List.getElem?_cons_zero,Option.some.injEq] at h2
  subst h1 h2
  have:=h.le
  refine ⟨by omega,p2,q2,by omega,p1,Nat.add_pos_left p2 _,?_⟩
  show Chn r _ e
  rw [← Nat.add_assoc]
  exact h
 | u::r,b,e,i+1,x,y,⟨p1,p2,h⟩,h1,h2=>by
  rw [List.getElem?_cons_succ] at h1 h2
  obtain ⟨a1,a2,a3,a4,a5⟩:=h.at h1 h2
  exact ⟨a1,a2,a3,a4,p1,p2,a5⟩
theorem Chn.mod:∀ {l:List Pn} {b e:Nat} (i pw:Nat),Chn l b e->Chn (l.modify i fun x=>(x.1,x.2.1,pw)) b e
 | [],_,_,0,_,h=>h
 | [],_,_,_+1,_,h=>h
 | _::_,_,_,0,_,h=>h
 | _::_,_,_,i+1,pw,⟨h1,h2,h⟩=>⟨h1,h2,h.mod i pw⟩
theorem aPf {l:List Keyed} {i:Nat} (h:i < l.length) (y:Keyed):l.set i y=l.take i++y::l.drop (i+1):=by
 rw [List.set_eq_take_append_cons_drop,if_pos h]
theorem fill:∀ (ys:List Keyed) (arr:Array Keyed) (b k:Nat),b+k+ys.length<=arr.size->((ys.zipIdx k).foldl (fun a x=>match x with | (p,j)=>a.setIfInBounds (b+j) p) arr).toList=arr.toList.take (b+k)++ys++arr.toList.drop (b+k+ys.length)
 | [],arr,b,k,_=>by simp
 | y::ys,arr,b,k,h=>by
  rw [List.length_cons] at h
  rw [List.zipIdx_cons,List.foldl_cons]
  refine (fill ys (arr.setIfInBounds (b+k) y) b (k+1) (by rw [Array.size_setIfInBounds]; omega)).trans ?_
  have hl:b+k < arr.toList.length:=by rw [Array.length_toList]; omega
  have hl2:(arr.toList.take (b+k)).length=b+k:=by rw [List.length_take]; omega
  have e1:(arr.toList.take (b+k)++y::arr.toList.drop (b+k+1)).take (b+(k+1))=arr.toList.take (b+k)++[y]:=by
   rw [List.take_append,hl2,List.take_of_length_le (by omega),show b+(k+1) - (b+k)=1 by omega]
   rfl
  have e2:(arr.toList.take (b+k)++y::arr.toList.drop (b+k+1)).drop (b+(k+1)+ys.length)=arr.toList.drop (b+k+(ys.length+1)):=by
   rw [List.drop_append,hl2,List.drop_of_length_le (by omega),show b+(k+1)+ys.length - (b+k)=ys.length+1 by omega,List.drop_succ_cons,List.drop_drop,List.nil_append]
   congr 1
   omega
  rw [Array.toList_setIfInBounds,aPf hl,e1,e2,List.length_cons,List.append_assoc,List.append_assoc,List.append_assoc]
  rfl
theorem aRd {arr m:Array Keyed} {i j k:Nat} (h1:i<=j) (h2:j<=k) (h3:k<=arr.size) (hp:m.toList.Perm ((arr.extract i j).toList++(arr.extract j k).toList)):(m.toList.zipIdx.foldl (fun a x=>match x with | (p,l)=>a.setIfInBounds (i+l) p) arr).Perm arr:=by
 rw [Array.perm_iff_toList_perm]
 have hl:m.toList.length=k - i:=by
  rw [hp.length_eq,List.length_append]
  simp only [Array.length_toList,Array.size_extract]
  omega
 have e:=fill m.toList arr i 0 (by omega)
 rw [show m.toList.zipIdx=m.toList.zipIdx 0 from rfl,e,Nat.add_zero,hl,show i+(k - i)=k by omega,List.append_assoc]
 have e2:arr.toList=arr.toList.take i++(((arr.extract i j).toList++(arr.extract j k).toList)++arr.toList.drop k):=by
  rw [List.append_assoc,← aGo arr h2,← aGo arr h1,List.take_append_drop]
 conv=>rhs; rw [e2]
 exact (hp.append_right _).append_left _
theorem aK8 (HL:aNq prog w a₀) {st:SortSt} {i e:Nat} {Q:Bool->SortSt->Prop} (hB:SB a₀ st) (hc:Chn (pendingOf st).toList 0 e) (he:e<=a₀.size) (hi:i+1 < (pendingOf st).size) (h:∀ st',SB a₀ st'->Chn (pendingOf st').toList 0 e->Q true st'):wpS (model prog w) A E s (mergeAt' i) Q st:=by
 obtain ⟨⟨sa,na,pw⟩,e1⟩:∃ x,(pendingOf st)[i]?=some x:=⟨_,getElem?_pos _ i (by omega)⟩
 obtain ⟨⟨sb,nb,pv⟩,e2⟩:∃ x,(pendingOf st)[i+1]?=some x:=⟨_,getElem?_pos _ (i+1) hi⟩
 obtain ⟨c1,c2,c3,c4,c5⟩:=hc.at (i:=i) (by rw [Array.getElem?_toList]; exact e1) (by rw [Array.getElem?_toList]; exact e2)
 dsimp only at c1 c2 c3 c4 c5
 have hsz:=hB.sz
 refine wpS_bind (wpS_get ?_)
 simp only [e1,e2]
 refine wpS_bind (aU3 ?_)
 have c6:Chn (((pendingOf st).setIfInBounds i (sa,na+nb,pw)).eraseIdxIfInBounds (i+1)).toList 0 e:=by
  rw [Array.toList_eraseIdxIfInBounds,Array.toList_setIfInBounds]
  exact c5
 have u1:sb < (arrOf st).size:=by omega
 refine wpS_bind (aAr u1 ?_)
 refine wpS_bind (aDq (arr:=arrOf st) HL hB.kind (hB.in.at u1) hB.in (by omega) c2 fun k hk=>?_)
 dsimp only
 refine aA1 (fun _=>wpS_pure (h _ ⟨hB.perm,hB.kind,hB.ok⟩ c6)) fun _=>?_
 have u2:sa+k+(na - k) - 1 < (arrOf st).size:=by omega
 refine wpS_bind (aAr u2 ?_)
 refine wpS_bind (aDq (arr:=arrOf st) HL hB.kind (hB.in.at u2) hB.in (by omega) (by omega) fun k2 hk2=>?_)
 dsimp only
 refine aA1 (fun _=>wpS_pure (h _ ⟨hB.perm,hB.kind,hB.ok⟩ c6)) fun _=>?_
 have fin:∀ (r:Array Keyed) (st':SortSt),SG (SortSt.mk' (kindOf st) (arrOf st) (((pendingOf st).setIfInBounds i (sa,na+nb,pw)).eraseIdxIfInBounds (i+1)) (gallopOf st) (failedOf st)) st'->r.toList.Perm (((arrOf st).extract (sa+k) sb).toList++((arrOf st).extract sb (sb+k2)).toList)->SB a₀ (SortSt.mk' (kindOf st') (r.toList.zipIdx.foldl (fun a x=>match x with | (p,l)=>a.setIfInBounds (sa+k+l) p) (arrOf st')) (pendingOf st') (gallopOf st') (failedOf st'))/\Chn (pendingOf st').toList 0 e:=by
  intro r st' g hp
  refine ⟨⟨?_,g.kind.trans hB.kind,g.ok.trans hB.ok⟩,?_⟩
  ·have e3:arrOf st'=arrOf st:=g.arr
   show (List.foldl _ (arrOf st') _).Perm a₀
   rw [e3]
   exact (aRd (by omega) (by omega) (by omega) hp).trans hB.perm
  ·have e3:pendingOf st'=_:=g.pend
   rw [e3]
   exact c6
 have z1:0 < ((arrOf st).extract (sa+k) sb).size:=by rw [Array.size_extract]; omega
 have z2:0 < ((arrOf st).extract sb (sb+k2)).size:=by rw [Array.size_extract]; omega
 refine aA8 (fun _=>?_) fun _=>?_
 ·refine wpS_bind (aU4 HL hB.kind (hB.in.ext _ _) (hB.in.ext _ _) z1 z2 fun r st' g hp=>?_)
  obtain ⟨f1,f2⟩:=fin r st' g hp
  refine wpS_bind (wpS_modify (wpS_bind (wpS_get (wpS_pure ?_))))
  have:=h _ f1 f2
  rw [← show (failedOf st').isNone=true by rw [show failedOf st'=none from f1.ok]; rfl] at this
  exact this
 ·refine wpS_bind (aU5 HL hB.kind (hB.in.ext _ _) (hB.in.ext _ _) z1 z2 fun r st' g hp=>?_)
  obtain ⟨f1,f2⟩:=fin r st' g hp
  refine wpS_bind (wpS_modify (wpS_bind (wpS_get (wpS_pure ?_))))
  have:=h _ f1 f2
  rw [← show (failedOf st').isNone=true by rw [show failedOf st'=none from f1.ok]; rfl] at this
  exact this
theorem aU6 (HL:aNq prog w a₀) {st:SortSt} {lo nrem:Nat} {Q:Option Nat->SortSt->Prop} (hB:SB a₀ st) (hn:lo+nrem<=a₀.size) (h1:1<=nrem) (h:∀ m st',SB a₀ st'->pendingOf st'=pendingOf st->1<=m->m<=nrem->Q (some m) st'):wpS (model prog w) A E s (countRun' lo nrem) Q st:=by
 refine wpS_bind (wpS_mono (wpS_forRange (I:=fun x c st'=>st'=st/\c=(none,x)) (Q:=fun c st'=>st'=st/\∃ x,c=(none,x)/\1<=x/\x<=nrem) ?_ ?_ ⟨rfl,rfl⟩) ?_)
 ·rintro x c st' h3 h4 ⟨rfl,rfl⟩
  refine wpS_bind (aFq HL hB (by (try dsimp only at *); omega) (by (try dsimp only at *); omega) fun b=>?_)
  refine aA8 (fun _=>?_) fun _=>?_
  ·exact wpS_pure ⟨rfl,x,rfl,h3,by omega⟩
  ·exact wpS_pure ⟨rfl,rfl⟩
 ·rintro c st' ⟨rfl,rfl⟩
  exact ⟨rfl,_,rfl,by omega,by omega⟩
 ·rintro c st' ⟨rfl,n,rfl,h3,h4⟩
  refine aA1 (fun _=>wpS_pure (h _ _ hB rfl h3 h4)) fun h5=>?_
  dsimp only at h5
  have mir:∀ {st1:SortSt} (i j:Nat),SB a₀ st1/\pendingOf st1=pendingOf st'->SB a₀ (setArr st1 (mirror (arrOf st1) i j ((j - i) / 2)))/\pendingOf (setArr st1 (mirror (arrOf st1) i j ((j - i) / 2)))=pendingOf st':=fun i j q=>⟨q.1.set (mirror_perm _ _ _ _),q.2⟩
  refine aA8 (fun _=>?_) fun _=>?_
  rotate_right
  all_goals
   try
    refine wpS_bind (aFq HL hB (by (try dsimp only at *); omega) (by (try dsimp only at *); omega) fun b=>?_)
    refine aA8 (fun _=>wpS_pure (h _ _ hB rfl h3 h4)) fun _=>?_
    refine wpS_bind (wpS_reverse ?_)
   refine wpS_bind (wpS_lift (wpAny_rule ⟨rfl,?_⟩))
   refine wpS_bind (wpS_mono (wpS_forRange (I:=fun x c st1=>(SB a₀ st1/\pendingOf st1=pendingOf st')/\∃ q,c=(none,x,q)) (Q:=fun c st1=>(SB a₀ st1/\pendingOf st1=pendingOf st')/\∃ x q,c=(none,x,q)/\1<=x/\x<=nrem) ?_ ?_ ⟨by first | exact mir _ _ ⟨hB,rfl⟩ | exact ⟨hB,rfl⟩,_,rfl⟩) ?_)
   ·rintro x c st1 h6 h7 ⟨g1,q,rfl⟩
    refine wpS_bind (aFq HL g1.1 (by (try dsimp only at *); omega) (by (try dsimp only at *); omega) fun b=>?_)
    refine aA8 (fun _=>?_) fun _=>?_
    ·refine aA8 (fun _=>?_) fun _=>?_
     ·exact wpS_bind (wpS_reverse (wpS_pure ⟨mir _ _ g1,_,rfl⟩))
     ·exact wpS_pure ⟨g1,_,rfl⟩
    ·refine wpS_bind (aFq HL g1.1 (by (try dsimp only at *); omega) (by (try dsimp only at *); omega) fun b=>?_)
     refine aA8 (fun _=>?_) fun _=>?_
     ·exact wpS_pure ⟨g1,x,_,rfl,by (try dsimp only at *); omega,by omega⟩
     ·exact wpS_pure ⟨g1,_,rfl⟩
   ·rintro c st1 ⟨g1,q,rfl⟩
    exact ⟨g1,_,_,rfl,by (try dsimp only at *); omega,by (try dsimp only at *); omega⟩
   ·rintro c st1 ⟨g1,x,q,rfl,h6,h7⟩
    refine aA8 (fun _=>?_) fun _=>?_
    rotate_right
    all_goals
     refine wpS_bind (wpS_reverse ?_)
     try refine wpS_bind (wpS_reverse ?_)
     refine wpS_bind (wpS_mono (wpS_forRange (I:=fun x c st2=>(SB a₀ st2/\pendingOf st2=pendingOf st')/\c=(none,x)) (Q:=fun c st2=>(SB a₀ st2/\pendingOf st2=pendingOf st')/\∃ x,c=(none,x)/\1<=x/\x<=nrem) ?_ ?_ ⟨by first | exact mir _ _ (mir _ _ g1) | exact mir _ _ g1,rfl⟩) ?_)
     ·rintro y c st2 h8 h9 ⟨g2,rfl⟩
      refine wpS_bind (aFq HL g2.1 (by (try dsimp only at *); omega) (by (try dsimp only at *); omega) fun b=>?_)
      refine aA8 (fun _=>?_) fun _=>?_
      ·exact wpS_pure ⟨g2,_,rfl,by (try dsimp only at *); omega,by omega⟩
      ·exact wpS_pure ⟨g2,rfl⟩
     ·rintro c st2 ⟨g2,rfl⟩
      exact ⟨g2,_,rfl,by (try dsimp only at *); omega,by (try dsimp only at *); omega⟩
     ·rintro c st2 ⟨g2,y,rfl,h8,h9⟩
      exact wpS_pure (h _ _ g2.1 g2.2 h8 h9)
theorem aU7 (HL:aNq prog w a₀) {st:SortSt} {lo n ok:Nat} {Q:Bool->SortSt->Prop} (hB:SB a₀ st) (hn:lo+n<=a₀.size) (h:∀ st',SB a₀ st'->pendingOf st'=pendingOf st->Q true st'):wpS (model prog w) A E s (binarySort' lo n ok) Q st:=by
 refine wpS_bind (wpS_mono (wpS_forRange (I:=fun k c st'=>c=(none,())/\SB a₀ st'/\pendingOf st'=pendingOf st) (Q:=fun c st'=>c=(none,())/\SB a₀ st'/\pendingOf st'=pendingOf st) ?_ (fun _ _ h=>h) ⟨rfl,hB,rfl⟩) ?_)
 ·rintro k c st1 h1 h2 ⟨rfl,g1,g2⟩
  refine wpS_bind (wpS_mono (wpS_forRange (I:=fun x c st2=>st2=st1/\∃ l r,c=(none,l,r)/\r<=k) (Q:=fun c st2=>st2=st1/\∃ l r,c=(none,l,r)) ?_ ?_ ⟨rfl,_,_,rfl,Nat.le_refl _⟩) ?_)
  ·rintro x c st2 _ _ ⟨rfl,l,r,rfl,hr⟩
   refine aA8 (fun _=>wpS_pure ⟨rfl,_,_,rfl⟩) fun _=>?_
   refine wpS_bind (aFq HL g1 (by (try dsimp only at *); omega) (by (try dsimp only at *); omega) fun b=>?_)
   refine aA8 (fun _=>?_) fun _=>?_
   ·exact wpS_pure ⟨rfl,_,_,rfl,by (try dsimp only at *); omega⟩
   ·exact wpS_pure ⟨rfl,_,_,rfl,hr⟩
  ·rintro c st2 ⟨rfl,l,r,rfl,_⟩
   exact ⟨rfl,l,r,rfl⟩
  ·rintro c st2 ⟨rfl,l,r,rfl⟩
   exact wpS_bind (wpS_modify (wpS_pure ⟨rfl,g1.set (bubble_perm _ _ _),g2⟩))
 ·rintro c st1 ⟨rfl,g1,g2⟩
  exact wpS_pure (h _ g1 g2)
theorem bBe {c:Prop} {i:Decidable c} {n:Nat} (h:1 < n):(if c then n - 2 - 1 else n - 2)+1 < n:=by
 split <;> omega
theorem aU2 (HL:aNq prog w a₀) {st:SortSt} {Q:Unit->SortSt->Prop} (hB:SB a₀ st) (hp:pendingOf st=#[]) (h:∀ st',SB a₀ st'->Q () st'):wpS (model prog w) A E s sortRuns' Q st:=by
 refine wpS_bind (wpS_get ?_)
 have hsz:=hB.sz
 refine wpS_bind (wpS_mono (wpS_forRange (I:=fun x c st'=>∃ lo,c=(none,lo)/\SB a₀ st'/\Chn (pendingOf st').toList 0 lo/\lo<=a₀.size) (Q:=fun c st'=>∃ lo,c=(none,lo)/\SB a₀ st'/\Chn (pendingOf st').toList 0 lo/\lo<=a₀.size) ?_ (fun _ _ h=>h) ⟨_,rfl,hB,by rw [hp]; rfl,Nat.zero_le _⟩) ?_)
 ·rintro x c st1 _ _ ⟨lo,rfl,g1,g2,g3⟩
  have hsz1:=g1.sz
  refine aA8 (fun _=>wpS_pure ⟨lo,rfl,g1,g2,g3⟩) fun h1=>?_
  have h1':lo < (arrOf st).size:=Nat.lt_of_not_le h1
  refine wpS_bind (aU6 HL g1 (lo:=lo) (nrem:=(arrOf st).size - lo) (by omega) (by omega) fun m st2 g4 g5 g6 g7=>?_)
  have fin:∀ (n:Nat) (st3:SortSt),SB a₀ st3->Chn (pendingOf st3).toList 0 lo->0 < n->lo+n<=a₀.size->∃ lo',((none:Option Unit),lo+n)=(none,lo')/\SB a₀ (setPending st3 ((pendingOf st3).push (lo,n,0)))/\Chn (pendingOf (setPending st3 ((pendingOf st3).push (lo,n,0)))).toList 0 lo'/\lo'<=a₀.size:=by
   intro n st3 k1 k2 k3 k4
   refine ⟨lo+n,rfl,⟨k1.perm,k1.kind,k1.ok⟩,?_,k4⟩
   show Chn ((pendingOf st3).push (lo,n,0)).toList 0 (lo+n)
   rw [Array.toList_push]
   exact k2.add k3
  refine aA8 (fun h2=>?_) fun h2=>?_
  ·refine wpS_bind (wpS_lift (wpAny_rule ⟨rfl,?_⟩))
   have z1:lo+min ((arrOf st).size - lo) (minRun' (arrOf st).size (arrOf st).size 0)<=a₀.size:=by omega
   have z2:0 < min ((arrOf st).size - lo) (minRun' (arrOf st).size (arrOf st).size 0):=by
    have:m < minRun' (arrOf st).size (arrOf st).size 0:=h2
    omega
   refine wpS_bind (aU7 HL g4 z1 fun st3 g8 g9=>?_)
   refine aA8 (fun q=>nomatch q) fun _=>?_
   have g10:Chn (pendingOf st3).toList 0 lo:=by
    rw [g9,g5]
    exact g2
   refine wpS_bind (wpS_get ?_)
   dsimp only
   cases hb:(pendingOf st3).back? with
   | none=>exact wpS_bind (wpS_modify (wpS_pure (fin _ _ g8 g10 z2 z1)))
   | some t =>
    obtain ⟨s1,n1,q⟩:=t
    dsimp only
    refine wpS_bind (wpS_mono (wpS_forRange (I:=fun _ c st'=>c=(none,())/\SB a₀ st'/\Chn (pendingOf st').toList 0 lo) (Q:=fun c st'=>c=(none,())/\SB a₀ st'/\Chn (pendingOf st').toList 0 lo) ?_ (fun _ _ h=>h) ⟨rfl,g8,g10⟩) ?_)
    ·rintro y c st4 _ _ ⟨rfl,k1,k2⟩
     refine wpS_bind (wpS_get ?_)
     try dsimp only
     by_cases hs:(pendingOf st4).size > 1
     ·obtain ⟨⟨s2,n2,older⟩,e⟩:∃ x,(pendingOf st4)[(pendingOf st4).size - 2]?=some x:=⟨_,getElem?_pos _ _ (by omega)⟩
      rw [if_pos hs,e]
      dsimp only
      refine aA8 (fun _=>wpS_pure ⟨rfl,k1,k2⟩) fun _=>?_
      refine wpS_bind (aK8 HL k1 k2 g3 (by show (pendingOf st4).size - 2+1 < (pendingOf st4).size; omega) fun st5 k3 k4=>?_)
      exact wpS_pure ⟨rfl,k3,k4⟩
     ·rw [if_neg hs]
      exact wpS_pure ⟨rfl,k1,k2⟩
    ·rintro c st4 ⟨rfl,k1,k2⟩
     dsimp only
     refine wpS_bind (wpS_modify (wpS_bind (wpS_modify (wpS_pure (fin _ _ ⟨k1.perm,k1.kind,k1.ok⟩ ?_ z2 z1)))))
     show Chn ((pendingOf st4).modify ((pendingOf st4).size - 1) _).toList 0 lo
     rw [Array.toList_modify]
     exact k2.mod _ _
  ·have g10:Chn (pendingOf st2).toList 0 lo:=by
    rw [g5]
    exact g2
   have z2:0 < m:=by omega
   have z1:lo+m<=a₀.size:=by omega
   refine wpS_bind (wpS_get ?_)
   dsimp only
   cases hb:(pendingOf st2).back? with
   | none=>exact wpS_bind (wpS_modify (wpS_pure (fin _ _ g4 g10 z2 z1)))
   | some t =>
    obtain ⟨s1,n1,q⟩:=t
    dsimp only
    refine wpS_bind (wpS_mono (wpS_forRange (I:=fun _ c st'=>c=(none,())/\SB a₀ st'/\Chn (pendingOf st').toList 0 lo) (Q:=fun c st'=>c=(none,())/\SB a₀ st'/\Chn (pendingOf st').toList 0 lo) ?_ (fun _ _ h=>h) ⟨rfl,g4,g10⟩) ?_)
    ·rintro y c st4 _ _ ⟨rfl,k1,k2⟩
     refine wpS_bind (wpS_get ?_)
     try dsimp only
     by_cases hs:(pendingOf st4).size > 1
     ·obtain ⟨⟨s2,n2,older⟩,e⟩:∃ x,(pendingOf st4)[(pendingOf st4).size - 2]?=some x:=⟨_,getElem?_pos _ _ (by omega)⟩
      rw [if_pos hs,e]
      dsimp only
      refine aA8 (fun _=>wpS_pure ⟨rfl,k1,k2⟩) fun _=>?_
      refine wpS_bind (aK8 HL k1 k2 g3 (by show (pendingOf st4).size - 2+1 < (pendingOf st4).size; omega) fun st5 k3 k4=>?_)
      exact wpS_pure ⟨rfl,k3,k4⟩
     ·rw [if_neg hs]
      exact wpS_pure ⟨rfl,k1,k2⟩
    ·rintro c st4 ⟨rfl,k1,k2⟩
     dsimp only
     refine wpS_bind (wpS_modify (wpS_bind (wpS_modify (wpS_pure (fin _ _ ⟨k1.perm,k1.kind,k1.ok⟩ ?_ z2 z1)))))
     show Chn ((pendingOf st4).modify ((pendingOf st4).size - 1) _).toList 0 lo
     rw [Array.toList_modify]
     exact k2.mod _ _
 ·rintro c st1 ⟨lo,rfl,g1,g2,g3⟩
  refine wpS_bind (wpS_mono (wpS_forRange (I:=fun x c st'=>c=(none,())/\SB a₀ st'/\Chn (pendingOf st').toList 0 lo) (Q:=fun c st'=>c=(none,())/\SB a₀ st'/\Chn (pendingOf st').toList 0 lo) ?_ (fun _ _ h=>h) ⟨rfl,g1,g2⟩) ?_)
  ·rintro x c st2 _ _ ⟨rfl,g4,g5⟩
   refine wpS_bind (wpS_get ?_)
   refine aA8 (fun _=>wpS_pure ⟨rfl,g4,g5⟩) fun h1=>?_
   refine wpS_bind (aK8 HL g4 g5 g3 ?_ fun st3 g6 g7=>?_)
   ·have h2:1 < (pendingOf st2).size:=Nat.lt_of_not_le h1
    exact bBe h2
   ·exact wpS_pure ⟨rfl,g6,g7⟩
  ·rintro c st2 ⟨rfl,g4,g5⟩
   exact wpS_pure (h _ g4)
theorem aIz {a:Addr} {vs:List Value} {n:Nat} {P:Fin->Shared->Prop} (ho:s.heap.get? a=some (seqObj "list" vs.toArray n)) (HL:aNq prog w (pairsOf vs))
  (hkk:∀ v₁ v₂ aDh,vs=v₁::v₂::aDh->keyKind' (v₁::v₂::aDh).toArray=pure oneType') (hl:vs.length<=100000)
  (h:∀ st':SortSt,(arrOf st').Perm (pairsOf vs)->P (.done (.ret .none)) { s with heap:=sortedHeap s.heap a vs ((arrOf st').map (·.2)) }) :
  wpAny (model prog w) A (Builtin.«list.sort» ⟨[.ref a],[]⟩) P E s:=by
 rw [list_sort_plain]
 have hz:vs.toArray.size=vs.length:=by simp
 have b1:vs.toArray.size<=sizeLine:=by rw [hz,sizeLine_eq]; omega
 have ha:a < s.heap.objs.size:=Heap.lt_size ho
 refine wpAny_bind (listItems_at ho rfl ?_)
 refine wpAny_bind (listUpdate_at ho rfl ?_ b1 (by simp))
 obtain ⟨e1,g1⟩:∃ e1,(s.heap.update a (Obj.mapSeq fun _=>#[])).get? a=some (seqObj "list" #[] e1):=⟨_,get?_update_seq ho (fun _=>#[])⟩
 refine wpAny_bind (seqEpoch_at g1 rfl ?_)
 refine wpAny_bind (wpAny_newTuple ?_ (by rw [sizeLine_eq]; simpa using (by omega:vs.length<=_)))
 refine wpAny_bind (wpAny_newList ?_)
 refine wpAny_holding ?_
 have g2:(((s.heap.update a (Obj.mapSeq fun _=>#[])).push (seqObj "tuple" vs.toArray 0)).push (seqObj "list" #[] 0)).get? a=some (seqObj "list" #[] e1) :=
  Heap.get?_push_of_some _ (Heap.get?_push_of_some _ g1)
 show wpAny (model prog w) A _ P E { s with heap:=((s.heap.update a (Obj.mapSeq fun _=>#[])).push (seqObj "tuple" vs.toArray 0)).push (seqObj "list" #[] 0) }
 dsimp only
 by_cases h2:vs.toArray.size < 2
 ·rw [if_pos h2,if_pos h2]
  refine wpAny_bind (wpAny_pure ?_)
  rw [StateT.run_pure]
  refine wpAny_bind (wpAny_pure ?_)
  dsimp only
  refine wpAny_bind (seqEpoch_at g2 rfl ?_)
  refine wpAny_bind (listUpdate_at g2 rfl ?_ (hsz2:=by rw [Array.size_map]; show (pairsOf vs).size<=_; rw [pairsOf_size,sizeLine_eq]; omega))
  simp only [bne_self_eq_false,Bool.false_eq_true,if_false]
  exact wpAny_pure (h (SortSt.mk' general' (vs.toArray.zip vs.toArray) #[] 7 none) (Array.Perm.refl _))
 ·rw [if_neg h2,if_neg h2]
  obtain ⟨v₁,v₂,aDh,rfl⟩:∃ v₁ v₂ aDh,vs=v₁::v₂::aDh:=by
   match vs,hz,h2 with
   | [],_,h2=>simp at h2
   | [_],_,h2=>simp at h2
   | v₁::v₂::aDh,_,_=>exact ⟨v₁,v₂,aDh,rfl⟩
  rw [hkk _ _ _ rfl]
  refine wpAny_bind (wpAny_pure ?_)
  refine wpAny_bind (wpAny_mono (aU2 HL (st:=SortSt.mk' oneType' ((v₁::v₂::aDh).toArray.zip (v₁::v₂::aDh).toArray) #[] 7 none)
   (Q:=fun _ st'=>SB (pairsOf (v₁::v₂::aDh)) st') ⟨Array.Perm.refl _,rfl,rfl⟩ rfl fun st' q=>q) ?_ fun _ _ e=>e)
  rintro ⟨⟨⟩,st'⟩ s' ⟨rfl,hp⟩
  dsimp only at hp ⊢
  refine wpAny_bind (seqEpoch_at g2 rfl ?_)
  refine wpAny_bind (listUpdate_at g2 rfl ?_ (hsz2:=by refine Nat.le_trans (Nat.le_of_eq ((Array.size_map ..).trans (hp.perm.size_eq.trans (pairsOf_size _)))) ?_; rw [sizeLine_eq]; omega))
  rw [show failedOf st'=none from hp.ok]
  simp only [bne_self_eq_false,Bool.false_eq_true,if_false]
  exact wpAny_pure (h st' hp.perm)
theorem aS8 {vs:List Value} {xs:Array Keyed} (hp:xs.Perm (pairsOf vs)):(xs.map (·.2)).toList.Perm vs:=by
 have:=(Array.perm_iff_toList_perm.mp hp).map (·.2)
 rw [pairsOf_toList,List.map_snd_zip (Nat.le_refl _)] at this
 rw [Array.toList_map]
 exact this
theorem aHx {a:Addr} {P:List Value->Prop} {Q:Value->Shared->Prop} (hP:∀ vs,P vs->aNq prog w (pairsOf vs)/\(∀ v₁ v₂ aDh,vs=v₁::v₂::aDh->keyKind' (v₁::v₂::aDh).toArray=pure oneType')/\vs.length<=100000)
  (hc:∀ (A':Around) (Q':List Value->Shared->Prop),A'.handled=A.handled->(∀ vs h' d tk,P vs->(∀ b o,s.heap.get? b=some o->h'.get? b=some o)->s.heap.objs.size<=h'.objs.size->Q' vs { s with heap:=h',drawn:=d,toks:=tk })->wpAny (model prog w) A' (collect (.ref a)) Q' E s)
  (h:∀ h' d tk L vs (its:List Value) n,P vs->its.Perm vs->s.heap.objs.size<=L->h'.get? L=some (seqObj "list" its.toArray n)->(∀ b o,s.heap.get? b=some o->h'.get? b=some o)->Q (.ref L) { s with heap:=h',drawn:=d,toks:=tk }) :
  wpAny (model prog w) A (call (.builtin "sorted") [.ref a]) Q E s:=by
 refine Calls.call_function_entry kind_sorted plain_sorted entry_sorted (args_sorted1 _) ?_
 unfold Builtin.«sorted»
 refine wpAny_bind (m:=checkCount "sorted" 1 1 _) (wpAny_pure ?_)
 refine wpAny_bind (hc _ _ (by simp) fun vs h1 d tk pv kp hge=>?_)
 obtain ⟨p1,p2,p3⟩:=hP vs pv
 refine wpAny_bind (wpAny_newList ?_ (by rw [sizeLine_eq]; omega))
 have g0:(h1.push (seqObj "list" vs.toArray 0)).get? h1.objs.size=some (seqObj "list" vs.toArray 0):=Heap.get?_push_size _ rfl
 show wpAny _ _ _ _ _ { s with heap:=h1.push (seqObj "list" vs.toArray 0),drawn:=d,toks:=tk }
 refine wpAny_bind (wpAny_holding (wpAny_call_entry slot_list_sort ⟨_,g0,rfl⟩ entry_list_sort (aIz g0 p1 p2 p3 fun st' a1=>⟨_,rfl,?_⟩) (args_list_sort _)))
 refine wpAny_pure ⟨_,rfl,?_⟩
 obtain ⟨e,he⟩:=sortedHeap_at (vs:=vs) (out:=(arrOf st').map (·.2)) g0
 refine h _ d tk h1.objs.size vs _ e pv (aS8 a1) hge (by rw [Array.toArray_toList]; exact he) fun b o eb=>?_
 have hb1:=Heap.lt_size (kp b o eb)
 rw [sortedHeap_old (Nat.ne_of_lt hb1) (by rw [size_push']; exact Nat.lt_succ_of_lt hb1)]
 exact Heap.get?_push_of_some _ (kp b o eb)
theorem ltOkI {vs:List Value} {ns:List Int} (hI:IntsAre vs ns):aNq prog w (pairsOf vs):=by
 intro A E s st x y Q hk hx hy q
 obtain ⟨n,t,e1⟩:=hI.intKeys _ hx
 obtain ⟨m,u,e2⟩:=hI.intKeys _ hy
 rw [lt'_eq]
 refine wpS_bind (wpS_get ?_)
 rw [hk,keyLt'_oneType,e1,e2]
 refine wpS_bind (wpS_lift (wpAny_attempt (oneLt_int ⟨rfl,?_⟩)))
 exact wpS_pure (q _)
theorem aO1 {its vs:List Value} {ss:List Str} (hS:StrsAre vs ss) (hp:its.Perm vs):∃ ys,StrsAre its ys/\ys.Perm ss :=
 ⟨its.map strOf,strsAre_map its fun v hv=>hS.all v (hp.mem_iff.mp hv),by rw [← hS.strs]; exact hp.map _⟩
theorem aQ6 {its vs:List Value} {ss:List Int} (hS:IntsAre vs ss) (hp:its.Perm vs):∃ ys,IntsAre its ys/\ys.Perm ss :=
 ⟨its.map numOf,intsAre_map its fun v hv=>hS.all v (hp.mem_iff.mp hv),by rw [← hS.nums]; exact hp.map _⟩
end
section
variable {X:Cx}
theorem aVf {prog:Program} {w:World} {vs:List Value} (h:∃ ss,StrsAre vs ss/\ss.length<=100000):aNq prog w (pairsOf vs)/\(∀ v₁ v₂ aDh,vs=v₁::v₂::aDh->keyKind' (v₁::v₂::aDh).toArray=pure oneType')/\vs.length<=100000:=by
 obtain ⟨ss,hS,hl⟩:=h
 refine ⟨ltOk strKind_oneLt hS.keysOf,fun v₁ v₂ aDh e=>keyKind_strs (by rw [← e]; exact hS),?_⟩
 rw [← hS.strs,List.length_map] at hl
 exact hl
theorem aW9 {prog:Program} {w:World} {vs:List Value} (h:∃ ss,IntsAre vs ss/\ss.length<=100000):aNq prog w (pairsOf vs)/\(∀ v₁ v₂ aDh,vs=v₁::v₂::aDh->keyKind' (v₁::v₂::aDh).toArray=pure oneType')/\vs.length<=100000:=by
 obtain ⟨ss,hS,hl⟩:=h
 refine ⟨ltOkI hS,fun v₁ v₂ aDh e=>keyKind_ints (by rw [← e]; exact hS),?_⟩
 rw [← hS.nums,List.length_map] at hl
 exact hl
theorem aQ7:∀ (us:List Value) (ys:List Int),ys.length=us.length->(∀ (i:Nat) (v:Value),us[i]?=some v->∃ x t,ys[i]?=some x/\v=.int x t)->IntsAre us ys
 | [],ys,hl,_=>by
  have:ys=[]:=List.length_eq_zero_iff.mp hl
  subst this
  exact .nil
 | u::us,[],hl,_=>by cases hl
 | u::us,y::ys,hl,ha=>by
  obtain ⟨x,t,e1,rfl⟩:=ha 0 u rfl
  cases e1
  exact .cons y t (aQ7 us ys (by simpa using hl) fun i v e=>by simpa using ha (i+1) v (by simpa using e))
noncomputable def bAa (w:World):List V->Hp->VK->Prop:=fun vs H Q=>∃ p:Addr,vs=[.ref p] /\
  ((∃ xs:List Str,H p=some (SetS w p xs)/\xs.length<=4000/\∀ (l:Addr) (ys:List Str),H l=none->ys.Perm xs->Q (.ref l) (upd H l (.lst (ys.map V.str)))) ∨
   (∃ (kvs:List (Key×V)) (xs:List Int),H p=some (.dK kvs)/\kvs.map (·.1)=xs.map Sum.inl/\xs.length<=4000/\∀ (l:Addr) (ys:List Int),H l=none->ys.Perm xs->Q (.ref l) (upd H l (.lst (ys.map V.int)))))
theorem aOe (hc:X.calm=true):aEc X (.builtin "sorted") (bAa X.w):=by
 intro pins s σ H vs us Q I r h
 obtain ⟨p,rfl,h⟩:=h
 obtain ⟨u,rfl,ru⟩:=r.one
 cases ru
 rcases h with ⟨xs,hp,hl,q⟩ | ⟨kvs,xs,hp,hk,hl,q⟩
 ·refine aHx (P:=fun vs=>∃ ss,StrsAre vs ss/\ss.Perm xs) (fun vs ⟨ss,h1,h2⟩=>aVf ⟨ss,h1,by rw [h2.length_eq]; omega⟩) (fun A' Q' hA k=>?_) fun h' d tk L vs its n ⟨ss,hS,hP⟩ hpm hL g kp=>?_
  ·obtain ⟨es,ep,t,g,hel,hxs,hnd,hsz,hf,ht⟩:=(show aFm X.w s.heap p xs from (I.hok p _ hp).1)
   refine aMi (hA.trans (I.ok.hd hc)) g hf ht (fits_of_scanBound hsz) fun vs h' d tk hp kp hge=>k vs h' d tk ⟨_,aHv fun v hv=>?_,?_⟩ kp hge
   ·obtain ⟨e,he,rfl⟩:=List.mem_map.mp (hp.mem_iff.mp hv)
    obtain ⟨y,u,rfl⟩:=hel e he
    exact ⟨y,u,rfl⟩
   ·have:=hp.map aT5
    rw [List.map_map] at this
    rw [← hxs]
    exact this
  ·obtain ⟨ys,y1,y2⟩:=aO1 hS hpm
   have hP2:=y2.trans hP
   have I1:=(I.dr d).laid (h':=h') (a:=L) (o:=.lst (ys.map V.str)) (t':=tk) kp hL ⟨by
    have:=hP2.length_eq
    rw [List.length_map,sizeLine_eq]
    omega,its,n,aJo y1,g⟩
   exact ⟨.ref L,_,I1,rfl,q L ys (I.hok.fresh hL) hP2⟩
 ·refine aHx (P:=fun vs=>IntsAre vs xs) (fun vs h1=>aW9 ⟨xs,h1,by omega⟩) (fun A' Q' hA k=>?_) fun h' d tk L vs its n hS hpm hL g kp=>?_
  ·obtain ⟨z,hd,vs',rel,dd⟩:=aRk I.hok hp
   obtain ⟨ep,dd⟩:=dd.dictAt
   refine aKq (hA.trans (I.ok.hd hc)) hd dd (by rw [← rel.length]; exact z) fun vs h' tk hn hv kp hge=>?_
   refine k vs h' s.drawn tk (aQ7 vs xs ?_ fun i v e=>?_) kp hge
   ·have:=congrArg List.length hk
    rw [List.length_map,List.length_map] at this
    rw [hn,← rel.length,this]
   ·obtain ⟨k',x',e1,e2⟩:=hv i v e
    have e3:(vs'.map (·.1))[i]?=some k':=by rw [List.getElem?_map,e1]; rfl
    rw [← rel.keys,hk,List.getElem?_map] at e3
    cases e4:xs[i]? with
    | none=>rw [e4] at e3; cases e3
    | some y =>
     rw [e4] at e3
     have e5:Sum.inl y=k':=Option.some.inj e3
     subst e5
     obtain ⟨t,rfl⟩:=aQ0 e2
     exact ⟨y,t,rfl,rfl⟩
  ·obtain ⟨ys,y1,y2⟩:=aQ6 hS hpm
   have I1:=(I.dr d).laid (h':=h') (a:=L) (o:=.lst (ys.map V.int)) (t':=tk) kp hL ⟨by
    have:=y2.length_eq
    rw [List.length_map,sizeLine_eq]
    omega,its,n,aGp y1,g⟩
   exact ⟨.ref L,_,I1,rfl,q L ys (I.hok.fresh hL) y2⟩
end
end L2
namespace L2
open PySem PySem.Spec PyProof.Rows
noncomputable def ut (u z:Int):Rat:=Rat.divInt z u
section
variable {u:Int}
theorem aEr (u z:Int):ut u z=(z:Rat) / (u:Rat):=Rat.divInt_eq_div z u
theorem up (hu:0 < u):(0:Rat) < (u:Rat):=by
 have:=Rat.intCast_lt_intCast.mpr hu
 simpa using this
theorem aGq (hu:0 < u) {a b:Int}:ut u a < ut u b ↔ a < b:=by
 rw [aEr,aEr]
 have h:=up hu
 rw [Rat.div_lt_iff h,Rat.div_mul_cancel (Rat.ne_of_gt h)]
 exact Rat.intCast_lt_intCast
theorem aSe (hu:0 < u) {a b:Int}:ut u a<=ut u b ↔ a<=b:=by
 rw [← Rat.not_lt,aGq hu,Int.not_lt]
theorem aF5 (u a b:Int):ut u a+ut u b=ut u (a+b):=by
 rw [aEr,aEr,aEr,Rat.intCast_add,Rat.div_def,Rat.div_def,Rat.div_def,Rat.add_mul]
theorem aX5 (u a b:Int):ut u a - ut u b=ut u (a - b):=by
 rw [aEr,aEr,aEr,Rat.intCast_sub]
 grind
theorem aX6 (hu:0 < u) {a b:Int} (hb:0 < b):ut u a / ut u b=ut b a:=by
 rw [aEr,aEr,aEr]
 have h1:=up hu
 have h2:=up hb
 grind
end
noncomputable def IQ (_:Hp) (v:V) (z:Int):Prop:=v=.int z
theorem IQ.tk {H H':Hp} {v:V} {z:Int} (h:IQ H v z) (_:TK H H'):IQ H' v z:=h
noncomputable def nmI (U:List Str) (i:Int):Str:=U.getD i.toNat ""
noncomputable def aG5 (U:List Str) (u:Int) (rs:List (Int×Int×Int)):List aJi:=rs.map fun r=>(nmI U r.1,nmI U r.2.1,ut u r.2.2)
noncomputable def psU (U:List Str) (u:Int) (ps:List (Int×Int)):List (Key×Rat):=ps.map fun x=>(Sum.inr (nmI U x.1),ut u x.2)
noncomputable def tsU (u:Int) (ts:List (Int×Int)):List (Key×Rat):=ts.map fun x=>(Sum.inl x.1,ut u x.2)
noncomputable def mT (U:List Str) (u:Int) (D:AL Key Int):Key->Option Rat
 | .inl _=>none
 | .inr s=>(aBf D (Sum.inl ((U.idxOf s:Nat):Int))).map (ut u)
theorem aNb {U:List Str} {i:Int} (h0:0<=i) (h1:i < U.length):∃ h:i.toNat < U.length,nmI U i=U[i.toNat]:=⟨by omega,by
 unfold nmI
 rw [List.getD_eq_getElem?_getD,List.getElem?_eq_getElem (by omega)]
 rfl⟩
theorem aUs {U:List Str} (nd:U.Nodup) {i:Int} (h0:0<=i) (h1:i < U.length):((U.idxOf (nmI U i):Nat):Int)=i:=by
 obtain ⟨h,e⟩:=aNb h0 h1
 rw [e,nd.idxOf_getElem]
 omega
theorem aL9 {U:List Str} (nd:U.Nodup) {u:Int} {D:AL Key Int} {i:Int} (h0:0<=i) (h1:i < U.length):mT U u D (Sum.inr (nmI U i))=(aBf D (Sum.inl i)).map (ut u):=by
 show (aBf D (Sum.inl ((U.idxOf (nmI U i):Nat):Int))).map (ut u)=_
 rw [aUs nd h0 h1]
theorem aQm {U:List Str} (nd:U.Nodup) {u:Int} {D:AL Key Int} {b:Int} (h0:0<=b) (h1:b < U.length) (c:Int):mT U u (aDp D (Sum.inl b) c)=fun p=>if p=Sum.inr (nmI U b) then some (ut u c) else mT U u D p:=by
 funext p
 cases p with
 | inl i=>rfl
 | inr s =>
  show (aBf (aDp D (Sum.inl b) c) (Sum.inl ((U.idxOf s:Nat):Int))).map (ut u)=_
  rw [aEm]
  by_cases e:s=nmI U b
  ·subst e
   rw [aUs nd h0 h1,if_pos rfl]
   simp
  ·rw [if_neg,if_neg (fun z=>e (Sum.inr.inj z))]
   ·rfl
   ·intro z
    have z2:((U.idxOf s:Nat):Int)=b:=Sum.inl.inj z
    obtain ⟨h2,e2⟩:=aNb h0 h1
    have h3:U.idxOf s < U.length:=by omega
    refine e ?_
    rw [e2]
    have:U[U.idxOf s]=s:=List.getElem_idxOf h3
    rw [← this]
    congr 1
    omega
theorem aW2 {U:List Str} {u:Int} {p:Key}:mT U u [] p=none:=by
 cases p with
 | inl i=>rfl
 | inr s=>rfl
theorem aKd (m:AL Key Rat) (x:Key×Rat) (p:Key):aBf (aDo m x) p=if p=x.1 then some (match aBf m x.1 with | none=>x.2 | some q=>if x.2 < q then x.2 else q) else aBf m p:=by
 unfold aDo
 cases e:aBf m x.1 with
 | none =>
  dsimp only
  rw [aEm]
 | some q =>
  dsimp only
  by_cases h:x.2 < q
  ·rw [if_pos h,aEm,if_pos h]
  ·rw [if_neg h,if_neg h]
   by_cases hp:p=x.1
   ·rw [if_pos hp,hp,e]
   ·rw [if_neg hp]
noncomputable def lsI (D:AL Key Int) (x:Int×Int):AL Key Int:=aDp D (Sum.inl x.1) (match aBf D (Sum.inl x.1) with | none=>x.2 | some v=>if v < x.2 then v else x.2)
theorem bA2 {U:List Str} (nd:U.Nodup) {u:Int} (hu:0 < u) {D:AL Key Int} {qs:List (Key×Rat)} {x:Int×Int} (h0:0<=x.1) (h1:x.1 < U.length) (h:mT U u D=aBf (lst qs)):mT U u (lsI D x)=aBf (lst (qs++[(Sum.inr (nmI U x.1),ut u x.2)])):=by
 rw [aGl]
 unfold lsI
 rw [aQm nd h0 h1]
 funext p
 rw [aKd]
 dsimp only
 by_cases hp:p=Sum.inr (nmI U x.1)
 ·rw [if_pos hp,if_pos hp,← h,aL9 nd h0 h1]
  cases aBf D (Sum.inl x.1) with
  | none=>rfl
  | some v =>
   dsimp only [Option.map]
   by_cases hv:v < x.2
   ·rw [if_pos hv,if_neg (by rw [aGq hu]; omega)]
   ·rw [if_neg hv]
    by_cases hv2:x.2 < v
    ·rw [if_pos (by rw [aGq hu]; omega)]
    ·rw [if_neg (by rw [aGq hu]; omega),show x.2=v by omega]
 ·rw [if_neg hp,if_neg hp,h]
noncomputable def TkT (u:Int) (D:AL Key Int) (zs:List (Key×Rat)):Prop:=∀ k:Int,(aBf D (Sum.inl k)).map (ut u)=aBf (lst zs) (Sum.inl k)
theorem TkT.step {u:Int} (hu:0 < u) {D:AL Key Int} {zs:List (Key×Rat)} {x:Int×Int} (h:TkT u D zs):TkT u (lsI D x) (zs++[(Sum.inl x.1,ut u x.2)]):=by
 intro k
 rw [aGl,aKd]
 unfold lsI
 rw [aEm]
 by_cases hp:(Sum.inl k:Key)=Sum.inl x.1
 ·rw [if_pos hp,if_pos hp,← h]
  cases aBf D (Sum.inl x.1) with
  | none=>rfl
  | some v =>
   dsimp only [Option.map]
   by_cases hv:v < x.2
   ·rw [if_pos hv,if_neg (by rw [aGq hu]; omega)]
   ·rw [if_neg hv]
    by_cases hv2:x.2 < v
    ·rw [if_pos (by rw [aGq hu]; omega)]
    ·rw [if_neg (by rw [aGq hu]; omega),show x.2=v by omega]
 ·rw [if_neg hp,if_neg hp,h]
section
variable {α:Type} {net:List (aEa α)} {push:α -> Option Rat} {tk:Nat -> Option Rat} {m:α -> Option Rat}
theorem aKk (sn:Snd net push tk m) (pu:∀ p t,push p=some t->Sat m p t) (cl:∀ k r a b s,net[k]?=some r->Jn r a b->m a=some s->aB5 tk k (s+r.2.2)->Sat m b (s+r.2.2)):aJk net push tk m:=by
 refine ⟨sn,fun p t h=>?_⟩
 induction h with
 | push e=>exact pu _ _ e
 | run _ hr hj hn ih =>
  obtain ⟨w,e1,l1⟩:=ih
  rename_i q s0 p0 k0 r0 _
  have l2:w+r0.2.2<=s0+r0.2.2:=Rat.add_le_add_right.mpr l1
  obtain ⟨z,e2,l3⟩:=cl _ _ _ _ w hr hj e1 (hn.le l2)
  exact ⟨z,e2,Rat.le_trans l3 l2⟩
end
noncomputable def muF (D:AL Key Int) (i:Nat):Nat:=match aBf D (Sum.inl (i:Int)) with | none=>10 ^ 33 | some v=>v.toNat
noncomputable def mu (n:Nat) (D:AL Key Int):Nat:=((List.range n).map (muF D)).sum
theorem aUe {f g:Nat->Nat}:∀ n,(∀ i < n,g i<=f i)->((List.range n).map g).sum<=((List.range n).map f).sum
 | 0,_=>Nat.le_refl _
 | n+1,h=>by
  rw [List.range_succ,List.map_append,List.map_append,List.sum_append,List.sum_append]
  have h1:=aUe n fun i hi=>h i (Nat.lt_succ_of_lt hi)
  have h2:=h n (Nat.lt_succ_self n)
  simp only [List.map_cons,List.map_nil,List.sum_cons,List.sum_nil]
  omega
theorem aUd {f g:Nat->Nat} {j:Nat}:∀ n,(∀ i < n,g i<=f i)->j < n->g j < f j->((List.range n).map g).sum < ((List.range n).map f).sum
 | 0,_,hj,_=>absurd hj (Nat.not_lt_zero _)
 | n+1,h,hj,hl=>by
  rw [List.range_succ,List.map_append,List.map_append,List.sum_append,List.sum_append]
  have h2:=h n (Nat.lt_succ_self n)
  simp only [List.map_cons,List.map_nil,List.sum_cons,List.sum_nil]
  by_cases e:j=n
  ·subst e
   have h1:=aUe j fun i hi=>h i (Nat.lt_succ_of_lt hi)
   omega
  ·have h1:=aUd n (fun i hi=>h i (Nat.lt_succ_of_lt hi)) (by omega) hl
   omega
structure DuS (U:List Str) (u:Int) (rs:List (Int×Int×Int)) (qs:List (Key×Rat)) (tk:Nat->Option Rat) (D:AL Key Int):Prop where
 nd:(D.map (·.1)).Nodup
 ky:∀ x∈D,∃ i:Nat,x.1=Sum.inl (i:Int)/\i < U.length
 bd:∀ x∈D,0<=x.2/\x.2<=10 ^ 30 * D.length
 sn:Snd (kn (aG5 U u rs)) (aBf (lst qs)) tk (mT U u D)
 pu:∀ p t,aBf (lst qs) p=some t->Sat (mT U u D) p t
section
variable {U:List Str} {u:Int} {rs:List (Int×Int×Int)} {qs:List (Key×Rat)} {tk:Nat -> Option Rat} {D:AL Key Int}
theorem DuS.len (h:DuS U u rs qs tk D):D.length<=U.length:=by
 have h1:(D.map (·.1)) ⊆ (List.range U.length).map fun (i:Nat)=>(Sum.inl (i:Int):Key):=by
  intro k hk
  obtain ⟨x,hx,rfl⟩:=List.mem_map.mp hk
  obtain ⟨i,e,hi⟩:=h.ky x hx
  rw [e]
  exact List.mem_map.mpr ⟨i,List.mem_range.mpr hi,rfl⟩
 have:=aH4 h.nd h1
 simpa using this
theorem DuS.val (h:DuS U u rs qs tk D) {i v:Int} (e:aBf D (Sum.inl i)=some v):0<=v/\v<=10 ^ 30 * D.length/\0<=i/\i < U.length:=by
 have hm:=aBm e
 obtain ⟨j,e2,hj⟩:=h.ky _ hm
 have e3:i=(j:Int):=Sum.inl.inj e2
 obtain ⟨b1,b2⟩:=h.bd _ hm
 exact ⟨b1,b2,by omega,by omega⟩
theorem aNn {β:Type} {l:AL Key β} {k:Key} {v:β} (h:aBf l k=none):(aDp l k v).length=l.length+1:=by
 unfold aDp
 rw [if_neg,List.length_append]
 ·rfl
 ·intro z
  rw [List.any_eq_true] at z
  obtain ⟨x,hx,e⟩:=z
  have e2:x.1=k:=of_decide_eq_true e
  exact aFl h x.2 (by rw [← e2]; exact hx)
theorem aKy {β:Type} {l:AL Key β} {k:Key} {v w:β} (h:aBf l k=some w):(aDp l k v).length=l.length:=by
 unfold aDp
 rw [if_pos,List.length_map]
 rw [List.any_eq_true]
 exact ⟨_,aBm h,decide_eq_true rfl⟩
theorem DuS.go (nu:U.Nodup) (hu:0 < u) (h:DuS U u rs qs tk D) (hU:U.length<=200) {k:Nat} {r:Int×Int×Int} (hr:rs[k]?=some r) (ok:0<=r.1/\r.1 < U.length/\0<=r.2.1/\r.2.1 < U.length/\1<=r.2.2/\r.2.2<=10 ^ 30) {a b v:Int} (hj:(r.1=a/\r.2.1=b)∨(r.2.1=a/\r.1=b)) (ha:aBf D (Sum.inl a)=some v) (hn:aB5 tk k (ut u (v+r.2.2))) (hb:∀ w,aBf D (Sum.inl b)=some w->v+r.2.2 < w) :
  DuS U u rs qs tk (aDp D (Sum.inl b) (v+r.2.2))/\mu U.length (aDp D (Sum.inl b) (v+r.2.2)) < mu U.length D:=by
 obtain ⟨v0,v1,a0,a1⟩:=h.val ha
 have hl:=h.len
 have hb0:0<=b:=by rcases hj with ⟨_,e⟩ | ⟨_,e⟩ <;> omega
 have hb1:b < U.length:=by rcases hj with ⟨_,e⟩ | ⟨_,e⟩ <;> omega
 have hL:D.length<=(aDp D (Sum.inl b) (v+r.2.2)).length/\v+r.2.2<=10 ^ 30 * (aDp D (Sum.inl b) (v+r.2.2)).length:=by
  cases e:aBf D (Sum.inl b) with
  | none =>
   rw [aNn e]
   omega
  | some w =>
   rw [aKy e]
   have:=hb w e
   obtain ⟨_,w1,_⟩:=h.val e
   omega
 have hS:aBf D (Sum.inl b)=none∨∃ w,aBf D (Sum.inl b)=some w/\v+r.2.2 < w:=by
  cases e:aBf D (Sum.inl b) with
  | none=>exact .inl rfl
  | some w=>exact .inr ⟨w,rfl,hb w e⟩
 have hma:mT U u D (Sum.inr (nmI U a))=some (ut u v):=by rw [aL9 nu a0 a1,ha]; rfl
 have hkr:(kn (aG5 U u rs))[k]?=some (Sum.inr (nmI U r.1),Sum.inr (nmI U r.2.1),ut u r.2.2):=by
  unfold kn aG5
  rw [List.getElem?_map,List.getElem?_map,hr]
  rfl
 have hjn:Jn ((Sum.inr (nmI U r.1),Sum.inr (nmI U r.2.1),ut u r.2.2):aEa Key) (Sum.inr (nmI U a)) (Sum.inr (nmI U b)):=by
  rcases hj with ⟨e1,e2⟩ | ⟨e1,e2⟩
  ·exact .inl ⟨by rw [e1],by rw [e2]⟩
  ·exact .inr ⟨by rw [e1],by rw [e2]⟩
 refine ⟨⟨aHj h.nd,fun x hx=>?_,fun x hx=>?_,?_,?_⟩,?_⟩
 ·rcases aCl (x:=x.1) (y:=x.2) hx with ⟨e,_⟩ | ⟨_,hm⟩
  ·exact ⟨b.toNat,by rw [e]; congr 1; omega,by omega⟩
  ·exact h.ky x hm
 ·rcases aCl (x:=x.1) (y:=x.2) hx with ⟨_,e⟩ | ⟨_,hm⟩
  ·rw [e]
   omega
  ·have:=h.bd x hm
   omega
 ·intro p t e
  rw [aQm nu hb0 hb1] at e
  dsimp only at e
  by_cases hp:p=Sum.inr (nmI U b)
  ·rw [if_pos hp] at e
   cases e
   subst hp
   have:=Arr.run (h.sn _ _ hma) hkr hjn (by rw [aF5]; exact hn)
   rw [aF5] at this
   exact this
  ·rw [if_neg hp] at e
   exact h.sn _ _ e
 ·intro p t e
  obtain ⟨w,e1,l1⟩:=h.pu p t e
  rw [aQm nu hb0 hb1]
  show ∃ w,(if p=Sum.inr (nmI U b) then some (ut u (v+r.2.2)) else mT U u D p)=some w/\w<=t
  by_cases hp:p=Sum.inr (nmI U b)
  ·refine ⟨_,if_pos hp,?_⟩
   rw [hp,aL9 nu hb0 hb1] at e1
   cases e2:aBf D (Sum.inl b) with
   | none=>rw [e2] at e1; cases e1
   | some z =>
    rw [e2] at e1
    cases e1
    have:=hb z e2
    exact Rat.le_trans ((aSe hu).mpr (by omega)) l1
  ·exact ⟨w,by rw [if_neg hp]; exact e1,l1⟩
 ·unfold mu
  refine aUd (j:=b.toNat) _ (fun i hi=>?_) (by omega) ?_
  ·unfold muF
   rw [aEm]
   by_cases e:(Sum.inl (i:Int):Key)=Sum.inl b
   ·rw [if_pos e,e]
    rcases hS with e2 | ⟨w,e2,hw⟩
    ·rw [e2]
     dsimp only
     omega
    ·rw [e2]
     dsimp only
     omega
   ·rw [if_neg e]
    exact Nat.le_refl _
  ·unfold muF
   have e:(Sum.inl ((b.toNat:Nat):Int):Key)=Sum.inl b:=by congr 1; omega
   rw [e,aEm,if_pos rfl]
   rcases hS with e2 | ⟨w,e2,hw⟩
   ·rw [e2]
    dsimp only
    omega
   ·rw [e2]
    obtain ⟨w0,_⟩:=h.val e2
    dsimp only
    omega
noncomputable def Cl1 (tk:Nat->Option Rat) (u:Int) (k:Nat) (T a b:Int) (D:AL Key Int):Prop:=∀ v,aBf D (Sum.inl a)=some v->aB5 tk k (ut u (v+T))->∃ w,aBf D (Sum.inl b)=some w/\w<=v+T
noncomputable def Cl2 (tk:Nat->Option Rat) (u:Int) (rs:List (Int×Int×Int)) (k:Nat) (D:AL Key Int):Prop:=∀ r,rs[k]?=some r->Cl1 tk u k r.2.2 r.1 r.2.1 D/\Cl1 tk u k r.2.2 r.2.1 r.1 D
theorem DuS.falls (nu:U.Nodup) (hu:0 < u) (h:DuS U u rs qs tk D) (ok:∀ r∈rs,0<=r.1/\r.1 < U.length/\0<=r.2.1/\r.2.1 < U.length/\1<=r.2.2/\r.2.2<=10 ^ 30) (cl:∀ k,Cl2 tk u rs k D):aJk (kn (aG5 U u rs)) (aBf (lst qs)) tk (mT U u D):=by
 refine aKk h.sn h.pu fun k r a b s hr hj hs hn=>?_
 unfold kn aG5 at hr
 rw [List.getElem?_map,List.getElem?_map] at hr
 cases e:rs[k]? with
 | none=>rw [e] at hr; cases hr
 | some r0 =>
  rw [e] at hr
  cases hr
  obtain ⟨o1,o2,o3,o4,o5,o6⟩:=ok r0 (List.mem_of_getElem? e)
  obtain ⟨c1,c2⟩:=cl k r0 e
  have go:∀ x y:Int,0<=x->x < U.length->0<=y->y < U.length->Cl1 tk u k r0.2.2 x y D->mT U u D (Sum.inr (nmI U x))=some s->aB5 tk k (s+ut u r0.2.2)->Sat (mT U u D) (Sum.inr (nmI U y)) (s+ut u r0.2.2):=by
   intro x y x0 x1 y0 y1 c hx hn
   rw [aL9 nu x0 x1] at hx
   cases e1:aBf D (Sum.inl x) with
   | none=>rw [e1] at hx; cases hx
   | some v =>
    rw [e1] at hx
    cases hx
    rw [aF5] at hn ⊢
    obtain ⟨w,e2,l⟩:=c v e1 hn
    exact ⟨ut u w,by rw [aL9 nu y0 y1,e2]; rfl,(aSe hu).mpr l⟩
  rcases hj with ⟨e1,e2⟩ | ⟨e1,e2⟩
  ·dsimp only at e1 e2
   subst e1 e2
   exact go _ _ o1 o2 o3 o4 c1 hs hn
  ·dsimp only at e1 e2
   subst e1 e2
   exact go _ _ o3 o4 o1 o2 c2 hs hn
end
noncomputable abbrev cl (x:Str):List Nat:=x.cps.toList
theorem aNk (a b:Str):cl (a++b)=cl a++cl b:=by
 show (a.cps++b.cps).toList=_
 rw [Array.toList_append]
theorem bB4 (x:Str):(cl x).length=x.length:=by
 show x.cps.toList.length=x.cps.size
 simp
theorem sl_to {z:Str} {i:Int} (h0:0<=i) (h1:i<=z.length):cl (Txt.slice z none (some i))=(cl z).take i.toNat:=by
 have:=slice_to_min_closes (x:=z) (n:=i) h0 rfl
 rw [beq_iff_eq.mp this,if_neg (by omega)]
 show ((cl z).drop 0).take (i - 0).toNat=_
 rw [Int.sub_zero,List.drop_zero]
theorem aVj {z:Str} {i:Int} (h0:0<=i) (h1:i<=z.length):cl (Txt.slice z (some i) none)=(cl z).drop i.toNat:=by
 rw [slice_from_eq h0 h1 rfl]
 show ((cl z).drop i.toNat).take ((z.length:Int) - i).toNat=_
 refine List.take_of_length_le ?_
 rw [List.length_drop,bB4]
 omega
noncomputable def gnm (k:Nat):Str:=⟨#[113,46,113,46,97+k / 26,46,97+k % 26]⟩
noncomputable def Nq (x:Str):Prop:=(cl x).length≠7∨(cl x)[1]?≠some 46
theorem bBm (k:Nat):¬ Nq (gnm k):=by
 rintro (h | h)
 ·exact h rfl
 ·exact h rfl
theorem aXd {j k:Nat} (e:gnm j=gnm k):j=k:=by
 have e2:cl (gnm j)=cl (gnm k):=by rw [e]
 unfold gnm at e2
 dsimp only [cl] at e2
 simp only [List.cons.injEq,and_true,true_and] at e2
 omega
noncomputable def Ltr (l:List Nat):Prop:=∀ c∈l,97<=c/\c<=122
theorem nq_of {y1 y2 t:List Nat} {c:Nat} {x:Str} (e:cl x=y1++c::(y2++t)) (h1:Ltr y1) (hc:97<=c/\c<=122) (h2:Ltr y2) (ht:t.length=0∨t.length=2∨t.length=5∨t.length=13):Nq x:=by
 unfold Nq
 rw [e]
 cases y1 with
 | nil =>
  cases y2 with
  | nil =>
   refine .inl ?_
   simp only [List.nil_append,List.length_cons]
   omega
  | cons a r =>
   refine .inr ?_
   have:=h2 a (List.mem_cons_self ..)
   simp only [List.nil_append,List.cons_append,List.getElem?_cons_succ,List.getElem?_cons_zero,ne_eq,Option.some.injEq]
   omega
 | cons a r =>
  refine .inr ?_
  cases r with
  | nil =>
   simp only [List.cons_append,List.nil_append,List.getElem?_cons_succ,List.getElem?_cons_zero,ne_eq,Option.some.injEq]
   omega
  | cons b r =>
   have:=h1 b (List.mem_cons_of_mem _ (List.mem_cons_self ..))
   simp only [List.cons_append,List.getElem?_cons_succ,List.getElem?_cons_zero,ne_eq,Option.some.injEq]
   omega
noncomputable def Dfr (Y:List Nat) (n:Int) (U:List Str):Prop:=∀ (k:Nat) (x:Str),U[k]?=some x->∃ r,cl x=Y++(97+((n+3 * (k:Int)) % 26).toNat)::r
theorem Dfr.nodup {Y:List Nat} {n:Int} {U:List Str} (h:Dfr Y n U) (hl:U.length<=8):U.Nodup:=by
 rw [List.nodup_iff_pairwise_ne,List.pairwise_iff_getElem]
 intro i j hi hj hij e
 obtain ⟨r1,e1⟩:=h i _ (List.getElem?_eq_getElem hi)
 obtain ⟨r2,e2⟩:=h j _ (List.getElem?_eq_getElem hj)
 rw [e,e2] at e1
 have:=(List.cons.inj (List.append_cancel_left e1)).1
 omega
theorem Dfr.snoc {Y:List Nat} {n:Int} {U:List Str} (h:Dfr Y n U) {x:Str} {r:List Nat} (e:cl x=Y++(97+((n+3 * (U.length:Int)) % 26).toNat)::r):Dfr Y n (U++[x]):=by
 intro k y hy
 rcases Nat.lt_or_ge k U.length with hk | hk
 ·rw [List.getElem?_append_left hk] at hy
  exact h k y hy
 ·rw [List.getElem?_append_right hk] at hy
  have:k - U.length=0:=by
   have:=(List.getElem?_eq_some_iff.mp hy).1
   simp at this
   omega
  rw [this] at hy
  cases hy
  have:k=U.length:=by omega
  subst this
  exact ⟨r,e⟩
noncomputable def grown (U:List Str) (i:Nat):List Str:=U++(List.range i).map gnm
theorem aTq {U:List Str} (nd:U.Nodup) (hq:∀ x∈U,Nq x) (i:Nat):(grown U i).Nodup:=by
 unfold grown
 rw [List.nodup_append]
 refine ⟨nd,?_,?_⟩
 ·exact List.pairwise_map.mpr (List.nodup_range.imp fun h e=>h (aXd e))
 ·intro a ha b hb e
  obtain ⟨k,_,rfl⟩:=List.mem_map.mp hb
  exact bBm k (e ▸ hq a ha)
theorem aOb (U:List Str) (i:Nat):grown U (i+1)=grown U i++[gnm i]:=by
 unfold grown
 rw [List.range_succ,List.map_append,List.append_assoc]
 rfl
theorem aDc (U:List Str) (i:Nat):(grown U i).length=U.length+i:=by
 unfold grown
 rw [List.length_append,List.length_map,List.length_range]
noncomputable def swI (o:Option Int) (T:Int) (p:Option Int):Bool:=match o with | none=>false | some f=>match p with | none=>true | some g=>decide (f+T<=g)
theorem aO0 {u:Int} (hu:0 < u) (o p:Option Int) (T:Int):swp (o.map (ut u)) (ut u T) (p.map (ut u))=swI o T p:=by
 cases o with
 | none=>rfl
 | some f =>
  cases p with
  | none=>rfl
  | some g =>
   show (!decide (ut u g < ut u f+ut u T))=decide (f+T<=g)
   rw [aF5]
   by_cases h:g < f+T
   ·rw [decide_eq_true ((aGq hu).mpr h),decide_eq_false (by omega)]
    rfl
   ·rw [decide_eq_false (by rw [aGq hu]; exact h),decide_eq_true (by omega)]
    rfl
theorem aJm {u:Int} (hu:0 < u) (z:Int):ut (2 * u) (2 * z)=ut u z:=by
 rw [aEr,aEr,Rat.intCast_mul,Rat.intCast_mul]
 have:=up hu
 grind
theorem aU9 {u:Int} (hu:0 < u) (z:Int):ut u z * (1 / 2)=ut (2 * u) z:=by
 rw [aEr,aEr,Rat.intCast_mul]
 have:=up hu
 grind
theorem aUv {u:Int} (hu:0 < u) {a b:Str} {oa ob:Option Int} {T:Int} (h:swI oa T ob=true):∃ f,oa=some f/\aHn a b (oa.map (ut u)) (ob.map (ut u)) (ut u T)=.swept a (ut (2 * u) (2 * (f+T))):=by
 cases oa with
 | none=>cases h
 | some f =>
  refine ⟨f,rfl,?_⟩
  unfold aHn
  rw [if_neg (by simp),aO0 hu,if_pos h,aJm hu,← aF5]
  rfl
theorem aRf {u:Int} (hu:0 < u) {a b:Str} {oa ob:Option Int} {T:Int} (h:swI oa T ob=false) (h2:swI ob T oa=true):∃ f,ob=some f/\aHn a b (oa.map (ut u)) (ob.map (ut u)) (ut u T)=.swept b (ut (2 * u) (2 * (f+T))):=by
 cases ob with
 | none=>cases h2
 | some f =>
  refine ⟨f,rfl,?_⟩
  unfold aHn
  rw [if_neg (by simp),aO0 hu,aO0 hu,h,h2,if_neg (by decide),if_pos rfl,aJm hu,← aF5]
  rfl
theorem aXh {u:Int} (hu:0 < u) {a b:Str} {f g T:Int} (hT:0 < T) (h:swI (some f) T (some g)=false) (h2:swI (some g) T (some f)=false):aHn a b (some (ut u f)) (some (ut u g)) (ut u T)=.met (ut (2 * u) (f+g+T)) (ut (2 * T) (f+g+T - 2 * f)):=by
 have h':=aO0 hu (some f) (some g) T
 have h2':=aO0 hu (some g) (some f) T
 dsimp only [Option.map] at h' h2'
 unfold aHn
 rw [if_neg (by simp),h',h2',h,h2,if_neg (by decide),if_neg (by decide)]
 dsimp only [Option.getD]
 rw [aF5,aF5,aU9 hu]
 congr 1
 rw [show ut u f=ut (2 * u) (2 * f) from (aJm hu f).symm,show ut u T=ut (2 * u) (2 * T) from (aJm hu T).symm,aX5,aX6 (by omega) (by omega)]
theorem bBx {u:Int} {a b:Str} {T:Int}:aHn a b ((none:Option Int).map (ut u)) ((none:Option Int).map (ut u)) (ut u T)=.stands:=by
 unfold aHn
 rw [if_pos ⟨rfl,rfl⟩]
theorem aEp {u:Int} (hu:0 < u) (w c:Int):aDk (ut u w) (some (ut (2 * u) c))=decide (2 * w < c):=by
 show decide (ut u w < ut (2 * u) c)=_
 rw [← aJm hu w]
 by_cases h:2 * w < c
 ·rw [decide_eq_true h,decide_eq_true ((aGq (by omega)).mpr h)]
 ·rw [decide_eq_false h,decide_eq_false (by rw [aGq (by omega)]; exact h)]
noncomputable def Kq (a b:Addr) (H G:Hp):Prop:=∀ p o,p≠a->p≠b->H p=some o->G p=some o
theorem aLz {U:List Str} {i:Int} (h0:0<=i) (h1:i < U.length):atI (U.map V.str) i=some (.str (nmI U i)):=by
 obtain ⟨h,e⟩:=aNb h0 h1
 have h2:(U.map V.str)[i.toNat]?=some (.str (nmI U i)):=by
  rw [List.getElem?_map,List.getElem?_eq_getElem h,e]
  rfl
 have:=aF4 h2
 rwa [Int.toNat_of_nonneg h0] at this
theorem aDs {α:Type} {l:List α} {i:Nat} {x:α} (h:l[i]?=some x):l.take (i+1)=l.take i++[x]:=by
 have hi:=(List.getElem?_eq_some_iff.mp h).1
 rw [List.take_succ_eq_append_getElem hi]
 have:=(List.getElem?_eq_some_iff.mp h).2
 rw [this]
theorem aWy {U:List Str} {u:Int} {rs:List (Int×Int×Int)} {i:Nat} {r:Int×Int×Int} (h:rs[i]?=some r):kn (aG5 U u (rs.take (i+1)))=kn (aG5 U u (rs.take i))++[(Sum.inr (nmI U r.1),Sum.inr (nmI U r.2.1),ut u r.2.2)]:=by
 rw [aDs h]
 simp [kn,aG5]
theorem aUp {U:List Str} {u:Int} {ps:List (Int×Int)} {i:Nat} {r:Int×Int} (h:ps[i]?=some r):psU U u (ps.take (i+1))=psU U u (ps.take i)++[(Sum.inr (nmI U r.1),ut u r.2)]:=by
 rw [aDs h]
 simp [psU]
theorem aT6 {u:Int} {ps:List (Int×Int)} {i:Nat} {r:Int×Int} (h:ps[i]?=some r):tsU u (ps.take (i+1))=tsU u (ps.take i)++[(Sum.inl r.1,ut u r.2)]:=by
 rw [aDs h]
 simp [tsU]
noncomputable def aK9 (rs:List (Int×Int×Int)):List Int:=rs.map (·.1)++rs.map (·.2.1)
noncomputable def aE5 (rs:List (Int×Int×Int)) (ps:List (Int×Int)):List (Int×Int):=ps.filter fun x=>decide (x.1∈aK9 rs)
theorem aWc {rs:List (Int×Int×Int)} {ps:List (Int×Int)} {i:Nat} {r:Int×Int} (h:ps[i]?=some r) (c:r.1∈aK9 rs):aE5 rs (ps.take (i+1))=aE5 rs (ps.take i)++[r]:=by
 rw [aDs h]
 unfold aE5
 rw [List.filter_append,List.filter_cons_of_pos (by simpa using c),List.filter_nil]
theorem bAi {rs:List (Int×Int×Int)} {ps:List (Int×Int)} {i:Nat} {r:Int×Int} (h:ps[i]?=some r) (c:¬ r.1∈aK9 rs):aE5 rs (ps.take (i+1))=aE5 rs (ps.take i):=by
 rw [aDs h]
 unfold aE5
 rw [List.filter_append,List.filter_cons_of_neg (by simpa using c),List.filter_nil,List.append_nil]
theorem aLw {rs:List (Int×Int×Int)} {ps:List (Int×Int)} {x:Int×Int} (h:x∈aE5 rs ps):x∈ps:=(List.mem_filter.mp h).1
theorem aLx (rs:List (Int×Int×Int)) (ps:List (Int×Int)):(aE5 rs ps).length<=ps.length:=List.length_filter_le _ _
structure aGf (U:List Str) (u:Int) (rs:List (Int×Int×Int)) (ps ts:List (Int×Int)):Prop where
 u0:0 < u
 u1:u<=10 ^ 12
 nd:U.Nodup
 n2:2<=U.length
 n98:U.length<=98
 rok:∀ r∈rs,0<=r.1/\r.1 < U.length/\0<=r.2.1/\r.2.1 < U.length/\1<=r.2.2/\r.2.2<=10 ^ 30
 pok:∀ r∈ps,0<=r.1/\r.1 < U.length/\0<=r.2/\r.2<=10 ^ 30
 tok:∀ r∈ts,0<=r.1/\0<=r.2/\r.2<=10 ^ 30
 r1:1<=rs.length
 rl:rs.length<=110
 pl:ps.length<=20
 tl:ts.length<=20
section
variable {G:Hp} {dd:Addr} {U:List Str} {u:Int} {rs:List (Int×Int×Int)} {ps ts:List (Int×Int)} {ln lr lp lt:Addr}
theorem aTi {β:Type} {R:Hp->V->β->Prop} {l:Addr} {vs:List V} {ds:List β} {v:V} {b:β} (hR:∀ {H H' v b},R H v b->TK H H'->R H' v b) (h:G l=some (.lst vs)) (p:Paired (R G) vs ds) (r:R G v b):LQ R (upd G l (.lst (vs++[v]))) l (ds++[b]) :=
 ⟨_,aAb,Pd.snoc (Pd.imp p fun v b f=>hR f (TK.lst h)) (hR r (TK.lst h))⟩
theorem aG7 {β:Type} {R:Hp->V->β->Prop} {l k:Addr} {vs xs:List V} {ds:List β} (hR:∀ {H H' v b},R H v b->TK H H'->R H' v b) (h:G k=some (.lst vs)) (hne:l≠k) (q:LQ R G l ds):LQ R (upd G k (.lst xs)) l ds :=
 let ⟨ws,e,p⟩:=q; ⟨ws,aBb hne e,Pd.imp p fun v b f=>hR f (TK.lst h)⟩
theorem aUr {p q:Addr} {kv:List (Key×V)} {xs:List V} (h1:G p=some (.dK kv)) (h2:G q=some (.lst xs)):p≠q:=fun e=>by rw [e,h2] at h1; cases h1
theorem aDd.nam (h:aDd G dd U u rs ps ts ln lr lp lt) (n1:ln≠lr) (n2:ln≠lp) (n3:ln≠lt) (x:Str):aDd (upd G ln (.lst (U.map V.str++[.str x]))) dd (U++[x]) u rs ps ts ln lr lp lt :=
 ⟨aBb (aUr h.d h.nm) h.d,by rw [List.map_append]; exact aAb,aG7 aK6.tk h.nm (Ne.symm n1) h.rq,aG7 aHl.tk h.nm (Ne.symm n2) h.pq,aG7 aHl.tk h.nm (Ne.symm n3) h.tq⟩
theorem aDd.rnn {vs:List V} {p:Addr} {x:Int×Int×Int} (h:aDd G dd U u rs ps ts ln lr lp lt) (hv:G lr=some (.lst vs)) (pv:Paired (aK6 G) vs rs) (hx:aK6 G (.ref p) x) (n1:ln≠lr) (n2:lr≠lp) (n3:lr≠lt):aDd (upd G lr (.lst (vs++[.ref p]))) dd U u (rs++[x]) ps ts ln lr lp lt :=
 ⟨aBb (aUr h.d hv) h.d,aBb n1 h.nm,aTi aK6.tk hv pv hx,aG7 aHl.tk hv (Ne.symm n2) h.pq,aG7 aHl.tk hv (Ne.symm n3) h.tq⟩
end
theorem aNe {H:Hp} {kvs:List (Key×V)} {D:AL Key Int} (kq:KQ IQ H kvs D) (k:Key) (z:Int):(aBu kvs k).getD (.int z)=.int ((aBf D k).getD z):=by
 rcases kq.val (k:=k) with ⟨e1,e2⟩ | ⟨v,b,e1,e2,e3⟩
 ·rw [e1,e2]
  rfl
 ·rw [e1,e2]
  exact e3
theorem bA1 (D:AL Key Int) (x:Int×Int):(if (aBf D (Sum.inl x.1)).getD x.2 < x.2 then (aBf D (Sum.inl x.1)).getD x.2 else x.2)=(match aBf D (Sum.inl x.1) with | none=>x.2 | some v=>if v < x.2 then v else x.2):=by
 cases aBf D (Sum.inl x.1) with
 | none =>
  show (if x.2 < x.2 then x.2 else x.2)=x.2
  split <;> rfl
 | some v=>rfl
theorem aIc {β:Type} (l:AL Key β) (k:Key) (v:β):(aDp l k v).length<=l.length+1:=by
 cases e:aBf l k with
 | none=>rw [aNn e]; exact Nat.le_refl _
 | some w=>rw [aKy e]; exact Nat.le_succ _
theorem aQs {D:AL Key Int} {x:Int×Int} {P:Int->Prop} (h:∀ y∈D,P y.2) (hx:P x.2):∀ y∈lsI D x,P y.2:=by
 intro y hy
 unfold lsI at hy
 rcases aCl (x:=y.1) (y:=y.2) hy with ⟨_,e⟩ | ⟨_,hm⟩
 ·rw [e]
  cases e2:aBf D (Sum.inl x.1) with
  | none=>exact hx
  | some v =>
   dsimp only
   split
   ·exact h _ (aBm e2)
   ·exact hx
 ·exact h y hm
theorem aW3 {D:AL Key Int} {x:Int×Int} {P:Key->Prop} (h:∀ y∈D,P y.1) (hx:P (Sum.inl x.1)):∀ y∈lsI D x,P y.1:=by
 intro y hy
 unfold lsI at hy
 rcases aCl (x:=y.1) (y:=y.2) hy with ⟨e,_⟩ | ⟨_,hm⟩
 ·rw [e]
  exact hx
 ·exact h y hm
theorem DuS.start {U:List Str} {u:Int} {rs:List (Int×Int×Int)} {qs:List (Key×Rat)} {tk:Nat->Option Rat} {D:AL Key Int} (nd:(D.map (·.1)).Nodup) (ky:∀ x∈D,∃ i:Nat,x.1=Sum.inl (i:Int)/\i < U.length) (bd:∀ x∈D,0<=x.2/\x.2<=10 ^ 30) (h:mT U u D=aBf (lst qs)):DuS U u rs qs tk D:=by
 refine ⟨nd,ky,fun x hx=>?_,fun p t e=>?_,fun p t e=>?_⟩
 ·have:=bd x hx
  have hl:0 < D.length:=List.length_pos_of_mem hx
  omega
 ·rw [h] at e
  exact .push e
 ·rw [h]
  exact ⟨t,e,Rat.le_refl⟩
theorem bA3 {D:AL Key Int} {x:Int×Int} (nd:(D.map (·.1)).Nodup):((lsI D x).map (·.1)).Nodup:=aHj nd
theorem bB2 {tk:Nat->Option Rat} {u:Int} {k:Nat} {T a b:Int} {D:AL Key Int} (h:aBf D (Sum.inl a)=none):Cl1 tk u k T a b D:=fun v e=>by rw [h] at e; cases e
theorem bB3 {tk:Nat->Option Rat} {u:Int} {k:Nat} {T a b v:Int} {D:AL Key Int} (h:aBf D (Sum.inl a)=some v) (hn:¬ aB5 tk k (ut u (v+T))):Cl1 tk u k T a b D:=fun v' e n=>by
 rw [h] at e
 cases e
 exact absurd n hn
theorem cl_le {tk:Nat->Option Rat} {u:Int} {k:Nat} {T a b v:Int} {D:AL Key Int} (h:aBf D (Sum.inl a)=some v) (hn:¬ v+T < (aBf D (Sum.inl b)).getD (v+T+1)):Cl1 tk u k T a b D:=fun v' e n=>by
 rw [h] at e
 cases e
 cases e2:aBf D (Sum.inl b) with
 | none =>
  rw [e2] at hn
  exact absurd (show v+T < v+T+1 by omega) hn
 | some w =>
  rw [e2] at hn
  exact ⟨w,rfl,Int.not_lt.mp hn⟩
structure Pas (U:List Str) (u:Int) (rs:List (Int×Int×Int)) (qs:List (Key×Rat)) (tk:Nat->Option Rat) (D0 D:AL Key Int) (c:Bool) (Z:Prop):Prop where
 d:DuS U u rs qs tk D
 le:mu U.length D<=mu U.length D0
 ch:c=true->mu U.length D < mu U.length D0
 st:c=false->D=D0/\Z
theorem Pas.imp {U:List Str} {u:Int} {rs:List (Int×Int×Int)} {qs:List (Key×Rat)} {tk:Nat->Option Rat} {D0 D:AL Key Int} {c:Bool} {Z Z':Prop} (h:Pas U u rs qs tk D0 D c Z) (k:D=D0->Z->Z'):Pas U u rs qs tk D0 D c Z':=⟨h.d,h.le,h.ch,fun e=>⟨(h.st e).1,k (h.st e).1 (h.st e).2⟩⟩
theorem r_whl {c:TT} {tb:TS} {D:aE4} {σ:St} {H:Hp} (Pv:Nat->St->Hp->Prop) {m0:Nat} (h0:Pv m0 σ H)
  (hs:∀ m σ H,Pv m σ H->c σ H fun b H1=>if b=true then ∃ N:St->Hp->Prop,(∀ σ' H',N σ' H'->∃ m',m' < m/\Pv m' σ' H')/\tb { D with nx:=N,ct:=N,bk:=D.nx } σ H1 else D.nx σ H1):aOv c tb D σ H:=⟨Pv,⟨_,h0⟩,hs⟩
theorem aGi {z:Int} (h:z.natAbs<=10 ^ 40):Sm 8000 z:=Nat.lt_of_le_of_lt h (by decide)
theorem aXj {H:Hp} {Q:VK} {lh ln l1 l2 l3 l4 l5 l6:Addr} {n:List aJi} {ps ts:List (Key×Rat)} (hh:H lh=some (.lst [.ref l1,.ref l2,.ref l5])) (hn:H ln=some (.lst [.ref l3,.ref l4,.ref l6])) (h1:LQ aHk H l1 (kn n)) (h2:LQ KvQ H l2 ps) (h5:LQ KvQ H l5 ts) (h3:LQ aHk H l3 (kn n)) (h4:LQ KvQ H l4 ps) (h6:LQ KvQ H l6 ts) (k:Q (.bl true) H):aWa (.ref lh) (.ref ln) H Q:=by
 obtain ⟨v1,a1,p1⟩:=h1
 obtain ⟨v2,a2,p2⟩:=h2
 obtain ⟨v3,a3,p3⟩:=h3
 obtain ⟨v4,a4,p4⟩:=h4
 obtain ⟨v5,a5,p5⟩:=h5
 obtain ⟨v6,a6,p6⟩:=h6
 have d1:aF7 H [.lst (n.map aX0),.lst (ps.map dKv),.lst (ts.map dKv)] [.ref l1,.ref l2,.ref l5]:=⟨_,_,rfl,⟨l1,_,rfl,a1,aJb p1⟩,_,_,rfl,⟨l2,_,rfl,a2,aF1 p2⟩,_,_,rfl,⟨l5,_,rfl,a5,aF1 p5⟩,rfl⟩
 have d2:aF7 H [.lst (n.map aX0),.lst (ps.map dKv),.lst (ts.map dKv)] [.ref l3,.ref l4,.ref l6]:=⟨_,_,rfl,⟨l3,_,rfl,a3,aJb p3⟩,_,_,rfl,⟨l4,_,rfl,a4,aF1 p4⟩,_,_,rfl,⟨l6,_,rfl,a6,aF1 p6⟩,rfl⟩
 refine aXi ⟨lh,_,rfl,hh,d1⟩ ⟨ln,_,rfl,hn,d2⟩ ?_ ?_
 ·have e1:=aNh n
  have e2:=aJa ps
  have e3:=aJa ts
  show max (aHo (n.map aX0)+1) (max (aHo (ps.map dKv)+1) (max (aHo (ts.map dKv)+1) 0))<=50
  omega
 ·rw [aF7.same_eq _ _ d1 d1]
  exact k
theorem e_kvE {H:Hp} {Q:VK} {l p:Addr} {zs:List V} {qs:List (Key×Rat)} (h1:H l=some (.lst zs)) (pz:Paired (KvQ H) zs qs) (h2:H p=some (.lst [])) (k:Q (.bl (decide (qs=[]))) H):aWa (.ref l) (.ref p) H Q:=by
 refine aXi (es:=[]) ⟨l,_,rfl,h1,aF1 pz⟩ ⟨p,_,rfl,h2,rfl⟩ (Nat.le_trans (aJa qs) (by decide)) ?_
 cases qs with
 | nil=>rw [decide_eq_true rfl] at k; exact k
 | cons r rs=>rw [decide_eq_false (List.cons_ne_nil _ _)] at k; exact k
theorem sz_ut {u z:Int} (hu:0 < u) (hu1:u<=10 ^ 13) (h:z.natAbs<=10 ^ 40):Sz 400 (ut u z):=by
 have hu0:u≠0:=by omega
 have e:=aG9 (t:=z) hu0
 have h1:=aQu (t:=z) hu0
 have h2:=aFg (t:=z) hu0
 have h3:=aGm (t:=z) hu0
 refine ⟨?_,?_⟩
 ·show ((Rat.divInt z u).num).natAbs < 2 ^ 400
  rw [e.1]
  exact Nat.lt_of_le_of_lt (show (aB1 z u).natAbs<=10 ^ 40 by omega) (by decide)
 ·show (((Rat.divInt z u).den:Int)).natAbs < 2 ^ 400
  rw [e.2]
  have:aB2 z u ∣ u:=⟨_,h2.symm⟩
  have h4:=Int.le_of_dvd hu this
  exact Nat.lt_of_le_of_lt (show (aB2 z u).natAbs<=10 ^ 13 by omega) (by decide)
end L2
namespace L2
open PySem PySem.Spec PyProof.Rows
section
open Sem (wp)
variable {prog:Program} {w:World} {A:Around} {E:Value -> Shared -> Prop} {s:Shared}
theorem aM9 {it t:Addr} {i:Nat} {its:Array Value} {x:Value} {Q:Value->Shared->Prop} (hit:s.heap.IsTupleIter it t i) (ht:s.heap.IsTuple t its) (hx:its[i]?=some x)
  (q:∀ h',h'.IsTupleIter it t (i+1)->Heap.SameBut it s.heap h'->Q x { s with heap:=h' }):wpAny (model prog w) A (Builtin.SmallTypes.nextOf (.ref it)) Q E s:=by
 obtain ⟨o,ho,hc,hd⟩:=id hit
 obtain ⟨ol,hol,_,nl,hdl⟩:=ht
 unfold Builtin.SmallTypes.nextOf
 refine wpAny_bind (wpAny_callSpecial?_slot (name:=Str.ofString "__next__") hit.typeIs F.slot_tuple_iterator_next (wpAny_call_entry F.slot_tuple_iterator_next hit.typeIs F.entry_tuple_iterator_next ?_ (F.args_tuple_iterator_next_1 _)))
 show wpAny _ _ (field (.ref it) 0 >>= _) _ _ s
 refine wpAny_bind (wpAny_field ho hd (x:=.ref t) rfl ?_)
 show wpAny _ _ (if (Value.ref t==Value.none)=true then _ else _) _ _ s
 rw [if_neg (show ¬ ((Value.ref t==Value.none)=true) from Bool.false_ne_true)]
 show wpAny _ _ (field (.ref it) 1 >>= _) _ _ s
 refine wpAny_bind (wpAny_field ho hd (x:=.int i 0) rfl ?_)
 show wpAny _ _ (seqItems? (.ref t) >>= _) _ _ s
 refine wpAny_bind (wpAny_seqItems hol hdl ?_)
 simp only [Int.toNat_natCast,hx]
 refine wpAny_bind (wpAny_setField ho hd (by simp) (wpAny_pure ⟨x,rfl,wpAny_pure (q _ ?_ (Heap.SameBut.update ..))⟩))
 exact ⟨_,Heap.get?_update_self _ ho (Obj.isFreed_of_fields (Obj.data_mapFields hd _)),(Obj.cls_mapFields ..).trans hc,by
  rw [Obj.data_mapFields hd]
  simp [rawInt]⟩
theorem aWx {it t:Addr} {i:Nat} {its:Array Value} {Q:Value->Shared->Prop} (hh:A.handled=none) (hit:s.heap.IsTupleIter it t i) (ht:s.heap.IsTuple t its) (hx:its[i]?=none)
  (q:∀ h' e,Heap.ExtBut it s.heap h'->(∃ o,h'.get? e=some o/\o.cls=.type "StopIteration")->E (.ref e) { s with heap:=h' }):wpAny (model prog w) A (Builtin.SmallTypes.nextOf (.ref it)) Q E s:=by
 obtain ⟨o,ho,hc,hd⟩:=id hit
 obtain ⟨ol,hol,_,nl,hdl⟩:=ht
 unfold Builtin.SmallTypes.nextOf
 refine wpAny_bind (wpAny_callSpecial?_slot (name:=Str.ofString "__next__") hit.typeIs F.slot_tuple_iterator_next (wpAny_call_entry F.slot_tuple_iterator_next hit.typeIs F.entry_tuple_iterator_next ?_ (F.args_tuple_iterator_next_1 _)))
 show wpAny _ _ (field (.ref it) 0 >>= _) _ _ s
 refine wpAny_bind (wpAny_field ho hd (x:=.ref t) rfl ?_)
 show wpAny _ _ (if (Value.ref t==Value.none)=true then _ else _) _ _ s
 rw [if_neg (show ¬ ((Value.ref t==Value.none)=true) from Bool.false_ne_true)]
 show wpAny _ _ (field (.ref it) 1 >>= _) _ _ s
 refine wpAny_bind (wpAny_field ho hd (x:=.int i 0) rfl ?_)
 show wpAny _ _ (seqItems? (.ref t) >>= _) _ _ s
 refine wpAny_bind (wpAny_seqItems hol hdl ?_)
 simp only [Int.toNat_natCast,hx]
 refine wpAny_bind (wpAny_rule (wpAny_bind (wpAny_setField ho hd (by simp) ?_)))
 show wpAny _ _ (newExc (.type "StopIteration") [] >>= _) _ _ _
 refine wpAny_bind ?_
 simp only [newExc,newTuple]
 refine wpAny_bind (wpAny_newObj_type ?_ (by size_fits))
 refine wpAny_bind (m:=firstArgMember _ _) (wpAny_of_eq (a:=Value.none) (by first | rfl | (simp only [firstArgMember]; rfl)) ?_)
 refine wpAny_newObj_type ?_ (by size_fits)
 simp only [raiseNew]
 refine wpAny_bind (wpAny_handled ?_)
 first | rw [show A.in1.handled=none from hh] | rw [hh]
 refine wpAny_bind (wpAny_pure (wpAny_throw ?_))
 exact q _ _ (((Heap.SameBut.update ..).extBut.push _).push _) ⟨_,Heap.get?_push_size _ rfl,rfl⟩
structure ZN (h:Heap) (z TI TO i1 i2 l1 l2:Addr) (k:Nat) (xs ys:Array Value):Prop where
 zp:IsZip h z TI TO .none
 ti:IsPair h TI (.ref i1) (.ref i2)
 to:∃ a b,IsPair h TO a b
 p1:h.IsTupleIter i1 l1 k
 p2:h.IsTupleIter i2 l2 k
 q1:h.IsTuple l1 xs
 q2:h.IsTuple l2 ys
variable {z TI TO i1 i2 l1 l2:Addr} {k:Nat} {xs ys:Array Value}
noncomputable abbrev ZM (h:Heap) (z TI TO:Addr) (f0:Value) (_:Bool):Prop:=IsZip h z TI TO f0
theorem aU1 {x y:Value} {Q:Value->Shared->Prop} (D:ZipApart z TI TO i1 i2 l1 l2) (Z:ZN s.heap z TI TO i1 i2 l1 l2 k xs ys) (hx:xs[k]?=some x) (hy:ys[k]?=some y)
  (hQ:∀ h',IsZip h' z TI TO (rawInt s.heap.objs.size)->IsPair h' s.heap.objs.size x y->h'.objs.size=s.heap.objs.size+1->IsPair h' TI (.ref i1) (.ref i2)->(∃ a b,IsPair h' TO a b)->h'.IsTupleIter i1 l1 (k+1)->h'.IsTupleIter i2 l2 (k+1)->h'.IsTuple l1 xs->h'.IsTuple l2 ys ->
   (∀ c o,c≠z->c≠TO->c≠i1->c≠i2->s.heap.get? c=some o->h'.get? c=some o)->Q (.ref s.heap.objs.size) { s with heap:=h' }) :
  wpAny (model prog w) A (Builtin.«zip.__next__» ⟨[.ref z],[]⟩) (fun fin s'=>∃ v,fin=.done (.ret v)/\Q v s') E s:=by
 obtain ⟨gz,gTI,⟨a,b,gTO⟩,g1,g2,t1,t2⟩:=Z
 have lz:=Heap.lt_size gz
 have nw:∀ {c:Addr},c < s.heap.objs.size->s.heap.objs.size≠c:=fun h=>Nat.ne_of_gt h
 show wpAny _ _ (field (.ref z) 2 >>= _) _ _ _
 refine wpAny_bind (wpAny_field gz rfl (x:=.bool false) rfl ?_)
 show wpAny _ _ (field (.ref z) 3 >>= _) _ _ _
 refine wpAny_bind (wpAny_field gz rfl (x:=.ref TI) rfl ?_)
 refine wpAny_bind (wpAny_seqItems gTI rfl ?_)
 show wpAny _ _ (Builtin.SmallTypes.ownedTupleIsFree (.ref z) >>= _) _ _ _
 refine wpAny_bind ?_
 unfold Builtin.SmallTypes.ownedTupleIsFree
 refine wpAny_bind (wpAny_field gz rfl (x:=.none) rfl (wpAny_pure ?_))
 simp only [if_true]
 refine wpAny_bind (wpAny_rule (wpAny_bind (wpAny_field gz rfl (x:=.ref TO) rfl ?_)))
 refine wpAny_bind (wpAny_setField_rec gz (by simp) fun m1 gz1 c1=>?_)
 replace gz1:ZM m1 z TI TO .ellipsis false:=gz1
 refine wpAny_bind ?_
 simp only [List.zipIdx_cons,List.zipIdx_nil,List.forIn_cons,List.forIn_nil]
 refine wpAny_bind (wpAny_bind (wpAny_onRaise ?_))
 show wpAny _ _ (Builtin.SmallTypes.nextOf (.ref i1) >>= _) _ _ _
 refine wpAny_bind (aM9 (g1.at fun o e=>c1.extBut _ o D.i1z e) (t1.at fun o e=>c1.extBut _ o D.l1z e) hx fun m2 g12 c2=>wpAny_pure ?_)
 have gTO2:IsPair m2 TO a b:=c2.extBut _ _ D.TOi1 (c1.extBut _ _ D.TOz gTO)
 refine wpAny_bind (wpAny_seqItems gTO2 rfl ?_)
 refine wpAny_bind (wpAny_updateSeq_pair gTO2 fun m3 gTO3 c3=>?_)
 replace gTO3:IsPair m3 TO x b:=gTO3
 refine wpAny_bind (wpAny_letGo (wpAny_pure (wpAny_bind (wpAny_bind (wpAny_onRaise ?_)))))
 show wpAny _ _ (Builtin.SmallTypes.nextOf (.ref i2) >>= _) _ _ _
 refine wpAny_bind (aM9 (g2.at fun o e=>c3.extBut _ o D.TOi2.symm (c2.extBut _ o D.i12.symm (c1.extBut _ o D.i2z e))) (t2.at fun o e=>c3.extBut _ o D.l2TO (c2.extBut _ o D.l2i1 (c1.extBut _ o D.l2z e))) hy fun m4 g24 c4=>wpAny_pure ?_)
 have gTO4:IsPair m4 TO x b:=c4.extBut _ _ D.TOi2 gTO3
 refine wpAny_bind (wpAny_seqItems gTO4 rfl ?_)
 refine wpAny_bind (wpAny_updateSeq_pair gTO4 fun m5 gTO5 c5=>?_)
 replace gTO5:IsPair m5 TO x y:=gTO5
 refine wpAny_bind (wpAny_letGo (wpAny_pure (wpAny_pure (wpAny_bind (wpAny_seqItems gTO5 rfl ?_)))))
 refine wpAny_bind (wpAny_newTuple ?_)
 have e5:m5.objs.size=s.heap.objs.size:=by rw [c5.1,c4.1,c3.1,c2.1,c1.1]
 have gz5:ZM m5 z TI TO .ellipsis false:=c5.extBut _ _ D.TOz.symm (c4.extBut _ _ D.i2z.symm (c3.extBut _ _ D.TOz.symm (c2.extBut _ _ D.i1z.symm gz1)))
 have kp5:∀ c o,c≠z->c≠TO->c≠i1->c≠i2->s.heap.get? c=some o->m5.get? c=some o:=fun c o n1 n2 n3 n4 e=>c5.extBut _ _ n2 (c4.extBut _ _ n4 (c3.extBut _ _ n2 (c2.extBut _ _ n3 (c1.extBut _ _ n1 e))))
 have g15:m5.IsTupleIter i1 l1 (k+1):=g12.at fun o e=>c5.extBut _ o D.TOi1.symm (c4.extBut _ o D.i12 (c3.extBut _ o D.TOi1.symm e))
 have g25:m5.IsTupleIter i2 l2 (k+1):=g24.at fun o e=>c5.extBut _ o D.TOi2.symm e
 show wpAny _ _ (Builtin.SmallTypes.ownedTupleHandOut (.ref z) (.ref m5.objs.size) >>= _) _ _ _
 refine wpAny_bind ?_
 unfold Builtin.SmallTypes.ownedTupleHandOut
 have gz6:ZM (m5.push { cls:=.type "tuple",data:=.seq #[x,y] }) z TI TO .ellipsis false:=Heap.get?_push_of_some _ gz5
 refine wpAny_bind (wpAny_setField_rec gz6 (by simp) fun m7 gz7 c7=>?_)
 replace gz7:ZM m7 z TI TO (rawInt m5.objs.size) false:=gz7
 refine wpAny_setField_rec gz7 (by simp) fun m8 gz8 c8=>?_
 replace gz8:ZM m8 z TI TO (rawInt m5.objs.size) false:=gz8
 have up:∀ c o,c≠z->m5.get? c=some o->m8.get? c=some o:=fun c o n1 e=>c8.extBut _ _ n1 (c7.extBut _ _ n1 (Heap.get?_push_of_some _ e))
 have gp:IsPair m8 m5.objs.size x y:=c8.extBut _ _ (by rw [e5]; exact nw lz) (c7.extBut _ _ (by rw [e5]; exact nw lz) (Heap.get?_push_size _ rfl))
 have e8:m8.objs.size=m5.objs.size+1:=by rw [c8.1,c7.1,Heap.size_push]
 rw [e5] at gz8 gp e8
 refine wpAny_pure ⟨_,rfl,?_⟩
 show Q (.ref m5.objs.size) _
 rw [e5]
 exact hQ m8 gz8 gp e8 (up _ _ D.TIz (kp5 _ _ D.TIz D.TITO D.TIi1 D.TIi2 gTI)) ⟨_,_,up _ _ D.TOz gTO5⟩ (g15.at fun o e=>up _ o D.i1z e) (g25.at fun o e=>up _ o D.i2z e)
  (t1.at fun o e=>up _ o D.l1z (kp5 _ _ D.l1z D.l1TO D.l1i1 D.l1i2 e)) (t2.at fun o e=>up _ o D.l2z (kp5 _ _ D.l2z D.l2TO D.l2i1 D.l2i2 e)) fun c o n1 n2 n3 n4 e=>up c o n1 (kp5 c o n1 n2 n3 n4 e)
theorem aX3 {Q:PySem.Fin->Shared->Prop} (hh:A.handled=none) (D:ZipApart z TI TO i1 i2 l1 l2) (Z:ZN s.heap z TI TO i1 i2 l1 l2 k xs ys) (hx:xs[k]?=none)
  (hE:∀ h' e,(∀ c o,c≠z->c≠TO->c≠i1->c≠i2->s.heap.get? c=some o->h'.get? c=some o)->(∃ o,h'.get? e=some o/\o.cls=.type "StopIteration")->E (.ref e) { s with heap:=h' }) :
  wpAny (model prog w) A (Builtin.«zip.__next__» ⟨[.ref z],[]⟩) Q E s:=by
 obtain ⟨gz,gTI,⟨a,b,gTO⟩,g1,g2,t1,t2⟩:=Z
 show wpAny _ _ (field (.ref z) 2 >>= _) _ _ _
 refine wpAny_bind (wpAny_field gz rfl (x:=.bool false) rfl ?_)
 show wpAny _ _ (field (.ref z) 3 >>= _) _ _ _
 refine wpAny_bind (wpAny_field gz rfl (x:=.ref TI) rfl (wpAny_bind (wpAny_seqItems gTI rfl ?_)))
 show wpAny _ _ (Builtin.SmallTypes.ownedTupleIsFree (.ref z) >>= _) _ _ _
 refine wpAny_bind ?_
 unfold Builtin.SmallTypes.ownedTupleIsFree
 refine wpAny_bind (wpAny_field gz rfl (x:=.none) rfl (wpAny_pure ?_))
 simp only [if_true]
 refine wpAny_bind (wpAny_rule (wpAny_bind (wpAny_field gz rfl (x:=.ref TO) rfl ?_)))
 refine wpAny_bind (wpAny_setField_rec gz (by simp) fun m1 gz1 c1=>?_)
 replace gz1:IsZip m1 z TI TO .ellipsis:=gz1
 refine wpAny_bind ?_
 simp only [List.zipIdx_cons,List.zipIdx_nil,List.forIn_cons,List.forIn_nil]
 refine wpAny_bind (wpAny_bind (wpAny_onRaise ?_))
 show wpAny _ _ (Builtin.SmallTypes.nextOf (.ref i1) >>= _) _ _ _
 refine wpAny_bind (aWx hh (g1.at fun o e=>c1.extBut _ o D.i1z e) (t1.at fun o e=>c1.extBut _ o D.l1z e) hx fun m2 e c2 he=>?_)
 obtain ⟨oe,hoe,hce⟩:=he
 have gz2:IsZip m2 z TI TO .ellipsis:=c2 _ _ D.i1z.symm gz1
 have hez:e≠z:=fun x=>by subst x; rw [gz2] at hoe; cases hoe; simp at hce
 exact wpAny_setField_rec gz2 (by simp) fun m3 _ c3=>hE m3 e (fun c o n1 _ n3 _ x=>c3.extBut _ _ n1 (c2 _ _ n3 (c1.extBut _ _ n1 x))) ⟨oe,c3.extBut _ _ hez hoe,hce⟩
theorem aTg {x y:Value} {Q:Option Value->Shared->Prop} (D:ZipApart z TI TO i1 i2 l1 l2) (Z:ZN s.heap z TI TO i1 i2 l1 l2 k xs ys) (hx:xs[k]?=some x) (hy:ys[k]?=some y)
  (hQ:∀ h',IsZip h' z TI TO (rawInt s.heap.objs.size)->IsPair h' s.heap.objs.size x y->h'.objs.size=s.heap.objs.size+1->IsPair h' TI (.ref i1) (.ref i2)->(∃ a b,IsPair h' TO a b)->h'.IsTupleIter i1 l1 (k+1)->h'.IsTupleIter i2 l2 (k+1)->h'.IsTuple l1 xs->h'.IsTuple l2 ys ->
   (∀ c o,c≠z->c≠TO->c≠i1->c≠i2->s.heap.get? c=some o->h'.get? c=some o)->Q (some (.ref s.heap.objs.size)) { s with heap:=h' }) :
  wpAny (model prog w) A (pyNext (.ref z)) Q E s:=by
 have hT:s.TypeIs (.ref z) "zip":=⟨_,Z.zp,rfl⟩
 unfold pyNext
 refine wpAny_bind (wpAny_attempt (wpAny_callSpecial?_slot (name:=Str.ofString "__next__") hT F.slot_zip_next (wpAny_call_entry F.slot_zip_next hT F.entry_zip_next ?_ (F.args_zip_next_1 _))))
 exact aU1 D Z hx hy fun h' a1 a2 a3 a4 a5 a6 a7 a8 a9 a10=>wpAny_pure (hQ h' a1 a2 a3 a4 a5 a6 a7 a8 a9 a10)
theorem aWw {Q:Option Value->Shared->Prop} (hh:A.handled=none) (D:ZipApart z TI TO i1 i2 l1 l2) (Z:ZN s.heap z TI TO i1 i2 l1 l2 k xs ys) (hx:xs[k]?=none)
  (hQ:∀ h',(∀ c o,c≠z->c≠TO->c≠i1->c≠i2->s.heap.get? c=some o->h'.get? c=some o)->Q none { s with heap:=h' }):wpAny (model prog w) A (pyNext (.ref z)) Q E s:=by
 have hT:s.TypeIs (.ref z) "zip":=⟨_,Z.zp,rfl⟩
 unfold pyNext
 refine wpAny_bind (wpAny_attempt (wpAny_callSpecial?_slot (name:=Str.ofString "__next__") hT F.slot_zip_next (wpAny_call_entry F.slot_zip_next hT F.entry_zip_next ?_ (F.args_zip_next_1 _))))
 refine aX3 hh D Z hx fun h' e kp he=>?_
 obtain ⟨o,ho,hc⟩:=he
 exact wpAny_bind (wpAny_isInstance (T:="StopIteration") (b:=true) ⟨o,ho,hc⟩ isSubtype_stop (wpAny_pure (hQ _ kp)))
noncomputable abbrev zU1 (h:Heap) (l1:Addr):Heap:=h.push { cls:=.type "tuple_iterator",data:=.fields #[.ref l1,.int 0 0] }
noncomputable abbrev zU2 (h:Heap) (l1 l2:Addr):Heap:=(zU1 h l1).push { cls:=.type "tuple_iterator",data:=.fields #[.ref l2,.int 0 0] }
noncomputable abbrev zU3 (h:Heap) (l1 l2:Addr):Heap:=(zU2 h l1 l2).push { cls:=.type "tuple",data:=.seq #[.ref h.objs.size,.ref (zU1 h l1).objs.size] }
noncomputable abbrev zU4 (h:Heap) (l1 l2:Addr):Heap:=(zU3 h l1 l2).push { cls:=.type "tuple",data:=.seq #[.none,.none] }
noncomputable abbrev zU5 (h:Heap) (l1 l2:Addr):Heap:=(zU4 h l1 l2).push { cls:=.type "zip",data:=.fields #[.none,.bool false,.bool false,.ref (zU2 h l1 l2).objs.size,.ref (zU3 h l1 l2).objs.size] }
theorem aN8 (l1 l2:Addr) (xs ys:Array Value) :
  Meets (Builtin.«zip.__new__» ⟨[.type "zip",.ref l1,.ref l2],[]⟩) (fun _ R s=>s.heap.IsTuple l1 xs/\s.heap.IsTuple l2 ys/\R (.ok (.ret (.ref (zU4 s.heap l1 l2).objs.size))) { s with heap:=zU5 s.heap l1 l2 }) :=
 .of_wp fun prog w A R s h=>by
  obtain ⟨hp,g,d,tk,os⟩:=s
  obtain ⟨a1,a2,h⟩:=h
  have sz:=sub_zip
  have b1:Heap.IsTuple (Shared.heap ⟨hp,g,d,tk,os⟩) l1 xs:=a1
  have b2:Heap.IsTuple (Shared.heap ⟨zU1 hp l1,g,d,tk,os⟩) l2 ys:=a2.at fun o e=>Heap.get?_push_of_some _ e
  wp_walk using wpAny_pyIter_tuple b1,wpAny_pyIter_tuple b2
  exact ⟨_,rfl,h⟩
theorem aRt {Q:Value->Shared->Prop} (a1:s.heap.IsTuple l1 xs) (a2:s.heap.IsTuple l2 ys)
  (q:∀ h',ZN h' (s.heap.objs.size+4) (s.heap.objs.size+2) (s.heap.objs.size+3) s.heap.objs.size (s.heap.objs.size+1) l1 l2 0 xs ys->h'.objs.size=s.heap.objs.size+5->(∀ c o,s.heap.get? c=some o->h'.get? c=some o)->Q (.ref (s.heap.objs.size+4)) { s with heap:=h' }) :
  wpAny (model prog w) A (call (.type "zip") [.ref l1,.ref l2]) Q E s:=by
 refine callType_new F.called_zip (by decide) (F.typeCall_zip_2 _ _) (F.newCall_zip_2 _ _) (fun obj=>F.args_object_init_3 obj _ _) F.entry_zip_new (aN8 l1 l2 xs ys) ⟨a1,a2,?_⟩
 have n1:(zU1 s.heap l1).objs.size=s.heap.objs.size+1:=Heap.size_push ..
 have n2:(zU2 s.heap l1 l2).objs.size=s.heap.objs.size+2:=by rw [Heap.size_push,n1]
 have n3:(zU3 s.heap l1 l2).objs.size=s.heap.objs.size+3:=by rw [Heap.size_push,n2]
 have n4:(zU4 s.heap l1 l2).objs.size=s.heap.objs.size+4:=by rw [Heap.size_push,n3]
 have n5:(zU5 s.heap l1 l2).objs.size=s.heap.objs.size+5:=by rw [Heap.size_push,n4]
 have r5:(zU5 s.heap l1 l2).get? (zU4 s.heap l1 l2).objs.size=some _:=Heap.get?_push_size _ rfl
 have r4:(zU5 s.heap l1 l2).get? (zU3 s.heap l1 l2).objs.size=some _:=Heap.get?_push_of_some _ (Heap.get?_push_size _ rfl)
 have r3:(zU5 s.heap l1 l2).get? (zU2 s.heap l1 l2).objs.size=some _:=Heap.get?_push_of_some _ (Heap.get?_push_of_some _ (Heap.get?_push_size _ rfl))
 have r2:(zU5 s.heap l1 l2).get? (zU1 s.heap l1).objs.size=some _:=Heap.get?_push_of_some _ (Heap.get?_push_of_some _ (Heap.get?_push_of_some _ (Heap.get?_push_size _ rfl)))
 have r1:(zU5 s.heap l1 l2).get? s.heap.objs.size=some _:=Heap.get?_push_of_some _ (Heap.get?_push_of_some _ (Heap.get?_push_of_some _ (Heap.get?_push_of_some _ (Heap.get?_push_size _ rfl))))
 have kp:∀ c o,s.heap.get? c=some o->(zU5 s.heap l1 l2).get? c=some o:=fun c o e=>Heap.get?_push_of_some _ (Heap.get?_push_of_some _ (Heap.get?_push_of_some _ (Heap.get?_push_of_some _ (Heap.get?_push_of_some _ e))))
 show _/\_
 rw [n2,n3,n4] at r5
 rw [n1,n2] at r3
 rw [n3] at r4
 rw [n1] at r2
 rw [n4]
 exact ⟨⟨_,r5,rfl⟩,q _ ⟨r5,r3,⟨_,_,r4⟩,⟨_,r1,rfl,rfl⟩,⟨_,r2,rfl,rfl⟩,a1.at fun o e=>kp _ o e,a2.at fun o e=>kp _ o e⟩ n5 kp⟩
end
structure ZTn (h:Heap) (z TI TO i1 i2 l1 l2:Addr) (k:Nat):Prop where
 zp:IsZip h z TI TO .none
 ti:IsPair h TI (.ref i1) (.ref i2)
 to:∃ a b,IsPair h TO a b
 p1:h.IsTupleIter i1 l1 k
 p2:h.IsTupleIter i2 l2 k
theorem Inv.turnL {X:Cx} {pins:List (Addr×Obj)} {σ:St} {H:Hp} {s:Shared} {h':Heap} {t':Nat} (ch:List Addr) (I:Inv X pins σ H s) (hf:∀ b∈ch,aOl X pins H b) (k:∀ b o,b∉ch->s.heap.get? b=some o->h'.get? b=some o):Inv X pins σ H { s with heap:=h',toks:=t' }:=by
 refine I.step (g':=s.gens) (d':=s.drawn) (ch:=ch) (fun b hb=>?_) (fun b o _ _ hc e _=>k b o hc e) (fun b o _ _ hc e _=>⟨o.slots,k b o hc e⟩) (fun _ _ _ _ n=>n)
  (fun b o hc e=>⟨o,k b o hc e⟩) (fun _ _ e=>e) (fun _ _ _ e=>e) (fun b ps e=>⟨#[],by rw [e]; simp⟩) (fun m hm=>?_) (fun b u e=>?_) I.bare
 ·obtain ⟨f0,f1,f2,f3,f4,f5⟩:=hf b hb
  exact ⟨f3,f1,f4,f5⟩
 ·obtain ⟨o,es,ep,ho,r⟩:=hm
  exact ⟨o,es,ep,k _ o (fun z=>(hf _ z).2.1 rfl) ho,r⟩
 ·refine (I.hok b u e).stay (fun c v hc q=>k c v ?_ q) (fun _ q=>q) fun _ _ q=>q
  intro z
  have:=(hf c z).1
  rcases hc with rfl | hc
  ·rw [this] at e; cases e
  ·rw [this] at hc; cases hc
noncomputable def IzT (K:PySem.W.Frag) (a b:Addr):It :=
 ⟨fun i H=>∃ xs ys x y,SqT K H a xs/\SqT K H b ys/\xs[i]?=some x/\ys[i]?=some y,fun i H v H'=>∃ T x y,v=.ref T/\H T=none/\H'=upd H T (.tup [x,y])/\(∀ xs,SqT K H a xs->xs[i]?=some x)/\∀ ys,SqT K H b ys->ys[i]?=some y,fun i H=>∃ xs ys,SqT K H a xs/\SqT K H b ys/\xs.length=i⟩
theorem aOq {P:Program} {w:World} {K:PySem.W.Frag} {elts:List Expr} {k1:Nat} {tpos:Pos} {z TI TO i1 i2 a b:Addr} (D:ZipApart z TI TO i1 i2 a b) :
  aXu P w K (.Tuple elts k1 tpos) (IzT K a b) [z,TI,TO,i1,i2] z (fun i h=>ZTn h z TI TO i1 i2 a b i) where
 mem:=by simp
 obj:=fun i h st c hc=>by
  obtain ⟨g1,g2,⟨u,v,g3⟩,⟨o4,g4,_,d4⟩,⟨o5,g5,_,d5⟩⟩:=st
  simp only [List.mem_cons,List.not_mem_nil,or_false] at hc
  rcases hc with rfl | rfl | rfl | rfl | rfl
  ·exact ⟨_,g1,fun v z=>nomatch z⟩
  ·exact ⟨_,g2,fun v z=>nomatch z⟩
  ·exact ⟨_,g3,fun v z=>nomatch z⟩
  ·exact ⟨_,g4,fun v z=>by rw [d4] at z; cases z⟩
  ·exact ⟨_,g5,fun v z=>by rw [d5] at z; cases z⟩
 keep:=fun i h h' st k=>by
  obtain ⟨g1,g2,⟨u,v,g3⟩,g4,g5⟩:=st
  exact ⟨k z (by simp) _ g1,k TI (by simp) _ g2,⟨u,v,k TO (by simp) _ g3⟩,g4.at fun o q=>k i1 (by simp) o q,g5.at fun o q=>k i2 (by simp) o q⟩
 item:=by
  intro X hP hw hK hc i pins s σ H E I hf st hg
  subst hP hw hK
  obtain ⟨xs,ys,x,y,hq,hq2,hx,hy⟩:=hg
  obtain ⟨its,rv,p,hz⟩:=I.tuple hq
  obtain ⟨jts,rw2,p2,hz2⟩:=I.tuple hq2
  obtain ⟨u,hu,ru⟩:=rv.get hx
  obtain ⟨u2,hu2,ru2⟩:=rw2.get hy
  obtain ⟨g1,g2,g3,g4,g5⟩:=st
  have lz:=Heap.lt_size g1
  have hTn:H s.heap.objs.size=none:=I.hok.fresh (Nat.le_refl _)
  refine aTg D ⟨g1,g2,g3,g4,g5,p,p2⟩ (by simpa using hu) (by simpa using hu2) fun h' a1 a2 a3 a4 a5 a6 a7 a8 a9 a10=>?_
  refine ⟨_,rfl,wpAny_letOwnedTupleGo_zip (s:={ s with heap:=h' }) a1 fun h2 b1 sb=>?_⟩
  have hTz:s.heap.objs.size≠z:=Nat.ne_of_gt lz
  have k2:∀ c o,c∉[z,TI,TO,i1,i2]->s.heap.get? c=some o->h2.get? c=some o:=fun c o n q=>by
   simp only [List.mem_cons,List.not_mem_nil,or_false,not_or] at n
   exact (sb.2 c n.1).trans (a10 c o n.1 n.2.2.1 n.2.2.2.1 n.2.2.2.2 q)
  have I1:Inv X pins σ H { s with heap:=h2,toks:=s.toks }:=I.turnL [z,TI,TO,i1,i2] hf k2
  have hT2:h2.get? s.heap.objs.size=some { cls:=.type "tuple",data:=.seq #[u,u2] }:=(sb.2 _ hTz).trans a2
  have I2:Inv X pins σ (upd H s.heap.objs.size (.tup [x,y])) { s with heap:=h2,toks:=s.toks }:=by
   have nn:∀ {b:Addr},b < s.heap.objs.size->H b=none->upd H s.heap.objs.size (.tup [x,y]) b=none:=fun {b} hb e=>by rw [aAu (Nat.ne_of_lt hb)]; exact e
   have old:∀ {b:Addr} {o:HO},H b=some o->upd H s.heap.objs.size (.tup [x,y]) b=some o:=fun {b o} e=>by rw [aAu (aAe e hTn)]; exact e
   refine ⟨I1.ok,I1.os,I1.bare,⟨I1.base.keep,I1.base.slot,fun b o q n hx=>nn ?_ (I1.base.free b o q n hx),I1.base.there,fun b ys q=>old (I1.base.tups b ys q),fun b o v q=>old (I1.base.frzs b o v q),fun b ps q=>?_⟩,I1.loc,I1.cell,nn I.lt I1.free,fun y c q=>nn ?_ (I1.freeC y c q),fun p hp=>?_,fun b o q=>?_,I1.len⟩
   ·exact Nat.lt_of_lt_of_le (Heap.lt_size q) I.sz
   ·obtain ⟨more,z⟩:=I1.base.tbls b ps q
    exact ⟨more,old z⟩
   ·obtain ⟨v,z⟩:=I.cell y c q
    exact z.lt
   ·obtain ⟨z1,z2,z3⟩:=I1.pin p hp
    exact ⟨z1,nn (Heap.lt_size (I.pin p hp).1) z2,z3⟩
   ·by_cases hb:b=s.heap.objs.size
    ·subst hb
     rw [aAb] at q
     cases q
     exact ⟨⟨by rw [sizeLine_eq]; simp,_,hT2,rfl⟩,[u,u2],.cons ru (.cons ru2 .nil),_,hT2,rfl,_,rfl⟩
    ·rw [aAu hb] at q
     exact (I1.hok b o q).stay (fun _ _ _ z=>z) (fun c z=>old z) fun c ys z=>old z
  have tn2:ZTn h2 z TI TO i1 i2 a b (i+1):=⟨b1,(sb.2 _ D.TIz).trans a4,let ⟨u,v,g⟩:=a5; ⟨u,v,(sb.2 _ D.TOz).trans g⟩,a6.at fun o q=>(sb.2 _ D.i1z).trans q,a7.at fun o q=>(sb.2 _ D.i2z).trans q⟩
  refine ⟨.ref s.heap.objs.size,_,I2,rfl,⟨s.heap.objs.size,x,y,rfl,hTn,rfl,fun zs hy=>by rw [I.tuple_inj hy hq]; exact hx,fun zs hy'=>by rw [I.tuple_inj hy' hq2]; exact hy⟩,tn2,fun c hc=>?_⟩
  have:c≠s.heap.objs.size:=by
   intro e
   obtain ⟨⟨o1,q1⟩,_⟩:(∃ o,s.heap.get? c=some o)/\True:=⟨by
    simp only [List.mem_cons,List.not_mem_nil,or_false] at hc
    rcases hc with rfl | rfl | rfl | rfl | rfl
    ·exact ⟨_,g1⟩
    ·exact ⟨_,g2⟩
    ·obtain ⟨_,_,g⟩:=g3; exact ⟨_,g⟩
    ·obtain ⟨_,g,_⟩:=g4; exact ⟨_,g⟩
    ·obtain ⟨_,g,_⟩:=g5; exact ⟨_,g⟩,trivial⟩
   exact Nat.ne_of_lt (Heap.lt_size q1) e
  rw [aAu this]
  exact (hf c hc).1
 done:=by
  intro X hP hw hK hc i pins s σ H E I hf st hg
  subst hP hw hK
  obtain ⟨xs,ys,hq,hq2,hx⟩:=hg
  obtain ⟨its,rv,p,hz⟩:=I.tuple hq
  obtain ⟨jts,rw2,p2,hz2⟩:=I.tuple hq2
  obtain ⟨g1,g2,g3,g4,g5⟩:=st
  have hl:=rv.length
  refine aWw (show X.A.in1.handled=none from I.ok.hd hc) D ⟨g1,g2,g3,g4,g5,p,p2⟩ (by simp; omega) fun h' kp=>⟨rfl,?_⟩
  exact I.turnL (t':=s.toks) [z,TI,TO,i1,i2] hf fun c o n q=>by
   simp only [List.mem_cons,List.not_mem_nil,or_false,not_or] at n
   exact kp c o n.1 n.2.2.1 n.2.2.2.1 n.2.2.2.2 q
 self:=fun _ _ _ _ _ st h=>wpAny_pyIter_zip st.zp h
section
variable {X:Cx} {pins:List (Addr×Obj)} {σ:St} {H:Hp} {s:Shared} {tg:Expr} {K:PySem.W.Frag} {D:aE4}
noncomputable def bBg (K:PySem.W.Frag) (tl:TA):TI:=fun σ H R=>tl σ H fun vs H1=>∃ a b,vs=[.ref a,.ref b]/\(∃ xs,SqT K H1 a xs)/\(∃ ys,SqT K H1 b ys)/\R (IzT K a b) H1
theorem aWh {l m:Expr} {tl:TA} {elts:List Expr} {k1:Nat} {tpos p pos:Pos} (hg:Gl X "zip") (hm:X.mg "zip"=none) (ha:PA X [l,m] tl) (hs:starEach [l,m] X.env=(false,eval l X.env)::starEach [m] X.env:=by rfl) (hpl:(backTo pos (starEach [m] X.env)).any (·.1)=false:=by rfl) :
  PI X (.Tuple elts k1 tpos) (.Call (.Name "zip" p) [l,m] [] pos) (bBg X.K tl):=by
 intro pins s σ H R I h
 refine Call_ (aEo I hg hm bB6 (PyProof.Rows.callWith_type1 (thn (ha pos pins s σ H _ I h) fun us s1 ⟨vs,H1,I1,r1,q1⟩=>?_) hs hpl))
 obtain ⟨a,b,e,⟨xs,hq⟩,⟨ys,hq2⟩,q⟩:=q1
 subst e
 obtain ⟨u1,u2,rfl,ra,rb⟩:=r1.two
 cases ra
 cases rb
 obtain ⟨its,rv,p,hz⟩:=I1.tuple hq
 obtain ⟨jts,rw2,p2,hz2⟩:=I1.tuple hq2
 refine aRt p p2 fun h' Z e5 kp=>?_
 have la:a < s1.heap.objs.size:=by obtain ⟨o,g,_⟩:=p; exact Heap.lt_size g
 have lb:b < s1.heap.objs.size:=by obtain ⟨o,g,_⟩:=p2; exact Heap.lt_size g
 have I2:Inv X pins σ H1 { s1 with heap:=h' }:=I1.kept (t':=s1.toks) kp
 have fr:∀ i,aOl X pins H1 (s1.heap.objs.size+i):=fun i=>I1.fpOk (Nat.le_add_right _ _) (I1.hok.fresh (Nat.le_add_right _ _))
 have D:ZipApart (s1.heap.objs.size+4) (s1.heap.objs.size+2) (s1.heap.objs.size+3) s1.heap.objs.size (s1.heap.objs.size+1) a b:=by
  generalize s1.heap.objs.size=N at *
  have nn:∀ {c i:Nat},c < N->c≠N+i:=fun h=>Nat.ne_of_lt (Nat.lt_of_lt_of_le h (Nat.le_add_right _ _))
  have ne:∀ {i j:Nat},i≠j->N+i≠N+j:=fun h z=>h (Nat.add_left_cancel z)
  have n0:∀ {i:Nat},0 < i->N+i≠N:=fun h=>Nat.ne_of_gt (Nat.lt_add_of_pos_right h)
  exact ⟨ne (by decide),ne (by decide),(n0 (by decide)).symm,ne (by decide),ne (by decide),n0 (by decide),ne (by decide),n0 (by decide),ne (by decide),(n0 (by decide)).symm,nn la,nn la,Nat.ne_of_lt la,nn la,nn lb,nn lb,Nat.ne_of_lt lb,nn lb⟩
 refine wpAny_pyIter_zip Z.zp ?_
 refine ⟨_,[s1.heap.objs.size+4,s1.heap.objs.size+2,s1.heap.objs.size+3,s1.heap.objs.size,s1.heap.objs.size+1],_,_,H1,rfl,I2,aOq D,⟨Z.zp,Z.ti,Z.to,Z.p1,Z.p2⟩,fun c hc=>?_,q⟩
 simp only [List.mem_cons,List.not_mem_nil,or_false] at hc
 rcases hc with rfl | rfl | rfl | rfl | rfl
 ·exact fr 4
 ·exact fr 2
 ·exact fr 3
 ·exact fr 0
 ·exact fr 1
theorem aVw {tl:TA} {R:It->Hp->Prop} (k:tl σ H fun vs H1=>∃ a b,vs=[.ref a,.ref b]/\(∃ xs,SqT K H1 a xs)/\(∃ ys,SqT K H1 b ys)/\R (IzT K a b) H1):bBg K tl σ H R:=k
theorem e_Z {a b:Addr} {xs ys:List V} {R:It->Hp->Prop} (h:H a=some (.tup xs)) (h2:H b=some (.tup ys)) (k:R (IzT K a b) H):∃ a' b',[V.ref a,V.ref b]=[.ref a',.ref b']/\(∃ xs,SqT K H a' xs)/\(∃ ys,SqT K H b' ys)/\R (IzT K a' b') H:=⟨a,b,rfl,⟨xs,SqT.of h⟩,⟨ys,SqT.of h2⟩,k⟩
theorem aZr {a b:Addr} {xs ys:List V} {g:TG} {tb:TS} (hl:xs.length=ys.length) (Pv:Nat->St->Hp->Prop) (h0:Pv 0 σ H) (hl1:∀ i σ H,i<=xs.length->Pv i σ H->SqT K H a xs/\SqT K H b ys)
  (hs:∀ i x y T σ H,xs[i]?=some x->ys[i]?=some y->H T=none->Pv i σ H->g (.ref T) σ (upd H T (.tup [x,y])) fun σ2 H2=>tb ⟨Pv (i+1),D.rt,D.nx,Pv (i+1)⟩ σ2 H2) (hd:∀ σ H,Pv xs.length σ H->D.nx σ H):aSa g tb D σ (IzT K a b) H:=by
 refine ⟨fun i m σ H=>m=xs.length - i/\i<=xs.length/\Pv i σ H,⟨_,rfl,Nat.zero_le _,h0⟩,?_⟩
 rintro i m σ H ⟨rfl,hi,p⟩
 obtain ⟨q,q2⟩:=hl1 i σ H hi p
 by_cases hlt:i < xs.length
 ·refine .inr ⟨⟨xs,ys,xs[i],ys[i],q,q2,by simp [hlt],by simp [← hl,hlt]⟩,Pv (i+1),fun σ' H' q=>⟨xs.length - (i+1),by omega,rfl,hlt,q⟩,fun x H' y=>?_⟩
  obtain ⟨T,x',y',rfl,hT,rfl,e,e2⟩:=y
  exact hs i x' y' T σ H (e xs q) (e2 ys q2) hT p
 ·have:i=xs.length:=by omega
  subst this
  exact .inl ⟨⟨xs,ys,q,q2,rfl⟩,hd σ H p⟩
noncomputable def ty4 (H:Hp):V->Value->Prop
 | .non,t=>t=.type "NoneType"
 | .int _,t=>t=.type "int"
 | .str _,t=>t=.type "str"
 | .ref a,t=>t=.type "tuple"/\∃ xs,H a=some (.tup xs)
 | _,_=>False
noncomputable def rIsTT (K:PySem.W.Frag):List V->Hp->VK->Prop:=fun vs H Q=>∃ x t p T1 T2 b1 b2,vs=[x,.ref p]/\H p=some (.tup [.ty T1,.ty T2])/\ty4 H x t/\PySem.W.kitOne K t (.type T1)=some b1/\PySem.W.kitOne K t (.type T2)=some b2/\Q (.bl (b1 || b2)) H
theorem aXs {t c d:Value} {b1 b2:Bool} (h1:PySem.W.kitOne K t c=some b1) (h2:PySem.W.kitOne K t d=some b2):PySem.W.kitAny K t [c,d]=some (b1 || b2):=by
 unfold PySem.W.kitAny
 rw [h1]
 cases b1 with
 | true=>rfl
 | false =>
  dsimp only
  unfold PySem.W.kitAny
  rw [h2]
  cases b2 with
  | true=>rfl
  | false=>rfl
theorem aRx:aEc X (.builtin "isinstance") (rIsTT X.K):=by
 intro pins s σ H xs us Q I r h
 obtain ⟨x,t,p,T1,T2,b1,b2,rfl,hp,ty,e1,e2,q⟩:=h
 obtain ⟨u,v,rfl,ru,rv⟩:=aBn.two r
 cases rv
 obtain ⟨_,its,rt,tp⟩:=I.hok p _ hp
 obtain ⟨w1,w2,rfl,r1,r2⟩:=aBn.two rt
 obtain rfl:w1=Value.type T1:=r1
 obtain rfl:w2=Value.type T2:=r2
 obtain ⟨o,ho,hc,n,hd⟩:=tp
 obtain ⟨oc,od,oo,os⟩:=o
 dsimp only at hc hd
 subst hc hd
 have fin:∀ tk,EP X pins σ Q (.bool (b1 || b2)) { s with toks:=tk }:=fun tk=>⟨.bl (b1 || b2),H,I.tok tk,rfl,q⟩
 have ea:=aXs e1 e2
 cases x with
 | non=>cases (show t=_ from ty); cases (show u=Value.none from ru); exact PySem.W.kia_tup PySem.W.kitx_none I.kIn True.intro ho ea (fun z=>nomatch z) fin
 | int i=>cases (show t=_ from ty); obtain ⟨t',q'⟩:=(show ∃ t,u=Value.int i t from ru); cases q'; exact PySem.W.kia_tup PySem.W.kitx_int I.kIn True.intro ho ea (fun z=>nomatch z) fin
 | str y=>cases (show t=_ from ty); obtain ⟨t',q'⟩:=(show ∃ t,u=Value.str y t from ru); cases q'; exact PySem.W.kia_tup PySem.W.kitx_str I.kIn True.intro ho ea (fun z=>nomatch z) fin
 | ref a =>
  obtain ⟨rfl,xs,hx⟩:=(show t=.type "tuple"/\∃ xs,H a=some (.tup xs) from ty)
  cases (show u=Value.ref a from ru)
  obtain ⟨_,_,_,p2⟩:=(show aB0 X.prog X.w H s.heap a (.tup xs) from I.hok a _ hx)
  obtain ⟨o2,g1,g2,_⟩:=p2
  exact PySem.W.kia_tup PySem.W.kitx_tuple I.kIn ⟨o2,g1,g2⟩ ho ea (fun z=>nomatch z) fin
 | _=>exact ty.elim
end
end L2
namespace L2
open PySem PySem.Spec PyProof.Rows
noncomputable def bCa (lo st:Int) (n:Nat):It:=⟨fun i _=>i < n,fun i H x H'=>H'=H/\x=.int (lo+i * st),fun i _=>n<=i⟩
theorem aOr {P:Program} {w:World} {K:PySem.W.Frag} {tg:Expr} (it:Addr) (lo st:Int) (n:Nat):aXu P w K tg (bCa lo st n) [it] it (fun i h=>IsRangeIter h it (lo+(i:Nat) * st) ((n:Int) - (i:Nat)) st) where
 mem:=by simp
 obj:=fun i h st b hb=>by
  have e:b=it:=by simpa using hb
  subst e
  exact ⟨_,st,fun v z=>by
   have z':Data.fields _=Data.cell v:=z
   cases z'⟩
 keep:=fun i h h' st k=>k it (by simp) _ st
 item:=by
  intro X hP hw hK hc i pins s σ H E I hf st' hg
  subst hP hw hK
  obtain ⟨f0,f1,f2,f3,f4,f5⟩:=hf it (by simp)
  have W:=Walks.range (prog:=X.prog) (w:=X.w) (I.ok.hd hc) it lo st n
  refine W.item i s _ _ hg st' fun v h' tk hv st' kk=>?_
  obtain ⟨t,rfl⟩:=hv
  have I1:Inv X pins σ H { s with heap:=h',toks:=tk }:=I.turned (fun b o hb e=>kk b o (by simpa using hb) e) f0 f1 f3 f4 f5
  exact ⟨_,rfl,aTr (s:={ s with heap:=h',toks:=tk }) (n:="range_iterator") st' rfl rfl (by decide) ⟨.int (lo+i * st),H,I1,⟨t,rfl⟩,⟨rfl,rfl⟩,st',fun b hb=>(hf b hb).1⟩⟩
 done:=by
  intro X hP hw hK hc i pins s σ H E I hf st' hg
  subst hP hw hK
  obtain ⟨f0,f1,f2,f3,f4,f5⟩:=hf it (by simp)
  exact wpAny_pyNext_range_end (I.ok.hd hc) st' (by have:n<=i:=hg; omega) fun h' eb=>⟨rfl,I.turned (t':=s.toks) (fun b o hb e=>eb b o hb e) f0 f1 f3 f4 f5⟩
 self:=fun _ _ _ _ _ st h=>wpAny_pyIter_rangeiter st h
noncomputable def St4 (st:Int):Prop:=st=1∨st=2∨st=3∨st=4
theorem aVk {a b st:Int} (h:St4 st):0<=Builtin.Range.rangeSize a b st:=by
 unfold Builtin.Range.rangeSize
 rcases h with rfl | rfl | rfl | rfl <;> simp only [show (1:Int) > 0 by decide,show (2:Int) > 0 by decide,show (3:Int) > 0 by decide,show (4:Int) > 0 by decide,if_true] <;> split <;> omega
theorem aVl {a b st:Int} (h:St4 st) {i:Nat} (hi:i < (Builtin.Range.rangeSize a b st).toNat):a+i * st < b:=by
 unfold Builtin.Range.rangeSize at hi
 rcases h with rfl | rfl | rfl | rfl <;> simp only [show (1:Int) > 0 by decide,show (2:Int) > 0 by decide,show (3:Int) > 0 by decide,show (4:Int) > 0 by decide,if_true] at hi <;> split at hi <;> omega
theorem aNu {a b st:Int} (h:St4 st) (ha:-(2 ^ 60)<=a) (ha':a < 2 ^ 60) (hb:-(2 ^ 60)<=b) (hb':b < 2 ^ 60):Builtin.Range.small a b st=true:=by
 unfold Builtin.Range.small Builtin.Range.rangeSize
 rcases h with rfl | rfl | rfl | rfl <;> simp only [Builtin.Range.rangeFitsLong,Bool.and_eq_true,Bool.or_eq_true,decide_eq_true_eq,beq_iff_eq,show (1:Int) > 0 by decide,show (2:Int) > 0 by decide,show (3:Int) > 0 by decide,show (4:Int) > 0 by decide,if_true] <;> split <;> omega
theorem aTx {st:Int} (h:St4 st) (x:Int):Builtin.divisionGoesByPylong x st=false:=by
 have e:decide ((if (st==0)=true then 0 else st.natAbs.log2 / 30+1) > 300)=false:=by
  rcases h with rfl | rfl | rfl | rfl <;> decide +kernel
 show (decide ((if (st==0)=true then 0 else st.natAbs.log2 / 30+1) > 300)&&_)=false
 rw [e]
 rfl
theorem aJf {prog:Program} {w:World} {A:Around} {E:Value->Shared->Prop} {s:Shared} {a b st:Int} {t u v:Tok} {Q:Value->Shared->Prop} (hs:St4 st)
  (h:Q (.ref s.heap.objs.size) { s with heap:=s.heap.push { cls:=.type "range",data:=.fields #[.int a t,.int b u,.int st v] } }) :
  wpAny (model prog w) A (call (.type "range") [.int a t,.int b u,.int st v]) Q E s :=
 callType_new F.called_range (by decide) (aF8 _ _ _) (aG4 _ _ _) (fun obj=>aGc obj _ _ _) F.entry_range_new
  (AutoRange.range___new___type_int_int_int_1 a b st t u v F.called_range.sub (by rcases hs with rfl | rfl | rfl | rfl <;> decide)) ⟨aTx hs _,⟨_,Heap.get?_push_size _ rfl,rfl⟩,h⟩
section
variable {X:Cx} {tg:Expr}
theorem aNy {pins:List (Addr×Obj)} {σ:St} {H:Hp} {s:Shared} {R:It->Hp->Prop} {E:Value->Shared->Prop} {lo hi st:Int} {t u v:Tok} (I:Inv X pins σ H s) (hs:St4 st) (h1:-(2 ^ 60)<=lo) (h2:lo < 2 ^ 60) (h3:-(2 ^ 60)<=hi) (h4:hi < 2 ^ 60)
  (q:R (bCa lo st (Builtin.Range.rangeSize lo hi st).toNat) H):wpAny (model X.prog X.w) X.A (pyIter (.ref s.heap.objs.size)) (PIE X pins σ tg R) E { s with heap:=s.heap.push { cls:=.type "range",data:=.fields #[.int lo t,.int hi u,.int st v] } }:=by
 refine wpAny_pyIter_range (IsRange.new ..) (aNu hs h1 h2 h3 h4) ?_
 have I1:Inv X pins σ H { s with heap:=s.heap.push { cls:=.type "range",data:=.fields #[.int lo t,.int hi u,.int st v] } }:=I.kept fun b o e=>Heap.get?_push_of_some _ e
 refine ⟨(s.heap.push { cls:=.type "range",data:=.fields #[.int lo t,.int hi u,.int st v] }).objs.size,[(s.heap.push { cls:=.type "range",data:=.fields #[.int lo t,.int hi u,.int st v] }).objs.size],_,_,H,rfl,
  I1.kept (t':=s.toks) fun b o e=>Heap.get?_push_of_some _ e,aOr _ lo st (Builtin.Range.rangeSize lo hi st).toNat,?_,fun b hb=>?_,q⟩
 ·have e1:lo+((0:Nat):Int) * st=lo:=by simp
  have e2:(((Builtin.Range.rangeSize lo hi st).toNat:Nat):Int) - ((0:Nat):Int)=Builtin.Range.rangeSize lo hi st:=by
   have:=aVk (a:=lo) (b:=hi) hs
   omega
  show IsRangeIter _ _ (lo+((0:Nat):Int) * st) ((((Builtin.Range.rangeSize lo hi st).toNat:Nat):Int) - ((0:Nat):Int)) st
  rw [e1,e2]
  exact Heap.get?_push_size _ rfl
 ·have e:b=(s.heap.push { cls:=.type "range",data:=.fields #[.int lo t,.int hi u,.int st v] }).objs.size:=by simpa using hb
  subst e
  exact I1.fpOk (Nat.le_refl _) (I1.hok.fresh (Nat.le_refl _))
noncomputable def bBh (ta:TA):TI:=fun σ H R=>ta σ H fun vs H1=>∃ i j st:Int,vs=[.int i,.int j,.int st]/\(St4 st/\-(2 ^ 60)<=i/\i < 2 ^ 60/\-(2 ^ 60)<=j/\j < 2 ^ 60)/\R (bCa i st (Builtin.Range.rangeSize i j st).toNat) H1
theorem aP0 {a b c:Expr} {ta:TA} {p pos:Pos} (hg:Gl X "range") (hm:X.mg "range"=none) (ha:PA X [a,b,c] ta) (he:starEach [a,b,c] X.env=(false,eval a X.env)::starEach [b,c] X.env:=by rfl) (hpl:(backTo pos (starEach [b,c] X.env)).any (·.1)=false:=by rfl) :
  PI X tg (.Call (.Name "range" p) [a,b,c] [] pos) (bBh ta):=by
 intro pins s σ H R I h
 refine Call_ (aEo I hg hm boot_range (PyProof.Rows.callWith_type1 (thn (ha pos pins s σ H _ I h) fun us s1 ⟨vs,H1,I1,r1,q1⟩=>?_) he hpl))
 obtain ⟨i,j,st,e,⟨hs,q1,q2,q3,q4⟩,q⟩:=q1
 subst e
 cases r1 with
 | cons r rr =>
  cases rr with
  | cons r' rr =>
   cases rr with
   | cons r2 rr =>
    cases rr
    obtain ⟨t,rfl⟩:=r
    obtain ⟨t',rfl⟩:=r'
    obtain ⟨t2,rfl⟩:=r2
    exact aJf hs (aNy I1 hs q1 q2 q3 q4 q)
theorem aY3 {σ:St} {H:Hp} {R:It->Hp->Prop} {ta:TA} (k:ta σ H fun vs H1=>∃ i j st:Int,vs=[.int i,.int j,.int st]/\(St4 st/\-(2 ^ 60)<=i/\i < 2 ^ 60/\-(2 ^ 60)<=j/\j < 2 ^ 60)/\R (bCa i st (Builtin.Range.rangeSize i j st).toNat) H1):bBh ta σ H R:=k
end
section
variable {σ:St} {H:Hp} {D:aE4} {K:PySem.W.Frag}
theorem aZs {lo st:Int} {n:Nat} {g:TG} {tb:TS} (Pv:Nat->St->Hp->Prop) (h0:Pv 0 σ H)
  (hs:∀ i σ H,i < n->Pv i σ H->g (.int (lo+i * st)) σ H fun σ2 H2=>tb ⟨Pv (i+1),D.rt,D.nx,Pv (i+1)⟩ σ2 H2) (hd:∀ σ H,Pv n σ H->D.nx σ H):aSa g tb D σ (bCa lo st n) H:=by
 refine ⟨fun i m σ H=>m=n - i/\i<=n/\Pv i σ H,⟨n,by simp,Nat.zero_le _,h0⟩,?_⟩
 rintro i m σ H ⟨rfl,hi,p⟩
 by_cases hlt:i < n
 ·refine .inr ⟨hlt,Pv (i+1),fun σ' H' p'=>⟨n - (i+1),by omega,rfl,hlt,p'⟩,fun x H' y=>?_⟩
  obtain ⟨rfl,rfl⟩:=y
  exact hs i σ H' hlt p
 ·have e:i=n:=by omega
  subst e
  exact .inl ⟨Nat.le_refl _,hd σ H p⟩
end
end L2
namespace Lw
open PySem L2
set_option compiler.extract_closed false
set_option hygiene false
local macro_rules | `(tactic| walk_at "st") => `(tactic| first
  | with_reducible assumption
  | ((with_reducible refine St3.new ?_ ?hn); (case hn => with_reducible assumption); walk_at "st"))
local macro_rules | `(tactic| walk_at "kp") => `(tactic| first
  | with_reducible assumption
  | with_reducible exact Kp.refl _ _
  | ((with_reducible refine Kp.trans ?_ (Kp.new ?hn)); (case hn => with_reducible assumption); walk_at "kp"))
local macro_rules | `(tactic| walk_at "sm") => `(tactic| first
  | with_reducible assumption
  | with_reducible exact aAo.refl _
  | ((with_reducible refine aAo.trans ?_ (aAo.new ?hn)); (case hn => with_reducible assumption); walk_at "sm"))
local macro_rules | `(tactic| walk_at "hp") => `(tactic| first
  | with_reducible assumption
  | with_reducible exact aAb
  | ((with_reducible refine aAl ?hn ?_); (case hn => with_reducible assumption); walk_at "hp")
  | ((with_reducible refine aBb ?hn ?_); (case hn => first | with_reducible assumption | (refine Ne.symm ?_; with_reducible assumption)); walk_at "hp")
  | ((with_reducible refine aAo.app ?hn ?_); (case hn => with_reducible assumption); walk_at "hp")
  | ((with_reducible refine Kp.app ?hk ?hn ?_); (case hk => with_reducible assumption); (case hn => first | with_reducible assumption | (refine Ne.symm ?_; with_reducible assumption)); walk_at "hp"))
local macro_rules | `(tactic| walk_at "tk") => `(tactic| first
  | with_reducible exact TK.refl _
  | with_reducible assumption
  | ((with_reducible refine TK.trans ?_ (TK.new ?hn)); (case hn => with_reducible assumption); walk_at "tk")
  | ((with_reducible refine TK.trans ?_ (TK.lst ?hn)); (case hn => walk_at "hp"); walk_at "tk")
  | ((with_reducible refine TK.trans ?_ (TK.dic ?hn)); (case hn => walk_at "hp"); walk_at "tk")
  | ((with_reducible refine TK.trans ?_ (TK.frz ?hn)); (case hn => walk_at "hp"); walk_at "tk")
  | ((with_reducible refine TK.trans ?_ TK.melt); walk_at "tk")
  | ((with_reducible refine TK.trans ?_ (aAo.tk ?hn)); (case hn => with_reducible assumption); walk_at "tk")
  | ((with_reducible refine TK.trans ?_ (St3.tk ?hs ?hn)); (case hn => with_reducible assumption); (case hs => with_reducible assumption); walk_at "tk"))
local macro_rules | `(tactic| walk_at "fq") => `(tactic| first
  | with_reducible assumption
  | ((with_reducible refine FrQ.tk ?fa ?ft); (case fa => with_reducible assumption); (case ft => walk_at "tk")))
local macro_rules | `(tactic| walk_at "go1") => `(tactic| first
  | with_reducible refine aNz ?_
  | ((with_reducible refine r_nxD ?_); (with_reducible refine r_nx ?_))
  | ((with_reducible refine r_rtD ?_); (with_reducible refine r_rt ?_))
  | ((with_reducible refine r_bkD ?_); (with_reducible refine r_bk ?_))
  | ((with_reducible refine r_ctD ?_); (with_reducible refine r_ct ?_))
  | with_reducible refine r_asg ?_
  | with_reducible refine aVz ?_
  | ((with_reducible refine' r_var ?rv ?_); case rv => exact rfl)
  | with_reducible refine r_c ?_
  | with_reducible refine r_op ?_
  | with_reducible refine r_un ?_
  | with_reducible refine r_I0 ?_
  | with_reducible refine r_U ?_
  | with_reducible refine a_int ?_
  | with_reducible refine r_sl ?_
  | with_reducible refine aY7 ?_
  | with_reducible refine aVv ?_
  | with_reducible refine aSw ?_
  | ((with_reducible refine aJ3 ?mc ?_); case mc => first | decide | omega)
  | ((with_reducible refine aZg ?mc ?_); case mc => first | decide | omega)
  | ((with_reducible refine aHr ?mc ?_); case mc => first | exact aC0.r (by decide) (by decide) | exact aC0.l (by decide) (by decide) | exact aC0.l (by omega) (by omega) | exact aC0.r (by omega) (by omega))
  | ((with_reducible refine aDz ?mc ?_); case mc => first | exact aHm.of (by decide) (by decide) | exact aHm.of (by omega) (by omega))
  | with_reducible refine r_pow18 ?_
  | with_reducible refine aY6 ?_
  | with_reducible refine aY2 ?_
  | with_reducible refine r_tB ?_
  | with_reducible refine r_bK ?_
  | with_reducible refine r_ifS ?_
  | with_reducible refine r_if ?_
  | with_reducible refine r_and ?_
  | with_reducible refine r_or ?_
  | with_reducible refine r_not ?_
  | with_reducible refine aZ8 ?_
  | with_reducible refine r_orV ?_
  | with_reducible refine aZa ?_
  | with_reducible refine aZ9 ?_
  | with_reducible refine r_orK ?_
  | with_reducible refine aZb ?_
  | with_reducible refine r_ret ?_
  | with_reducible refine r_retN ?_
  | with_reducible refine aZf ?_
  | with_reducible refine aZw ?_
  | with_reducible refine aZe ?_
  | with_reducible refine aZ4 ?_
  | with_reducible refine r_tup ?_
  | with_reducible refine aZh ?_
  | with_reducible refine aZ6 ?_
  | with_reducible refine aV9 ?_
  | with_reducible refine aV8 ?_
  | with_reducible refine aZi ?_
  | with_reducible refine r_iTup ?_
  | with_reducible refine r_rngD ?_
  | with_reducible refine r_CB ?_
  | with_reducible refine aZ0 ?_
  | with_reducible refine r_din ?_
  | with_reducible refine aZy ?_
  | with_reducible refine aZx ?_
  | with_reducible refine aV5 ?_
  | with_reducible refine aV4 ?_
  | with_reducible refine aV2 ?_
  | with_reducible refine r_bm ?_
  | with_reducible refine r_bm0 ?_
  | with_reducible refine r_bmS ?_
  | with_reducible refine aV0 ?_
  | with_reducible refine aZq ?_
  | with_reducible refine aVy ?_
  | with_reducible refine r_tru ?_
  | with_reducible refine r_orT ?_
  | with_reducible refine aZ3 ?_
  | with_reducible refine r_break ?_
  | with_reducible refine aZm ?_
  | with_reducible refine aZn ?_
  | with_reducible refine aZl ?_
  | with_reducible refine aZp ?_
  | with_reducible refine aZo ?_
  | with_reducible refine aZc ?_
  | with_reducible refine aZd ?_
  | with_reducible refine r_noNs ?_
  | ((with_reducible refine' r_bmL ?ih ?_); (case ih => walk_at "hp"))
  | ((with_reducible refine' r_bmD ?ih ?_); (case ih => walk_at "hp"))
  | ((with_reducible refine' r_bm0D ?ih ?_); (case ih => walk_at "hp"))
  | ((with_reducible refine' aLs ?ih ?_); (case ih => walk_at "hp"))
  | ((with_reducible refine' aPn ?ih ?_); (case ih => walk_at "hp"))
  | ((with_reducible refine' r_gtup4 ?ih ?_); (case ih => walk_at "hp"))
  | with_reducible refine r_par ?_
  | with_reducible refine aY8 ?_
  | with_reducible refine e_int ?_
  | with_reducible refine n_int ?_
  | with_reducible refine e_bl ?_
  | with_reducible refine n_bl ?_
  | with_reducible refine e_str ?_
  | with_reducible refine n_str ?_
  | with_reducible refine r_isB ?_
  | with_reducible refine r_isNB ?_
  | with_reducible refine r_gsub ?_
  | with_reducible refine r_abs ?_
  | with_reducible refine r_max ?_
  | with_reducible refine r_min ?_
  | with_reducible refine r_intB ?_
  | with_reducible refine r_for ?_
  | with_reducible refine aZ5 ?_
  | with_reducible refine aY5 ?_
  | with_reducible refine aY4 ?_
  | with_reducible refine aVx ?_
  | ((with_reducible refine' aZj ?ih ?_); (case ih => walk_at "hp"))
  | ((with_reducible refine' aMz ?ih ?_); (case ih => walk_at "hp"))
  | ((with_reducible refine' r_ixt ?ih ?ie ?_); (case ih => walk_at "hp"); (case ie => exact rfl))
  | ((with_reducible refine' aDx ?ih ?ie ?_); (case ih => walk_at "hp"); (case ie => exact rfl))
  | with_reducible refine aZz ?_
  | with_reducible refine r_dmR ?_
  | with_reducible refine i_sN ?_
  | with_reducible refine i_sS ?_
  | with_reducible refine i_T ?_
  | with_reducible refine i_F ?_
  | with_reducible refine bBf ?_
  | ((with_reducible refine i_dT ?dc ?_); case dc => omega)
  | ((with_reducible refine i_dF ?dc ?_); case dc => omega))
local macro_rules | `(tactic| walk_at "go") => `(tactic| repeat (walk_at "go1"))
local macro_rules | `(tactic| walk_at "gos") => `(tactic| repeat ((fail_if_success (with_reducible refine aNz ?_)); walk_at "go1"))
set_option hygiene true
theorem el_n {P:List Value->Prop} (h:P []):∀ us:List Value,us.length=0->P us:=fun us e=>(List.length_eq_zero_iff.mp e).symm ▸ h
theorem aSb {n:Nat} {P:List Value->Prop} (h:∀ a us,us.length=n->P (a::us)):∀ us:List Value,us.length=n+1->P us:=fun us=>List.casesOn (motive:=fun us=>us.length=n+1->P us) us (fun e=>absurd e (Nat.succ_ne_zero n).symm) fun a us e=>h a us (Nat.succ.inj e)
theorem aK4 {P:List Value->Prop} (h:∀ a0,P [a0]):∀ us:List Value,us.length=1->P us:=aSb fun a0=>el_n (h a0)
theorem aMf {P:List Value->Prop} (h:∀ a0 a1,P [a0,a1]):∀ us:List Value,us.length=2->P us:=aSb fun a0=>aSb fun a1=>el_n (h a0 a1)
theorem aSc {P:List Value->Prop} (h:∀ a0 a1 a2,P [a0,a1,a2]):∀ us:List Value,us.length=3->P us:=aSb fun a0=>aSb fun a1=>aSb fun a2=>el_n (h a0 a1 a2)
theorem el_4 {P:List Value->Prop} (h:∀ a0 a1 a2 a3,P [a0,a1,a2,a3]):∀ us:List Value,us.length=4->P us:=aSb fun a0=>aSb fun a1=>aSb fun a2=>aSb fun a3=>el_n (h a0 a1 a2 a3)
noncomputable def top (i:Nat):Stmt:=PySem.Challenge.pw_tilefall_k22_how_runs_end.main.body.getD i (.Pass ⟨0,0,0,0⟩)
noncomputable abbrev aFu:Stmt:=top 4
theorem aLh:aAq ["thing"] ["thing"] (aAg aFu):=⟨rfl,rfl,rfl,by decide +kernel,rfl,by decide +kernel,by decide +kernel⟩
noncomputable abbrev aCo:Stmt:=top 5
theorem aBv:aAq ["one","other","rest"] ["one","other"] (aAg aCo):=⟨rfl,rfl,rfl,by decide +kernel,rfl,by decide +kernel,by decide +kernel⟩
noncomputable abbrev aCv:Stmt:=top 6
theorem aEt:aAq ["top","bottom","divisor"] ["top","bottom"] (aAg aCv):=⟨rfl,rfl,rfl,by decide +kernel,rfl,by decide +kernel,by decide +kernel⟩
noncomputable abbrev aLp:Stmt:=top 7
theorem aE7:aAq ["one","other","shared","part","top","divisor"] ["one","other"] (aAg aLp):=⟨rfl,rfl,rfl,by decide +kernel,rfl,by decide +kernel,by decide +kernel⟩
noncomputable abbrev aFt:Stmt:=top 8
theorem aLg:aAq ["one","other"] ["one","other"] (aAg aFt):=⟨rfl,rfl,rfl,by decide +kernel,rfl,by decide +kernel,by decide +kernel⟩
noncomputable abbrev aLk:Stmt:=top 9
theorem aSr:aAq ["one","other"] ["one","other"] (aAg aLk):=⟨rfl,rfl,rfl,by decide +kernel,rfl,by decide +kernel,by decide +kernel⟩
noncomputable abbrev aGt:Stmt:=top 10
theorem aNw:aAq ["one","other"] ["one","other"] (aAg aGt):=⟨rfl,rfl,rfl,by decide +kernel,rfl,by decide +kernel,by decide +kernel⟩
noncomputable abbrev aGs:Stmt:=top 11
theorem aNv:aAq ["one","other"] ["one","other"] (aAg aGs):=⟨rfl,rfl,rfl,by decide +kernel,rfl,by decide +kernel,by decide +kernel⟩
noncomputable abbrev aC9:Stmt:=top 13
theorem aLf:aAq ["net"] ["net"] (aAg aC9):=⟨rfl,rfl,rfl,by decide +kernel,rfl,by decide +kernel,by decide +kernel⟩
noncomputable abbrev aDf:Stmt:=top 14
theorem aCj:aAq ["net","beside","number","run"] ["net"] (aAg aDf):=⟨rfl,rfl,rfl,by decide +kernel,rfl,by decide +kernel,by decide +kernel⟩
noncomputable abbrev aCw:Stmt:=top 16
theorem aB6:aAq ["deeds","least","thing","moment"] ["deeds"] (aAg aCw):=⟨rfl,rfl,rfl,by decide +kernel,rfl,by decide +kernel,by decide +kernel⟩
noncomputable abbrev aIo:Stmt:=top 17
theorem aPh:aAq ["taken","number","moment"] ["taken","number","moment"] (aAg aIo):=⟨rfl,rfl,rfl,by decide +kernel,rfl,by decide +kernel,by decide +kernel⟩
noncomputable abbrev aDg:Stmt:=top 18
theorem aCk:aAq ["waiting","earliest","post"] ["waiting"] (aAg aDg):=⟨rfl,rfl,rfl,by decide +kernel,rfl,by decide +kernel,by decide +kernel⟩
noncomputable abbrev aCe:Stmt:=top 19
theorem aBh:aAq ["net","pushes","takings","beside","taken","pushed","waiting","fallen","post","number","other","moment"] ["net","pushes","takings"] (aAg aCe):=⟨rfl,rfl,rfl,by decide +kernel,rfl,by decide +kernel,by decide +kernel⟩
noncomputable abbrev aBi:Stmt:=top 20
theorem aDv:aAq ["net","pushes","takings","fallen"] ["net","pushes","takings"] (aAg aBi):=⟨rfl,rfl,rfl,by decide +kernel,rfl,by decide +kernel,by decide +kernel⟩
noncomputable abbrev aFv:Stmt:=top 22
theorem aLi:aAq ["fell","time","beyond"] ["fell","time","beyond"] (aAg aFv):=⟨rfl,rfl,rfl,by decide +kernel,rfl,by decide +kernel,by decide +kernel⟩
noncomputable abbrev aCg:Stmt:=top 23
theorem aBq:aAq ["run","moments","one","other","met"] ["run","moments"] (aAg aCg):=⟨rfl,rfl,rfl,by decide +kernel,rfl,by decide +kernel,by decide +kernel⟩
noncomputable abbrev aEu:Stmt:=top 24
theorem aJ1:aAq ["ending"] ["ending"] (aAg aEu):=⟨rfl,rfl,rfl,by decide +kernel,rfl,by decide +kernel,by decide +kernel⟩
noncomputable abbrev aEv:Stmt:=top 25
theorem aDw:aAq ["run","moments","taken","ending","ended"] ["run","moments","taken"] (aAg aEv):=⟨rfl,rfl,rfl,by decide +kernel,rfl,by decide +kernel,by decide +kernel⟩
noncomputable abbrev aCf:Stmt:=top 26
theorem aF6:aAq ["net","pushes","number","takings","moments"] ["net","pushes","number","takings"] (aAg aCf):=⟨rfl,rfl,rfl,by decide +kernel,rfl,by decide +kernel,by decide +kernel⟩
noncomputable abbrev aGu:Stmt:=top 28
theorem aNx:aAq ["_law_script","_law_k"] ["_law_script","_law_k"] (aAg aGu):=⟨rfl,rfl,rfl,by decide +kernel,rfl,by decide +kernel,by decide +kernel⟩
noncomputable abbrev aLn:Stmt:=top 29
theorem aIl:aAq ["_law_cell","_law_k","_law_number_here"] ["_law_cell","_law_k"] (aAg aLn):=⟨rfl,rfl,rfl,by decide +kernel,rfl,by decide +kernel,by decide +kernel⟩
noncomputable abbrev aIm:Stmt:=top 30
theorem aJ0:aAq ["_law_script","_law_k","_law_cell"] ["_law_script","_law_k"] (aAg aIm):=⟨rfl,rfl,rfl,by decide +kernel,rfl,by decide +kernel,by decide +kernel⟩
noncomputable abbrev aVn:Stmt:=top 31
theorem aMx:aAq ["_law_top","_law_bottom","_law_one","_law_other"] ["_law_top","_law_bottom"] (aAg aVn):=⟨rfl,rfl,rfl,by decide +kernel,rfl,by decide +kernel,by decide +kernel⟩
noncomputable abbrev aLm:Stmt:=top 32
theorem aBl:aAq ["_law_number_here","_law_letters","_law_count","_law_size","_law_word","_law_k","_law_at","_law_names","_law_tail","_law_sign"] ["_law_number_here"] (aAg aLm):=⟨rfl,rfl,rfl,by decide +kernel,rfl,by decide +kernel,by decide +kernel⟩
noncomputable abbrev aPj:Stmt:=top 33
theorem aVm:aAq ["_law_number_here"] ["_law_number_here"] (aAg aPj):=⟨rfl,rfl,rfl,by decide +kernel,rfl,by decide +kernel,by decide +kernel⟩
noncomputable abbrev aLo:Stmt:=top 34
theorem aEf:aAq ["_law_here_here","_law_number_here","_law_extra","_law_letters","_law_many","_law_k","_law_last"] ["_law_here_here","_law_number_here","_law_extra"] (aAg aLo):=⟨rfl,rfl,rfl,by decide +kernel,rfl,by decide +kernel,by decide +kernel⟩
noncomputable abbrev aPk:Stmt:=top 35
theorem aCd:aAq ["_law_script","_law_most","_law_extra","_law_names","_law_unit","_law_here_here","_law_k","_law_number_here","_law_kind","_law_a","_law_b","_law_moment"] ["_law_script","_law_most","_law_extra"] (aAg aPk):=⟨rfl,rfl,rfl,by decide +kernel,rfl,by decide +kernel,by decide +kernel⟩
noncomputable abbrev aSs:Stmt:=top 36
theorem aUm:aAq ["_law_here_here","_law_names"] ["_law_here_here"] (aAg aSs):=⟨rfl,rfl,rfl,by decide +kernel,rfl,by decide +kernel,by decide +kernel⟩
noncomputable abbrev aEg:Stmt:=top 37
theorem aJz:aAq ["_law_here_here","_law_used"] ["_law_here_here"] (aAg aEg):=⟨rfl,rfl,rfl,by decide +kernel,rfl,by decide +kernel,by decide +kernel⟩
noncomputable abbrev aLl:Stmt:=top 38
theorem aGj:aAq ["_law_here_here","_law_found","_law_number_here","_law_moment"] ["_law_here_here"] (aAg aLl):=⟨rfl,rfl,rfl,by decide +kernel,rfl,by decide +kernel,by decide +kernel⟩
noncomputable abbrev aVp:Stmt:=top 39
theorem aCq:aAq ["_law_here_here","_law_taken_here","_law_due_here","_law_post","_law_moment","_law_changed","_law_rising","_law_k","_law_a","_law_b","_law_time_here","_law_one","_law_other","_law_comes"] ["_law_here_here"] (aAg aVp):=⟨rfl,rfl,rfl,by decide +kernel,rfl,by decide +kernel,by decide +kernel⟩
noncomputable abbrev aE8:Stmt:=top 40
theorem aE6:aAq ["_law_here_here","_law_names","_law_unit","_law_pushes_here"] ["_law_here_here"] (aAg aE8):=⟨rfl,rfl,rfl,by decide +kernel,rfl,by decide +kernel,by decide +kernel⟩
noncomputable abbrev aVo:Stmt:=top 41
theorem aC3:aAq ["_law_here_here","_law_due_here","_law_k","_law_a","_law_b","_law_time_here","_law_unit","_law_taken_here","_law_told","_law_comes"] ["_law_here_here","_law_due_here","_law_k"] (aAg aVo):=⟨rfl,rfl,rfl,by decide +kernel,rfl,by decide +kernel,by decide +kernel⟩
noncomputable abbrev aLj:Stmt:=top 42
theorem aSq:aAq ["_law_found"] ["_law_found"] (aAg aLj):=⟨rfl,rfl,rfl,by decide +kernel,rfl,by decide +kernel,by decide +kernel⟩
noncomputable abbrev aJ2:Stmt:=top 43
theorem aIk:aAq ["_law_found","_law_due_here","_law_one","_law_other"] ["_law_found","_law_due_here"] (aAg aJ2):=⟨rfl,rfl,rfl,by decide +kernel,rfl,by decide +kernel,by decide +kernel⟩
noncomputable abbrev aIn:Stmt:=top 44
theorem aDu:aAq ["_law_script","_law_here_here","_law_due_here","_law_net_here","_law_pushes_here","_law_outs","_law_handed_here","_law_k","_law_end_here","_law_told","_law_found"] ["_law_script"] (aAg aIn):=⟨rfl,rfl,rfl,by decide +kernel,rfl,by decide +kernel,by decide +kernel⟩
noncomputable def aO2 (K:PySem.W.Frag):Sp:=fun vs H Q _=>∃ (x:V) (t:Value) (b c:Bool),vs=[x]/\aK5 K H x t/\PySem.W.kitOne K t (.type "int")=some b/\PySem.W.kitOne K t (.type "bool")=some c/\Q (.bl (b&&!c)) H
noncomputable def aVh:Sp:=fun vs H Q _=>∃ (a b:Int),vs=[.int a,.int b]/\Q (.int (Int.gcd a b:Int)) H
noncomputable def aEe (K:PySem.W.Frag):Sp:=fun vs H Q _=>∃ (t b:Int),vs=[.int t,.int b]/\b≠0/\Sm 8000 b/\∀ p,H p=none->Q (.ref p) (upd H p (.tup [.int (aB1 t b),.int (aB2 t b)]))
noncomputable def aJu:Sp:=fun vs H Q _=>∃ (x y:V) (q r:Rat),vs=[x,y]/\FrQ H x q/\FrQ H y r/\Sz 8000 q/\Sz 8000 r/\∀ v H',FrQ H' v (q+r)->aAo H H'->Q v H'
noncomputable def aUg:Sp:=fun vs H Q _=>∃ (x y:V) (q r:Rat),vs=[x,y]/\FrQ H x q/\FrQ H y r/\Sz 8000 q/\Sz 8000 r/\∀ v H',FrQ H' v (q - r)->aAo H H'->Q v H'
noncomputable def aUf:Sp:=fun vs H Q _=>∃ (x y:V) (q r:Rat),vs=[x,y]/\FrQ H x q/\FrQ H y r/\Sz 3000 q/\Sz 3000 r/\∀ v H',FrQ H' v (q * r)->aAo H H'->Q v H'
noncomputable def aUi:Sp:=fun vs H Q _=>∃ (x y:V) (q r:Rat),vs=[x,y]/\FrQ H x q/\FrQ H y r/\Sz 3000 q/\Sz 3000 r/\r≠0/\∀ v H',FrQ H' v (q / r)->aAo H H'->Q v H'
noncomputable def aEs:Sp:=fun vs H Q _=>∃ (x y:V) (q r:Rat),vs=[x,y]/\FrQ H x q/\FrQ H y r/\Sz 8000 q/\Sz 8000 r/\Q (.bl (decide (q < r))) H
noncomputable def aO4 (w:World):Sp:=fun vs H Q _=>∃ (l:Addr) (n:List aJi) (U:List Str),vs=[.ref l]/\LQ aHk H l (kn n)/\n.length<=120/\U.length<=200/\(∀ x∈names n,x∈U)/\∀ p H' (ys:List Str),H p=none->aAo H H'->H' p=some (.lst (ys.map V.str))->ys.Nodup->(∀ x,x∈ys ↔ x∈names n)->Q (.ref p) H'
noncomputable def aYv:Sp:=fun vs H Q _=>∃ (l:Addr) (net:List (aEa Key)),vs=[.ref l]/\LQ aHk H l net/\net.length<=120/\∀ d H',H d=none->aAo H H'->Bes H' d net->Q (.ref d) H'
noncomputable def aVg:Sp:=fun vs H Q _=>∃ (l:Addr) (ds:List (Key×Rat)),vs=[.ref l]/\LQ KvQ H l ds/\ds.length<=500/\(∀ x∈ds,Sz 8000 x.2)/\∀ d H',H d=none->aAo H H'->DQ FrQ H' d (lst ds)->Q (.ref d) H'
noncomputable def bAq (tm:AL Key Rat) (k:Int) (t:Rat):Bool:=match aBf tm (Sum.inl k) with | none=>false | some u=>decide (u < t)
noncomputable def aYq:Sp:=fun vs H Q _=>∃ (d:Addr) (tm:AL Key Rat) (k:Int) (v:V) (t:Rat),vs=[.ref d,.int k,v]/\DQ FrQ H d tm/\FrQ H v t/\(∀ x∈tm,Sz 8000 x.2)/\Sz 8000 t/\Q (.bl (bAq tm k t)) H
noncomputable def aYt:Sp:=fun vs H Q _=>∃ (a:Addr) (W:AL Key (aEq Key)),vs=[.ref a]/\DQ aHq H a W/\(W.map (·.1)).Nodup/\(∀ x∈W,Sz 8000 x.2.1)/\W≠[]/\∀ p e,(p,e)∈W->(∀ w∈W,e.1<=w.2.1)->Q (kV p) H
noncomputable def aC8 (ts:List (Key×Rat)):Nat->Option Rat:=fun k=>aBf (lst ts) (Sum.inl (k:Int))
noncomputable def aVi:Sp:=fun vs H Q _=>∃ (l:Addr) (net:List (aEa Key)) (lp:Addr) (ps:List (Key×Rat)) (vt:V) (ts:List (Key×Rat)) (D M:Nat),vs=[.ref l,.ref lp,vt]/\aMo H l net D M/\aX1 H lp ps D M/\aXv H vt ts/\aOj D M /\
 ∀ d H' F,H d=none->aAo H H'->DQ aHq H' d F->aU0 net (aBf (lst ps)) (aC8 ts) F->F.length<=ps.length+2 * net.length->(∀ x∈F,Bd D (M * 1000) x.2.1)->Q (.ref d) H'
noncomputable def spFm (w:World):Sp:=fun vs H Q _=>∃ (l:Addr) (n:List aJi) (lp:Addr) (ps:List (Key×Rat)) (vt:V) (ts:List (Key×Rat)) (D M:Nat) (U:List Str),vs=[.ref l,.ref lp,vt]/\aMo H l (kn n) D M/\aX1 H lp ps D M/\aXv H vt ts/\aOj D M/\U.length<=200/\(∀ x∈names n,x∈U) /\
 ∀ d H' F (ys:List Str),H d=none->aAo H H'->DQ aK0 H' d (ys.map fun y=>(Sum.inr y,aCh F (Sum.inr y)))->aU0 (kn n) (aBf (lst ps)) (aC8 ts) F->(∀ x∈F,Bd D (M * 1000) x.2.1)->ys.Nodup->(∀ x,x∈ys ↔ x∈names n)->Q (.ref d) H'
noncomputable def aYp:Sp:=fun vs H Q _=>∃ (vf vT vb:V) (o:Option Rat) (T:Rat) (p:Option Rat),vs=[vf,vT,vb]/\aK0 H vf o/\FrQ H vT T/\aK0 H vb p/\Sz 400 T/\(∀ f,o=some f->Sz 400 f)/\(∀ f,p=some f->Sz 400 f)/\∀ H',aAo H H'->Q (.bl (swp o T p)) H'
noncomputable def aYs:Sp:=fun vs H Q _=>∃ (pr d:Addr) (a b:Str) (u:V) (T:Rat) (kd:List (Key×V)) (oa ob:Option Rat) (va vb:V),vs=[.ref pr,.ref d]/\H pr=some (.tup [.str a,.str b,u])/\FrQ H u T/\H d=some (.dK kd)/\aBu kd (Sum.inr a)=some va/\aK0 H va oa/\aBu kd (Sum.inr b)=some vb/\aK0 H vb ob/\0 < T/\Sz 400 T/\(∀ f,oa=some f->Sz 400 f)/\(∀ f,ob=some f->Sz 400 f)/\∀ v H',aEb H' v (aHn a b oa ob T)->aAo H H'->Q v H'
noncomputable def aYr:Sp:=fun vs H Q _=>∃ (v:V) (e:aBg),vs=[v]/\aEb H v e/\∀ u,aK0 H u (aOc e)->Q u H
theorem bBw {a b:Str} {oa ob:Option Rat} {T:Rat} (zT:Sz 400 T) (za:∀ f,oa=some f->Sz 400 f) (zb:∀ f,ob=some f->Sz 400 f):∀ t,aOc (aHn a b oa ob T)=some t->Sz 2000 t:=by
 have g0:∀ {o:Option Rat},(∀ f,o=some f->Sz 400 f)->Sz 400 (o.getD 0):=fun {o} h=>by
  cases o with
  | none=>exact ⟨Nat.pow_pos (by decide),Nat.one_lt_two_pow (by decide)⟩
  | some f=>exact h f rfl
 have zh:Sz 10 (1 / 2:Rat):=⟨by decide +kernel,by decide +kernel⟩
 intro t
 unfold aHn
 split
 ·intro z; cases z
 ·split
  ·intro z; cases z; exact (Sz.add (g0 za) zT).mono (by decide)
  ·split
   ·intro z; cases z; exact (Sz.add (g0 zb) zT).mono (by decide)
   ·intro z; cases z; exact (Sz.mul (Sz.add (Sz.add (g0 za) (g0 zb)) zT) zh).mono (by decide)
noncomputable def aUh:Sp:=fun vs H Q _=>∃ (pr d:Addr) (vt:V) (a b:Str) (u:V) (T:Rat) (kd:List (Key×V)) (oa ob tk:Option Rat) (va vb:V),vs=[.ref pr,.ref d,vt]/\H pr=some (.tup [.str a,.str b,u])/\FrQ H u T/\H d=some (.dK kd)/\aBu kd (Sum.inr a)=some va/\aK0 H va oa/\aBu kd (Sum.inr b)=some vb/\aK0 H vb ob/\aK0 H vt tk/\0 < T/\Sz 400 T/\(∀ f,oa=some f->Sz 400 f)/\(∀ f,ob=some f->Sz 400 f)/\(∀ f,tk=some f->Sz 400 f)/\∀ v H',aEb H' v (aTv (aHn a b oa ob T) tk)->aAo H H'->Q v H'
theorem aM7 {β:Type} {R:V->β->Prop}:∀ {xs:List V} {ds:List β},Paired R xs ds->∀ {i:Nat} {d:β},ds[i]?=some d->∃ x,xs[i]?=some x/\R x d
 | _,_,.nil,i,d,h=>by cases h
 | _,_,.cons r t,0,d,h=>by cases h; exact ⟨_,rfl,r⟩
 | _,_,.cons r t,i+1,d,h=>aM7 t h
noncomputable def aO9 (w:World):Sp:=fun vs H Q _=>∃ (l:Addr) (n:List aJi) (lp:Addr) (ps:List (Key×Rat)) (vt:V) (ts:List (Key×Rat)) (D M:Nat) (U:List Str) (k:Nat) (r:aJi),vs=[.ref l,.ref lp,.int (k:Int),vt]/\aMo H l (kn n) D M/\aX1 H lp ps D M/\aXv H vt ts/\aOj D M/\U.length<=200/\(∀ x∈names n,x∈U)/\n[k]?=some r/\(∀ t,Bd D (M * 1000) t->Sz 400 t)/\(∀ x∈ts,Sz 400 x.2) /\
 ∀ v H' F,aAo H H'->aU0 (kn n) (aBf (lst ps)) (aC8 ts) F->(∀ p f,aCh F p=some f->Sz 400 f)->aEb H' v (aTv (aHn r.1 r.2.1 (aCh F (Sum.inr r.1)) (aCh F (Sum.inr r.2.1)) r.2.2) (aC8 ts k))->Q v H'
noncomputable def aUj (K:PySem.W.Frag):Sp:=fun vs H Q _=>∃ (a:Addr) (ns:List Int) (k:Int),vs=[.ref a,.int k]/\SqL K H a (ns.map V.int)/\0<=k/\∀ r,Q (.int r) H
noncomputable def aJt:Sp:=fun vs H Q _=>∃ (c k:Int),vs=[.int c,.int k]/\0<=k/\k<=1000/\∀ r,Q (.int r) H
noncomputable def aO5 (K:PySem.W.Frag):Sp:=fun vs H Q _=>∃ (a:Addr) (ns:List Int) (k:Int),vs=[.ref a,.int k]/\SqL K H a (ns.map V.int)/\0<=k/\k<=1000/\∀ r,Q (.int r) H
noncomputable def aGh:Sp:=fun vs H Q _=>∃ (t b:Int),vs=[.int t,.int b]/\0 < b/\Sm 8000 t/\Sm 8000 b /\
 ∀ p,H p=none->Q (.ref p) (upd H p (.tup [.int (aB1 t b),.int (aB2 t b)]))
theorem at6:∀ i:Int,0<=i->i < 6->∃ t:Str,atI [V.str "",V.str ".x",V.str ".ab.c",V.str ".zzzzzzzz.y.a",V.str "",V.str ""] i=some (.str t)/\t.length<=20/\((cl t).length=0∨(cl t).length=2∨(cl t).length=5∨(cl t).length=13):=by
 intro i h0 h1
 have:i=0∨i=1∨i=2∨i=3∨i=4∨i=5:=by omega
 rcases this with rfl | rfl | rfl | rfl | rfl | rfl <;> exact ⟨_,rfl,by decide +kernel,by decide +kernel⟩
noncomputable def aJs:Sp:=fun vs H Q _=>∃ (c:Int),vs=[.int c]/\∀ l H' (U:List Str),H l=none->aAo H H'->H' l=some (.lst (U.map V.str))->2<=U.length->U.length<=8->U.Nodup->(∀ x∈U,Nq x)->Q (.ref l) H'
theorem at4 {x0 x1 x2 x3:Int} (P:Int->Prop) (h0:P x0) (h1:P x1) (h2:P x2) (h3:P x3) (i:Int) (l:0<=i) (u:i < 4):∃ t:Int,atI [V.int x0,V.int x1,V.int x2,V.int x3] i=some (.int t)/\P t:=by
 have:i=0∨i=1∨i=2∨i=3:=by omega
 rcases this with rfl | rfl | rfl | rfl
 ·exact ⟨_,rfl,h0⟩
 ·exact ⟨_,rfl,h1⟩
 ·exact ⟨_,rfl,h2⟩
 ·exact ⟨_,rfl,h3⟩
noncomputable def aMs:Sp:=fun vs H Q _=>∃ (c:Int),vs=[.int c]/\∀ r H',aAo H H'->1<=r->r<=10 ^ 30->Q (.int r) H'
noncomputable def aO7:Sp:=fun vs H Q _=>∃ (dd:Addr) (U:List Str) (u:Int) (rs:List (Int×Int×Int)) (ps ts:List (Int×Int)) (ln lr lp lt:Addr) (c:Int),vs=[.ref dd,.int c,.int 90]/\aDd H dd U u rs ps ts ln lr lp lt/\2<=U.length/\U.length<=8/\rs.length<=20/\ln≠lr/\ln≠lp/\ln≠lt/\lr≠lp/\lr≠lt /\
 ∀ H' (i:Nat) (rs':List (Int×Int×Int)),Kq ln lr H H'->i<=90->aDd H' dd (grown U i) u (rs++rs') ps ts ln lr lp lt->rs'.length<=90->(∀ r∈rs',0<=r.1/\r.1 < U.length+i/\0<=r.2.1/\r.2.1 < U.length+i/\1<=r.2.2/\r.2.2<=10 ^ 30)->Q .non H'
noncomputable def aMt (K:PySem.W.Frag):Sp:=fun vs H Q _=>∃ (a:Addr) (ns:List Int),vs=[.ref a,.int 23,.int 90]/\SqL K H a (ns.map V.int)/\ns.length<=63 /\
 ∀ dd H' U u rs ps ts ln lr lp lt,H dd=none->aAo H H'->aGf U u rs ps ts->aDd H' dd U u rs ps ts ln lr lp lt->Q (.ref dd) H'
structure aFn (H H':Hp) (dd:Addr) (U:List Str) (u:Int) (rs:List (Int×Int×Int)) (ps ts:List (Int×Int)) (ln lr lp lt:Addr) (m:Nat):Prop where
 i:HereI U u rs ps ts m
 q:aDd H' dd U u rs ps ts ln lr lp lt
 s:aAo H H'
 f1:H lr=none
 f2:H lp=none
 f3:H lt=none
 n1:lr≠lp
 n2:lr≠lt
 n3:lp≠lt
 m:1<=m->rs≠[]
theorem aLd {α:Type} {P:α->Prop} {l:List α} {x:α} (h:∀ r∈l,P r) (hx:P x):∀ r∈l++[x],P r:=fun r hr=>(List.mem_append.mp hr).elim (h r) fun z=>by rw [List.mem_singleton.mp z]; exact hx
theorem aMa {β:Type} {R:Hp->V->β->Prop} {G:Hp} {l:Addr} {vs:List V} {ds:List β} {v:V} {b:β} (hR:∀ {H H' v b},R H v b->TK H H'->R H' v b) (h:G l=some (.lst vs)) (p:Paired (R G) vs ds) (r:R G v b):LQ R (upd G l (.lst (vs++[v]))) l (ds++[b]) :=
 ⟨_,aAb,Pd.snoc (Pd.imp p fun v b f=>hR f (TK.lst h)) (hR r (TK.lst h))⟩
theorem aH5 {β:Type} {R:Hp->V->β->Prop} {G:Hp} {l k:Addr} {vs xs:List V} {ds:List β} (hR:∀ {H H' v b},R H v b->TK H H'->R H' v b) (h:G k=some (.lst vs)) (hne:l≠k) (q:LQ R G l ds):LQ R (upd G k (.lst xs)) l ds :=
 let ⟨ws,e,p⟩:=q; ⟨ws,aBb hne e,Pd.imp p fun v b f=>hR f (TK.lst h)⟩
section
variable {H G:Hp} {dd:Addr} {U:List Str} {u:Int} {rs:List (Int×Int×Int)} {ps ts:List (Int×Int)} {ln lr lp lt:Addr} {m:Nat}
theorem aFn.sm {G':Hp} (h:aFn H G dd U u rs ps ts ln lr lp lt m) (s:aAo G G'):aFn H G' dd U u rs ps ts ln lr lp lt m:=⟨h.i,h.q.sm s,h.s.trans s,h.f1,h.f2,h.f3,h.n1,h.n2,h.n3,h.m⟩
theorem aWz {p q:Addr} {kv:List (Key×V)} {xs:List V} (h1:G p=some (.dK kv)) (h2:G q=some (.lst xs)):p≠q:=fun e=>by rw [e,h2] at h1; cases h1
theorem aFn.run {vs:List V} {p:Addr} {x:Int×Int×Int} (h:aFn H G dd U u rs ps ts ln lr lp lt m) (hv:G lr=some (.lst vs)) (pv:Paired (aK6 G) vs rs) (hx:aK6 G (.ref p) x) (ok:0<=x.1/\x.1 < U.length/\0<=x.2.1/\x.2.1 < U.length/\1<=x.2.2/\x.2.2<=10 ^ 30) (hl:ln≠lr):aFn H (upd G lr (.lst (vs++[.ref p]))) dd U u (rs++[x]) ps ts ln lr lp lt (m+1) :=
  ⟨⟨h.i.u0,h.i.u1,h.i.n2,h.i.n8,aLd h.i.rok ok,h.i.pok,h.i.tok,by have:=h.i.len; rw [List.length_append]; show _+1+_+_<=_; omega⟩,
   ⟨aBb (aWz h.q.d hv) h.q.d,aBb hl h.q.nm,aMa aK6.tk hv pv hx,aH5 aHl.tk hv (Ne.symm h.n1) h.q.pq,aH5 aHl.tk hv (Ne.symm h.n2) h.q.tq⟩,
   Kp.upd.sm h.s h.f1,h.f1,h.f2,h.f3,h.n1,h.n2,h.n3,fun _ z=>by simp at z⟩
theorem aFn.pus {vs:List V} {p:Addr} {x:Int×Int} (h:aFn H G dd U u rs ps ts ln lr lp lt m) (hv:G lp=some (.lst vs)) (pv:Paired (aHl G) vs ps) (hx:aHl G (.ref p) x) (ok:0<=x.1/\x.1 < U.length/\0<=x.2/\x.2<=10 ^ 30) (hl:ln≠lp) (hr:rs≠[]):aFn H (upd G lp (.lst (vs++[.ref p]))) dd U u rs (ps++[x]) ts ln lr lp lt (m+1) :=
  ⟨⟨h.i.u0,h.i.u1,h.i.n2,h.i.n8,h.i.rok,aLd h.i.pok ok,h.i.tok,by have:=h.i.len; rw [List.length_append]; show _+(_+1)+_<=_; omega⟩,
   ⟨aBb (aWz h.q.d hv) h.q.d,aBb hl h.q.nm,aH5 aK6.tk hv h.n1 h.q.rq,aMa aHl.tk hv pv hx,aH5 aHl.tk hv (Ne.symm h.n3) h.q.tq⟩,
   Kp.upd.sm h.s h.f2,h.f1,h.f2,h.f3,h.n1,h.n2,h.n3,fun _=>hr⟩
theorem aFn.tak {vs:List V} {p:Addr} {x:Int×Int} (h:aFn H G dd U u rs ps ts ln lr lp lt m) (hv:G lt=some (.lst vs)) (pv:Paired (aHl G) vs ts) (hx:aHl G (.ref p) x) (ok:0<=x.1/\0<=x.2/\x.2<=10 ^ 30) (hl:ln≠lt) (hr:rs≠[]):aFn H (upd G lt (.lst (vs++[.ref p]))) dd U u rs ps (ts++[x]) ln lr lp lt (m+1) :=
  ⟨⟨h.i.u0,h.i.u1,h.i.n2,h.i.n8,h.i.rok,h.i.pok,aLd h.i.tok ok,by have:=h.i.len; rw [List.length_append]; show _+_+(_+1)<=_; omega⟩,
   ⟨aBb (aWz h.q.d hv) h.q.d,aBb hl h.q.nm,aH5 aK6.tk hv h.n2 h.q.rq,aH5 aHl.tk hv h.n3 h.q.pq,aMa aHl.tk hv pv hx⟩,
   Kp.upd.sm h.s h.f3,h.f1,h.f2,h.f3,h.n1,h.n2,h.n3,fun _=>hr⟩
end
noncomputable def aO6:Sp:=fun vs H Q _=>∃ (dd:Addr) (U:List Str) (u:Int) (rs:List (Int×Int×Int)) (ps ts:List (Int×Int)) (ln lr lp lt:Addr),vs=[.ref dd]/\aGf U u rs ps ts/\aDd H dd U u rs ps ts ln lr lp lt /\
 ∀ p H',H p=none->aAo H H'->LQ aHk H' p (kn (aG5 U u rs))->Q (.ref p) H'
theorem aXy {z:Int} (h0:0<=z) (h1:z<=10 ^ 31):Sm 8000 z:=Nat.lt_of_le_of_lt (show z.natAbs<=10 ^ 31 by omega) (by decide)
noncomputable def aFs:Sp:=fun vs H Q _=>∃ (dd:Addr) (U:List Str) (u:Int) (rs:List (Int×Int×Int)) (ps ts:List (Int×Int)) (ln lr lp lt:Addr),vs=[.ref dd]/\aGf U u rs ps ts/\aDd H dd U u rs ps ts ln lr lp lt /\
 ∀ p H',H p=none->aAo H H'->LQ aHl H' p (aE5 rs ps)->Q (.ref p) H'
noncomputable def aLc:Sp:=fun vs H Q _=>∃ (dd:Addr) (U:List Str) (u:Int) (rs:List (Int×Int×Int)) (ps ts:List (Int×Int)) (ln lr lp lt:Addr),vs=[.ref dd]/\aGf U u rs ps ts/\aDd H dd U u rs ps ts ln lr lp lt /\
 ∀ d H' (D:AL Key Int),H d=none->aAo H H'->DQ IQ H' d D->TkT u D (tsU u ts)->(∀ x∈D,0<=x.2/\x.2<=10 ^ 30)->Q (.ref d) H'
noncomputable def aYu:Sp:=fun vs H Q _=>∃ (dd:Addr) (U:List Str) (u:Int) (rs:List (Int×Int×Int)) (ps ts:List (Int×Int)) (ln lr lp lt:Addr),vs=[.ref dd]/\aGf U u rs ps ts/\aDd H dd U u rs ps ts ln lr lp lt /\
 ∀ d H' (D:AL Key Int),H d=none->aAo H H'->DQ IQ H' d D->DuS U u rs (psU U u (aE5 rs ps)) (aC8 (tsU u ts)) D->aJk (kn (aG5 U u rs)) (aBf (lst (psU U u (aE5 rs ps)))) (aC8 (tsU u ts)) (mT U u D)->Q (.ref d) H'
theorem aX9 {u:Int} {T:AL Key Int} {zs:List (Key×Rat)} (h:TkT u T zs) (k:Nat):aC8 zs k=(aBf T (Sum.inl (k:Int))).map (ut u):=(h k).symm
theorem aQa {u:Int} (hu:0 < u) {T:AL Key Int} {zs:List (Key×Rat)} (h:TkT u T zs) (k:Nat) (c:Int):aB5 (aC8 zs) k (ut u c) ↔ c<=(aBf T (Sum.inl (k:Int))).getD c:=by
 unfold aB5 aC8
 rw [← h]
 cases aBf T (Sum.inl (k:Int)) with
 | none=>exact ⟨fun _=>Int.le_refl _,fun _ w e=>nomatch e⟩
 | some w=>exact ⟨fun z=>(aSe hu).mp (z _ rfl),fun z v e=>by cases e; exact (aSe hu).mpr z⟩
noncomputable def aHw:Sp:=fun vs H Q _=>∃ (dd:Addr) (U:List Str) (u:Int) (rs:List (Int×Int×Int)) (ps ts:List (Int×Int)) (ln lr lp lt:Addr),vs=[.ref dd]/\aGf U u rs ps ts/\aDd H dd U u rs ps ts ln lr lp lt /\
 ∀ p H' l1 l2,H p=none->H l1=none->H l2=none->aAo H H'->H' p=some (.tup [.ref l1,.ref l2])->LQ KvQ H' l1 (psU U u (aE5 rs ps))->LQ KvQ H' l2 (tsU u ts)->Q (.ref p) H'
noncomputable def aO8:Sp:=fun vs H Q _=>∃ (dd:Addr) (U:List Str) (u:Int) (rs:List (Int×Int×Int)) (ps ts:List (Int×Int)) (ln lr lp lt:Addr) (d:Addr) (D:AL Key Int) (k:Nat) (r:Int×Int×Int),vs=[.ref dd,.ref d,.int (k:Int)]/\aGf U u rs ps ts/\aDd H dd U u rs ps ts ln lr lp lt/\DQ IQ H d D/\DuS U u rs (psU U u (aE5 rs ps)) (aC8 (tsU u ts)) D/\rs[k]?=some r /\
 ∀ v H',aAo H H'->aEb H' v (aTv (aHn (nmI U r.1) (nmI U r.2.1) (mT U u D (Sum.inr (nmI U r.1))) (mT U u D (Sum.inr (nmI U r.2.1))) (ut u r.2.2)) (aC8 (tsU u ts) k))->Q v H'
noncomputable def aMr (K:PySem.W.Frag):Sp:=fun vs H Q _=>∃ (x:V) (t:Value) (b c:Bool),vs=[x]/\aK5 K H x t/\PySem.W.kitOne K t (.type "int")=some b/\PySem.W.kitOne K t (.type "bool")=some c/\Q (.bl (b&&!c)) H
noncomputable def SmL (x y:V):Prop:=(x=.non/\y=.non)∨(∃ z,x=.int z/\y=.int z)∨∃ s,x=.str s/\y=.str s
noncomputable def SmQ:Nat->Hp->V->V->Prop
 | 0,_,x,y=>SmL x y
 | n+1,H,x,y=>SmL x y∨∃ a b xs ys,x=.ref a/\y=.ref b/\H a=some (.tup xs)/\H b=some (.tup ys)/\xs.length=ys.length/\xs.length<=1000/\∀ (i:Nat) (x y:V),xs[i]?=some x->ys[i]?=some y->SmQ n H x y
theorem SmQ.sm:∀ {n:Nat} {H H':Hp} {x y:V},SmQ n H x y->aAo H H'->SmQ n H' x y
 | 0,_,_,_,_,h,_=>h
 | _+1,_,_,_,_,.inl h,_=>.inl h
 | _+1,_,_,_,_,.inr ⟨a,b,xs,ys,e1,e2,h1,h2,hl,h3,h⟩,s=>.inr ⟨a,b,xs,ys,e1,e2,s _ _ h1,s _ _ h2,hl,h3,fun i x y hx hy=>(h i x y hx hy).sm s⟩
noncomputable def aJr (dd:Nat):Sp:=fun vs H Q _=>∃ (x y:V),vs=[x,y]/\SmQ dd H x y/\∀ H',aAo H H'->Q (.bl true) H'
noncomputable def aO3:Nat->Sp
 | 0=>fun vs H Q E=>False
 | n+1=>aJr n
theorem aPi {P:Program} {w:World} {K:PySem.W.Frag} {mg:Str->Option Value} {base:Heap} {k:Nat} (d:Df K mg "_law_same" aJ2 ["_law_found","_law_due_here"]):Okf P w K mg base (k+1) "_law_same" ["_law_found","_law_due_here"] (aO3 0) :=
 Okf.of d aIk (fun vs H Q E h=>h.elim) (fun f cdv A outer s H vs Q E hr h=>h.elim)
noncomputable def aSk (K:PySem.W.Frag):Sp:=fun vs H Q _=>∃ (a:Addr) (ns:List Int),vs=[.ref a]/\SqL K H a (ns.map V.int)/\ns.length<=63/\∀ H',Q (.bl true) H'
theorem aUk {H:Hp} (z:Int):∀ n,SmQ n H (.int z) (.int z)
 | 0=>.inr (.inl ⟨z,rfl,rfl⟩)
 | _+1=>.inl (.inr (.inl ⟨z,rfl,rfl⟩))
theorem aSl {H:Hp} {v w:V} {q:Rat} (n:Nat) (h1:FrQ H v q) (h2:FrQ H w q):SmQ (n+1) H v w:=by
 obtain ⟨p,rfl,hp⟩:=h1
 obtain ⟨p2,rfl,hp2⟩:=h2
 refine .inr ⟨p,p2,_,_,rfl,rfl,hp,hp2,rfl,(by decide:2<=1000),fun i x y hx hy=>?_⟩
 rw [hx] at hy
 cases hy
 match i,hx with
 | 0,hx=>cases hx; exact aUk _ n
 | 1,hx=>cases hx; exact aUk _ n
 | i+2,hx=>simp at hx
theorem aJv {H:Hp} (z:Str):∀ n,SmQ n H (.str z) (.str z)
 | 0=>.inr (.inr ⟨z,rfl,rfl⟩)
 | _+1=>.inl (.inr (.inr ⟨z,rfl,rfl⟩))
theorem aYw {H:Hp} {v w:V} {e:aBg} (h1:aEb H v e) (h2:aEb H w e):SmQ 3 H v w:=by
 cases e with
 | stands =>
  obtain ⟨p,rfl,hp⟩:=h1
  obtain ⟨p',rfl,hp'⟩:=h2
  refine .inr ⟨p,p',_,_,rfl,rfl,hp,hp',rfl,(by decide:1<=1000),fun i x y hx hy=>?_⟩
  match i,hx,hy with
  | 0,hx,hy=>cases hx; cases hy; exact aJv _ 2
  | i+1,hx,_=>simp at hx
 | swept s t =>
  obtain ⟨p,u,rfl,hp,f⟩:=h1
  obtain ⟨p',u',rfl,hp',f'⟩:=h2
  refine .inr ⟨p,p',_,_,rfl,rfl,hp,hp',rfl,(by decide:3<=1000),fun i x y hx hy=>?_⟩
  match i,hx,hy with
  | 0,hx,hy=>cases hx; cases hy; exact aJv _ 2
  | 1,hx,hy=>cases hx; cases hy; exact aJv _ 2
  | 2,hx,hy=>cases hx; cases hy; exact aSl 1 f f'
  | i+3,hx,_=>simp at hx
 | met t s =>
  obtain ⟨p,u,w1,rfl,hp,f,g⟩:=h1
  obtain ⟨p',u',w1',rfl,hp',f',g'⟩:=h2
  refine .inr ⟨p,p',_,_,rfl,rfl,hp,hp',rfl,(by decide:3<=1000),fun i x y hx hy=>?_⟩
  match i,hx,hy with
  | 0,hx,hy=>cases hx; cases hy; exact aJv _ 2
  | 1,hx,hy=>cases hx; cases hy; exact aSl 1 f f'
  | 2,hx,hy=>cases hx; cases hy; exact aSl 1 g g'
  | i+3,hx,_=>simp at hx
 | taken t =>
  obtain ⟨p,u,rfl,hp,f⟩:=h1
  obtain ⟨p',u',rfl,hp',f'⟩:=h2
  refine .inr ⟨p,p',_,_,rfl,rfl,hp,hp',rfl,(by decide:2<=1000),fun i x y hx hy=>?_⟩
  match i,hx,hy with
  | 0,hx,hy=>cases hx; cases hy; exact aJv _ 2
  | 1,hx,hy=>cases hx; cases hy; exact aSl 1 f f'
  | i+2,hx,_=>simp at hx
theorem aQk (U:List Str) (u:Int) (rs:List (Int×Int×Int)):(aG5 U u rs).length=rs.length:=List.length_map ..
theorem aW0 {U:List Str} {u:Int} {rs:List (Int×Int×Int)} {ps ts:List (Int×Int)} (hI:aGf U u rs ps ts):∀ r∈aG5 U u rs,Bd u.toNat (10 ^ 31) r.2.2:=fun r hr=>by
 obtain ⟨x,hx,rfl⟩:=List.mem_map.mp hr
 have:=hI.rok x hx
 exact (aX7 hI.u0 (z:=x.2.2) (by omega) (by omega)).1
theorem aQj {U:List Str} {u:Int} {rs:List (Int×Int×Int)} {ps ts:List (Int×Int)} (hI:aGf U u rs ps ts):∀ r∈aG5 U u rs,0 < r.2.2:=fun r hr=>by
 obtain ⟨x,hx,rfl⟩:=List.mem_map.mp hr
 have:=hI.rok x hx
 exact aW4 (by omega) hI.u0
theorem aIu {U:List Str} {u:Int} {rs:List (Int×Int×Int)} {ps ts:List (Int×Int)} (hI:aGf U u rs ps ts):∀ x∈names (aG5 U u rs),x∈U:=fun x hx=>by
 have go:∀ i:Int,0<=i->i < U.length->nmI U i∈U:=fun i h0 h1=>by
  obtain ⟨h,e⟩:=aNb h0 h1
  rw [e]
  exact List.getElem_mem h
 unfold names aG5 at hx
 rcases List.mem_append.mp hx with h | h
 all_goals
  obtain ⟨r,hr,rfl⟩:=List.mem_map.mp h
  obtain ⟨y,hy,rfl⟩:=List.mem_map.mp hr
  obtain ⟨a1,a2,a3,a4,_⟩:=hI.rok y hy
  first | exact go _ a1 a2 | exact go _ a3 a4
theorem aWn {U:List Str} {u:Int} {rs:List (Int×Int×Int)} {ps ts:List (Int×Int)} (hI:aGf U u rs ps ts):∀ r∈psU U u (aE5 rs ps),Bd u.toNat (10 ^ 31) r.2:=fun r hr=>by
 obtain ⟨x,hx,rfl⟩:=List.mem_map.mp hr
 have:=hI.pok x (aLw hx)
 exact (aX7 hI.u0 (z:=x.2) (by omega) (by omega)).1
theorem aSg {U:List Str} {u:Int} {rs:List (Int×Int×Int)} {ps ts:List (Int×Int)} (hI:aGf U u rs ps ts):∀ r∈tsU u ts,Sz 400 r.2:=fun r hr=>by
 obtain ⟨x,hx,rfl⟩:=List.mem_map.mp hr
 have:=hI.tok x hx
 have:=hI.u1
 exact sz_ut hI.u0 (by omega) (by omega)
section
variable {P:Program} {w:World} {K:PySem.W.Frag} {mg:Str -> Option Value} {base:Heap} {k:Nat}
theorem aL3 (T:Bl mg) (d:Df K mg "is_whole" aFu ["thing"]  ):Okf P w K mg base (k+1) "is_whole" ["thing"] (aO2 K):=by
 refine Okf.of d aLh (fun vs H Q E h=>?_) (fun f cdv A outer s H vs Q E hr h=>?_)
 ·obtain ⟨x,t,b,c,rfl,_⟩:=h
  rfl
 ·obtain ⟨x,t,b,c,rfl,ty,e1,e2,q⟩:=h
  refine ⟨_,(@aAh _ _ _ (@aAw _ _ _ _ (@aH0 _ _ _ _ _ _ _ (@aAs _ _ _ _ _ _ _ _ _ (aB4 (T:="int")) rfl T.z_isinstance aA3 (@aAa _ _ _ _ _ (pv 0) (@aAa _ _ _ _ _ (@aCp _ _ (v:=.ty "int") _ _ rfl T.z_int aUz rfl (by decide) (by decide)) (@aAd _) (by rfl)) (by rfl)) (by decide) (by decide) (by rfl) (by rfl)) (@aFb _ _ _ _ _ (@aP4 _ _ _ _ (@aAs _ _ _ _ _ _ _ _ _ (aB4 (T:="bool")) rfl T.z_isinstance aA3 (@aAa _ _ _ _ _ (pv 0) (@aAa _ _ _ _ _ (@aCp _ _ (v:=.ty "bool") _ _ rfl T.z_bool aR2 rfl (by decide) (by decide)) (@aAd _) (by rfl)) (by rfl)) (by decide) (by decide) (by rfl) (by rfl))))))),?_⟩
  walk_at "go"
  refine aDy ty e1 ?_
  cases b
  ·walk_at "go"
   exact q
  ·walk_at "go"
   refine aDy ty e2 ?_
   walk_at "go"
   exact q
theorem aFz (T:Bl mg) (d:Df K mg "common_divisor" aCo ["one","other"]  ):Okf P w K mg base (k+1) "common_divisor" ["one","other"] aVh:=by
 refine Okf.of d aBv (fun vs H Q E h=>?_) (fun f cdv A outer s H vs Q E hr h=>?_)
 ·obtain ⟨a,b,rfl,_⟩:=h
  rfl
 ·obtain ⟨a,b,rfl,q⟩:=h
  refine ⟨_,(@aAc _ _ _ _ _ (@aGk _ _ _ _ _ _ PassesOwn.never (@aA2 _ _ _ _ _ _ _ _ (aM8 hr.units) (pv 1) (@aAf _ _ _ _) (aA4 _)) (@aAc _ _ _ _ _ (@aAk _ _ (i:=2) _ _ _ _ aBv.nd rfl (by first | exact Or.inl rfl | exact Or.inr rfl) (@aAj _ _ _ _ _ _ _ _ aWp (pv 0) (pv 1)) (by rfl) (by first | exact .inl rfl | exact .inr rfl | assumption)) (@aAc _ _ _ _ _ (@aAk _ _ (i:=0) _ _ _ _ aBv.nd rfl (by first | exact Or.inl rfl | exact Or.inr rfl) (pv 1) (by rfl) (by first | exact .inl rfl | exact .inr rfl | assumption)) (@aAh _ _ _ (@aAk _ _ (i:=1) _ _ _ _ aBv.nd rfl (by first | exact Or.inl rfl | exact Or.inr rfl) (pv 2) (by rfl) (by first | exact .inl rfl | exact .inr rfl | assumption)))))) (@aAh _ _ _ (@aAw _ _ _ _ (@aAs _ _ _ _ _ _ _ _ _ aXr rfl T.z_abs aR3 (@aAa _ _ _ _ _ (pv 0) (@aAd _) (by rfl)) (by decide) (by decide) (by rfl) (by rfl))))),?_⟩
  walk_at "go"
  refine aIg (fun σ H'=>∃ (one other:Int) (o:Option V),σ=[some (.int one),some (.int other),o]/\H'=H/\Int.gcd one other=Int.gcd a b)
   (fun σ _=>match σ with | [_,some (.int z),_]=>z.natAbs | _=>0) ⟨_,_,_,rfl,rfl,rfl⟩ ?_ ?_
  ·rintro σ H' ⟨one,other,o,rfl,rfl,hg⟩
   walk_at "go"
   refine i_d (fun c=>?_) (fun c=>?_)
   ·subst c
    walk_at "go"
    rw [Int.gcd_zero_right] at hg
    have e:(if one < 0 then -one else one)=(Int.gcd a b:Int):=by rw [← hg]; split <;> omega
    rw [e]
    exact q
   ·walk_at "go"
    refine ⟨⟨_,_,_,rfl,rfl,by rw [aRb c]; exact hg⟩,?_⟩
    show (one.fmod other).natAbs < other.natAbs
    exact aXf c
  ·intro σ H Q Q' hQ h
   obtain ⟨v,e1,h⟩:=h
   rcases h with ⟨e2,b',e3,q'⟩ | ⟨d,e,e2,e3,e4,e5,b',e6,q'⟩
   ·exact ⟨v,e1,.inl ⟨e2,b',e3,hQ _ _ q'⟩⟩
   ·exact ⟨v,e1,.inr ⟨d,e,e2,e3,e4,e5,b',e6,hQ _ _ q'⟩⟩
theorem aL5 (T:Bl mg) (d:DfD K mg "fraction" aCv ["top","bottom"] [.int 1] ) (o_common_divisor:Okf P w K mg base k "common_divisor" ["one","other"] aVh) (o_is_whole:Okf P w K mg base k "is_whole" ["thing"] (aO2 K)):aHp P w K mg base (k+1) "fraction" ["top","bottom"] [.int 1] (aEe K):=by
 refine aHp.of d aEt (fun vs H Q E h=>?_) (fun f cdv A outer s H vs Q E hr h=>?_)
 ·obtain ⟨t,b,rfl,_⟩:=h
  rfl
 ·obtain ⟨t,b,rfl,hb,hsb,q⟩:=h
  refine ⟨_,(@aAc _ _ _ _ _ (@aB3 _ _ _ _ _ _ _ _ (@PW.pt _ _ _ (@aGx _ _ _ _ _ _ _ (@aM0 _ _ _ _ (@aC4 _ _ _ (@aAi _ _ _ _ _ _ _ _ _ _ o_is_whole hr rfl (@aAa _ _ _ _ _ (pv 0) (@aAd _) (by rfl)) (by decide) (by rfl) (by rfl)) (by intro _; rfl))) (@aD0 _ _ _ _ (@aM0 _ _ _ _ (@aC4 _ _ _ (@aAi _ _ _ _ _ _ _ _ _ _ o_is_whole hr rfl (@aAa _ _ _ _ _ (pv 1) (@aAd _) (by rfl)) (by decide) (by rfl) (by rfl)) (by intro _; rfl)))))) (@aAh _ _ _ (@aM1 _ _)) (@aA5 _)) (@aAc _ _ _ _ _ (@aB3 _ _ _ _ _ _ _ _ (@aA2 _ _ _ _ _ _ _ _ (aD3 hr.units) (pv 1) (@aAf _ _ _ _) (aA4 _)) (@aAh _ _ _ (@aM1 _ _)) (@aA5 _)) (@aAc _ _ _ _ _ (@aAk _ _ (i:=2) _ _ _ _ aEt.nd rfl (by first | exact Or.inl rfl | exact Or.inr rfl) (@aAi _ _ _ _ _ _ _ _ _ _ o_common_divisor hr rfl (@aAa _ _ _ _ _ (pv 0) (@aAa _ _ _ _ _ (pv 1) (@aAd _) (by rfl)) (by rfl)) (by decide) (by rfl) (by rfl)) (by rfl) (by first | exact .inl rfl | exact .inr rfl | assumption)) (@aAc _ _ _ _ _ (@aB3 _ _ _ _ _ _ _ _ (@aA2 _ _ _ _ _ _ _ _ aL0 (pv 1) (@aAf _ _ _ _) (aA4 _)) (@aAh _ _ _ (@aAk _ _ (i:=2) _ _ _ _ aEt.nd rfl (by first | exact Or.inl rfl | exact Or.inr rfl) (@aWj _ _ _ _ _ _ aOn (pv 2)) (by rfl) (by first | exact .inl rfl | exact .inr rfl | assumption))) (@aA5 _)) (@aAh _ _ _ (@aAw _ _ _ _ (@aBa _ _ _ _ _ (@aAa _ _ _ _ _ (@aAj _ _ _ _ _ _ _ _ aAx (pv 0) (pv 2)) (@aAa _ _ _ _ _ (@aAj _ _ _ _ _ _ _ _ aAx (pv 1) (pv 2)) (@aAd _) (by rfl)) (by rfl))))))))),?_⟩
  walk_at "go"
  refine ⟨_,_,_,_,rfl,.int t,aE0,aD7,?_⟩
  walk_at "go"
  refine aUt rfl ?_
  walk_at "go"
  refine ⟨_,_,_,_,rfl,.int b,aE0,aD7,?_⟩
  walk_at "go"
  refine aUt rfl ?_
  walk_at "go"
  refine ⟨t,b,rfl,?_⟩
  walk_at "go"
  have hgb:(sg t b).natAbs<=b.natAbs:=by
   rw [aGr]
   exact Nat.le_of_dvd (by omega) (Int.gcd_dvd_natAbs_right t b)
  have hc:∀ z,aHm z (sg t b):=fun _=>⟨aPd hb,Sm.le hgb hsb⟩
  refine i_d (fun c=>?_) (fun c=>?_)
  ·walk_at "go"
   have es:-(Int.gcd t b:Int)=sg t b:=by unfold sg; rw [if_pos c]; omega
   rw [es]
   refine aDz (hc _) ?_
   walk_at "go"
   refine aDz (hc _) ?_
   walk_at "go"
   refine aAv fun p hp=>?_
   walk_at "go"
   exact q p hp
  ·walk_at "go"
   have es:(Int.gcd t b:Int)=sg t b:=by unfold sg; rw [if_neg c]
   rw [es]
   refine aDz (hc _) ?_
   walk_at "go"
   refine aDz (hc _) ?_
   walk_at "go"
   refine aAv fun p hp=>?_
   walk_at "go"
   exact q p hp
theorem aTf (T:Bl mg) (d:Df K mg "added" aLp ["one","other"]  ) (o_common_divisor:Okf P w K mg base k "common_divisor" ["one","other"] aVh):Okf P w K mg base (k+1) "added" ["one","other"] aJu:=by
 refine Okf.of d aE7 (fun vs H Q E h=>?_) (fun f cdv A outer s H vs Q E hr h=>?_)
 ·obtain ⟨x,y,q1,q2,rfl,_⟩:=h
  rfl
 ·obtain ⟨x,y,q1,q2,rfl,⟨p1,rfl,h1⟩,⟨p2,rfl,h2⟩,z1,z2,q⟩:=h
  refine ⟨_,(@aAc _ _ _ _ _ (@aAk _ _ (i:=2) _ _ _ _ aE7.nd rfl (by first | exact Or.inl rfl | exact Or.inr rfl) (@aAi _ _ _ _ _ _ _ _ _ _ o_common_divisor hr rfl (@aAa _ _ _ _ _ (@aAz _ _ _ _ _ _ _ aA0 (pv 0) (@aAf _ _ _ _) (fun _ _=>rfl)) (@aAa _ _ _ _ _ (@aAz _ _ _ _ _ _ _ aA0 (pv 1) (@aAf _ _ _ _) (fun _ _=>rfl)) (@aAd _) (by rfl)) (by rfl)) (by decide) (by rfl) (by rfl)) (by rfl) (by first | exact .inl rfl | exact .inr rfl | assumption)) (@aAc _ _ _ _ _ (@aAk _ _ (i:=3) _ _ _ _ aE7.nd rfl (by first | exact Or.inl rfl | exact Or.inr rfl) (@aAj _ _ _ _ _ _ _ _ aAx (@aAz _ _ _ _ _ _ _ aA0 (pv 1) (@aAf _ _ _ _) (fun _ _=>rfl)) (pv 2)) (by rfl) (by first | exact .inl rfl | exact .inr rfl | assumption)) (@aAc _ _ _ _ _ (@aAk _ _ (i:=4) _ _ _ _ aE7.nd rfl (by first | exact Or.inl rfl | exact Or.inr rfl) (@aAj _ _ _ _ _ _ _ _ aAy (@aAj _ _ _ _ _ _ _ _ aA7 (@aAz _ _ _ _ _ _ _ aA0 (pv 0) (@aAf _ _ _ _) (fun _ _=>rfl)) (pv 3)) (@aAj _ _ _ _ _ _ _ _ aA7 (@aAz _ _ _ _ _ _ _ aA0 (pv 1) (@aAf _ _ _ _) (fun _ _=>rfl)) (@aAj _ _ _ _ _ _ _ _ aAx (@aAz _ _ _ _ _ _ _ aA0 (pv 0) (@aAf _ _ _ _) (fun _ _=>rfl)) (pv 2)))) (by rfl) (by first | exact .inl rfl | exact .inr rfl | assumption)) (@aAc _ _ _ _ _ (@aAk _ _ (i:=5) _ _ _ _ aE7.nd rfl (by first | exact Or.inl rfl | exact Or.inr rfl) (@aAi _ _ _ _ _ _ _ _ _ _ o_common_divisor hr rfl (@aAa _ _ _ _ _ (pv 4) (@aAa _ _ _ _ _ (pv 2) (@aAd _) (by rfl)) (by rfl)) (by decide) (by rfl) (by rfl)) (by rfl) (by first | exact .inl rfl | exact .inr rfl | assumption)) (@aAh _ _ _ (@aAw _ _ _ _ (@aBa _ _ _ _ _ (@aAa _ _ _ _ _ (@aAj _ _ _ _ _ _ _ _ aAx (pv 4) (pv 5)) (@aAa _ _ _ _ _ (@aAj _ _ _ _ _ _ _ _ aA7 (@aAj _ _ _ _ _ _ _ _ aAx (@aAz _ _ _ _ _ _ _ aA0 (pv 0) (@aAf _ _ _ _) (fun _ _=>rfl)) (pv 5)) (pv 3)) (@aAd _) (by rfl)) (by rfl))))))))),?_⟩
  have hq1:=q1.den_pos
  have hq2:=q2.den_pos
  obtain ⟨s0,k0,sb,ks,⟨gp,cop,wr⟩,zu,zv,zf,zb⟩:=aR6 (a:=q1.num) (b:=q1.den) (c:=q2.num) (d:=q2.den) (by omega) (by omega) q1.reduced q2.reduced rfl rfl rfl rfl rfl
  have M:∀ {m n:Nat} {i j:Int},Sm m i->Sm n j->m<=60000000->n<=60000000->aC0 i j:=fun h1 h2 h3 h4=>aC0.s h1 h2 h3 h4
  have sb1:Sm 8000 (q1.den:Int):=z1.2
  have sb2:Sm 8000 (q2.den:Int):=z2.2
  walk_at "go"
  refine ⟨_,_,rfl,?_⟩
  generalize (Int.gcd (q1.den:Int) (q2.den:Int):Int)=s at s0 k0 sb ks gp cop wr zu zv zf zb ⊢
  have hs:Sm 8000 s:=Sm.le (by omega) sb1
  have hds:∀ z,aHm z s:=fun _=>⟨by omega,hs⟩
  walk_at "go"
  refine aDz (hds _) ?_
  generalize (q2.den:Int).fdiv s=u at k0 ks gp cop wr zu zv zf zb ⊢
  have hu:Sm 8000 u:=Sm.le zu sb2
  walk_at "go"
  refine aHr (M (m:=8000) z1.1 hu (by decide) (by decide)) ?_
  walk_at "go"
  refine aDz (hds _) ?_
  generalize (q1.den:Int).fdiv s=v at k0 ks gp cop wr zv zf zb ⊢
  have hv:Sm 8000 v:=Sm.le zv sb1
  walk_at "go"
  refine aHr (M (m:=8000) z2.1 hv (by decide) (by decide)) ?_
  walk_at "go"
  refine ⟨_,s,rfl,?_⟩
  generalize (Int.gcd (q1.num * u+q2.num * v) s:Int)=k' at k0 ks gp cop wr zf zb ⊢
  have hk:Sm 8000 k':=Sm.le (by omega) hs
  have hdk:∀ z,aHm z k':=fun _=>⟨by omega,hk⟩
  walk_at "go"
  refine aDz (hdk _) ?_
  walk_at "go"
  refine aDz (hdk _) ?_
  walk_at "go"
  have hbk:Sm 8000 ((q1.den:Int).fdiv k'):=Sm.le zb sb1
  refine aHr (M hbk hu (by decide) (by decide)) ?_
  walk_at "go"
  refine aAv fun p hp=>?_
  walk_at "go"
  have e:=aUn (t:=q1.num * q2.den+q2.num * q1.den) (b:=q1.den * q2.den) (Int.mul_ne_zero (by omega) (by omega)) gp cop wr
  rw [← aId] at e
  refine q _ _ ⟨p,rfl,?_⟩ (aAo.new hp)
  rw [e.1,e.2]
  exact aAb
theorem aL2 (T:Bl mg) (d:Df K mg "lessened" aFt ["one","other"]  ) (o_added:Okf P w K mg base k "added" ["one","other"] aJu):Okf P w K mg base (k+1) "lessened" ["one","other"] aUg:=by
 refine Okf.of d aLg (fun vs H Q E h=>?_) (fun f cdv A outer s H vs Q E hr h=>?_)
 ·obtain ⟨x,y,q1,q2,rfl,_⟩:=h
  rfl
 ·obtain ⟨x,y,q1,q2,rfl,fx,⟨p2,rfl,h2⟩,z1,z2,q⟩:=h
  refine ⟨_,(@aAh _ _ _ (@aAw _ _ _ _ (@aAi _ _ _ _ _ _ _ _ _ _ o_added hr rfl (@aAa _ _ _ _ _ (pv 0) (@aAa _ _ _ _ _ (@aBa _ _ _ _ _ (@aAa _ _ _ _ _ (@aWj _ _ _ _ _ _ aOn (@aAz _ _ _ _ _ _ _ aA0 (pv 1) (@aAf _ _ _ _) (fun _ _=>rfl))) (@aAa _ _ _ _ _ (@aAz _ _ _ _ _ _ _ aA0 (pv 1) (@aAf _ _ _ _) (fun _ _=>rfl)) (@aAd _) (by rfl)) (by rfl))) (@aAd _) (by rfl)) (by rfl)) (by decide) (by rfl) (by rfl)))),?_⟩
  walk_at "go"
  refine aAv fun p hp=>?_
  walk_at "go"
  refine ⟨x,.ref p,q1,-q2,rfl,fx.tk (TK.new hp),⟨p,rfl,by rw [Rat.neg_num,Rat.neg_den]; exact aAb⟩,z1,z2.neg,fun v H' fv s1=>?_⟩
  walk_at "go"
  exact q v H' (by rw [Rat.sub_eq_add_neg]; exact fv) ((aAo.new hp).trans s1)
theorem aTa (T:Bl mg) (d:Df K mg "timed" aLk ["one","other"]  ) (o_fraction:aHp P w K mg base k "fraction" ["top","bottom"] [.int 1] (aEe K)):Okf P w K mg base (k+1) "timed" ["one","other"] aUf:=by
 refine Okf.of d aSr (fun vs H Q E h=>?_) (fun f cdv A outer s H vs Q E hr h=>?_)
 ·obtain ⟨x,y,q1,q2,rfl,_⟩:=h
  rfl
 ·obtain ⟨x,y,q1,q2,rfl,⟨p1,rfl,h1⟩,⟨p2,rfl,h2⟩,z1,z2,q⟩:=h
  refine ⟨_,(@aAh _ _ _ (@aAw _ _ _ _ (@aAi _ _ _ _ _ _ _ _ _ _ o_fraction.f hr rfl (@aAa _ _ _ _ _ (@aAj _ _ _ _ _ _ _ _ aA7 (@aAz _ _ _ _ _ _ _ aA0 (pv 0) (@aAf _ _ _ _) (fun _ _=>rfl)) (@aAz _ _ _ _ _ _ _ aA0 (pv 1) (@aAf _ _ _ _) (fun _ _=>rfl))) (@aAa _ _ _ _ _ (@aAj _ _ _ _ _ _ _ _ aA7 (@aAz _ _ _ _ _ _ _ aA0 (pv 0) (@aAf _ _ _ _) (fun _ _=>rfl)) (@aAz _ _ _ _ _ _ _ aA0 (pv 1) (@aAf _ _ _ _) (fun _ _=>rfl))) (@aAd _) (by rfl)) (by rfl)) (by decide) (by rfl) (by rfl)))),?_⟩
  have M:∀ {i j:Int},i.natAbs < 2 ^ 3000->j.natAbs < 2 ^ 3000->aC0 i j:=fun h1 h2=>aC0.s (m:=3000) (n:=3000) h1 h2 (by decide) (by decide)
  have hb:=q1.den_pos
  have hd:=q2.den_pos
  have hne:(q1.den:Int) * q2.den≠0:=Int.mul_ne_zero (by omega) (by omega)
  walk_at "go"
  refine aHr (M z1.1 z2.1) ?_
  walk_at "go"
  refine aHr (M z1.2 z2.2) ?_
  walk_at "go"
  refine ⟨_,_,rfl,hne,(Sm.mul (show Sm 3000 (q1.den:Int) from z1.2) (show Sm 3000 (q2.den:Int) from z2.2)).mono (by decide),fun p hp=>?_⟩
  walk_at "go"
  exact q _ _ (by rw [← aW1]; exact FrQ.low hne aAb) (aAo.new hp)
theorem aN5 (T:Bl mg) (d:Df K mg "divided" aGt ["one","other"]  ) (o_fraction:aHp P w K mg base k "fraction" ["top","bottom"] [.int 1] (aEe K)):Okf P w K mg base (k+1) "divided" ["one","other"] aUi:=by
 refine Okf.of d aNw (fun vs H Q E h=>?_) (fun f cdv A outer s H vs Q E hr h=>?_)
 ·obtain ⟨x,y,q1,q2,rfl,_⟩:=h
  rfl
 ·obtain ⟨x,y,q1,q2,rfl,⟨p1,rfl,h1⟩,⟨p2,rfl,h2⟩,z1,z2,h0,q⟩:=h
  refine ⟨_,(@aAh _ _ _ (@aAw _ _ _ _ (@aAi _ _ _ _ _ _ _ _ _ _ o_fraction.f hr rfl (@aAa _ _ _ _ _ (@aAj _ _ _ _ _ _ _ _ aA7 (@aAz _ _ _ _ _ _ _ aA0 (pv 0) (@aAf _ _ _ _) (fun _ _=>rfl)) (@aAz _ _ _ _ _ _ _ aA0 (pv 1) (@aAf _ _ _ _) (fun _ _=>rfl))) (@aAa _ _ _ _ _ (@aAj _ _ _ _ _ _ _ _ aA7 (@aAz _ _ _ _ _ _ _ aA0 (pv 0) (@aAf _ _ _ _) (fun _ _=>rfl)) (@aAz _ _ _ _ _ _ _ aA0 (pv 1) (@aAf _ _ _ _) (fun _ _=>rfl))) (@aAd _) (by rfl)) (by rfl)) (by decide) (by rfl) (by rfl)))),?_⟩
  have M:∀ {i j:Int},i.natAbs < 2 ^ 3000->j.natAbs < 2 ^ 3000->aC0 i j:=fun h1 h2=>aC0.s (m:=3000) (n:=3000) h1 h2 (by decide) (by decide)
  have hb:=q1.den_pos
  have hd:=q2.den_pos
  have hne:(q1.den:Int) * q2.num≠0:=Int.mul_ne_zero (by omega) (fun z=>h0 (Rat.num_eq_zero.mp z))
  walk_at "go"
  refine aHr (M z1.1 z2.2) ?_
  walk_at "go"
  refine aHr (M z1.2 z2.1) ?_
  walk_at "go"
  refine ⟨_,_,rfl,hne,(Sm.mul (show Sm 3000 (q1.den:Int) from z1.2) (show Sm 3000 q2.num from z2.1)).mono (by decide),fun p hp=>?_⟩
  walk_at "go"
  exact q _ _ (by rw [← aXk]; exact FrQ.low hne aAb) (aAo.new hp)
theorem aN4 (T:Bl mg) (d:Df K mg "is_less" aGs ["one","other"]  ):Okf P w K mg base (k+1) "is_less" ["one","other"] aEs:=by
 refine Okf.of d aNv (fun vs H Q E h=>?_) (fun f cdv A outer s H vs Q E hr h=>?_)
 ·obtain ⟨x,y,q1,q2,rfl,_⟩:=h
  rfl
 ·obtain ⟨x,y,q1,q2,rfl,⟨p1,rfl,h1⟩,⟨p2,rfl,h2⟩,z1,z2,q⟩:=h
  refine ⟨_,(@aAh _ _ _ (@aAw _ _ _ _ (@aEy _ _ _ _ _ _ _ _ aL0 (@aAj _ _ _ _ _ _ _ _ aA7 (@aAz _ _ _ _ _ _ _ aA0 (pv 0) (@aAf _ _ _ _) (fun _ _=>rfl)) (@aAz _ _ _ _ _ _ _ aA0 (pv 1) (@aAf _ _ _ _) (fun _ _=>rfl))) (@aAj _ _ _ _ _ _ _ _ aA7 (@aAz _ _ _ _ _ _ _ aA0 (pv 1) (@aAf _ _ _ _) (fun _ _=>rfl)) (@aAz _ _ _ _ _ _ _ aA0 (pv 0) (@aAf _ _ _ _) (fun _ _=>rfl))) (aA4 _)))),?_⟩
  have M:∀ {i j:Int},i.natAbs < 2 ^ 8000->j.natAbs < 2 ^ 8000->aC0 i j:=fun h1 h2=>aC0.s (m:=8000) (n:=8000) h1 h2 (by decide) (by decide)
  walk_at "go"
  refine aHr (M z1.1 z2.2) ?_
  walk_at "go"
  refine aHr (M z2.1 z1.2) ?_
  walk_at "go"
  rw [aTj]
  exact q
theorem aL1 (T:Bl mg) (d:Df K mg "posts_of" aC9 ["net"]  ):Okf P w K mg base (k+1) "posts_of" ["net"] (aO4 w):=by
 refine Okf.of d aLf (fun vs H Q E h=>?_) (fun f cdv A outer s H vs Q E hr h=>?_)
 ·obtain ⟨l,n,U,rfl,_⟩:=h
  rfl
 ·obtain ⟨l,n,U,rfl,⟨vs',hl,pvs⟩,hlen,hU,hUn,q⟩:=h
  refine ⟨_,(@aAh _ _ _ (@aAw _ _ _ _ (@aAs _ _ _ _ _ _ _ _ _ (aOe rfl) rfl T.z_sorted aRz (@aAa _ _ _ _ _ (@aDa _ _ _ _ _ _ _ _ _ (aRu rfl) rfl T.z_set bB7 (@aAa _ _ _ _ _ (@aAj _ _ _ _ _ _ _ _ aAy (@aDi _ _ _ _ _ _ _ _ _ _ _ _ _ _ (@aC6 _ _ (sc:=aAg aC9) (N:=["net"]) (tn:=["run"]) (names:=[]) (is:=[]) rfl rfl (by decide +kernel) (by decide +kernel) rfl (by decide +kernel) rfl (by decide +kernel) (by decide +kernel) (by decide +kernel)) rfl (@aBx _ _ _ _ (pv 0)) (fun _ _ _ _=>(@aAm _ _ (i:=0) _ (show (["run"]:List Str).Nodup by decide +kernel) rfl (Or.inl rfl) (Or.inr rfl))) (fun _ _ _ _=>(@aAz _ _ _ _ _ _ _ aH7 (pv 0) (@aAf _ _ _ _) (fun _ _=>rfl))) (fun _ _ _ _=>(@aCs _)) (by intro _; rfl)) (@aDi _ _ _ _ _ _ _ _ _ _ _ _ _ _ (@aC6 _ _ (sc:=aAg aC9) (N:=["net"]) (tn:=["run"]) (names:=[]) (is:=[]) rfl rfl (by decide +kernel) (by decide +kernel) rfl (by decide +kernel) rfl (by decide +kernel) (by decide +kernel) (by decide +kernel)) rfl (@aBx _ _ _ _ (pv 0)) (fun _ _ _ _=>(@aAm _ _ (i:=0) _ (show (["run"]:List Str).Nodup by decide +kernel) rfl (Or.inl rfl) (Or.inr rfl))) (fun _ _ _ _=>(@aAz _ _ _ _ _ _ _ aH7 (pv 0) (@aAf _ _ _ _) (fun _ _=>rfl))) (fun _ _ _ _=>(@aCs _)) (by intro _; rfl))) (@aAd _) (by rfl)) (by decide) (by decide) (by rfl) (by rfl)) (@aAd _) (by rfl)) (by decide) (by decide) (by rfl) (by rfl)))),?_⟩
  have hvl:vs'.length=n.length:=(Paired.length pvs).trans (by simp [kn])
  walk_at "go"
  refine aBw (SqL.of hl) ?_
  refine aLu (xs:=vs') (by omega) (fun acc i ys G=>Kp acc H G/\ys=(n.take i).map fun r=>V.str r.1) (fun acc h0=>⟨Kp.new h0,rfl⟩) ?_ ?_ ?_
  ·intro acc i ys G h0 _ ⟨kp,_⟩
   exact SqL.of (kp _ _ (aAe hl h0) hl)
  ·intro acc i ys G x h0 hx hyl hG ⟨kp,e⟩
   obtain ⟨r,hr,p,u,rfl,hp,fu⟩:=Paired.at pvs hx
   obtain ⟨sr,hs,rfl⟩:=bA6 hr
   have hp1:=hp
   have hpG:=kp _ _ (aAe hp1 h0) hp1
   walk_at "go"
   refine aFj (List.getElem?_eq_some_iff.mp hx).1 hyl hG ⟨Kp.trans kp Kp.upd,?_⟩
   have hi:i < n.length:=(List.getElem?_eq_some_iff.mp hs).1
   rw [List.take_succ_eq_append_getElem hi,List.map_append,← e]
   have:n[i]=sr:=by
    rw [List.getElem?_eq_getElem hi] at hs
    exact Option.some.inj hs
   rw [this]
   rfl
  ·intro a1 ys1 G1 h1 hG1 hy1 ⟨kp1,e1⟩
   have hl1:=kp1 _ _ (aAe hl h1) hl
   rw [hvl,List.take_length] at e1
   subst e1
   walk_at "go"
   refine aBw (SqL.of hl1) ?_
   refine aLu (xs:=vs') (by omega) (fun acc i ys G=>Kp acc G1 G/\ys=(n.take i).map fun r=>V.str r.2.1) (fun acc h0=>⟨Kp.new h0,rfl⟩) ?_ ?_ ?_
   ·intro acc i ys G h0 _ ⟨kp,_⟩
    exact SqL.of (kp _ _ (aAe hl1 h0) hl1)
   ·intro acc i ys G x h0 hx hyl hG ⟨kp,e⟩
    obtain ⟨r,hr,p,u,rfl,hp,fu⟩:=Paired.at pvs hx
    obtain ⟨sr,hs,rfl⟩:=bA6 hr
    have hp1:=kp1 _ _ (aAe hp h1) hp
    have hpG:=kp _ _ (aAe hp1 h0) hp1
    walk_at "go"
    refine aFj (List.getElem?_eq_some_iff.mp hx).1 hyl hG ⟨Kp.trans kp Kp.upd,?_⟩
    have hi:i < n.length:=(List.getElem?_eq_some_iff.mp hs).1
    rw [List.take_succ_eq_append_getElem hi,List.map_append,← e]
    have:n[i]=sr:=by
     rw [List.getElem?_eq_getElem hi] at hs
     exact Option.some.inj hs
    rw [this]
    rfl
   ·intro a2 ys2 G2 h2 hG2 hy2 ⟨kp2,e2⟩
    rw [hvl,List.take_length] at e2
    subst e2
    have h1G:=kp2 _ _ (aAe hG1 h2) hG1
    walk_at "go"
    refine .inr (.inl ⟨a1,a2,_,_,rfl,rfl,h1G,hG2,aI1 (by simp; omega),fun a3 h3=>?_⟩)
    walk_at "go"
    have hcat:((n.map fun r=>V.str r.1)++n.map fun r=>V.str r.2.1)=(names n).map V.str:=by
     rw [names,List.map_append,List.map_map,List.map_map]
     rfl
    rw [hcat]
    refine ⟨a3,names n,rfl,aAb,by simp [names]; omega,fun a4 zs h4 nd hz=>?_⟩
    walk_at "go"
    refine ⟨a4,rfl,.inl ⟨zs,aAb,Nat.le_trans (aH4 nd fun x hx=>hUn x ((hz x).mp hx)) (by omega),fun a5 ys h5 hpm=>?_⟩⟩
    walk_at "go"
    have sH:aAo H (upd (upd (upd G2 a3 (.lst ((names n).map V.str))) a4 (SetS w a4 zs)) a5 (.lst (ys.map V.str))):=fun b o hb=>by
     have hb1:=kp1 _ _ (aAe hb h1) hb
     exact aAl h5 (aAl h4 (aAl h3 (kp2 _ _ (aAe hb1 h2) hb1)))
    refine q a5 _ ys ?_ sH aAb (hpm.nodup_iff.mpr nd) fun x=>(hpm.mem_iff).trans (hz x)
    cases z:H a5 with
    | none=>rfl
    | some o =>
     have hb1:=kp1 _ _ (aAe z h1) z
     rw [aAl h4 (aAl h3 (kp2 _ _ (aAe hb1 h2) hb1))] at h5
     cases h5
theorem aHs (T:Bl mg) (d:Df K mg "runs_beside" aDf ["net"]  ):Okf P w K mg base (k+1) "runs_beside" ["net"] aYv:=by
 refine Okf.of d aCj (fun vs H Q E h=>?_) (fun f cdv A outer s H vs Q E hr h=>?_)
 ·obtain ⟨l,net,rfl,_⟩:=h
  rfl
 ·obtain ⟨l,net,rfl,⟨vs',hl,pvs⟩,hlen,q⟩:=h
  refine ⟨_,(@aAc _ _ _ _ _ (@aAk _ _ (i:=1) _ _ _ _ aCj.nd rfl (by first | exact Or.inl rfl | exact Or.inr rfl) (@aFc _ _) (by rfl) (by first | exact .inl rfl | exact .inr rfl | assumption)) (@aAc _ _ _ _ _ (@aCx _ _ _ _ _ _ _ _ PassesOwn.never rfl (@aWi _ _ _ _ _ _ _ _ rfl T.z_enumerate (@aAa _ _ _ _ _ (pv 0) (@aAd _) (by rfl)) (by rfl)) (@aD1 _ _ _ _ _ (n:=2) rfl (@aAn _ _ _ _ _ (@aAm _ _ (i:=2) _ aCj.nd rfl (by first | exact Or.inl rfl | exact Or.inr rfl) (by first | exact .inl rfl | exact .inr rfl | assumption)) (@aAn _ _ _ _ _ (@aAm _ _ (i:=3) _ aCj.nd rfl (by first | exact Or.inl rfl | exact Or.inr rfl) (by first | exact .inl rfl | exact .inr rfl | assumption)) (@aBy _) (by rfl)) (by rfl)) (by rfl) (by rfl)) (@aAc _ _ _ _ _ (@aCy _ _ _ _ (@aF9 _ _ _ _ _ _ _ _ _ _ _ _ PySem.F.plainAttrs_list PySem.F.slot_list_append PySem.F.type_list_append aBs (@aF9 _ _ _ _ _ _ _ _ _ _ _ _ PySem.F.plainAttrs_dict PySem.F.slot_dict_setdefault PySem.F.type_dict_setdefault aKc (pv 1) (@aAa _ _ _ _ _ (@aAz _ _ _ _ _ _ _ aA0 (pv 3) (@aAf _ _ _ _) (fun _ _=>rfl)) (@aAa _ _ _ _ _ (@aB8 _ _ _ _ (@aAd _)) (@aAd _) (by rfl)) (by rfl)) (by rfl) (by rfl) (by rfl) (by rfl) (by rfl)) (@aAa _ _ _ _ _ (@aBa _ _ _ _ _ (@aAa _ _ _ _ _ (pv 2) (@aAa _ _ _ _ _ (@aAz _ _ _ _ _ _ _ aA0 (pv 3) (@aAf _ _ _ _) (fun _ _=>rfl)) (@aAd _) (by rfl)) (by rfl))) (@aAd _) (by rfl)) (by rfl) (by rfl) (by rfl) (by rfl) (by rfl)) (by rfl)) (@aAh _ _ _ (@aCy _ _ _ _ (@aF9 _ _ _ _ _ _ _ _ _ _ _ _ PySem.F.plainAttrs_list PySem.F.slot_list_append PySem.F.type_list_append aBs (@aF9 _ _ _ _ _ _ _ _ _ _ _ _ PySem.F.plainAttrs_dict PySem.F.slot_dict_setdefault PySem.F.type_dict_setdefault aKc (pv 1) (@aAa _ _ _ _ _ (@aAz _ _ _ _ _ _ _ aA0 (pv 3) (@aAf _ _ _ _) (fun _ _=>rfl)) (@aAa _ _ _ _ _ (@aB8 _ _ _ _ (@aAd _)) (@aAd _) (by rfl)) (by rfl)) (by rfl) (by rfl) (by rfl) (by rfl) (by rfl)) (@aAa _ _ _ _ _ (@aBa _ _ _ _ _ (@aAa _ _ _ _ _ (pv 2) (@aAa _ _ _ _ _ (@aAz _ _ _ _ _ _ _ aA0 (pv 3) (@aAf _ _ _ _) (fun _ _=>rfl)) (@aAd _) (by rfl)) (by rfl))) (@aAd _) (by rfl)) (by rfl) (by rfl) (by rfl) (by rfl) (by rfl)) (by rfl)))) (by intro _; rfl)) (@aAh _ _ _ (@aAw _ _ _ _ (pv 1))))),?_⟩
  walk_at "go"
  refine aJ4 fun dd hd=>?_
  walk_at "go"
  refine e_K (aAl hd hl) ?_
  have hvl:vs'.length=net.length:=Paired.length pvs
  refine aZu (xs:=vs') (fun i σ H1=>∃ o1 o2 f,σ=[some (.ref l),some (.ref dd),o1,o2]/\BI H H1 dd f (2 * i)/\aT4 net i f/\∀ q,(f q).length<=2 * i) ⟨_,_,_,rfl,BI.start hd,aT4.zero,fun _=>Nat.le_refl _⟩ ?_ ?_ ?_
  ·rintro i σ H1 _ ⟨o1,o2,f,rfl,B,_⟩
   exact SqL.of (B.same _ _ hl)
  ·rintro i x T0 σ H1 hx hT ⟨o1,o2,f,rfl,B,bs,hlf⟩
   have hi:i < net.length:=by
    have:=(List.getElem?_eq_some_iff.mp hx).1
    omega
   obtain ⟨r,hr,p,u,rfl,hp,fu⟩:=Paired.at pvs hx
   have hpd:p≠dd:=aAe hp hd
   have B1:=B.alloc (o:=.tup [.int i,.ref p]) hT
   have hp1:=B1.same _ _ hp
   have hT2:upd H1 T0 (.tup [.int i,.ref p]) T0=some (.tup [.int i,.ref p]):=aAb
   generalize upd H1 T0 (.tup [.int i,.ref p])=H2 at B1 hp1 hT2 ⊢
   obtain ⟨kvs1,a1,b1,c1,e1,g1⟩:=B1.ex
   walk_at "go"
   refine aB7 fun l1 hl1=>?_
   walk_at "go"
   refine aIp (aAl hl1 a1) (by omega) (fun u1 hu1=>?_) (fun hu1=>?_)
   ·obtain ⟨m1,rfl,hm1,xs1,hx1,px1⟩:=e1 _ _ hu1
    walk_at "go"
    refine aAv fun t1 ht1=>?_
    walk_at "go"
    have hxl1:=Paired.length px1
    have hfl1:=hlf r.1
    refine aEw (aAl ht1 (aAl hl1 hx1)) (by omega) ?_
    have C1:=B1.more (p:=r.1) (x:=(i,r.2.1)) a1 hu1 hx1 hl1 ht1
    generalize upd (upd (upd H2 l1 _) t1 _) m1 _=H21 at C1 ⊢
    have hq1:=C1.same _ _ hp
    obtain ⟨kvs2,a2,b2,c2,e2,g2⟩:=C1.ex
    walk_at "go"
    refine aB7 fun l2 hl2=>?_
    walk_at "go"
    refine aIp (aAl hl2 a2) (by omega) (fun u2 hu2=>?_) (fun hu2=>?_)
    ·obtain ⟨m2,rfl,hm2,xs2,hx2,px2⟩:=e2 _ _ hu2
     walk_at "go"
     refine aAv fun t2 ht2=>?_
     walk_at "go"
     have hxl2:=Paired.length px2
     have hfl2:=(aC7 (p:=r.1) (x:=(i,r.2.1)) hlf) r.2.1
     refine aEw (aAl ht2 (aAl hl2 hx2)) (by omega) ?_
     have C2:=C1.more (p:=r.2.1) (x:=(i,r.1)) a2 hu2 hx2 hl2 ht2
     generalize upd (upd (upd H21 l2 _) t2 _) m2 _=H212 at C2 ⊢
     have hq2:=C2.same _ _ hp
     walk_at "go"
     exact ⟨_,_,_,rfl,C2,bs.next hr,fun q=>aC7 (aC7 hlf) q⟩
    ·have hdl2:l2≠dd:=fun z=>by subst z; rw [hl2] at a2; cases a2
     walk_at "go"
     refine aAv fun t2 ht2=>?_
     walk_at "go"
     refine aEw (aAl ht2 (aBb hdl2 aAb)) (by decide) ?_
     have C2:=C1.new (p:=r.2.1) (x:=(i,r.1)) a2 hu2 hl2 ht2
     generalize upd (upd (upd (upd H21 l2 _) _ _) t2 _) l2 _=H212 at C2 ⊢
     have hq2:=C2.same _ _ hp
     walk_at "go"
     exact ⟨_,_,_,rfl,C2,bs.next hr,fun q=>aC7 (aC7 hlf) q⟩
   ·have hdl1:l1≠dd:=fun z=>by subst z; rw [hl1] at a1; cases a1
    walk_at "go"
    refine aAv fun t1 ht1=>?_
    walk_at "go"
    refine aEw (aAl ht1 (aBb hdl1 aAb)) (by decide) ?_
    have C1:=B1.new (p:=r.1) (x:=(i,r.2.1)) a1 hu1 hl1 ht1
    generalize upd (upd (upd (upd H2 l1 _) _ _) t1 _) l1 _=H21 at C1 ⊢
    have hq1:=C1.same _ _ hp
    obtain ⟨kvs2,a2,b2,c2,e2,g2⟩:=C1.ex
    walk_at "go"
    refine aB7 fun l2 hl2=>?_
    walk_at "go"
    refine aIp (aAl hl2 a2) (by omega) (fun u2 hu2=>?_) (fun hu2=>?_)
    ·obtain ⟨m2,rfl,hm2,xs2,hx2,px2⟩:=e2 _ _ hu2
     walk_at "go"
     refine aAv fun t2 ht2=>?_
     walk_at "go"
     have hxl2:=Paired.length px2
     have hfl2:=(aC7 (p:=r.1) (x:=(i,r.2.1)) hlf) r.2.1
     refine aEw (aAl ht2 (aAl hl2 hx2)) (by omega) ?_
     have C2:=C1.more (p:=r.2.1) (x:=(i,r.1)) a2 hu2 hx2 hl2 ht2
     generalize upd (upd (upd H21 l2 _) t2 _) m2 _=H212 at C2 ⊢
     have hq2:=C2.same _ _ hp
     walk_at "go"
     exact ⟨_,_,_,rfl,C2,bs.next hr,fun q=>aC7 (aC7 hlf) q⟩
    ·have hdl2:l2≠dd:=fun z=>by subst z; rw [hl2] at a2; cases a2
     walk_at "go"
     refine aAv fun t2 ht2=>?_
     walk_at "go"
     refine aEw (aAl ht2 (aBb hdl2 aAb)) (by decide) ?_
     have C2:=C1.new (p:=r.2.1) (x:=(i,r.1)) a2 hu2 hl2 ht2
     generalize upd (upd (upd (upd H21 l2 _) _ _) t2 _) l2 _=H212 at C2 ⊢
     have hq2:=C2.same _ _ hp
     walk_at "go"
     exact ⟨_,_,_,rfl,C2,bs.next hr,fun q=>aC7 (aC7 hlf) q⟩
  ·rintro σ H1 ⟨o1,o2,f,rfl,B,bs,hlf⟩
   rw [hvl] at bs hlf
   walk_at "go"
   exact q dd H1 hd B.same (B.bes bs hlf)
theorem aGa (T:Bl mg) (d:Df K mg "least_moments" aCw ["deeds"]  ) (o_is_less:Okf P w K mg base k "is_less" ["one","other"] aEs):Okf P w K mg base (k+1) "least_moments" ["deeds"] aVg:=by
 refine Okf.of d aB6 (fun vs H Q E h=>?_) (fun f cdv A outer s H vs Q E hr h=>?_)
 ·obtain ⟨l,ds,rfl,_⟩:=h
  rfl
 ·obtain ⟨l,ds,rfl,⟨vs',hl,pvs⟩,hlen,hsz,q⟩:=h
  refine ⟨_,(@aAc _ _ _ _ _ (@aAk _ _ (i:=1) _ _ _ _ aB6.nd rfl (by first | exact Or.inl rfl | exact Or.inr rfl) (@aFc _ _) (by rfl) (by first | exact .inl rfl | exact .inr rfl | assumption)) (@aAc _ _ _ _ _ (@aCx _ _ _ _ _ _ _ _ PassesOwn.never rfl (@aBx _ _ _ _ (pv 0)) (@aD1 _ _ _ _ _ (n:=2) rfl (@aAn _ _ _ _ _ (@aAm _ _ (i:=2) _ aB6.nd rfl (by first | exact Or.inl rfl | exact Or.inr rfl) (by first | exact .inl rfl | exact .inr rfl | assumption)) (@aAn _ _ _ _ _ (@aAm _ _ (i:=3) _ aB6.nd rfl (by first | exact Or.inl rfl | exact Or.inr rfl) (by first | exact .inl rfl | exact .inr rfl | assumption)) (@aBy _) (by rfl)) (by rfl)) (by rfl) (by rfl)) (@aAh _ _ _ (@aB3 _ _ _ _ _ _ _ _ (@PW.pt _ _ _ (@aGx _ _ _ _ _ _ _ (@aEn _ _ _ _ _ _ (@aFd _ _ _ _ _ hr.u1 (pv 2) (pv 1)) (by first | exact nobehind _ (by decide) (by decide) | rfl)) (@aD0 _ _ _ _ (@aC4 _ _ _ (@aAi _ _ _ _ _ _ _ _ _ _ o_is_less hr rfl (@aAa _ _ _ _ _ (pv 3) (@aAa _ _ _ _ _ (@aAp _ _ _ _ _ _ hr.u1 (pv 1) (pv 2) (fun _ _=>rfl)) (@aAd _) (by rfl)) (by rfl)) (by decide) (by rfl) (by rfl)) (by intro _; rfl))))) (@aAh _ _ _ (@aFx _ _ _ _ _ _ _ _ _ hr.u1 (pv 1) (pv 2) (pv 3) rfl)) (@aA5 _))) (by intro _; rfl)) (@aAh _ _ _ (@aAw _ _ _ _ (pv 1))))),?_⟩
  walk_at "go"
  refine aJ4 fun d hd=>?_
  walk_at "go"
  refine aBw (SqL.of (aAl hd hl)) ?_
  have hvl:vs'.length=ds.length:=Paired.length pvs
  refine aPo (xs:=vs') (fun i σ H1=>∃ o1 o2,σ=[some (.ref l),some (.ref d),o1,o2]/\aAo H H1/\DQ FrQ H1 d (lst (ds.take i))) ⟨_,_,rfl,aAo.new hd,[],aAb,.nil⟩ ?_ ?_ ?_
  ·rintro i σ H1 _ ⟨o1,o2,rfl,s1,_⟩
   exact SqL.of (s1 _ _ hl)
  ·rintro i x σ H1 hx ⟨o1,o2,rfl,s1,kvs,hk,kq⟩
   have hi:i < ds.length:=by
    have:=(List.getElem?_eq_some_iff.mp hx).1
    omega
   obtain ⟨y,hy,p,u,rfl,hp,fu⟩:=Paired.at pvs hx
   obtain ⟨kk,qq⟩:=y
   have hy2:ds[i]=(kk,qq):=by
    rw [List.getElem?_eq_getElem hi] at hy
    exact Option.some.inj hy
   have hp1:=s1 _ _ hp
   have fu1:FrQ H1 u qq:=fu.tk s1.tk
   have zq:Sz 8000 qq:=hsz (kk,qq) (hy2 ▸ List.getElem_mem hi)
   have hkl:kvs.length<=1000:=by
    have h1:=kq.len
    have h2:(lst (ds.take i)).length<=ds.length:=by
     have:=aQr (ds.take i)
     rw [List.length_take] at this
     omega
    omega
   have et:ds.take (i+1)=ds.take i++[(kk,qq)]:=by rw [List.take_succ_eq_append_getElem hi,hy2]
   have fin:aDo (lst (ds.take i)) (kk,qq)=aDp (lst (ds.take i)) kk qq->∃ o1 o2,[some (V.ref l),some (V.ref d),some (kV kk),some u]=[some (V.ref l),some (V.ref d),o1,o2]/\aAo H (upd H1 d (.dK (aDn kvs kk u)))/\DQ FrQ (upd H1 d (.dK (aDn kvs kk u))) d (lst (ds.take (i+1))):=fun e=>by
    refine ⟨_,_,rfl,fun c o hc=>?_,_,aAb,?_⟩
    ·rw [aAu (aAe hc hd)]
     exact s1 _ _ hc
    ·rw [et,aGl,e]
     exact ((kq.put (k:=kk) fu1).imp fun v b f=>f.tk (TK.dic hk))
   walk_at "go"
   refine aZ1 (.inl hk) ?_
   rcases kq.val (k:=kk) with ⟨e1,e2⟩ | ⟨v1,r1,e1,e2,f1⟩
   ·rw [e1]
    walk_at "go"
    refine aJ5 hk hkl ?_
    walk_at "go"
    refine fin ?_
    unfold aDo
    rw [e2]
   ·rw [e1]
    walk_at "go"
    refine aN0 (.inl hk) e1 ?_
    walk_at "go"
    have zr:Sz 8000 r1:=hsz (kk,r1) (List.mem_of_mem_take (aG6 (aBm e2)))
    refine ⟨u,v1,qq,r1,rfl,fu1,f1,zq,zr,?_⟩
    walk_at "go"
    refine i_d (fun c=>?_) (fun c=>?_)
    ·walk_at "go"
     refine aJ5 hk hkl ?_
     walk_at "go"
     refine fin ?_
     unfold aDo
     rw [e2]
     exact if_pos c
    ·walk_at "go"
     refine ⟨_,_,rfl,s1,kvs,hk,?_⟩
     rw [et,aGl]
     unfold aDo
     rw [e2]
     show KQ FrQ H1 kvs (if qq < r1 then _ else _)
     rw [if_neg c]
     exact kq
  ·rintro σ H1 ⟨o1,o2,rfl,s1,dq⟩
   walk_at "go"
   rw [hvl,List.take_length] at dq
   exact q d H1 hd s1 dq
theorem aQf (T:Bl mg) (d:Df K mg "is_out" aIo ["taken","number","moment"]  ) (o_is_less:Okf P w K mg base k "is_less" ["one","other"] aEs):Okf P w K mg base (k+1) "is_out" ["taken","number","moment"] aYq:=by
 refine Okf.of d aPh (fun vs H Q E h=>?_) (fun f cdv A outer s H vs Q E hr h=>?_)
 ·obtain ⟨dd,tm,kk,v,t,rfl,_⟩:=h
  rfl
 ·obtain ⟨dd,tm,kk,v,t,rfl,⟨kvs,hk,kq⟩,ft,zm,zt,q⟩:=h
  refine ⟨_,(@aAh _ _ _ (@aAw _ _ _ _ (@aH0 _ _ _ _ _ _ _ (@bAo _ _ _ _ _ _ (@aG2 _ _ _ _ _ hr.u1 (pv 1) (pv 0)) (by first | exact nobehind _ (by decide) (by decide) | rfl)) (@aFb _ _ _ _ _ (@aAi _ _ _ _ _ _ _ _ _ _ o_is_less hr rfl (@aAa _ _ _ _ _ (@aAp _ _ _ _ _ _ hr.u1 (pv 0) (pv 1) (fun _ _=>rfl)) (@aAa _ _ _ _ _ (pv 2) (@aAd _) (by rfl)) (by rfl)) (by decide) (by rfl) (by rfl)))))),?_⟩
  walk_at "go"
  refine aLt (.inl hk) ?_
  unfold bAq at q
  rcases kq.val (k:=Sum.inl kk) with ⟨e1,e2⟩ | ⟨v1,r1,e1,e2,f1⟩
  ·rw [e2] at q
   rw [e1]
   walk_at "go"
   exact q
  ·rw [e2] at q
   rw [e1]
   walk_at "go"
   refine aFw (.inl hk) e1 ?_
   walk_at "go"
   refine ⟨v1,v,r1,t,rfl,f1,ft,zm (Sum.inl kk,r1) (aBm e2),zt,?_⟩
   walk_at "go"
   exact q
theorem aHt (T:Bl mg) (d:Df K mg "earliest_of" aDg ["waiting"]  ) (o_is_less:Okf P w K mg base k "is_less" ["one","other"] aEs):Okf P w K mg base (k+1) "earliest_of" ["waiting"] aYt:=by
 refine Okf.of d aCk (fun vs H Q E h=>?_) (fun f cdv A outer s H vs Q E hr h=>?_)
 ·obtain ⟨a,W,rfl,_⟩:=h
  rfl
 ·obtain ⟨a,W,rfl,⟨kvs,hk,kq⟩,nd,zW,hne,q⟩:=h
  refine ⟨_,(@aAc _ _ _ _ _ (@aAk _ _ (i:=1) _ _ _ _ aCk.nd rfl (by first | exact Or.inl rfl | exact Or.inr rfl) (@aCc _ _ _) (by rfl) (by first | exact .inl rfl | exact .inr rfl | assumption)) (@aAc _ _ _ _ _ (@aWe _ _ _ _ _ _ _ _ PassesOwn.never rfl (pv 0) (@aAm _ _ (i:=2) _ aCk.nd rfl (by first | exact Or.inl rfl | exact Or.inr rfl) (by first | exact .inl rfl | exact .inr rfl | assumption)) (@aAh _ _ _ (@aB3 _ _ _ _ _ _ _ _ (@PW.pt _ _ _ (@aGx _ _ _ _ _ _ _ (@aA2 _ _ _ _ _ _ _ _ aD2 (pv 1) (@aCc _ _ _) (aA4 _)) (@aD0 _ _ _ _ (@aC4 _ _ _ (@aAi _ _ _ _ _ _ _ _ _ _ o_is_less hr rfl (@aAa _ _ _ _ _ (@aAz _ _ _ _ _ _ _ aA0 (@aAp _ _ _ _ _ _ hr.u1 (pv 0) (pv 2) (fun _ _=>rfl)) (@aAf _ _ _ _) (fun _ _=>rfl)) (@aAa _ _ _ _ _ (@aAz _ _ _ _ _ _ _ aA0 (@aAp _ _ _ _ _ _ hr.u1 (pv 0) (pv 1) (fun _ _=>rfl)) (@aAf _ _ _ _) (fun _ _=>rfl)) (@aAd _) (by rfl)) (by rfl)) (by decide) (by rfl) (by rfl)) (by intro _; rfl))))) (@aAh _ _ _ (@aAk _ _ (i:=1) _ _ _ _ aCk.nd rfl (by first | exact Or.inl rfl | exact Or.inr rfl) (pv 2) (by rfl) (by first | exact .inl rfl | exact .inr rfl | assumption))) (@aA5 _))) (by intro _; rfl)) (@aAh _ _ _ (@aAw _ _ _ _ (pv 1))))),?_⟩
  walk_at "go"
  refine aZv a (aK1.dK hk) ?_
  walk_at "go"
  refine ⟨rfl,kvs,hk,fun o=>?_⟩
  have ek:∀ {p:Key} {e:aEq Key},(p,e)∈W->∃ v,aBu kvs p=some v/\aHq (upd H a (.frz o (.dK kvs))) v e:=fun {p e} hp=>by
   rcases kq.val (k:=p) with ⟨_,e2⟩ | ⟨v1,r1,e1,e2,f1⟩
   ·rw [aBz nd hp] at e2
    cases e2
   ·rw [aBz nd hp] at e2
    cases e2
    exact ⟨v1,e1,f1.tk (TK.dic hk)⟩
  refine aV1 (fun i σ H1=>H1=upd H a (.frz o (.dK kvs))/\∃ e o2,σ=[some (.ref a),some e,o2]/\((i=0/\e=.non)∨∃ p en,(p,en)∈W/\e=kV p/\∀ j w,j < i->W[j]?=some w->en.1<=w.2.1)) ⟨rfl,_,_,rfl,.inl ⟨rfl,rfl⟩⟩ ?_ ?_ ?_
  ·rintro i σ H1 _ ⟨rfl,_⟩
   exact aAb
  ·rintro i c v σ H1 hx ⟨rfl,e,o2,rfl,he⟩
   have hi:i < W.length:=by
    have h1:=(List.getElem?_eq_some_iff.mp hx).1
    have h2:=kq.len
    omega
   obtain ⟨y,hy,e0,_⟩:=Paired.at kq hx
   obtain ⟨c',en⟩:=y
   cases (show c=c' from e0)
   have hm:(c,en)∈W:=List.mem_of_getElem? hy
   obtain ⟨v1,e1,p1,u1,rfl,h1,f1⟩:=ek hm
   rcases he with ⟨rfl,rfl⟩ | ⟨p,ep,hp,rfl,le⟩
   ·walk_at "go"
    refine ⟨rfl,_,_,rfl,.inr ⟨c,en,hm,rfl,fun j w hj hw=>?_⟩⟩
    have:j=0:=by omega
    subst this
    rw [hw] at hy
    cases hy
    exact Rat.le_refl
   ·obtain ⟨v2,e2,p2,u2,rfl,h2,f2⟩:=ek hp
    walk_at "go"
    refine aN0 (.inr ⟨_,aAb⟩) e1 ?_
    walk_at "go"
    refine aN0 (.inr ⟨_,aAb⟩) e2 ?_
    walk_at "go"
    refine ⟨u1,u2,en.1,ep.1,rfl,f1,f2,zW _ hm,zW _ hp,?_⟩
    walk_at "go"
    refine i_d (fun c1=>?_) (fun c1=>?_)
    ·walk_at "go"
     refine ⟨rfl,_,_,rfl,.inr ⟨c,en,hm,rfl,fun j w hj hw=>?_⟩⟩
     by_cases z:j=i
     ·subst z
      rw [hw] at hy
      cases hy
      exact Rat.le_refl
     ·exact Rat.le_trans (Rat.le_of_lt c1) (le j w (by omega) hw)
    ·walk_at "go"
     refine ⟨rfl,_,_,rfl,.inr ⟨p,ep,hp,rfl,fun j w hj hw=>?_⟩⟩
     by_cases z:j=i
     ·subst z
      rw [hw] at hy
      cases hy
      exact Rat.not_lt.mp c1
     ·exact le j w (by omega) hw
  ·rintro σ H1 ⟨rfl,e,o2,rfl,he⟩
   have hl:=kq.len
   have hW:W.length≠0:=fun z=>hne (List.length_eq_zero_iff.mp z)
   rcases he with ⟨z,_⟩ | ⟨p,ep,hp,rfl,le⟩
   ·omega
   ·refine aZz ?_
    rw [aNd aAb,aVa,aSf hk]
    walk_at "go"
    refine q p ep hp fun w hw=>?_
    obtain ⟨j,hj⟩:=List.getElem?_of_mem hw
    exact le j w (by have:=(List.getElem?_eq_some_iff.mp hj).1; omega) hj
set_option maxHeartbeats 0 in
theorem aL6 (T:Bl mg) (d:DfD K mg "falls_of" aCe ["net","pushes","takings"] [.non] ) (o_is_less:Okf P w K mg base k "is_less" ["one","other"] aEs) (o_is_out:Okf P w K mg base k "is_out" ["taken","number","moment"] aYq) (o_added:Okf P w K mg base k "added" ["one","other"] aJu) (o_earliest_of:Okf P w K mg base k "earliest_of" ["waiting"] aYt) (o_least_moments:Okf P w K mg base k "least_moments" ["deeds"] aVg) (o_runs_beside:Okf P w K mg base k "runs_beside" ["net"] aYv):aHp P w K mg base (k+1) "falls_of" ["net","pushes","takings"] [.non] aVi:=by
 refine aHp.of d aBh (fun vs H Q E h=>?_) (fun f cdv A outer s H vs Q E hr h=>?_)
 ·obtain ⟨l,net,lp,ps,vt,ts,DD,MM,rfl,_⟩:=h
  rfl
 ·obtain ⟨l,net,lp,ps,vt,ts,DD,MM,rfl,hnet,hps,hts,hR,q⟩:=h
  refine ⟨_,(@aAc _ _ _ _ _ (@aAk _ _ (i:=3) _ _ _ _ aBh.nd rfl (by first | exact Or.inl rfl | exact Or.inr rfl) (@aAi _ _ _ _ _ _ _ _ _ _ o_runs_beside hr rfl (@aAa _ _ _ _ _ (pv 0) (@aAd _) (by rfl)) (by decide) (by rfl) (by rfl)) (by rfl) (by first | exact .inl rfl | exact .inr rfl | assumption)) (@aAc _ _ _ _ _ (@aAk _ _ (i:=4) _ _ _ _ aBh.nd rfl (by first | exact Or.inl rfl | exact Or.inr rfl) (@aAi _ _ _ _ _ _ _ _ _ _ o_least_moments hr rfl (@aAa _ _ _ _ _ (@aUq _ _ _ _ _ _ _ (pv 2) (@aFb _ _ _ _ _ (@aB8 _ _ _ _ (@aAd _)))) (@aAd _) (by rfl)) (by decide) (by rfl) (by rfl)) (by rfl) (by first | exact .inl rfl | exact .inr rfl | assumption)) (@aAc _ _ _ _ _ (@aAk _ _ (i:=5) _ _ _ _ aBh.nd rfl (by first | exact Or.inl rfl | exact Or.inr rfl) (@aAi _ _ _ _ _ _ _ _ _ _ o_least_moments hr rfl (@aAa _ _ _ _ _ (pv 1) (@aAd _) (by rfl)) (by decide) (by rfl) (by rfl)) (by rfl) (by first | exact .inl rfl | exact .inr rfl | assumption)) (@aAc _ _ _ _ _ (@aAk _ _ (i:=6) _ _ _ _ aBh.nd rfl (by first | exact Or.inl rfl | exact Or.inr rfl) (@aDa _ _ _ _ _ _ _ _ _ (aIb rfl) rfl T.z_dict aR1 (@aAa _ _ _ _ _ (@aS5 _ _ _ _ _ _ _ _ _ _ _ _ _ _ (@aC6 _ _ (sc:=aAg aCe) (N:=["net","pushes","takings","beside","taken","pushed","waiting","fallen","post","number","other","moment"]) (tn:=["post"]) (names:=["pushed"]) (is:=[5]) rfl rfl (by decide +kernel) (by decide +kernel) rfl (by decide +kernel) rfl (by decide +kernel) (by decide +kernel) (by decide +kernel)) rfl (pv 5) (fun _ _ _ _=>(@aAm _ _ (i:=0) _ (show (["post","pushed"]:List Str).Nodup by decide +kernel) rfl (Or.inl rfl) (Or.inr rfl))) (fun _ _ _ _=>(@aBa _ _ _ _ _ (@aAa _ _ _ _ _ (pv 0) (@aAa _ _ _ _ _ (@aBa _ _ _ _ _ (@aAa _ _ _ _ _ (@aAp _ _ _ _ _ _ hr.u1 (pv 1) (pv 0) (fun _ _=>rfl)) (@aAa _ _ _ _ _ (@aCc _ _ _) (@aAa _ _ _ _ _ (@aCc _ _ _) (@aAd _) (by rfl)) (by rfl)) (by rfl))) (@aAd _) (by rfl)) (by rfl)))) (fun _ _ _ _=>(@aCs _)) (by intro _; rfl)) (@aAd _) (by rfl)) (by decide) (by decide) (by rfl) (by rfl)) (by rfl) (by first | exact .inl rfl | exact .inr rfl | assumption)) (@aAc _ _ _ _ _ (@aAk _ _ (i:=7) _ _ _ _ aBh.nd rfl (by first | exact Or.inl rfl | exact Or.inr rfl) (@aFc _ _) (by rfl) (by first | exact .inl rfl | exact .inr rfl | assumption)) (@aAc _ _ _ _ _ (@aGk _ _ _ _ _ _ PassesOwn.never (@bAh _ _ _ (pv 6) (by intro _; rfl)) (@aAc _ _ _ _ _ (@aAk _ _ (i:=8) _ _ _ _ aBh.nd rfl (by first | exact Or.inl rfl | exact Or.inr rfl) (@aAi _ _ _ _ _ _ _ _ _ _ o_earliest_of hr rfl (@aAa _ _ _ _ _ (pv 6) (@aAd _) (by rfl)) (by decide) (by rfl) (by rfl)) (by rfl) (by first | exact .inl rfl | exact .inr rfl | assumption)) (@aAc _ _ _ _ _ (@aFx _ _ _ _ _ _ _ _ _ hr.u1 (pv 7) (pv 8) (@aS3 _ _ _ _ _ _ _ (pv 6) (pv 8) ⟨rfl,rfl,rfl,rfl⟩) rfl) (@aAh _ _ _ (@aCx _ _ _ _ _ _ _ _ PassesOwn.never rfl (@aBx _ _ _ _ (@aEh _ _ _ _ _ _ _ _ _ hr.u1 (pv 3) (pv 8) (@aB8 _ _ _ _ (@aAd _)) ⟨rfl,rfl,rfl,rfl⟩)) (@aD1 _ _ _ _ _ (n:=2) rfl (@aAn _ _ _ _ _ (@aAm _ _ (i:=9) _ aBh.nd rfl (by first | exact Or.inl rfl | exact Or.inr rfl) (by first | exact .inl rfl | exact .inr rfl | assumption)) (@aAn _ _ _ _ _ (@aAm _ _ (i:=10) _ aBh.nd rfl (by first | exact Or.inl rfl | exact Or.inr rfl) (by first | exact .inl rfl | exact .inr rfl | assumption)) (@aBy _) (by rfl)) (by rfl)) (by rfl) (by rfl)) (@aAc _ _ _ _ _ (@aAk _ _ (i:=11) _ _ _ _ aBh.nd rfl (by first | exact Or.inl rfl | exact Or.inr rfl) (@aAi _ _ _ _ _ _ _ _ _ _ o_added hr rfl (@aAa _ _ _ _ _ (@aAz _ _ _ _ _ _ _ aA0 (@aAp _ _ _ _ _ _ hr.u1 (pv 7) (pv 8) (fun _ _=>rfl)) (@aAf _ _ _ _) (fun _ _=>rfl)) (@aAa _ _ _ _ _ (@aAz _ _ _ _ _ _ _ aA0 (@aAz _ _ _ _ _ _ _ aA0 (pv 0) (pv 9) (fun _ _=>rfl)) (@aAf _ _ _ _) (fun _ _=>rfl)) (@aAd _) (by rfl)) (by rfl)) (by decide) (by rfl) (by rfl)) (by rfl) (by first | exact .inl rfl | exact .inr rfl | assumption)) (@aAc _ _ _ _ _ (@aB3 _ _ _ _ _ _ _ _ (@PW.pt _ _ _ (@aGx _ _ _ _ _ _ _ (@aEn _ _ _ _ _ _ (@aG2 _ _ _ _ _ hr.u1 (pv 10) (pv 7)) (by first | exact nobehind _ (by decide) (by decide) | rfl)) (@aD0 _ _ _ _ (@aC4 _ _ _ (@aAi _ _ _ _ _ _ _ _ _ _ o_is_out hr rfl (@aAa _ _ _ _ _ (pv 4) (@aAa _ _ _ _ _ (pv 9) (@aAa _ _ _ _ _ (pv 11) (@aAd _) (by rfl)) (by rfl)) (by rfl)) (by decide) (by rfl) (by rfl)) (by intro _; rfl))))) (@aAh _ _ _ (@aLy _ _)) (@aA5 _)) (@aAh _ _ _ (@aB3 _ _ _ _ _ _ _ _ (@PW.pt _ _ _ (@aGx _ _ _ _ _ _ _ (@aEn _ _ _ _ _ _ (@aFd _ _ _ _ _ hr.u1 (pv 10) (pv 6)) (by first | exact nobehind _ (by decide) (by decide) | rfl)) (@aD0 _ _ _ _ (@aC4 _ _ _ (@aAi _ _ _ _ _ _ _ _ _ _ o_is_less hr rfl (@aAa _ _ _ _ _ (pv 11) (@aAa _ _ _ _ _ (@aAz _ _ _ _ _ _ _ aA0 (@aAp _ _ _ _ _ _ hr.u1 (pv 6) (pv 10) (fun _ _=>rfl)) (@aAf _ _ _ _) (fun _ _=>rfl)) (@aAd _) (by rfl)) (by rfl)) (by decide) (by rfl) (by rfl)) (by intro _; rfl))))) (@aAh _ _ _ (@aFx _ _ _ _ _ _ _ _ _ hr.u1 (pv 6) (pv 10) (@aBa _ _ _ _ _ (@aAa _ _ _ _ _ (pv 11) (@aAa _ _ _ _ _ (pv 9) (@aAa _ _ _ _ _ (pv 8) (@aAd _) (by rfl)) (by rfl)) (by rfl))) rfl)) (@aA5 _))))) (by intro _; rfl)))))) (@aAh _ _ _ (@aAw _ _ _ _ (pv 7))))))))),?_⟩
  walk_at "go"
  refine ⟨l,net,rfl,hnet.lq,hnet.len,fun dB H1 hB s1 bes=>?_⟩
  walk_at "go"
  refine aY9 (hts.sm s1) fun lt H2 s2 lq2=>?_
  walk_at "go"
  refine ⟨lt,ts,rfl,lq2,Nat.le_trans hts.len (by decide),hts.sz,fun dT H3 hT s3 tq=>?_⟩
  walk_at "go"
  have s13:=(s1.trans s2).trans s3
  have hlp:=hps.len
  refine ⟨lp,ps,rfl,(hps.sm s13).lq,by omega,fun x hx=>hR.sz (hps.bd x hx) (by omega),fun dP H4 hP s4 pq=>?_⟩
  walk_at "go"
  obtain ⟨kP,hkP,qP⟩:=pq
  refine aV7 dP (aK1.dK hkP) ?_
  walk_at "go"
  refine ⟨rfl,kP,hkP,fun ob=>?_⟩
  have hPl:kP.length<=100:=by
   have h1:=qP.len
   have h2:=aQr ps
   omega
  refine aSz (by omega) (fun acc i ys G=>Kp acc (upd H4 dP (.frz ob (.dK kP))) G/\Paired (fun v (x:Key×aEq Key)=>∃ a u,v=.ref a/\G a=some (.tup [kV x.1,u])/\aHq G u x.2) ys (((lst ps).map fun x=>(x.1,(x.2,none))).take i)) ?_ ?_ ?_ ?_
  ·intro acc h0
   exact ⟨Kp.new h0,.nil⟩
  ·intro acc i ys G h0 _ ⟨k,_⟩
   exact k _ _ (fun z=>by subst z; rw [aAb] at h0; cases h0) aAb
  ·intro acc i ys G kk v h0 hx hyl hG ⟨kp,pr⟩
   have hdP:G dP=some (.frz ob (.dK kP)):=kp _ _ (fun z=>by subst z; rw [aAb] at h0; cases h0) aAb
   have hi:i < (lst ps).length:=by
    have h1:=(List.getElem?_eq_some_iff.mp hx).1
    have h2:=qP.len
    omega
   obtain ⟨y,hy,e0,fv⟩:=Paired.at qP hx
   obtain ⟨kk',qq⟩:=y
   cases (show kk=kk' from e0)
   have hag:aBf (lst ps) kk=some qq:=aBz (aQq ps) (List.mem_of_getElem? hy)
   obtain ⟨v1,e1,f1⟩:∃ v1,aBu kP kk=some v1/\FrQ G v1 qq:=by
    rcases qP.val (k:=kk) with ⟨_,e2⟩ | ⟨v1,r1,e1,e2,f1⟩
    ·rw [hag] at e2
     cases e2
    ·rw [hag] at e2
     cases e2
     refine ⟨v1,e1,f1.tk (TK.trans (TK.dic hkP) fun p xs h=>kp _ _ (aAe h h0) h)⟩
   walk_at "go"
   refine aN0 (.inr ⟨_,hdP⟩) e1 ?_
   walk_at "go"
   refine aAv fun t1 ht1=>?_
   walk_at "go"
   refine aAv fun t2 ht2=>?_
   have hG2:=aAl (o:=.tup [kV kk,.ref t1]) ht2 (aAl (o:=.tup [v1,.non,.non]) ht1 hG)
   refine aFj (List.getElem?_eq_some_iff.mp hx).1 hyl hG2 ⟨?_,?_⟩
   ·exact Kp.trans (Kp.trans (Kp.trans kp (Kp.new ht1)) (Kp.new ht2)) Kp.upd
   ·have tk:TK (upd (upd G t1 (.tup [v1,.non,.non])) t2 (.tup [kV kk,.ref t1])) (upd (upd (upd G t1 (.tup [v1,.non,.non])) t2 (.tup [kV kk,.ref t1])) acc (.lst (ys++[.ref t2]))):=TK.lst hG2
    have tk2:=((TK.new (o:=.tup [v1,.non,.non]) ht1).trans (TK.new (o:=.tup [kV kk,.ref t1]) ht2)).trans tk
    have hi':i < ((lst ps).map fun x=>(x.1,((x.2,none):aEq Key))).length:=by rw [List.length_map]; exact hi
    rw [List.take_succ_eq_append_getElem hi']
    have:((lst ps).map fun x=>(x.1,((x.2,none):aEq Key)))[i]=(kk,(qq,none)):=by
     rw [List.getElem_map]
     rw [List.getElem?_eq_getElem hi] at hy
     rw [Option.some.inj hy]
    rw [this]
    refine Pd.snoc (Pd.imp pr fun v x ⟨a,u,e,h,f⟩=>⟨a,u,e,tk2 _ _ h,f.tk tk2⟩) ⟨t2,.ref t1,rfl,tk _ _ aAb,t1,v1,rfl,tk _ _ (aAl ht2 aAb),f1.tk tk2⟩
  ·intro acc ys G h0 hG hyl ⟨kp,pr⟩
   have hdP:G dP=some (.frz ob (.dK kP)):=kp _ _ (fun z=>by subst z; rw [aAb] at h0; cases h0) aAb
   have hap:acc≠dP:=fun z=>by subst z; rw [aAb] at h0; cases h0
   have s5:aAo H4 (melt dP G):=fun b o h=>by
    rw [aNd hdP]
    by_cases hb:b=dP
    ·subst hb
     rw [hkP] at h
     rw [aAb]
     exact h
    ·rw [aAu hb]
     refine kp _ _ (fun z=>?_) (by rw [aAu hb]; exact h)
     subst z
     rw [aAu hb,h] at h0
     cases h0
   have tk5:TK G (melt dP G):=TK.melt
   have hacc:melt dP G acc=some (.lst ys):=by rw [aIw hap]; exact hG
   have pr2:=Pd.imp (G:=fun v (x:Key×aEq Key)=>∃ a u,v=.ref a/\melt dP G a=some (.tup [kV x.1,u])/\aHq (melt dP G) u x.2) pr fun v x ⟨a,u,e,h,f⟩=>⟨a,u,e,tk5 _ _ h,f.tk tk5⟩
   have hlW:kP.length=((lst ps).map fun x=>(x.1,((x.2,none):aEq Key))).length:=by rw [List.length_map]; exact qP.len
   rw [hlW,List.take_length] at pr2
   obtain ⟨k0,pa,kq0⟩:=aIs pr2
   show aSh _ _ _
   generalize melt dP G=H5 at *
   walk_at "go"
   refine ⟨acc,ys,k0,rfl,hacc,pa,by omega,fun dW hW=>?_⟩
   have nd0:(((lst ps).map fun x=>(x.1,((x.2,none):aEq Key))).map (·.1)).Nodup:=by
    rw [List.map_map]
    exact aQq ps
   rw [aFf (by rw [List.nil_append,kq0.keys]; exact nd0),List.nil_append]
   walk_at "go"
   refine aJ4 fun dF hF=>?_
   walk_at "go"
   have hWF:dW≠dF:=fun z=>by subst z; rw [aAb] at hF; cases hF
   have hW0:upd (upd H5 dW (.dK k0)) dF (.dK []) dW=some (.dK k0):=aAl hF aAb
   have hF0:upd (upd H5 dW (.dK k0)) dF (.dK []) dF=some (.dK []):=aAb
   have s50:aAo H5 (upd (upd H5 dW (.dK k0)) dF (.dK [])):=(aAo.new hW).trans (aAo.new hF)
   have bes5:=bes.sm ((s2.trans s3).trans (s4.trans s5))
   have tq5:=tq.sm FrQ.tk (s4.trans s5)
   have sH5:=s13.trans (s4.trans s5)
   have hFn:H5 dF=none:=by
    cases z:H5 dF with
    | none=>rfl
    | some o=>rw [aAu (Ne.symm hWF),z] at hF; cases hF
   have hBW:dB≠dW/\dB≠dF:=by
    obtain ⟨kvs,f,z1,_⟩:=bes5
    exact ⟨aAe z1 hW,aAe z1 hFn⟩
   have hTW:dT≠dW/\dT≠dF:=by
    obtain ⟨kvs,z1,_⟩:=tq5
    exact ⟨aAe z1 hW,aAe z1 hFn⟩
   have hWn:H dW=none:=by
    cases z:H dW with
    | none=>rfl
    | some o=>rw [sH5 _ _ z] at hW; cases hW
   have hFn':H dF=none:=by
    cases z:H dF with
    | none=>rfl
    | some o=>rw [sH5 _ _ z] at hFn; cases hFn
   have bes0:=bes5.sm s50
   have tq0:=tq5.sm FrQ.tk s50
   have net0:=hnet.sm (sH5.trans s50)
   have sH0:=sH5.trans s50
   have kq00:=kq0.imp (H':=upd (upd H5 dW (.dK k0)) dF (.dK [])) fun v b f=>f.tk s50.tk
   generalize upd (upd H5 dW (.dK k0)) dF (.dK [])=H0 at *
   refine aIg (fun σ H1=>∃ W F kW kF o8 o9 o10 o11,σ=[some (.ref l),some (.ref lp),some vt,some (.ref dB),some (.ref dT),some (.ref dP),some (.ref dW),some (.ref dF),o8,o9,o10,o11]/\Kp2 dW dF H0 H1/\H1 dW=some (.dK kW)/\KQ aHq H1 kW W/\H1 dF=some (.dK kF)/\KQ aHq H1 kF F/\aIe net (aBf (lst ps)) (aC8 ts) (fun _ _ _=>True) W F/\(∀ x∈W,Bd DD (MM * (F.length+1)) x.2.1)/\∀ x∈F,Bd DD (MM * F.length) x.2.1) (fun σ H1=>1000 - (match H1 dF with | some (.dK kvs)=>kvs.length | _=>0)) ?_ ?_ ?_
   ·refine ⟨_,_,k0,[],_,_,_,_,rfl,Kp2.refl _,hW0,kq00,hF0,.nil,aIe.start nd0 (fun p e he=>?_) (fun p t he=>?_),fun x hx=>?_,fun x hx=>by simp at hx⟩
    ·obtain ⟨y,hy,e2⟩:=List.mem_map.mp he
     cases e2
     exact ⟨rfl,aBz (aQq ps) hy⟩
    ·exact List.mem_map.mpr ⟨(p,t),aBm he,rfl⟩
    ·obtain ⟨y,hy,rfl⟩:=List.mem_map.mp hx
     exact (hps.bd y (aG6 hy)).mono (by simp)
   ·rintro σ H1 ⟨W,F,kW,kF,o8,o9,o10,o11,rfl,kp1,hW1,qW,hF1,qF,I,bW,bF⟩
    have hl:=hnet.len
    have hlens:=I.lens
    walk_at "go"
    refine aVb hW1 (fun hne=>?_) (fun hnil=>?_)
    ·walk_at "go"
     have hWne:W≠[]:=fun z=>hne (List.length_eq_zero_iff.mp (by rw [qW.len,z]; rfl))
     have szW:∀ {m:Nat} {t:Rat},m<=1000->Bd DD (MM * m) t->Sz 8000 t:=fun hm hb=>hR.sz hb (Nat.mul_le_mul_left _ hm)
     refine ⟨dW,W,rfl,⟨kW,hW1,qW⟩,I.ndW,fun x hx=>szW (by omega) (bW x hx),hWne,fun p e hp hmin=>?_⟩
     walk_at "go"
     have hagW:aBf W p=some e:=aBz I.ndW hp
     obtain ⟨v1,e1,f1⟩:∃ v1,aBu kW p=some v1/\aHq H1 v1 e:=by
      rcases qW.val (k:=p) with ⟨_,e2⟩ | ⟨v1,r1,e1,e2,f1⟩
      ·rw [hagW] at e2
       cases e2
      ·rw [hagW] at e2
       cases e2
       exact ⟨v1,e1,f1⟩
     refine ⟨dW,rfl,.inl ⟨kW,.inl hW1⟩,?_⟩
     walk_at "go"
     refine ⟨kW,p,v1,hW1,rfl,e1,?_⟩
     walk_at "go"
     have hF1':upd H1 dW (.dK (aCi kW p)) dF=some (.dK kF):=aBb (Ne.symm hWF) hF1
     have hkF:kF.length<=1000:=by
      have:=qF.len
      omega
     refine aJ5 hF1' hkF ?_
     have hpF:p∉F.map (·.1):=I.dis p (List.mem_map.mpr ⟨_,hp,rfl⟩)
     have tkd:TK H1 (upd (upd H1 dW (.dK (aCi kW p))) dF (.dK (aDn kF p v1))):=(TK.dic hW1).trans (TK.dic hF1')
     have qW2:KQ aHq (upd (upd H1 dW (.dK (aCi kW p))) dF (.dK (aDn kF p v1))) (aCi kW p) (aE3 W p):=(qW.drop).imp fun v b f=>f.tk tkd
     have qF2:KQ aHq (upd (upd H1 dW (.dK (aCi kW p))) dF (.dK (aDn kF p v1))) (aDn kF p v1) (F++[(p,e)]):=by
      rw [← aR4 hpF]
      exact (qF.put f1).imp fun v b f=>f.tk tkd
     have kp2:Kp2 dW dF H0 (upd (upd H1 dW (.dK (aCi kW p))) dF (.dK (aDn kF p v1))):=(kp1.trans Kp2.l).trans Kp2.r
     have hW2:upd (upd H1 dW (.dK (aCi kW p))) dF (.dK (aDn kF p v1)) dW=some (.dK (aCi kW p)):=aBb hWF aAb
     have hF2:upd (upd H1 dW (.dK (aCi kW p))) dF (.dK (aDn kF p v1)) dF=some (.dK (aDn kF p v1)):=aAb
     have hFlen:(aDn kF p v1).length=F.length+1:=by rw [qF2.len]; simp
     generalize aDn kF p v1=kF2 at *
     generalize aCi kW p=kW2 at *
     generalize upd (upd H1 dW (.dK kW2)) dF (.dK kF2)=H2' at *
     walk_at "go"
     refine ⟨dB,rfl,.inl ⟨_,.inl (bes0.k2 kp2 hW0 hF0 hBW.1 hBW.2).choose_spec.choose_spec.1⟩,?_⟩
     walk_at "go"
     refine aB7 fun z0 hz0=>?_
     walk_at "go"
     have kp3:Kp2 dW dF H0 (upd H2' z0 (.lst [])):=kp2.trans (aAo.new hz0).kp2
     have hW3:upd H2' z0 (.lst []) dW=some (.dK kW2):=aAl hz0 hW2
     have hF3:upd H2' z0 (.lst []) dF=some (.dK kF2):=aAl hz0 hF2
     have qW3:KQ aHq (upd H2' z0 (.lst [])) kW2 (aE3 W p):=qW2.imp fun v b f=>f.tk (TK.new hz0)
     have qF3:KQ aHq (upd H2' z0 (.lst [])) kF2 (F++[(p,e)]):=qF2.imp fun v b f=>f.tk (TK.new hz0)
     refine aZ7 (bes0.k2 kp3 hW0 hF0 hBW.1 hBW.2) aAb fun lb L lqL hLl hL=>?_
     generalize upd H2' z0 (.lst [])=H3' at *
     obtain ⟨xs,hxs,pxs⟩:=lqL
     refine aBw (SqL.of hxs) ?_
     have hxl:=Paired.length pxs
     have hle:∀ w∈F++[(p,e)],w.2.1<=e.1:=fun w hw=>by
      rcases List.mem_append.mp hw with hw | hw
      ·exact I.mono w hw _ hp
      ·rw [List.mem_singleton] at hw
       subst hw
       exact Rat.le_refl
     have hpe:(p,e)∈F++[(p,e)]:=List.mem_append_right _ (by simp)
     have be:Bd DD (MM * (F.length+1)) e.1:=bW _ hp
     refine aGv (xs:=xs) (fun i σ G=>∃ W' kW' o9 o10 o11,σ=[some (.ref l),some (.ref lp),some vt,some (.ref dB),some (.ref dT),some (.ref dP),some (.ref dW),some (.ref dF),some (kV p),o9,o10,o11]/\Kp2 dW dF H0 G/\Kp2 dW dF H3' G/\G dW=some (.dK kW')/\KQ aHq G kW' W'/\G dF=some (.dK kF2)/\KQ aHq G kF2 (F++[(p,e)])/\aIe net (aBf (lst ps)) (aC8 ts) (fun q j y=>q≠p∨(j,y)∈L.take i) W' (F++[(p,e)])/\∀ x∈W',Bd DD (MM * (F.length+2)) x.2.1) ?_ ?_ ?_ ?_
     ·refine ⟨_,_,_,_,_,rfl,kp3,Kp2.refl _,hW3,qW3,hF3,qF3,I.pop hp hmin fun q k x hc=>hc.elim id fun z=>by simp at z,fun x hx=>(bW x (aD4.mp hx).1).mono (Nat.mul_le_mul_left _ (by omega))⟩
     ·rintro i σ G _ ⟨W',kW',o9',o10',o11',rfl,k0',k3',_⟩
      exact SqL.of (k3'.lst hW3 hF3 hxs)
     ·intro P' rt' bk' hP'
      rintro i x σ G hx ⟨W',kW',o9',o10',o11',rfl,k0',k3',gW,qW',gF,qF',I',bW'⟩
      have hi:i < L.length:=by
       have:=(List.getElem?_eq_some_iff.mp hx).1
       omega
      obtain ⟨y,hy,t0,rfl,ht0⟩:=Paired.at pxs hx
      obtain ⟨j,xk⟩:=y
      have hy2:L[i]=(j,xk):=by
       rw [List.getElem?_eq_getElem hi] at hy
       exact Option.some.inj hy
      have ht1:=k3'.tk hW3 hF3 _ _ ht0
      obtain ⟨r,hr,hj⟩:=(hL j xk).mp (List.mem_of_getElem? hy)
      have hrm:r∈net:=List.mem_of_getElem? hr
      have htake:∀ q jj yy,(q≠p∨(jj,yy)∈L.take (i+1))->(q≠p∨(jj,yy)∈L.take i)∨(q=p/\jj=j/\yy=xk):=fun q jj yy h=>by
       by_cases hq:q=p
       ·rcases h with h | h
        ·exact .inl (.inl h)
        ·rw [List.take_succ_eq_append_getElem hi,hy2] at h
         rcases List.mem_append.mp h with h | h
         ·exact .inl (.inr h)
         ·rw [List.mem_singleton] at h
          cases h
          exact .inr ⟨hq,rfl,rfl⟩
       ·exact .inl (.inl hq)
      have hbm:Bd DD (MM * (F.length+2)) (e.1+r.2.2):=(be.add hR.ne (hnet.bd r hrm)).mono (by rw [Nat.mul_add,Nat.mul_add]; omega)
      have fin1:∀ σ2 G2,aAo G G2->(∃ o9 o10 o11,σ2=[some (.ref l),some (.ref lp),some vt,some (.ref dB),some (.ref dT),some (.ref dP),some (.ref dW),some (.ref dF),some (kV p),o9,o10,o11])->(xk∈(F++[(p,e)]).map (·.1)∨¬ aB5 (aC8 ts) j (e.1+r.2.2)∨∃ u,(xk,u)∈W'/\u.1<=e.1+r.2.2)->∃ W' kW' o9 o10 o11,σ2=[some (.ref l),some (.ref lp),some vt,some (.ref dB),some (.ref dT),some (.ref dP),some (.ref dW),some (.ref dF),some (kV p),o9,o10,o11]/\Kp2 dW dF H0 G2/\Kp2 dW dF H3' G2/\G2 dW=some (.dK kW')/\KQ aHq G2 kW' W'/\G2 dF=some (.dK kF2)/\KQ aHq G2 kF2 (F++[(p,e)])/\aIe net (aBf (lst ps)) (aC8 ts) (fun q j y=>q≠p∨(j,y)∈L.take (i+1)) W' (F++[(p,e)])/\∀ x∈W',Bd DD (MM * (F.length+2)) x.2.1:=by
       rintro σ2 G2 sg ⟨o9,o10,o11,rfl⟩ hc
       exact ⟨W',kW',_,_,_,rfl,k0'.trans sg.kp2,k3'.trans sg.kp2,sg _ _ gW,qW'.imp fun v b f=>f.tk sg.tk,sg _ _ gF,qF'.imp fun v b f=>f.tk sg.tk,I'.turn hpe hr hj hle (hnet.pos r hrm) htake (.inl ⟨rfl,hc⟩),bW'⟩
      have fin2:∀ σ2 G1 t3 vm,aAo G G1->G1 t3=none->FrQ G1 vm (e.1+r.2.2)->(∃ o9 o10 o11,σ2=[some (.ref l),some (.ref lp),some vt,some (.ref dB),some (.ref dT),some (.ref dP),some (.ref dW),some (.ref dF),some (kV p),o9,o10,o11])->(xk∉(F++[(p,e)]).map (·.1)/\aB5 (aC8 ts) j (e.1+r.2.2)/\∀ u,(xk,u)∈W'->e.1+r.2.2<=u.1)->(fun G2=>∃ W' kW' o9 o10 o11,σ2=[some (.ref l),some (.ref lp),some vt,some (.ref dB),some (.ref dT),some (.ref dP),some (.ref dW),some (.ref dF),some (kV p),o9,o10,o11]/\Kp2 dW dF H0 G2/\Kp2 dW dF H3' G2/\G2 dW=some (.dK kW')/\KQ aHq G2 kW' W'/\G2 dF=some (.dK kF2)/\KQ aHq G2 kF2 (F++[(p,e)])/\aIe net (aBf (lst ps)) (aC8 ts) (fun q j y=>q≠p∨(j,y)∈L.take (i+1)) W' (F++[(p,e)])/\∀ x∈W',Bd DD (MM * (F.length+2)) x.2.1) (upd (upd G1 t3 (.tup [vm,.int j,kV p])) dW (.dK (aDn kW' xk (.ref t3)))):=by
       rintro σ2 G1 t3 vm sg hn3 fm ⟨o9,o10,o11,rfl⟩ ⟨c1,c2,c3⟩
       have sg2:=sg.trans (aAo.new (o:=.tup [vm,.int j,kV p]) hn3)
       have gW2:=sg2 _ _ gW
       have tkw:TK (upd G1 t3 (.tup [vm,.int j,kV p])) (upd (upd G1 t3 (.tup [vm,.int j,kV p])) dW (.dK (aDn kW' xk (.ref t3)))):=TK.dic gW2
       have tk3:=sg2.tk.trans tkw
       refine ⟨aDp W' xk (e.1+r.2.2,some (j,p)),aDn kW' xk (.ref t3),_,_,_,rfl,(k0'.trans sg2.kp2).trans Kp2.l,(k3'.trans sg2.kp2).trans Kp2.l,aAb,?_,aBb (Ne.symm hWF) (sg2 _ _ gF),qF'.imp fun v b f=>f.tk tk3,I'.turn hpe hr hj hle (hnet.pos r hrm) htake (.inr ⟨c1,c2,c3,rfl⟩),fun x hx=>?_⟩
       ·exact (qW'.imp fun v b f=>f.tk tk3).put ⟨t3,vm,rfl,tkw _ _ aAb,(fm.tk (TK.new hn3)).tk tkw⟩
       ·obtain ⟨x1,x2⟩:=x
        rcases aCl hx with ⟨_,rfl⟩ | ⟨_,h⟩
        ·exact hbm
        ·exact bW' _ h
      replace fin1:=fun σ2 G2 a b c=>hP' _ _ _ (fin1 σ2 G2 a b c)
      replace fin2:=fun σ2 G1 t3 vm a b c d e=>hP' _ _ _ (fin2 σ2 G1 t3 vm a b c d e)
      have hagF:aBf (F++[(p,e)]) p=some e:=aBz I'.ndF hpe
      obtain ⟨ve,e3,pe,ue,rfl,hpe2,fe⟩:∃ v1,aBu kF2 p=some v1/\aHq G v1 e:=by
       rcases qF'.val (k:=p) with ⟨_,e2⟩ | ⟨v1,r1,e1,e2,f1⟩
       ·rw [hagF] at e2
        cases e2
       ·rw [hagF] at e2
        cases e2
        exact ⟨v1,e1,f1⟩
      obtain ⟨vn,hvn,pvn⟩:=net0.lq
      have hvnG:=k0'.lst hW0 hF0 hvn
      obtain ⟨vr,hvr,pr0,ur,rfl,hpr0,fr0⟩:=Pd.get pvn hr
      have tk0:=k0'.tk hW0 hF0
      have hprG:=tk0 _ _ hpr0
      have frG:=fr0.tk tk0
      walk_at "go"
      refine aN0 (.inl gF) e3 ?_
      walk_at "go"
      refine aDx hvnG (aF4 hvr) ?_
      walk_at "go"
      refine ⟨ue,ur,e.1,r.2.2,rfl,fe,frG,szW (by omega) be,hR.sz (hnet.bd r hrm) (by omega),fun vm G2 fm sg=>?_⟩
      walk_at "go"
      have gF2:=sg _ _ gF
      have gW2:=sg _ _ gW
      refine r_dIk (.inl gF2) ?_
      have szm:Sz 8000 (e.1+r.2.2):=szW (by omega) hbm
      rcases qF'.val (k:=xk) with ⟨e4,e5⟩ | ⟨v4,r4,e4,e5,f4⟩
      ·rw [e4]
       walk_at "go"
       have hnF:xk∉(F++[(p,e)]).map (·.1):=aOi e5
       obtain ⟨kT,gT,qT⟩:=tq0
       have gT2:G2 dT=some (.dK kT):=sg _ _ (k0' _ _ hTW.1 hTW.2 gT)
       refine ⟨dT,lst ts,j,vm,e.1+r.2.2,rfl,⟨kT,gT2,qT.imp fun v b f=>(f.tk tk0).tk sg.tk⟩,fm,fun x hx=>hts.sz x (aG6 hx),szm,?_⟩
       have hout:bAq (lst ts) j (e.1+r.2.2)=true/\¬ aB5 (aC8 ts) j (e.1+r.2.2)∨bAq (lst ts) j (e.1+r.2.2)=false/\aB5 (aC8 ts) j (e.1+r.2.2):=by
        unfold bAq aB5 aC8
        cases aBf (lst ts) (Sum.inl (j:Int)) with
        | none=>exact .inr ⟨rfl,fun u e=>nomatch e⟩
        | some u =>
         by_cases c:u < e.1+r.2.2
         ·exact .inl ⟨decide_eq_true c,fun h=>Rat.not_le.mpr c (h u rfl)⟩
         ·exact .inr ⟨decide_eq_false c,fun u' e=>by cases e; exact Rat.not_lt.mp c⟩
       rcases hout with ⟨ho,hno⟩ | ⟨ho,hno⟩
       ·rw [ho]
        walk_at "go"
        exact fin1 _ G2 sg ⟨_,_,_,rfl⟩ (.inr (.inl hno))
       ·rw [ho]
        walk_at "go"
        refine aZ1 (.inl gW2) ?_
        have hkW:kW'.length<=1000:=by
         have h1:=qW'.len
         have h2:=I'.lens
         omega
        rcases qW'.val (k:=xk) with ⟨e6,e7⟩ | ⟨v6,r6,e6,e7,p6,u6,rfl,h6,f6⟩
        ·rw [e6]
         walk_at "go"
         refine aAv fun t3 ht3=>?_
         walk_at "go"
         refine aJ5 (aAl ht3 gW2) hkW ?_
         walk_at "go"
         exact fin2 _ G2 t3 vm sg ht3 fm ⟨_,_,_,rfl⟩ ⟨hnF,hno,fun u hu=>absurd hu (aFl e7 u)⟩
        ·rw [e6]
         have h62:=sg.tk _ _ h6
         walk_at "go"
         refine aN0 (.inl gW2) e6 ?_
         walk_at "go"
         have hm6:=aBm e7
         refine ⟨vm,u6,e.1+r.2.2,r6.1,rfl,fm,f6.tk sg.tk,szm,szW (by omega) (bW' _ hm6),?_⟩
         walk_at "go"
         refine i_d (fun c=>?_) (fun c=>?_)
         ·walk_at "go"
          refine aAv fun t3 ht3=>?_
          walk_at "go"
          refine aJ5 (aAl ht3 gW2) hkW ?_
          walk_at "go"
          refine fin2 _ G2 t3 vm sg ht3 fm ⟨_,_,_,rfl⟩ ⟨hnF,hno,fun u hu=>?_⟩
          have:=Option.some.inj ((aBz I'.ndW hu).symm.trans e7)
          subst this
          exact Rat.le_of_lt c
         ·walk_at "go"
          exact fin1 _ G2 sg ⟨_,_,_,rfl⟩ (.inr (.inr ⟨r6,hm6,Rat.not_lt.mp c⟩))
      ·rw [e4]
       walk_at "go"
       exact fin1 _ G2 sg ⟨_,_,_,rfl⟩ (.inl (List.mem_map.mpr ⟨_,aBm e5,rfl⟩))
     ·rintro σ G ⟨W',kW',o9',o10',o11',rfl,k0',k3',gW,qW',gF,qF',I',bW'⟩
      rw [hxl,List.take_length] at I'
      refine ⟨⟨W',F++[(p,e)],kW',kF2,_,_,_,_,rfl,k0',gW,qW',gF,qF',I'.imp fun q k x r h1 h2 _=>?_,fun x hx=>?_,fun x hx=>?_⟩,?_⟩
      ·by_cases hq:q=p
       ·subst hq
        exact .inr ((hL k x).mpr ⟨r,h1,h2⟩)
       ·exact .inl hq
      ·rw [List.length_append]
       exact bW' x hx
      ·rw [List.length_append]
       rcases List.mem_append.mp hx with hx | hx
       ·exact (bF x hx).mono (Nat.mul_le_mul_left _ (by simp))
       ·rw [List.mem_singleton] at hx
        subst hx
        exact be
      ·have hql:=qF.len
       simp only [gF,hF1]
       omega
    ·have hWnil:W=[]:=List.length_eq_zero_iff.mp (by rw [← qW.len,hnil]; rfl)
     subst hWnil
     walk_at "go"
     refine q dF H1 F hFn' (kp1.same sH0 hWn hFn') ⟨kF,hF1,qF⟩ I.done hlens.2 fun x hx=>(bF x hx).mono (Nat.mul_le_mul_left _ (by omega))
   ·rintro σ H Q Q' h ⟨v,e,k,t,b⟩
    exact ⟨v,e,k,t,h _ _ b⟩
theorem aG3 (T:Bl mg) (d:DfD K mg "fall_moments" aBi ["net","pushes","takings"] [.non] ) (o_posts_of:Okf P w K mg base k "posts_of" ["net"] (aO4 w)) (o_falls_of:aHp P w K mg base k "falls_of" ["net","pushes","takings"] [.non] aVi):aHp P w K mg base (k+1) "fall_moments" ["net","pushes","takings"] [.non] (spFm w):=by
 refine aHp.of d aDv (fun vs H Q E h=>?_) (fun f cdv A outer s H vs Q E hr h=>?_)
 ·obtain ⟨l,n,lp,ps,vt,ts,DD,MM,U,rfl,_⟩:=h
  rfl
 ·obtain ⟨l,n,lp,ps,vt,ts,DD,MM,U,rfl,hnet,hps,hts,hR,hU,hUn,q⟩:=h
  refine ⟨_,(@aAc _ _ _ _ _ (@aAk _ _ (i:=3) _ _ _ _ aDv.nd rfl (by first | exact Or.inl rfl | exact Or.inr rfl) (@aAi _ _ _ _ _ _ _ _ _ _ o_falls_of.f hr rfl (@aAa _ _ _ _ _ (pv 0) (@aAa _ _ _ _ _ (pv 1) (@aAa _ _ _ _ _ (pv 2) (@aAd _) (by rfl)) (by rfl)) (by rfl)) (by decide) (by rfl) (by rfl)) (by rfl) (by first | exact .inl rfl | exact .inr rfl | assumption)) (@aAh _ _ _ (@aAw _ _ _ _ (@aDa _ _ _ _ _ _ _ _ _ (aIb rfl) rfl T.z_dict aR1 (@aAa _ _ _ _ _ (@aDi _ _ _ _ _ _ _ _ _ _ _ _ _ _ (@aC6 _ _ (sc:=aAg aBi) (N:=["net","pushes","takings","fallen"]) (tn:=["post"]) (names:=["fallen"]) (is:=[3]) rfl rfl (by decide +kernel) (by decide +kernel) rfl (by decide +kernel) rfl (by decide +kernel) (by decide +kernel) (by decide +kernel)) rfl (@aBx _ _ _ _ (@aAi _ _ _ _ _ _ _ _ _ _ o_posts_of hr rfl (@aAa _ _ _ _ _ (pv 0) (@aAd _) (by rfl)) (by decide) (by rfl) (by rfl))) (fun _ _ _ _=>(@aAm _ _ (i:=0) _ (show (["post","fallen"]:List Str).Nodup by decide +kernel) rfl (Or.inl rfl) (Or.inr rfl))) (fun _ _ _ _=>(@aBa _ _ _ _ _ (@aAa _ _ _ _ _ (pv 0) (@aAa _ _ _ _ _ (@aM6 _ _ _ _ _ _ _ _ (@aEn _ _ _ _ _ _ (@aG2 _ _ _ _ _ hr.u1 (pv 0) (pv 1)) (by first | exact nobehind _ (by decide) (by decide) | rfl)) (@aAz _ _ _ _ _ _ _ aH7 (@aAp _ _ _ _ _ _ hr.u1 (pv 1) (pv 0) (fun _ _=>rfl)) (@aAf _ _ _ _) (fun _ _=>rfl)) (@aCc _ _ _)) (@aAd _) (by rfl)) (by rfl)))) (fun _ _ _ _=>(@aCs _)) (by intro _; rfl)) (@aAd _) (by rfl)) (by decide) (by decide) (by rfl) (by rfl))))),?_⟩
  walk_at "go"
  refine ⟨l,kn n,lp,ps,vt,ts,DD,MM,rfl,hnet,hps,hts,hR,fun dF H1 F hF s1 fq fo hFl bF=>?_⟩
  walk_at "go"
  refine ⟨l,n,U,rfl,(hnet.sm s1).lq,by have:=hnet.len; simpa [kn] using this,hU,hUn,fun lq H2 ys hlq s2 hys nd mem=>?_⟩
  walk_at "go"
  refine aBw (SqL.of hys) ?_
  obtain ⟨kF,hkF,qF⟩:=fq
  have hyl:ys.length<=200:=Nat.le_trans (aH4 nd fun x hx=>hUn x ((mem x).mp hx)) hU
  refine aLu (xs:=ys.map V.str) (by rw [List.length_map]; omega) (fun acc i zs G=>Kp acc H2 G/\Paired (fun v (x:Key×Option Rat)=>∃ a u,v=.ref a/\G a=some (.tup [kV x.1,u])/\aK0 G u x.2) zs ((ys.map fun y=>(Sum.inr y,aCh F (Sum.inr y))).take i)) (fun acc h0=>⟨Kp.new h0,.nil⟩) ?_ ?_ ?_
  ·intro acc i zs G h0 _ ⟨kp,_⟩
   exact SqL.of (kp _ _ (aAe hys h0) hys)
  ·intro acc i zs G x h0 hx hzl hG ⟨kp,pr⟩
   rw [List.getElem?_map] at hx
   cases hy:ys[i]? with
   | none=>rw [hy] at hx; cases hx
   | some y =>
    rw [hy] at hx
    cases (Option.some.inj hx:V.str y=x)
    have hi:i < ys.length:=(List.getElem?_eq_some_iff.mp hy).1
    have hkF2:=s2 _ _ hkF
    have hkFG:G dF=some (.dK kF):=kp _ _ (aAe hkF2 h0) hkF2
    have tkG:TK H1 G:=s2.tk.trans fun p xs h=>kp _ _ (aAe h h0) h
    have fin:∀ G1 u t1,aAo G G1->G1 t1=none->aK0 G1 u (aCh F (Sum.inr y))->aOf (ys.map V.str).length acc (fun i zs G=>Kp acc H2 G/\Paired (fun v (x:Key×Option Rat)=>∃ a u,v=.ref a/\G a=some (.tup [kV x.1,u])/\aK0 G u x.2) zs ((ys.map fun y=>(Sum.inr y,aCh F (Sum.inr y))).take i)) zs i (.ref t1) (upd G1 t1 (.tup [.str y,u])):=fun G1 u t1 sg ht ou=>by
     have hG2:=aAl (o:=.tup [.str y,u]) ht (sg _ _ hG)
     refine aFj (by rw [List.length_map]; exact hi) hzl hG2 ⟨Kp.trans (Kp.trans kp (fun b o _ h=>aAl ht (sg _ _ h))) Kp.upd,?_⟩
     have tk:TK (upd G1 t1 (.tup [.str y,u])) (upd (upd G1 t1 (.tup [.str y,u])) acc (.lst (zs++[.ref t1]))):=TK.lst hG2
     have tk2:=(sg.tk.trans (TK.new (o:=.tup [.str y,u]) ht)).trans tk
     have hi':i < (ys.map fun y=>((Sum.inr y:Key),aCh F (Sum.inr y))).length:=by rw [List.length_map]; exact hi
     rw [List.take_succ_eq_append_getElem hi']
     have:(ys.map fun y=>((Sum.inr y:Key),aCh F (Sum.inr y)))[i]=(Sum.inr y,aCh F (Sum.inr y)):=by
      rw [List.getElem_map]
      rw [List.getElem?_eq_getElem hi] at hy
      rw [Option.some.inj hy]
     rw [this]
     exact Pd.snoc (Pd.imp pr fun v x ⟨a,u,e,h,f⟩=>⟨a,u,e,tk2 _ _ h,f.tk tk2⟩) ⟨t1,u,rfl,tk _ _ aAb,(ou.tk (TK.new ht)).tk tk⟩
    walk_at "go"
    refine r_dIs (.inl hkFG) ?_
    rcases qF.val (k:=Sum.inr y) with ⟨e1,e2⟩ | ⟨v1,r1,e1,e2,p1,u1,rfl,h1,f1⟩
    ·rw [e1]
     walk_at "go"
     refine aAv fun t1 ht1=>?_
     refine fin G .non t1 (aAo.refl _) ht1 ?_
     unfold aCh
     rw [e2]
     rfl
    ·rw [e1]
     walk_at "go"
     refine aCa (.inl hkFG) e1 ?_
     have h1G:=tkG _ _ h1
     walk_at "go"
     refine aAv fun t1 ht1=>?_
     refine fin G u1 t1 (aAo.refl _) ht1 ?_
     unfold aCh
     rw [e2]
     exact f1.tk tkG
  ·intro acc zs G h0 hG hzl ⟨kp,pr⟩
   have hlW:(ys.map V.str).length=(ys.map fun y=>((Sum.inr y:Key),aCh F (Sum.inr y))).length:=by simp
   rw [hlW,List.take_length] at pr
   obtain ⟨k0,pa,kq0⟩:=aIs pr
   walk_at "go"
   rw [List.length_map] at hzl
   refine ⟨acc,zs,k0,rfl,hG,pa,by omega,fun dR hdR=>?_⟩
   have nd0:((ys.map fun y=>((Sum.inr y:Key),aCh F (Sum.inr y))).map (·.1)).Nodup:=by
    rw [List.map_map]
    exact List.pairwise_map.mpr (nd.imp fun h e=>h (Sum.inr.inj e))
   rw [aFf (by rw [List.nil_append,kq0.keys]; exact nd0),List.nil_append]
   walk_at "go"
   have sG:aAo H G:=fun b o hb=>by
    have h2:=s2 _ _ (s1 _ _ hb)
    exact kp _ _ (aAe h2 h0) h2
   refine q dR _ F ys ?_ (sG.trans (aAo.new hdR)) ⟨k0,aAb,kq0.imp fun v b f=>f.tk (TK.new hdR)⟩ fo bF nd mem
   cases z:H dR with
   | none=>rfl
   | some o=>rw [sG _ _ z] at hdR; cases hdR
theorem aL4 (T:Bl mg) (d:Df K mg "is_swept" aFv ["fell","time","beyond"]  ) (o_added:Okf P w K mg base k "added" ["one","other"] aJu) (o_is_less:Okf P w K mg base k "is_less" ["one","other"] aEs):Okf P w K mg base (k+1) "is_swept" ["fell","time","beyond"] aYp:=by
 refine Okf.of d aLi (fun vs H Q E h=>?_) (fun f cdv A outer s H vs Q E hr h=>?_)
 ·obtain ⟨vf,vT,vb,o,T,p,rfl,_⟩:=h
  rfl
 ·obtain ⟨vf,vT,vb,o,T,p,rfl,of,fT,ob,zT,zo,zp,q⟩:=h
  refine ⟨_,(@aAh _ _ _ (@aAw _ _ _ _ (@aH0 _ _ _ _ _ _ _ (@aEy _ _ _ _ _ _ _ _ aIt (pv 0) (@aCc _ _ _) (aA4 _)) (@aFb _ _ _ _ _ (@pe_or _ _ _ _ _ _ _ (@aEy _ _ _ _ _ _ _ _ aD2 (pv 2) (@aCc _ _ _) (aA4 _)) (@aFb _ _ _ _ _ (@aP4 _ _ _ _ (@aAi _ _ _ _ _ _ _ _ _ _ o_is_less hr rfl (@aAa _ _ _ _ _ (pv 2) (@aAa _ _ _ _ _ (@aAi _ _ _ _ _ _ _ _ _ _ o_added hr rfl (@aAa _ _ _ _ _ (pv 0) (@aAa _ _ _ _ _ (pv 1) (@aAd _) (by rfl)) (by rfl)) (by decide) (by rfl) (by rfl)) (@aAd _) (by rfl)) (by rfl)) (by decide) (by rfl) (by rfl))))))))),?_⟩
  cases o with
  | none =>
   cases (show vf=.non from of)
   walk_at "go"
   exact q _ (aAo.refl _)
  | some f =>
   obtain ⟨pf,rfl,hf⟩:=id (show FrQ H vf f from of)
   cases p with
   | none =>
    cases (show vb=.non from ob)
    walk_at "go"
    exact q _ (aAo.refl _)
   | some g =>
    obtain ⟨pg,rfl,hg⟩:=id (show FrQ H vb g from ob)
    walk_at "go"
    refine ⟨.ref pf,vT,f,T,rfl,of,fT,(zo f rfl).mono (by decide),zT.mono (by decide),fun v H1 fv s1=>?_⟩
    walk_at "go"
    refine ⟨.ref pg,v,g,f+T,rfl,(show FrQ H (.ref pg) g from ob).tk s1.tk,fv,(zp g rfl).mono (by decide),(Sz.add (zo f rfl) zT).mono (by decide),?_⟩
    walk_at "go"
    exact q _ s1
set_option maxHeartbeats 0 in
theorem aFe (T:Bl mg) (d:Df K mg "ending_by_falls" aCg ["run","moments"]  ) (o_lessened:Okf P w K mg base k "lessened" ["one","other"] aUg) (o_divided:Okf P w K mg base k "divided" ["one","other"] aUi) (o_added:Okf P w K mg base k "added" ["one","other"] aJu) (o_timed:Okf P w K mg base k "timed" ["one","other"] aUf) (o_is_swept:Okf P w K mg base k "is_swept" ["fell","time","beyond"] aYp):Okf P w K mg base (k+1) "ending_by_falls" ["run","moments"] aYs:=by
 refine Okf.of d aBq (fun vs H Q E h=>?_) (fun f cdv A outer s H vs Q E hr h=>?_)
 ·obtain ⟨pr,dd,a,b,u,T,kd,oa,ob,va,vb,rfl,_⟩:=h
  rfl
 ·obtain ⟨pr,dd,a,b,u,T,kd,oa,ob,va,vb,rfl,hpr,fT,hd,ea,qa,eb,qb,hT,zT,za,zb,q⟩:=h
  refine ⟨_,(@aAc _ _ _ _ _ (@aAk _ _ (i:=2) _ _ _ _ aBq.nd rfl (by first | exact Or.inl rfl | exact Or.inr rfl) (@aAp _ _ _ _ _ _ hr.u1 (pv 1) (@aAz _ _ _ _ _ _ _ aA0 (pv 0) (@aAf _ _ _ _) (fun _ _=>rfl)) (fun _ _=>rfl)) (by rfl) (by first | exact .inl rfl | exact .inr rfl | assumption)) (@aAc _ _ _ _ _ (@aAk _ _ (i:=3) _ _ _ _ aBq.nd rfl (by first | exact Or.inl rfl | exact Or.inr rfl) (@aAp _ _ _ _ _ _ hr.u1 (pv 1) (@aAz _ _ _ _ _ _ _ aA0 (pv 0) (@aAf _ _ _ _) (fun _ _=>rfl)) (fun _ _=>rfl)) (by rfl) (by first | exact .inl rfl | exact .inr rfl | assumption)) (@aAc _ _ _ _ _ (@aB3 _ _ _ _ _ _ _ _ (@PW.pt _ _ _ (@aGy _ _ _ _ _ _ _ (@aA2 _ _ _ _ _ _ _ _ aD2 (pv 2) (@aCc _ _ _) (aA4 _)) (@aEx _ _ _ _ (@aA2 _ _ _ _ _ _ _ _ aD2 (pv 3) (@aCc _ _ _) (aA4 _))))) (@aAh _ _ _ (@aAw _ _ _ _ (@aBa _ _ _ _ _ (@aAa _ _ _ _ _ (@aAt _ _ _ _) (@aAd _) (by rfl))))) (@aA5 _)) (@aAc _ _ _ _ _ (@aB3 _ _ _ _ _ _ _ _ (@aC4 _ _ _ (@aAi _ _ _ _ _ _ _ _ _ _ o_is_swept hr rfl (@aAa _ _ _ _ _ (pv 2) (@aAa _ _ _ _ _ (@aAz _ _ _ _ _ _ _ aA0 (pv 0) (@aAf _ _ _ _) (fun _ _=>rfl)) (@aAa _ _ _ _ _ (pv 3) (@aAd _) (by rfl)) (by rfl)) (by rfl)) (by decide) (by rfl) (by rfl)) (by intro _; rfl)) (@aAh _ _ _ (@aAw _ _ _ _ (@aBa _ _ _ _ _ (@aAa _ _ _ _ _ (@aAt _ _ _ _) (@aAa _ _ _ _ _ (@aAz _ _ _ _ _ _ _ aA0 (pv 0) (@aAf _ _ _ _) (fun _ _=>rfl)) (@aAa _ _ _ _ _ (@aAi _ _ _ _ _ _ _ _ _ _ o_added hr rfl (@aAa _ _ _ _ _ (pv 2) (@aAa _ _ _ _ _ (@aAz _ _ _ _ _ _ _ aA0 (pv 0) (@aAf _ _ _ _) (fun _ _=>rfl)) (@aAd _) (by rfl)) (by rfl)) (by decide) (by rfl) (by rfl)) (@aAd _) (by rfl)) (by rfl)) (by rfl))))) (@aA5 _)) (@aAc _ _ _ _ _ (@aB3 _ _ _ _ _ _ _ _ (@aC4 _ _ _ (@aAi _ _ _ _ _ _ _ _ _ _ o_is_swept hr rfl (@aAa _ _ _ _ _ (pv 3) (@aAa _ _ _ _ _ (@aAz _ _ _ _ _ _ _ aA0 (pv 0) (@aAf _ _ _ _) (fun _ _=>rfl)) (@aAa _ _ _ _ _ (pv 2) (@aAd _) (by rfl)) (by rfl)) (by rfl)) (by decide) (by rfl) (by rfl)) (by intro _; rfl)) (@aAh _ _ _ (@aAw _ _ _ _ (@aBa _ _ _ _ _ (@aAa _ _ _ _ _ (@aAt _ _ _ _) (@aAa _ _ _ _ _ (@aAz _ _ _ _ _ _ _ aA0 (pv 0) (@aAf _ _ _ _) (fun _ _=>rfl)) (@aAa _ _ _ _ _ (@aAi _ _ _ _ _ _ _ _ _ _ o_added hr rfl (@aAa _ _ _ _ _ (pv 3) (@aAa _ _ _ _ _ (@aAz _ _ _ _ _ _ _ aA0 (pv 0) (@aAf _ _ _ _) (fun _ _=>rfl)) (@aAd _) (by rfl)) (by rfl)) (by decide) (by rfl) (by rfl)) (@aAd _) (by rfl)) (by rfl)) (by rfl))))) (@aA5 _)) (@aAc _ _ _ _ _ (@aAk _ _ (i:=4) _ _ _ _ aBq.nd rfl (by first | exact Or.inl rfl | exact Or.inr rfl) (@aAi _ _ _ _ _ _ _ _ _ _ o_timed hr rfl (@aAa _ _ _ _ _ (@aAi _ _ _ _ _ _ _ _ _ _ o_added hr rfl (@aAa _ _ _ _ _ (@aAi _ _ _ _ _ _ _ _ _ _ o_added hr rfl (@aAa _ _ _ _ _ (pv 2) (@aAa _ _ _ _ _ (pv 3) (@aAd _) (by rfl)) (by rfl)) (by decide) (by rfl) (by rfl)) (@aAa _ _ _ _ _ (@aAz _ _ _ _ _ _ _ aA0 (pv 0) (@aAf _ _ _ _) (fun _ _=>rfl)) (@aAd _) (by rfl)) (by rfl)) (by decide) (by rfl) (by rfl)) (@aAa _ _ _ _ _ (@aBa _ _ _ _ _ (@aAa _ _ _ _ _ (@aAf _ _ _ _) (@aAa _ _ _ _ _ (@aAf _ _ _ _) (@aAd _) (by rfl)) (by rfl))) (@aAd _) (by rfl)) (by rfl)) (by decide) (by rfl) (by rfl)) (by rfl) (by first | exact .inl rfl | exact .inr rfl | assumption)) (@aAh _ _ _ (@aAw _ _ _ _ (@aBa _ _ _ _ _ (@aAa _ _ _ _ _ (@aAt _ _ _ _) (@aAa _ _ _ _ _ (pv 4) (@aAa _ _ _ _ _ (@aAi _ _ _ _ _ _ _ _ _ _ o_divided hr rfl (@aAa _ _ _ _ _ (@aAi _ _ _ _ _ _ _ _ _ _ o_lessened hr rfl (@aAa _ _ _ _ _ (pv 4) (@aAa _ _ _ _ _ (pv 2) (@aAd _) (by rfl)) (by rfl)) (by decide) (by rfl) (by rfl)) (@aAa _ _ _ _ _ (@aAz _ _ _ _ _ _ _ aA0 (pv 0) (@aAf _ _ _ _) (fun _ _=>rfl)) (@aAd _) (by rfl)) (by rfl)) (by decide) (by rfl) (by rfl)) (@aAd _) (by rfl)) (by rfl)) (by rfl))))))))))),?_⟩
  have hT0:T≠0:=Rat.ne_of_gt hT
  refine aNz ?_
  walk_at "gos"
  refine aCa (.inl hd) ea ?_
  walk_at "gos"
  refine r_nx ?_
  refine aNz ?_
  walk_at "gos"
  refine aCa (.inl hd) eb ?_
  walk_at "gos"
  refine r_nx ?_
  refine aNz ?_
  refine aZ2 (fun σ G=>σ=[some (.ref pr),some (.ref dd),some va,some vb,none]/\G=H/\¬ (oa=none/\ob=none)) ?_ ?_
  ·rintro σ G ⟨rfl,rfl,hc⟩
   unfold aHn at q
   rw [if_neg hc] at q
   walk_at "go"
   refine ⟨va,u,vb,oa,T,ob,rfl,qa,fT,qb,zT,za,zb,fun H1 s1=>?_⟩
   have hpr1:=s1 _ _ hpr
   by_cases c1:swp oa T ob=true
   ·rw [if_pos c1] at q
    obtain ⟨f,rfl⟩:∃ f,oa=some f:=by
     cases oa with
     | none=>cases c1
     | some f=>exact ⟨f,rfl⟩
    obtain ⟨pf,rfl,hf⟩:=id (show FrQ H1 va f from qa.tk s1.tk)
    rw [c1]
    walk_at "go"
    refine ⟨.ref pf,u,f,T,rfl,qa.tk s1.tk,fT.tk s1.tk,(za f rfl).mono (by decide),zT.mono (by decide),fun v H2 fv s2=>?_⟩
    walk_at "go"
    refine aAv fun p3 hp3=>?_
    walk_at "go"
    exact q _ _ ⟨p3,v,rfl,aAb,fv.tk (TK.new hp3)⟩ ((s1.trans s2).trans (aAo.new hp3))
   ·rw [if_neg c1] at q
    rw [Bool.not_eq_true] at c1
    rw [c1]
    walk_at "go"
    refine ⟨vb,u,va,ob,T,oa,rfl,qb.tk s1.tk,fT.tk s1.tk,qa.tk s1.tk,zT,zb,za,fun H2 s2=>?_⟩
    replace s2:=s1.trans s2
    have hpr2:=s2 _ _ hpr
    by_cases c2:swp ob T oa=true
    ·rw [if_pos c2] at q
     obtain ⟨g,rfl⟩:∃ f,ob=some f:=by
      cases ob with
      | none=>cases c2
      | some f=>exact ⟨f,rfl⟩
     obtain ⟨pg,rfl,hg⟩:=id (show FrQ H2 vb g from qb.tk s2.tk)
     rw [c2]
     walk_at "go"
     refine ⟨.ref pg,u,g,T,rfl,qb.tk s2.tk,fT.tk s2.tk,(zb g rfl).mono (by decide),zT.mono (by decide),fun v H3 fv s3=>?_⟩
     walk_at "go"
     refine aAv fun p3 hp3=>?_
     walk_at "go"
     exact q _ _ ⟨p3,v,rfl,aAb,fv.tk (TK.new hp3)⟩ ((s2.trans s3).trans (aAo.new hp3))
    ·rw [if_neg c2] at q
     rw [Bool.not_eq_true] at c2
     obtain ⟨f,g,rfl,rfl⟩:∃ f g,oa=some f/\ob=some g:=by
      cases oa with
      | none =>
       cases ob with
       | none=>exact absurd ⟨rfl,rfl⟩ hc
       | some g=>cases c2
      | some f =>
       cases ob with
       | none=>cases c1
       | some g=>exact ⟨f,g,rfl,rfl⟩
     have zf:=za f rfl
     have zg:=zb g rfl
     obtain ⟨pf,rfl,hf⟩:=id (show FrQ H2 va f from qa.tk s2.tk)
     obtain ⟨pg,rfl,hg⟩:=id (show FrQ H2 vb g from qb.tk s2.tk)
     have ff:FrQ H2 (.ref pf) f:=⟨pf,rfl,hf⟩
     have fg:FrQ H2 (.ref pg) g:=⟨pg,rfl,hg⟩
     rw [c2]
     walk_at "go"
     refine ⟨.ref pf,.ref pg,f,g,rfl,ff,fg,zf.mono (by decide),zg.mono (by decide),fun v H3 fv s3=>?_⟩
     have z1:=Sz.add zf zg
     have hpr3:=s3 _ _ hpr2
     walk_at "go"
     refine ⟨v,u,f+g,T,rfl,fv,(fT.tk s2.tk).tk s3.tk,z1.mono (by decide),zT.mono (by decide),fun v4 H4 f4 s4=>?_⟩
     have z2:=Sz.add z1 zT
     walk_at "go"
     refine aAv fun p5 hp5=>?_
     have s5:=aAo.new (o:=.tup [.int 1,.int 2]) hp5
     have f5:FrQ (L2.upd H4 p5 (.tup [.int 1,.int 2])) (.ref p5) (1 / 2):=⟨p5,rfl,by rw [show ((1 / 2:Rat)).num=1 by decide +kernel,show ((1 / 2:Rat)).den=2 by decide +kernel]; exact aAb⟩
     have f4':=f4.tk s5.tk
     generalize L2.upd H4 p5 (.tup [.int 1,.int 2])=H5 at s5 f5 f4' ⊢
     have zh:Sz 10 (1 / 2:Rat):=⟨by decide +kernel,by decide +kernel⟩
     walk_at "go"
     refine ⟨v4,.ref p5,_,_,rfl,f4',f5,z2.mono (by decide),zh.mono (by decide),fun v6 H6 f6 s6=>?_⟩
     have z6:=Sz.mul z2 zh
     have s36:=(s3.trans (s4.trans s5)).trans s6
     have hpr6:=s36 _ _ hpr2
     walk_at "go"
     refine ⟨v6,.ref pf,_,f,rfl,f6,ff.tk s36.tk,z6.mono (by decide),zf.mono (by decide),fun v7 H7 f7 s7=>?_⟩
     have hpr7:=s7 _ _ hpr6
     have z7:=Sz.sub z6 zf
     walk_at "go"
     refine ⟨v7,u,_,T,rfl,f7,((fT.tk s2.tk).tk s36.tk).tk s7.tk,z7.mono (by decide),zT.mono (by decide),hT0,fun v8 H8 f8 s8=>?_⟩
     walk_at "go"
     refine aAv fun p9 hp9=>?_
     walk_at "go"
     have t9:=TK.new (o:=.tup [.str "met",v6,v8]) hp9
     exact q _ _ ⟨p9,v6,v8,rfl,aAb,((f6.tk s7.tk).tk s8.tk).tk t9,f8.tk t9⟩ (((s2.trans s36).trans (s7.trans s8)).trans (aAo.new hp9))
  ·intro NX hNX
   cases oa with
   | none =>
    cases (show va=.non from qa)
    cases ob with
    | none =>
     cases (show vb=.non from qb)
     walk_at "go"
     refine aAv fun p3 hp3=>?_
     walk_at "go"
     exact q _ _ ⟨p3,rfl,aAb⟩ (aAo.new hp3)
    | some g =>
     obtain ⟨pg,rfl,hg⟩:=id (show FrQ H vb g from qb)
     walk_at "go"
     exact hNX _ _ ⟨rfl,rfl,fun z=>nomatch z.2⟩
   | some f =>
    obtain ⟨pf,rfl,hf⟩:=id (show FrQ H va f from qa)
    walk_at "go"
    exact hNX _ _ ⟨rfl,rfl,fun z=>nomatch z.1⟩
theorem aJ8 (T:Bl mg) (d:Df K mg "moment_of" aEu ["ending"]  ):Okf P w K mg base (k+1) "moment_of" ["ending"] aYr:=by
 refine Okf.of d aJ1 (fun vs H Q E h=>?_) (fun f cdv A outer s H vs Q E hr h=>?_)
 ·obtain ⟨v,e,rfl,_⟩:=h
  rfl
 ·obtain ⟨v,e,rfl,ev,q⟩:=h
  refine ⟨_,(@aAc _ _ _ _ _ (@aB3 _ _ _ _ _ _ _ _ (@aA2 _ _ _ _ _ _ _ _ (aD3 hr.units) (@aAz _ _ _ _ _ _ _ aA0 (pv 0) (@aAf _ _ _ _) (fun _ _=>rfl)) (@aAt _ _ _ _) (aA4 _)) (@aAh _ _ _ (@aAw _ _ _ _ (@aCc _ _ _))) (@aA5 _)) (@aAh _ _ _ (@aAw _ _ _ _ (@aM6 _ _ _ _ _ _ _ _ (@aA2 _ _ _ _ _ _ _ _ (aD3 hr.units) (@aAz _ _ _ _ _ _ _ aA0 (pv 0) (@aAf _ _ _ _) (fun _ _=>rfl)) (@aAt _ _ _ _) (aA4 _)) (@aAz _ _ _ _ _ _ _ aA0 (pv 0) (@aAf _ _ _ _) (fun _ _=>rfl)) (@aAz _ _ _ _ _ _ _ aA0 (pv 0) (@aAf _ _ _ _) (fun _ _=>rfl)))))),?_⟩
  cases e with
  | stands =>
   obtain ⟨p,rfl,hp⟩:=ev
   walk_at "go"
   refine aUt (beq_self_eq_true _) ?_
   walk_at "go"
   exact q _ rfl
  | swept s t =>
   obtain ⟨p,u,rfl,hp,fu⟩:=ev
   walk_at "go"
   refine aXb (by decide +kernel) ?_
   walk_at "go"
   refine aUt (beq_self_eq_true _) ?_
   walk_at "go"
   exact q _ fu
  | met t s =>
   obtain ⟨p,u,w,rfl,hp,fu,fw⟩:=ev
   walk_at "go"
   refine aXb (by decide +kernel) ?_
   walk_at "go"
   refine aXb (by decide +kernel) ?_
   walk_at "go"
   exact q _ fu
  | taken t =>
   obtain ⟨p,u,rfl,hp,fu⟩:=ev
   walk_at "go"
   refine aXb (by decide +kernel) ?_
   walk_at "go"
   refine aXb (by decide +kernel) ?_
   walk_at "go"
   exact q _ fu
set_option maxHeartbeats 0 in
theorem aKa (T:Bl mg) (d:Df K mg "ending_by" aEv ["run","moments","taken"]  ) (o_is_less:Okf P w K mg base k "is_less" ["one","other"] aEs) (o_moment_of:Okf P w K mg base k "moment_of" ["ending"] aYr) (o_ending_by_falls:Okf P w K mg base k "ending_by_falls" ["run","moments"] aYs):Okf P w K mg base (k+1) "ending_by" ["run","moments","taken"] aUh:=by
 refine Okf.of d aDw (fun vs H Q E h=>?_) (fun f cdv A outer s H vs Q E hr h=>?_)
 ·obtain ⟨pr,dd,vt,a,b,u,T,kd,oa,ob,tk,va,vb,rfl,_⟩:=h
  rfl
 ·obtain ⟨pr,dd,vt,a,b,u,T,kd,oa,ob,tk,va,vb,rfl,hpr,fT,hd,ea,qa,eb,qb,ot,hT,zT,za,zb,zt,q⟩:=h
  refine ⟨_,(@aAc _ _ _ _ _ (@aAk _ _ (i:=3) _ _ _ _ aDw.nd rfl (by first | exact Or.inl rfl | exact Or.inr rfl) (@aAi _ _ _ _ _ _ _ _ _ _ o_ending_by_falls hr rfl (@aAa _ _ _ _ _ (pv 0) (@aAa _ _ _ _ _ (pv 1) (@aAd _) (by rfl)) (by rfl)) (by decide) (by rfl) (by rfl)) (by rfl) (by first | exact .inl rfl | exact .inr rfl | assumption)) (@aAc _ _ _ _ _ (@aAk _ _ (i:=4) _ _ _ _ aDw.nd rfl (by first | exact Or.inl rfl | exact Or.inr rfl) (@aAi _ _ _ _ _ _ _ _ _ _ o_moment_of hr rfl (@aAa _ _ _ _ _ (pv 3) (@aAd _) (by rfl)) (by decide) (by rfl) (by rfl)) (by rfl) (by first | exact .inl rfl | exact .inr rfl | assumption)) (@aAc _ _ _ _ _ (@aB3 _ _ _ _ _ _ _ _ (@PW.pt _ _ _ (@aGy _ _ _ _ _ _ _ (@aA2 _ _ _ _ _ _ _ _ aIt (pv 2) (@aCc _ _ _) (aA4 _)) (@aEx _ _ _ _ (@PW.pt _ _ _ (@aGx _ _ _ _ _ _ _ (@aA2 _ _ _ _ _ _ _ _ aD2 (pv 4) (@aCc _ _ _) (aA4 _)) (@aD0 _ _ _ _ (@aC4 _ _ _ (@aAi _ _ _ _ _ _ _ _ _ _ o_is_less hr rfl (@aAa _ _ _ _ _ (pv 2) (@aAa _ _ _ _ _ (pv 4) (@aAd _) (by rfl)) (by rfl)) (by decide) (by rfl) (by rfl)) (by intro _; rfl)))))))) (@aAh _ _ _ (@aAw _ _ _ _ (@aBa _ _ _ _ _ (@aAa _ _ _ _ _ (@aAt _ _ _ _) (@aAa _ _ _ _ _ (pv 2) (@aAd _) (by rfl)) (by rfl))))) (@aA5 _)) (@aAh _ _ _ (@aAw _ _ _ _ (pv 3)))))),?_⟩
  have ze:=bBw (a:=a) (b:=b) zT za zb
  walk_at "go"
  refine ⟨pr,dd,a,b,u,T,kd,oa,ob,va,vb,rfl,hpr,fT,hd,ea,qa,eb,qb,hT,zT,za,zb,fun ve H1 qe s1=>?_⟩
  generalize aHn a b oa ob T=e at ze qe q
  walk_at "go"
  refine ⟨ve,e,rfl,qe,fun vm om=>?_⟩
  walk_at "go"
  cases tk with
  | none =>
   cases (show vt=.non from ot)
   walk_at "go"
   exact q _ _ qe s1
  | some w =>
   have ot1:=ot.tk s1.tk
   obtain ⟨pw,rfl,hw⟩:=id (show FrQ H1 vt w from ot1)
   cases ee:aOc e with
   | none =>
    rw [ee] at om
    cases (show vm=.non from om)
    walk_at "go"
    refine aAv fun p3 hp3=>?_
    walk_at "go"
    refine q _ _ ?_ (s1.trans (aAo.new hp3))
    show aEb _ _ (if aDk w (aOc e)=true then _ else _)
    rw [ee,show aDk w none=true from rfl,if_pos rfl]
    exact ⟨p3,_,rfl,aAb,(show FrQ H1 (.ref pw) w from ot1).tk (TK.new hp3)⟩
   | some t =>
    rw [ee] at om
    obtain ⟨pm,rfl,hm⟩:=id (show FrQ H1 vm t from om)
    walk_at "go"
    refine ⟨.ref pw,.ref pm,w,t,rfl,ot1,om,(zt w rfl).mono (by decide),(ze t ee).mono (by decide),?_⟩
    walk_at "go"
    replace q:∀ v H',aEb H' v (if aDk w (aOc e)=true then .taken w else e)->aAo H H'->Q v H':=q
    rw [ee] at q
    refine i_d (fun c=>?_) (fun c=>?_)
    ·walk_at "go"
     refine aAv fun p3 hp3=>?_
     walk_at "go"
     refine q _ _ ?_ (s1.trans (aAo.new hp3))
     rw [show aDk w (some t)=true from decide_eq_true c,if_pos rfl]
     exact ⟨p3,_,rfl,aAb,(show FrQ H1 (.ref pw) w from ot1).tk (TK.new hp3)⟩
    ·walk_at "go"
     refine q _ _ ?_ s1
     rw [show aDk w (some t)=false from decide_eq_false c,if_neg Bool.false_ne_true]
     exact qe
set_option maxHeartbeats 0 in
theorem aJ9 (T:Bl mg) (d:DfK K mg "ending_of" aCf ["net","pushes","number","takings"] [.non] 3 ["takings"]) (o_least_moments:Okf P w K mg base k "least_moments" ["deeds"] aVg) (o_ending_by:Okf P w K mg base k "ending_by" ["run","moments","taken"] aUh) (o_fall_moments:aHp P w K mg base k "fall_moments" ["net","pushes","takings"] [.non] (spFm w)):aOk P w K mg base (k+1) "ending_of" ["net","pushes","number","takings"] [.non] 3 ["takings"] (aO9 w):=by
 refine aOk.of d aF6 (fun vs H Q E h=>?_) (fun f cdv A outer s H vs Q E hr h=>?_)
 ·obtain ⟨l,n,lp,ps,vt,ts,DD,MM,U,kk,r,rfl,_⟩:=h
  rfl
 ·obtain ⟨l,n,lp,ps,vt,ts,DD,MM,U,kk,r,rfl,hnet,hps,hts,hR,hU,hUn,hnk,zB,zT,q⟩:=h
  refine ⟨_,(@aAc _ _ _ _ _ (@aAk _ _ (i:=4) _ _ _ _ aF6.nd rfl (by first | exact Or.inl rfl | exact Or.inr rfl) (@aAi _ _ _ _ _ _ _ _ _ _ o_fall_moments.f hr rfl (@aAa _ _ _ _ _ (pv 0) (@aAa _ _ _ _ _ (pv 1) (@aAa _ _ _ _ _ (pv 3) (@aAd _) (by rfl)) (by rfl)) (by rfl)) (by decide) (by rfl) (by rfl)) (by rfl) (by first | exact .inl rfl | exact .inr rfl | assumption)) (@aAh _ _ _ (@aAw _ _ _ _ (@aAi _ _ _ _ _ _ _ _ _ _ o_ending_by hr rfl (@aAa _ _ _ _ _ (@aAz _ _ _ _ _ _ _ aA0 (pv 0) (pv 2) (fun _ _=>rfl)) (@aAa _ _ _ _ _ (pv 4) (@aAa _ _ _ _ _ (@aS4 _ _ _ _ _ _ _ hr.u1 (@aAi _ _ _ _ _ _ _ _ _ _ o_least_moments hr rfl (@aAa _ _ _ _ _ (@aUq _ _ _ _ _ _ _ (pv 3) (@aFb _ _ _ _ _ (@aB8 _ _ _ _ (@aAd _)))) (@aAd _) (by rfl)) (by decide) (by rfl) (by rfl)) (pv 2) ⟨rfl,rfl,rfl,rfl⟩) (@aAd _) (by rfl)) (by rfl)) (by rfl)) (by decide) (by rfl) (by rfl))))),?_⟩
  obtain ⟨vn,hvn,pvn⟩:=id hnet.lq
  have hkr:(kn n)[kk]?=some (Sum.inr r.1,Sum.inr r.2.1,r.2.2):=by
   unfold kn
   rw [List.getElem?_map,hnk]
   rfl
  have hrm:=List.mem_of_getElem? hnk
  obtain ⟨vr,hvr,pr,u,rfl,hpr,ft⟩:=aM7 pvn hkr
  have bT:=hnet.bd _ (List.mem_map.mpr ⟨r,hrm,rfl⟩)
  have pT:(0:Rat) < r.2.2:=hnet.pos _ (List.mem_map.mpr ⟨r,hrm,rfl⟩)
  have h1n:r.1∈names n:=List.mem_append_left _ (List.mem_map.mpr ⟨r,hrm,rfl⟩)
  have h2n:r.2.1∈names n:=List.mem_append_right _ (List.mem_map.mpr ⟨r,hrm,rfl⟩)
  walk_at "go"
  refine ⟨l,n,lp,ps,vt,ts,DD,MM,U,rfl,hnet,hps,hts,hR,hU,hUn,fun d H1 F ys _ s1 dq fo bF nd mem=>?_⟩
  obtain ⟨kd,hkd,qd⟩:=dq
  have zF:∀ p f,aCh F p=some f->Sz 400 f:=fun p f e=>by
   unfold aCh at e
   rw [Option.map_eq_some_iff] at e
   obtain ⟨x,e1,rfl⟩:=e
   exact zB _ (bF _ (aBm e1))
  have get:∀ y∈names n,∃ v,aBu kd (Sum.inr y)=some v/\aK0 H1 v (aCh F (Sum.inr y)):=fun y hy=>by
   have e0:aBf (ys.map fun y=>((Sum.inr y:Key),aCh F (Sum.inr y))) (Sum.inr y)=some (aCh F (Sum.inr y)):=aBz (by
    rw [List.map_map]
    exact List.pairwise_map.mpr (nd.imp fun h e=>h (Sum.inr.inj e))) (List.mem_map.mpr ⟨y,(mem y).mpr hy,rfl⟩)
   rcases qd.val (k:=Sum.inr y) with ⟨_,e2⟩ | ⟨v1,r1,e1,e2,f1⟩
   ·rw [e0] at e2
    cases e2
   ·rw [e0] at e2
    cases e2
    exact ⟨v1,e1,f1⟩
  obtain ⟨va,ea,qa⟩:=get r.1 h1n
  obtain ⟨vb,eb,qb⟩:=get r.2.1 h2n
  walk_at "go"
  refine aDx (s1 _ _ hvn) (aF4 hvr) ?_
  walk_at "go"
  refine aY9 (hts.sm s1) fun lt H2 s2 lq2=>?_
  walk_at "go"
  refine ⟨lt,ts,rfl,lq2,Nat.le_trans hts.len (by decide),hts.sz,fun dT H3 _ s3 tq=>?_⟩
  obtain ⟨kt,hkt,qt⟩:=tq
  refine ⟨dT,rfl,.inl ⟨kt,.inl hkt⟩,?_⟩
  walk_at "go"
  refine ⟨aBu kt (Sum.inl (kk:Int)),.inl ⟨kt,Sum.inl (kk:Int),.inl hkt,rfl,rfl⟩,?_⟩
  have ot:aK0 H3 ((aBu kt (Sum.inl (kk:Int))).getD .non) (aC8 ts kk):=by
   unfold aC8
   rcases qt.val (k:=Sum.inl (kk:Int)) with ⟨e1,e2⟩ | ⟨v1,r1,e1,e2,f1⟩
   ·rw [e1,e2]
    rfl
   ·rw [e1,e2]
    exact f1
  have zt:∀ f,aC8 ts kk=some f->Sz 400 f:=fun f e=>zT _ (aG6 (aBm e))
  generalize (aBu kt (Sum.inl (kk:Int))).getD .non=vk at ot ⊢
  have s23:=s2.trans s3
  have s13:=s1.trans s23
  walk_at "go"
  refine ⟨pr,d,vk,r.1,r.2.1,u,r.2.2,kd,_,_,_,va,vb,rfl,s13 _ _ hpr,ft.tk s13.tk,s23 _ _ hkd,ea,qa.tk s23.tk,eb,qb.tk s23.tk,ot,pT,zB _ (bT.mono (by omega)),zF _,zF _,zt,fun v H4 lv s4=>?_⟩
  walk_at "go"
  exact q v H4 F (s13.trans s4) fo zF lv
theorem aN6 (T:Bl mg) (d:Df K mg "_law_cell_at" aGu ["_law_script","_law_k"]  ):Okf P w K mg base (k+1) "_law_cell_at" ["_law_script","_law_k"] (aUj K):=by
 refine Okf.of d aNx (fun vs H Q E h=>?_) (fun f cdv A outer s H vs Q E hr h=>?_)
 ·obtain ⟨a,ns,k',rfl,_⟩:=h
  rfl
 ·obtain ⟨a,ns,k',rfl,hS,h0,q⟩:=h
  refine ⟨_,(@aAc _ _ _ _ _ (@aB3 _ _ _ _ _ _ _ _ (@aA2 _ _ _ _ _ _ _ _ aL0 (pv 1) (@aAs _ _ _ _ _ _ _ _ _ aGe rfl T.z_len aDm (@aAa _ _ _ _ _ (pv 0) (@aAd _) (by rfl)) (by decide) (by decide) (by rfl) (by rfl)) (aA4 _)) (@aAh _ _ _ (@aAw _ _ _ _ (@aAz _ _ _ _ _ _ _ aA0 (pv 0) (pv 1) (fun _ _=>rfl)))) (@aA5 _)) (@aAh _ _ _ (@aAw _ _ _ _ (@aAf _ _ _ _)))),?_⟩
  walk_at "go"
  refine aPm hS ?_
  walk_at "go"
  refine i_d (fun c=>?_) (fun c=>?_)
  ·rw [List.length_map] at c
   obtain ⟨z,_,hz⟩:=pick (ns:=ns) h0 c
   walk_at "go"
   refine r_ixs hS hz ?_
   walk_at "go"
   exact q z
  ·walk_at "go"
   exact q 0
set_option maxHeartbeats 0 in
theorem aTd (T:Bl mg) (d:Df K mg "_law_mixed" aLn ["_law_cell","_law_k"]  ):Okf P w K mg base (k+1) "_law_mixed" ["_law_cell","_law_k"] aJt:=by
 refine Okf.of d aIl (fun vs H Q E h=>?_) (fun f cdv A outer s H vs Q E hr h=>?_)
 ·obtain ⟨c,k',rfl,_⟩:=h
  rfl
 ·obtain ⟨c,k',rfl,h0,h1,q⟩:=h
  refine ⟨_,(@aAc _ _ _ _ _ (@aAk _ _ (i:=2) _ _ _ _ aIl.nd rfl (by first | exact Or.inl rfl | exact Or.inr rfl) (@aAj _ _ _ _ _ _ _ _ aBe (@aAj _ _ _ _ _ _ _ _ aA7 (@aAj _ _ _ _ _ _ _ _ aAy (@aAj _ _ _ _ _ _ _ _ aAy (@aAj _ _ _ _ _ _ _ _ aAy (@aAj _ _ _ _ _ _ _ _ aBe (pv 0) (@aAf _ _ _ _)) (@aAj _ _ _ _ _ _ _ _ aA7 (@aAj _ _ _ _ _ _ _ _ aA7 (@aAf _ _ _ _) (pv 1)) (pv 1))) (pv 1)) (@aAf _ _ _ _)) (@aAf _ _ _ _)) (@aAf _ _ _ _)) (by rfl) (by first | exact .inl rfl | exact .inr rfl | assumption)) (@aAc _ _ _ _ _ (@aAk _ _ (i:=2) _ _ _ _ aIl.nd rfl (by first | exact Or.inl rfl | exact Or.inr rfl) (@aAj _ _ _ _ _ _ _ _ aBe (@aAj _ _ _ _ _ _ _ _ aAy (@aAj _ _ _ _ _ _ _ _ aA7 (pv 2) (pv 2)) (@aAj _ _ _ _ _ _ _ _ aA7 (@aAf _ _ _ _) (pv 1))) (@aAf _ _ _ _)) (by rfl) (by first | exact .inl rfl | exact .inr rfl | assumption)) (@aAh _ _ _ (@aAw _ _ _ _ (@aAj _ _ _ _ _ _ _ _ aBe (@aAj _ _ _ _ _ _ _ _ aA7 (@aAj _ _ _ _ _ _ _ _ aA7 (pv 2) (pv 2)) (@aAf _ _ _ _)) (@aAj _ _ _ _ _ _ _ _ aAy (@aAj _ _ _ _ _ _ _ _ aH3 (@aAf _ _ _ _) (@aAf _ _ _ _)) (@aAf _ _ _ _))))))),?_⟩
  walk_at "go"
  generalize (c % 1000000007+7919 * k' * k'+k'+1) * 48271=z1
  have a0:=Int.emod_nonneg z1 (show (2147483629:Int)≠0 by decide)
  have a1:=Int.emod_lt_of_pos z1 (show (0:Int) < 2147483629 by decide)
  generalize z1 % 2147483629=z2 at *
  walk_at "go"
  generalize z2 * z2+69621 * k'=z3
  have b0:=Int.emod_nonneg z3 (show (2147483587:Int)≠0 by decide)
  have b1:=Int.emod_lt_of_pos z3 (show (0:Int) < 2147483587 by decide)
  generalize z3 % 2147483587=z4 at *
  walk_at "go"
  have hz:z4 * z4 < 2 ^ 64:=by
   have:=Int.mul_le_mul (show z4<=2147483587 by omega) (show z4<=2147483587 by omega) b0 (by decide)
   omega
  have hz0:0<=z4 * z4:=Int.mul_nonneg b0 b0
  generalize z4 * z4=z5 at *
  walk_at "go"
  refine aVt ?_
  walk_at "go"
  exact q _
set_option maxHeartbeats 0 in
theorem aQe (T:Bl mg) (d:Df K mg "_law_number" aIm ["_law_script","_law_k"]  ) (o_mixed:Okf P w K mg base k "_law_mixed" ["_law_cell","_law_k"] aJt) (o_cell_at:Okf P w K mg base k "_law_cell_at" ["_law_script","_law_k"] (aUj K)):Okf P w K mg base (k+1) "_law_number" ["_law_script","_law_k"] (aO5 K):=by
 refine Okf.of d aJ0 (fun vs H Q E h=>?_) (fun f cdv A outer s H vs Q E hr h=>?_)
 ·obtain ⟨a,ns,k',rfl,_⟩:=h
  rfl
 ·obtain ⟨a,ns,k',rfl,hS,h0,h1,q⟩:=h
  refine ⟨_,(@aAc _ _ _ _ _ (@aAk _ _ (i:=2) _ _ _ _ aJ0.nd rfl (by first | exact Or.inl rfl | exact Or.inr rfl) (@aAi _ _ _ _ _ _ _ _ _ _ o_cell_at hr rfl (@aAa _ _ _ _ _ (pv 0) (@aAa _ _ _ _ _ (pv 1) (@aAd _) (by rfl)) (by rfl)) (by decide) (by rfl) (by rfl)) (by rfl) (by first | exact .inl rfl | exact .inr rfl | assumption)) (@aAc _ _ _ _ _ (@aB3 _ _ _ _ _ _ _ _ (@PW.pt _ _ _ (@aGy _ _ _ _ _ _ _ (@aA2 _ _ _ _ _ _ _ _ (aD3 hr.units) (@aAj _ _ _ _ _ _ _ _ aBe (@aAi _ _ _ _ _ _ _ _ _ _ o_cell_at hr rfl (@aAa _ _ _ _ _ (pv 0) (@aAa _ _ _ _ _ (@aAf _ _ _ _) (@aAd _) (by rfl)) (by rfl)) (by decide) (by rfl) (by rfl)) (@aAf _ _ _ _)) (@aAf _ _ _ _) (aA4 _)) (@aEx _ _ _ _ (@aA2 _ _ _ _ _ _ _ _ aWq (@aAs _ _ _ _ _ _ _ _ _ aXr rfl T.z_abs aR3 (@aAa _ _ _ _ _ (pv 2) (@aAd _) (by rfl)) (by decide) (by decide) (by rfl) (by rfl)) (@aAj _ _ _ _ _ _ _ _ aH3 (@aAf _ _ _ _) (@aAf _ _ _ _)) (aA4 _))))) (@aAh _ _ _ (@aAw _ _ _ _ (pv 2))) (@aA5 _)) (@aAh _ _ _ (@aAw _ _ _ _ (@aAi _ _ _ _ _ _ _ _ _ _ o_mixed hr rfl (@aAa _ _ _ _ _ (pv 2) (@aAa _ _ _ _ _ (pv 1) (@aAd _) (by rfl)) (by rfl)) (by decide) (by rfl) (by rfl)))))),?_⟩
  walk_at "go"
  refine ⟨a,ns,k',rfl,hS,h0,fun r1=>?_⟩
  walk_at "go"
  refine ⟨a,ns,0,rfl,hS,Int.le_refl 0,fun r0=>?_⟩
  walk_at "go"
  refine i_d (fun c=>?_) (fun c=>?_)
  ·walk_at "go"
   refine i_d (fun c2=>?_) (fun c2=>?_)
   ·walk_at "go"
    exact q _
   ·walk_at "go"
    refine ⟨r1,k',rfl,h0,h1,fun r=>?_⟩
    walk_at "go"
    exact q _
  ·walk_at "go"
   refine ⟨r1,k',rfl,h0,h1,fun r=>?_⟩
   walk_at "go"
   exact q _
theorem bAx (T:Bl mg) (d:Df K mg "_law_low" aVn ["_law_top","_law_bottom"]  ):Okf P w K mg base (k+1) "_law_low" ["_law_top","_law_bottom"] aGh:=by
 refine Okf.of d aMx (fun vs H Q E h=>?_) (fun f cdv A outer s H vs Q E hr h=>?_)
 ·obtain ⟨t,b,rfl,_⟩:=h
  rfl
 ·obtain ⟨t,b,rfl,hb,hs1,hs2,q⟩:=h
  refine ⟨_,(@aAc _ _ _ _ _ (@aAk _ _ (i:=2) _ _ _ _ aMx.nd rfl (by first | exact Or.inl rfl | exact Or.inr rfl) (@aAs _ _ _ _ _ _ _ _ _ aXr rfl T.z_abs aR3 (@aAa _ _ _ _ _ (pv 0) (@aAd _) (by rfl)) (by decide) (by decide) (by rfl) (by rfl)) (by rfl) (by first | exact .inl rfl | exact .inr rfl | assumption)) (@aAc _ _ _ _ _ (@aAk _ _ (i:=3) _ _ _ _ aMx.nd rfl (by first | exact Or.inl rfl | exact Or.inr rfl) (pv 1) (by rfl) (by first | exact .inl rfl | exact .inr rfl | assumption)) (@aAc _ _ _ _ _ (@aGk _ _ _ _ _ _ PassesOwn.never (@aA2 _ _ _ _ _ _ _ _ op_gt (pv 3) (@aAf _ _ _ _) (aA4 _)) (@aAh _ _ _ (@bAj _ _ (i:=2) (j:=3) _ _ _ _ _ _ _ _ _ _ _ rfl aMx.nd rfl rfl (by decide) rfl rfl (@aAa _ _ _ _ _ (pv 3) (@aAa _ _ _ _ _ (@aAj _ _ _ _ _ _ _ _ aBe (pv 2) (pv 3)) (@aAd _) (by rfl)) (by rfl)) rfl (by rfl)))) (@aAh _ _ _ (@aAw _ _ _ _ (@aBa _ _ _ _ _ (@aAa _ _ _ _ _ (@aAj _ _ _ _ _ _ _ _ aAx (pv 0) (pv 2)) (@aAa _ _ _ _ _ (@aAj _ _ _ _ _ _ _ _ aAx (pv 1) (pv 2)) (@aAd _) (by rfl)) (by rfl)))))))),?_⟩
  walk_at "go"
  refine aIg (fun σ H'=>∃ one other:Int,σ=[some (.int t),some (.int b),some (.int one),some (.int other)]/\H'=H/\0<=one/\0<=other/\Int.gcd one other=Int.gcd t b)
   (fun σ _=>match σ with | [_,_,_,some (.int z)]=>z.toNat | _=>0) ⟨_,_,rfl,rfl,by split <;> omega,by omega,?_⟩ ?_ ?_
  ·have e:(if t < 0 then -t else t)=(t.natAbs:Int):=by split <;> omega
   rw [e]
   simp [Int.gcd]
  ·rintro σ H' ⟨one,other,rfl,rfl,h1,h2,hg⟩
   walk_at "go"
   refine i_d (fun c=>?_) (fun c=>?_)
   ·walk_at "go"
    refine ⟨⟨_,_,rfl,rfl,h2,Int.emod_nonneg _ (by omega),by rw [aTs c]; exact hg⟩,?_⟩
    have:=Int.emod_lt_of_pos one c
    show (one % other).toNat < other.toNat
    omega
   ·have e:other=0:=by omega
    subst e
    have hb0:b≠0:=by omega
    have e1:one=(Int.gcd t b:Int):=by rw [← hg,Int.gcd_zero_right]; omega
    have hgb:(Int.gcd t b:Int).natAbs<=b.natAbs:=by
     have:=Nat.le_of_dvd (by omega) (Int.gcd_dvd_natAbs_right t b)
     omega
    have es:(Int.gcd t b:Int)=sg t b:=by unfold sg; rw [if_neg (by omega)]
    subst e1
    walk_at "go"
    rw [es]
    have hc:∀ z,aHm z (sg t b):=fun _=>⟨aPd hb0,Sm.le (by rw [aGr]; omega) hs2⟩
    refine aDz (hc _) ?_
    walk_at "go"
    refine aDz (hc _) ?_
    walk_at "go"
    refine aAv fun p hp=>?_
    walk_at "go"
    exact q p hp
  ·intro σ H Q Q' hQ h
   obtain ⟨v,e1,i,j,e2,e3,b',e4,q'⟩:=h
   exact ⟨v,e1,i,j,e2,e3,b',e4,hQ _ _ q'⟩
set_option maxHeartbeats 0 in
theorem aTc (T:Bl mg) (d:Df K mg "_law_posts" aLm ["_law_number_here"]  ):Okf P w K mg base (k+1) "_law_posts" ["_law_number_here"] aJs:=by
 refine Okf.of d aBl (fun vs H Q E h=>?_) (fun f cdv A outer s H vs Q E hr h=>?_)
 ·obtain ⟨c,rfl,_⟩:=h
  rfl
 ·obtain ⟨c,rfl,q⟩:=h
  refine ⟨_,(@aAc _ _ _ _ _ (@aAk _ _ (i:=1) _ _ _ _ aBl.nd rfl (by first | exact Or.inl rfl | exact Or.inr rfl) (@aAt _ _ _ _) (by rfl) (by first | exact .inl rfl | exact .inr rfl | assumption)) (@aAc _ _ _ _ _ (@aAk _ _ (i:=2) _ _ _ _ aBl.nd rfl (by first | exact Or.inl rfl | exact Or.inr rfl) (@aAj _ _ _ _ _ _ _ _ aAy (@aAf _ _ _ _) (@aAj _ _ _ _ _ _ _ _ aBe (pv 0) (@aAf _ _ _ _))) (by rfl) (by first | exact .inl rfl | exact .inr rfl | assumption)) (@aAc _ _ _ _ _ (@aAk _ _ (i:=3) _ _ _ _ aBl.nd rfl (by first | exact Or.inl rfl | exact Or.inr rfl) (@aAj _ _ _ _ _ _ _ _ aBe (@aAj _ _ _ _ _ _ _ _ aAx (pv 0) (@aAf _ _ _ _)) (@aAf _ _ _ _)) (by rfl) (by first | exact .inl rfl | exact .inr rfl | assumption)) (@aAc _ _ _ _ _ (@aAk _ _ (i:=0) _ _ _ _ aBl.nd rfl (by first | exact Or.inl rfl | exact Or.inr rfl) (@aAj _ _ _ _ _ _ _ _ aAx (pv 0) (@aAf _ _ _ _)) (by rfl) (by first | exact .inl rfl | exact .inr rfl | assumption)) (@aAc _ _ _ _ _ (@aAk _ _ (i:=4) _ _ _ _ aBl.nd rfl (by first | exact Or.inl rfl | exact Or.inr rfl) (@aAt _ _ _ _) (by rfl) (by first | exact .inl rfl | exact .inr rfl | assumption)) (@aAc _ _ _ _ _ (@aCx _ _ _ _ _ _ _ _ PassesOwn.never rfl (@aG1 _ _ _ _ _ _ rfl T.z_range (@aAa _ _ _ _ _ (pv 3) (@aAd _) (by rfl)) (by rfl)) (@aAm _ _ (i:=5) _ aBl.nd rfl (by first | exact Or.inl rfl | exact Or.inr rfl) (by first | exact .inl rfl | exact .inr rfl | assumption)) (@aAc _ _ _ _ _ (@aAk _ _ (i:=4) _ _ _ _ aBl.nd rfl (by first | exact Or.inl rfl | exact Or.inr rfl) (@aAj _ _ _ _ _ _ _ _ aAy (pv 4) (@aAz _ _ _ _ _ _ _ aA0 (pv 1) (@aAj _ _ _ _ _ _ _ _ aBe (pv 0) (@aAf _ _ _ _)) (fun _ _=>rfl))) (by rfl) (by first | exact .inl rfl | exact .inr rfl | assumption)) (@aAh _ _ _ (@aAk _ _ (i:=0) _ _ _ _ aBl.nd rfl (by first | exact Or.inl rfl | exact Or.inr rfl) (@aAj _ _ _ _ _ _ _ _ aAx (pv 0) (@aAf _ _ _ _)) (by rfl) (by first | exact .inl rfl | exact .inr rfl | assumption)))) (by intro _; rfl)) (@aAc _ _ _ _ _ (@aAk _ _ (i:=6) _ _ _ _ aBl.nd rfl (by first | exact Or.inl rfl | exact Or.inr rfl) (@aAj _ _ _ _ _ _ _ _ aBe (pv 0) (@aAj _ _ _ _ _ _ _ _ aAy (pv 3) (@aAf _ _ _ _))) (by rfl) (by first | exact .inl rfl | exact .inr rfl | assumption)) (@aAc _ _ _ _ _ (@aAk _ _ (i:=0) _ _ _ _ aBl.nd rfl (by first | exact Or.inl rfl | exact Or.inr rfl) (@aAj _ _ _ _ _ _ _ _ aAx (pv 0) (@aAf _ _ _ _)) (by rfl) (by first | exact .inl rfl | exact .inr rfl | assumption)) (@aAc _ _ _ _ _ (@aAk _ _ (i:=7) _ _ _ _ aBl.nd rfl (by first | exact Or.inl rfl | exact Or.inr rfl) (@aB8 _ _ _ _ (@aAd _)) (by rfl) (by first | exact .inl rfl | exact .inr rfl | assumption)) (@aAc _ _ _ _ _ (@aCx _ _ _ _ _ _ _ _ PassesOwn.never rfl (@aG1 _ _ _ _ _ _ rfl T.z_range (@aAa _ _ _ _ _ (pv 2) (@aAd _) (by rfl)) (by rfl)) (@aAm _ _ (i:=5) _ aBl.nd rfl (by first | exact Or.inl rfl | exact Or.inr rfl) (by first | exact .inl rfl | exact .inr rfl | assumption)) (@aAc _ _ _ _ _ (@aAk _ _ (i:=8) _ _ _ _ aBl.nd rfl (by first | exact Or.inl rfl | exact Or.inr rfl) (@aAz _ _ _ _ _ _ _ aA0 (@aB8 _ _ _ _ (@aAa _ _ _ _ _ (@aAt _ _ _ _) (@aAa _ _ _ _ _ (@aAt _ _ _ _) (@aAa _ _ _ _ _ (@aAt _ _ _ _) (@aAa _ _ _ _ _ (@aAt _ _ _ _) (@aAa _ _ _ _ _ (@aAt _ _ _ _) (@aAa _ _ _ _ _ (@aAt _ _ _ _) (@aAd _) (by rfl)) (by rfl)) (by rfl)) (by rfl)) (by rfl)) (by rfl))) (@aAj _ _ _ _ _ _ _ _ aBe (@aAj _ _ _ _ _ _ _ _ aAy (@aAj _ _ _ _ _ _ _ _ aAx (pv 0) (@aAf _ _ _ _)) (pv 5)) (@aAf _ _ _ _)) (fun _ _=>rfl)) (by rfl) (by first | exact .inl rfl | exact .inr rfl | assumption)) (@aAc _ _ _ _ _ (@aAk _ _ (i:=9) _ _ _ _ aBl.nd rfl (by first | exact Or.inl rfl | exact Or.inr rfl) (@aAz _ _ _ _ _ _ _ aA0 (pv 1) (@aAj _ _ _ _ _ _ _ _ aBe (@aAj _ _ _ _ _ _ _ _ aAy (pv 0) (@aAj _ _ _ _ _ _ _ _ aA7 (@aAf _ _ _ _) (pv 5))) (@aAf _ _ _ _)) (fun _ _=>rfl)) (by rfl) (by first | exact .inl rfl | exact .inr rfl | assumption)) (@aAh _ _ _ (@aCy _ _ _ _ (@aF9 _ _ _ _ _ _ _ _ _ _ _ _ PySem.F.plainAttrs_list PySem.F.slot_list_append PySem.F.type_list_append aBs (pv 7) (@aAa _ _ _ _ _ (@aAj _ _ _ _ _ _ _ _ aAy (@aAj _ _ _ _ _ _ _ _ aAy (@aAj _ _ _ _ _ _ _ _ aAy (@aM5 _ _ _ _ _ _ _ _ _ _ aUl (pv 4) (@aPx _) (@aPw _ _ _ (pv 6))) (pv 9)) (@aM5 _ _ _ _ _ _ _ _ _ _ aUl (pv 4) (@aPw _ _ _ (pv 6)) (@aPx _))) (pv 8)) (@aAd _) (by rfl)) (by rfl) (by rfl) (by rfl) (by rfl) (by rfl)) (by rfl))))) (by intro _; rfl)) (@aAh _ _ _ (@aAw _ _ _ _ (pv 7))))))))))))),?_⟩
  have h26:abc.length<=100000:=by rw [aR7]; decide
  walk_at "go"
  have a0:=Int.emod_nonneg c (show (7:Int)≠0 by decide)
  have a1:=Int.emod_lt_of_pos c (show (0:Int) < 7 by decide)
  have b0:=Int.emod_nonneg (c.fdiv 7) (show (8:Int)≠0 by decide)
  have b1:=Int.emod_lt_of_pos (c.fdiv 7) (show (0:Int) < 8 by decide)
  generalize c % 7=cnt at *
  generalize c.fdiv 7 % 8=size at *
  generalize c.fdiv 56=num0
  refine aLr (by omega) (by omega) ?_
  refine aIr (n:=size.toNat) (fun i σ G=>∃ (num:Int) (z:Str) (o5:Option V),σ=[some (.int num),some (.str abc),some (.int (2+cnt)),some (.int size),some (.str z),o5,none,none,none,none]/\G=H/\z.length=i/\Ltr (cl z)) ⟨num0,_,_,rfl,rfl,by decide +kernel,fun c h=>by have h':c∈([]:List Nat):=h; cases h'⟩ ?_ ?_
  ·intro P' rt' bk' hP'
   rintro i σ G hi ⟨num,z,o5,rfl,rfl,hz,hL⟩
   obtain ⟨j,hj,ej⟩:∃ j:Nat,j < 26/\num % 26=(j:Int):=⟨(num % 26).toNat,by omega,by omega⟩
   walk_at "go"
   rw [ej]
   refine aSx h26 (aNo j hj) ?_
   have h1:(⟨#[97+j]⟩:Str).length=1:=rfl
   refine aGw (by rw [h1]; omega) ?_
   walk_at "go"
   refine hP' _ _ _ ⟨_,_,_,rfl,rfl,by rw [aI0,h1]; omega,fun c hc=>?_⟩
   rw [aNk] at hc
   rcases List.mem_append.mp hc with h | h
   ·exact hL c h
   ·have h':c∈[97+j]:=h
    rw [List.mem_singleton.mp h']
    omega
  rintro σ G ⟨num,z,o5,rfl,rfl,hz,hL⟩
  walk_at "go"
  refine aB7 fun ln hln=>?_
  walk_at "go"
  have p0:=Int.emod_nonneg num (show size+1≠0 by omega)
  have p1:=Int.emod_lt_of_pos num (show 0 < size+1 by omega)
  generalize num % (size+1)=spot at *
  generalize num.fdiv 8=num2
  have e1:=sl_to (z:=z) (i:=spot) p0 (by omega)
  have e2:=aVj (z:=z) (i:=spot) p0 (by omega)
  have hy1:=Txt.slice_le z none (some spot)
  have hy2:=Txt.slice_le z (some spot) none
  refine aLr (by omega) (by omega) ?_
  refine aIr (n:=(2+cnt).toNat) (fun i σ G1=>∃ (U:List Str) (o5 o8 o9:Option V),σ=[some (.int num2),some (.str abc),some (.int (2+cnt)),some (.int size),some (.str z),o5,some (.int spot),some (.ref ln),o8,o9]/\Kp ln G G1/\G1 ln=some (.lst (U.map V.str))/\U.length=i/\Dfr ((cl z).take spot.toNat) num2 U/\∀ x∈U,Nq x) ⟨[],_,_,_,rfl,Kp.new hln,aAb,rfl,fun k x h=>(by simp at h),fun x h=>nomatch h⟩ ?_ ?_
  ·intro P' rt' bk' hP'
   rintro i σ G1 hi ⟨U,o5,o8,o9,rfl,kp,hG1,hUl,hD,hN⟩
   walk_at "go"
   refine aB7 fun l6 hl6=>?_
   have s1:=aAo.new (o:=.lst [V.str "",V.str ".x",V.str ".ab.c",V.str ".zzzzzzzz.y.a",V.str "",V.str ""]) hl6
   have hl6':=aAb (H:=G1) (a:=l6) (o:=.lst [V.str "",V.str ".x",V.str ".ab.c",V.str ".zzzzzzzz.y.a",V.str "",V.str ""])
   generalize L2.upd G1 l6 (.lst [V.str "",V.str ".x",V.str ".ab.c",V.str ".zzzzzzzz.y.a",V.str "",V.str ""])=G2 at s1 hl6' ⊢
   walk_at "go"
   obtain ⟨t,et,ht,ht2⟩:=at6 ((num2.fdiv 26+(0+(i:Int))) % 6) (Int.emod_nonneg _ (by decide)) (Int.emod_lt_of_pos _ (by decide))
   refine aDx hl6' et ?_
   obtain ⟨j,hj,ej⟩:∃ j:Nat,j < 26/\(num2+3 * (0+(i:Int))) % 26=(j:Int):=⟨((num2+3 * (0+(i:Int))) % 26).toNat,by omega,by omega⟩
   walk_at "go"
   rw [ej]
   refine aSx h26 (aNo j hj) ?_
   have h1:(⟨#[97+j]⟩:Str).length=1:=rfl
   have hG2:=s1 _ _ hG1
   walk_at "go"
   refine aUo (by omega) ?_
   walk_at "go"
   refine aGw (by omega) ?_
   walk_at "go"
   refine aUo (by omega) ?_
   walk_at "go"
   refine aGw (by rw [aI0]; omega) ?_
   walk_at "go"
   refine aGw (by rw [aI0,aI0]; omega) ?_
   have en:cl (Txt.slice z none (some spot)++(⟨#[97+j]⟩:Str)++Txt.slice z (some spot) none++t)=(cl z).take spot.toNat++(97+j)::((cl z).drop spot.toNat++cl t):=by
    rw [aNk,aNk,aNk,e1,e2,List.append_assoc,List.append_assoc]
    rfl
   generalize Txt.slice z none (some spot)++(⟨#[97+j]⟩:Str)++Txt.slice z (some spot) none++t=nm at en ⊢
   walk_at "go"
   refine aEw (s1 _ _ hG1) (by rw [List.length_map]; omega) ?_
   walk_at "go"
   refine hP' _ _ _ ⟨U++[nm],_,_,_,rfl,(kp.trans s1.kp).trans Kp.upd,by rw [List.map_append]; exact aAb,by rw [List.length_append,hUl]; rfl,hD.snoc (by rw [en,hUl,show ((num2+3 * (i:Int)) % 26).toNat=j by omega]),fun x hx=>?_⟩
   rcases List.mem_append.mp hx with h | h
   ·exact hN x h
   ·rw [List.mem_singleton.mp h]
    exact nq_of en (fun c hc=>hL c (List.mem_of_mem_take hc)) (by omega) (fun c hc=>hL c (List.mem_of_mem_drop hc)) ht2
  rintro σ G1 ⟨U,o5,o8,o9,rfl,kp,hG1,hUl,hD,hN⟩
  walk_at "go"
  exact q ln G1 U hln (fun b o h=>kp _ _ (aAe h hln) h) hG1 (by omega) (by omega) (hD.nodup (by omega)) hN
set_option maxHeartbeats 0 in
theorem aWt (T:Bl mg) (d:Df K mg "_law_time" aPj ["_law_number_here"]  ):Okf P w K mg base (k+1) "_law_time" ["_law_number_here"] aMs:=by
 refine Okf.of d aVm (fun vs H Q E h=>?_) (fun f cdv A outer s H vs Q E hr h=>?_)
 ·obtain ⟨c,rfl,_⟩:=h
  rfl
 ·obtain ⟨c,rfl,q⟩:=h
  refine ⟨_,(@aAh _ _ _ (@aAw _ _ _ _ (@aAj _ _ _ _ _ _ _ _ aAy (@aAf _ _ _ _) (@aAj _ _ _ _ _ _ _ _ aBe (@aAj _ _ _ _ _ _ _ _ aAx (pv 0) (@aAf _ _ _ _)) (@aAz _ _ _ _ _ _ _ aA0 (@aB8 _ _ _ _ (@aAa _ _ _ _ _ (@aAf _ _ _ _) (@aAa _ _ _ _ _ (@aAf _ _ _ _) (@aAa _ _ _ _ _ (@aAf _ _ _ _) (@aAa _ _ _ _ _ (@aAj _ _ _ _ _ _ _ _ aH3 (@aAf _ _ _ _) (@aAf _ _ _ _)) (@aAd _) (by rfl)) (by rfl)) (by rfl)) (by rfl))) (@aAj _ _ _ _ _ _ _ _ aBe (pv 0) (@aAf _ _ _ _)) (fun _ _=>rfl)))))),?_⟩
  walk_at "go"
  refine aIq ?_
  walk_at "go"
  refine aB7 fun l4 hl4=>?_
  have s1:=aAo.new (o:=.lst [V.int 9,V.int 9,V.int 1000,V.int 1000000000000000000000000000000]) hl4
  have hl':=aAb (H:=H) (a:=l4) (o:=.lst [V.int 9,V.int 9,V.int 1000,V.int 1000000000000000000000000000000])
  generalize L2.upd H l4 (.lst [V.int 9,V.int 9,V.int 1000,V.int 1000000000000000000000000000000])=G2 at s1 hl' ⊢
  walk_at "go"
  obtain ⟨t,et,ht⟩:=at4 (x0:=9) (x1:=9) (x2:=1000) (x3:=1000000000000000000000000000000) (fun z=>0 < z/\z<=10 ^ 30) (by decide) (by decide) (by decide) (by decide) (c % 4) (Int.emod_nonneg _ (by decide)) (Int.emod_lt_of_pos _ (by decide))
  refine aDx hl' et ?_
  refine aJ3 ht.1 ?_
  have m0:=Int.emod_nonneg (c.fdiv 4) (show t≠0 by omega)
  have m1:=Int.emod_lt_of_pos (c.fdiv 4) ht.1
  generalize c.fdiv 4 % t=z at *
  walk_at "go"
  exact q _ _ s1 (by omega) (by omega)
set_option maxHeartbeats 0 in
theorem aTe (T:Bl mg) (d:Df K mg "_law_grown" aLo ["_law_here_here","_law_number_here","_law_extra"]  ):Okf P w K mg base (k+1) "_law_grown" ["_law_here_here","_law_number_here","_law_extra"] aO7:=by
 refine Okf.of d aEf (fun vs H Q E h=>?_) (fun f cdv A outer s H vs Q E hr h=>?_)
 ·obtain ⟨dd,U,u,rs,ps,ts,ln,lr,lp,lt,c,rfl,_⟩:=h
  rfl
 ·obtain ⟨dd,U,u,rs,ps,ts,ln,lr,lp,lt,c,rfl,hQ,n2,n8,rl,e1,e2,e3,e4,e5,q⟩:=h
  refine ⟨_,(@aAc _ _ _ _ _ (@aAk _ _ (i:=3) _ _ _ _ aEf.nd rfl (by first | exact Or.inl rfl | exact Or.inr rfl) (@aAt _ _ _ _) (by rfl) (by first | exact .inl rfl | exact .inr rfl | assumption)) (@aAc _ _ _ _ _ (@aAk _ _ (i:=4) _ _ _ _ aEf.nd rfl (by first | exact Or.inl rfl | exact Or.inr rfl) (@aAj _ _ _ _ _ _ _ _ aAy (@aAj _ _ _ _ _ _ _ _ aAy (@aAf _ _ _ _) (@aAj _ _ _ _ _ _ _ _ aAx (pv 2) (@aAf _ _ _ _))) (@aAj _ _ _ _ _ _ _ _ aBe (pv 1) (@aAj _ _ _ _ _ _ _ _ aH2 (pv 2) (@aAj _ _ _ _ _ _ _ _ aAx (pv 2) (@aAf _ _ _ _))))) (by rfl) (by first | exact .inl rfl | exact .inr rfl | assumption)) (@aAc _ _ _ _ _ (@aAk _ _ (i:=1) _ _ _ _ aEf.nd rfl (by first | exact Or.inl rfl | exact Or.inr rfl) (@aAj _ _ _ _ _ _ _ _ aAx (pv 1) (@aAf _ _ _ _)) (by rfl) (by first | exact .inl rfl | exact .inr rfl | assumption)) (@aAh _ _ _ (@aCx _ _ _ _ _ _ _ _ PassesOwn.never rfl (@aG1 _ _ _ _ _ _ rfl T.z_range (@aAa _ _ _ _ _ (pv 4) (@aAd _) (by rfl)) (by rfl)) (@aAm _ _ (i:=5) _ aEf.nd rfl (by first | exact Or.inl rfl | exact Or.inr rfl) (by first | exact .inl rfl | exact .inr rfl | assumption)) (@aAc _ _ _ _ _ (@aCy _ _ _ _ (@aF9 _ _ _ _ _ _ _ _ _ _ _ _ PySem.F.plainAttrs_list PySem.F.slot_list_append PySem.F.type_list_append aBs (@aAp _ _ _ _ _ _ hr.u1 (pv 0) (@aAt _ _ _ _) (fun _ _=>rfl)) (@aAa _ _ _ _ _ (@aAj _ _ _ _ _ _ _ _ aAy (@aAj _ _ _ _ _ _ _ _ aAy (@aAj _ _ _ _ _ _ _ _ aAy (@aAt _ _ _ _) (@aAz _ _ _ _ _ _ _ aA0 (pv 3) (@aAj _ _ _ _ _ _ _ _ aAx (pv 5) (@aAf _ _ _ _)) (fun _ _=>rfl))) (@aAt _ _ _ _)) (@aAz _ _ _ _ _ _ _ aA0 (pv 3) (@aAj _ _ _ _ _ _ _ _ aBe (pv 5) (@aAf _ _ _ _)) (fun _ _=>rfl))) (@aAd _) (by rfl)) (by rfl) (by rfl) (by rfl) (by rfl) (by rfl)) (by rfl)) (@aAc _ _ _ _ _ (@aAk _ _ (i:=6) _ _ _ _ aEf.nd rfl (by first | exact Or.inl rfl | exact Or.inr rfl) (@aAj _ _ _ _ _ _ _ _ aH2 (@aAs _ _ _ _ _ _ _ _ _ aGe rfl T.z_len aDm (@aAa _ _ _ _ _ (@aAp _ _ _ _ _ _ hr.u1 (pv 0) (@aAt _ _ _ _) (fun _ _=>rfl)) (@aAd _) (by rfl)) (by decide) (by decide) (by rfl) (by rfl)) (@aAf _ _ _ _)) (by rfl) (by first | exact .inl rfl | exact .inr rfl | assumption)) (@aAh _ _ _ (@aCy _ _ _ _ (@aF9 _ _ _ _ _ _ _ _ _ _ _ _ PySem.F.plainAttrs_list PySem.F.slot_list_append PySem.F.type_list_append aBs (@aAp _ _ _ _ _ _ hr.u1 (pv 0) (@aAt _ _ _ _) (fun _ _=>rfl)) (@aAa _ _ _ _ _ (@aBa _ _ _ _ _ (@aAa _ _ _ _ _ (@aAs _ _ _ _ _ _ _ _ _ (bB5 rfl) rfl T.z_max aUy (@aAa _ _ _ _ _ (@aAf _ _ _ _) (@aAa _ _ _ _ _ (@aAj _ _ _ _ _ _ _ _ aH2 (@aAj _ _ _ _ _ _ _ _ aH2 (pv 6) (@aAf _ _ _ _)) (@aAj _ _ _ _ _ _ _ _ aA7 (@aAj _ _ _ _ _ _ _ _ aBe (pv 1) (@aAf _ _ _ _)) (@aAj _ _ _ _ _ _ _ _ aBe (pv 5) (@aAf _ _ _ _)))) (@aAd _) (by rfl)) (by rfl)) (by decide) (by decide) (by rfl) (by rfl)) (@aAa _ _ _ _ _ (pv 6) (@aAa _ _ _ _ _ (@aAj _ _ _ _ _ _ _ _ aAy (@aAf _ _ _ _) (@aAj _ _ _ _ _ _ _ _ aBe (@aAj _ _ _ _ _ _ _ _ aAy (@aAj _ _ _ _ _ _ _ _ aAx (pv 1) (@aAf _ _ _ _)) (@aAj _ _ _ _ _ _ _ _ aA7 (pv 5) (pv 5))) (@aAf _ _ _ _))) (@aAd _) (by rfl)) (by rfl)) (by rfl))) (@aAd _) (by rfl)) (by rfl) (by rfl) (by rfl) (by rfl) (by rfl)) (by rfl))))) (by intro _; rfl)))))),?_⟩
  have h26:abc.length<=100000:=by rw [aR7]; decide
  walk_at "go"
  have e30:Int.fdiv 90 3=30:=by decide
  rw [e30]
  obtain ⟨many,hm⟩:∃ many,1+30+c % (90 - 30)=many:=⟨_,rfl⟩
  rw [hm]
  have a0:31<=many:=by omega
  have a1:many<=90:=by omega
  generalize c.fdiv 128=num
  refine aLr (by omega) (by omega) ?_
  refine aIr (n:=(many).toNat) (fun i σ G=>∃ (rs':List (Int×Int×Int)) (o5 o6:Option V),σ=[some (.ref dd),some (.int num),some (.int 90),some (.str abc),some (.int (many)),o5,o6]/\Kq ln lr H G/\aDd G dd (grown U i) u (rs++rs') ps ts ln lr lp lt/\rs'.length=i/\∀ r∈rs',0<=r.1/\r.1 < U.length+i/\0<=r.2.1/\r.2.1 < U.length+i/\1<=r.2.2/\r.2.2<=10 ^ 30) ⟨[],_,_,rfl,fun _ _ _ _ h=>h,by rw [List.append_nil]; unfold grown; rw [List.range_zero,List.map_nil,List.append_nil]; exact hQ,rfl,fun _ h=>nomatch h⟩ ?_ ?_
  ·intro P' rt' bk' hP'
   rintro i σ G hi ⟨rs',o5,o6,rfl,kq,gQ,hl,hok⟩
   have hi9:i < 90:=by omega
   walk_at "go"
   refine aCa (.inl gQ.d) aB9 ?_
   have hnm:=gQ.nm
   walk_at "go"
   have j1:(0+(i:Int)).fdiv 26=((i / 26:Nat):Int):=by
    rw [Int.fdiv_eq_ediv_of_nonneg _ (by decide)]
    omega
   have j2:(0+(i:Int)) % 26=((i % 26:Nat):Int):=by omega
   rw [j1]
   refine aSx h26 (aNo (i / 26) (by omega)) ?_
   walk_at "go"
   refine aGw (by show 4+1<=_; decide) ?_
   walk_at "go"
   refine aGw (by show (5:Nat)+1<=_; decide) ?_
   walk_at "go"
   rw [j2]
   refine aSx h26 (aNo (i % 26) (by omega)) ?_
   walk_at "go"
   refine aGw (by show (6:Nat)+1<=_; decide) ?_
   walk_at "go"
   have en:Str.ofString "q.q."++(⟨#[97+i / 26]⟩:Str)++Str.ofString "."++(⟨#[97+i % 26]⟩:Str)=gnm i:=rfl
   rw [en]
   refine aEw hnm (by rw [List.length_map,aDc]; omega) ?_
   have g1:=gQ.nam e1 e2 e3 (gnm i)
   rw [← aOb] at g1
   have k1:Kq ln lr H (L2.upd G ln (.lst ((grown U i).map V.str++[.str (gnm i)]))):=fun p o x1 x2 h=>aBb x1 (kq p o x1 x2 h)
   generalize L2.upd G ln (.lst ((grown U i).map V.str++[.str (gnm i)]))=G1 at g1 k1 ⊢
   clear gQ hnm kq
   have hnm1:=g1.nm
   walk_at "go"
   refine aCa (.inl g1.d) aB9 ?_
   walk_at "go"
   rw [List.length_map,aDc]
   refine aCa (.inl g1.d) aBt ?_
   obtain ⟨vr,hvr,pvr⟩:=id g1.rq
   have hvl:=Paired.length pvr
   rw [List.length_append] at hvl
   walk_at "go"
   have m0:=Int.mul_nonneg (Int.emod_nonneg num (show (2:Int)≠0 by decide)) (Int.emod_nonneg (0+(i:Int)) (show (3:Int)≠0 by decide))
   generalize num % 2 * ((0+(i:Int)) % 3)=pp at m0 ⊢
   have t0:=Int.emod_nonneg (num.fdiv 2+(0+(i:Int)) * (0+(i:Int))) (show (9:Int)≠0 by decide)
   have t1:=Int.emod_lt_of_pos (num.fdiv 2+(0+(i:Int)) * (0+(i:Int))) (show (0:Int) < 9 by decide)
   generalize (num.fdiv 2+(0+(i:Int)) * (0+(i:Int))) % 9=tm at t0 t1 ⊢
   obtain ⟨x,hx⟩:∃ x,(if ((U.length+(i+1):Nat):Int) - 1 - 1 - pp > 0 then ((U.length+(i+1):Nat):Int) - 1 - 1 - pp else 0)=x:=⟨_,rfl⟩
   rw [hx]
   have x0:0<=x:=by
    rw [← hx]
    split <;> omega
   have x1:x < U.length+((i+1:Nat):Int):=by
    rw [← hx]
    split <;> omega
   clear hx
   generalize hy:((U.length+(i+1):Nat):Int) - 1=y
   refine aAv fun p hp=>?_
   have st2:=aAo.new (o:=.tup [.int x,.int y,.int (1+tm)]) hp
   have hp2:=aAb (H:=G1) (a:=p) (o:=.tup [.int x,.int y,.int (1+tm)])
   have k2:Kq ln lr H (L2.upd G1 p (.tup [.int x,.int y,.int (1+tm)])):=fun a o x1 x2 h=>aAl hp (k1 a o x1 x2 h)
   generalize L2.upd G1 p (.tup [.int x,.int y,.int (1+tm)])=G2 at st2 hp2 k2 ⊢
   walk_at "go"
   refine aEw (st2 _ _ hvr) (by omega) ?_
   walk_at "go"
   have g2:=(g1.sm st2).rnn (x:=(x,y,1+tm)) (st2 _ _ hvr) (Pd.imp pvr fun v b f=>f.tk st2.tk) ⟨p,rfl,hp2⟩ e1 e4 e5
   rw [List.append_assoc] at g2
   refine hP' _ _ _ ⟨rs'++[(x,y,1+tm)],_,_,rfl,fun a o x1 x2 h=>aBb x2 (k2 a o x1 x2 h),g2,by rw [List.length_append,hl]; rfl,fun r hr=>?_⟩
   rcases List.mem_append.mp hr with h | h
   ·have:=hok r h
    omega
   ·rw [List.mem_singleton.mp h]
    dsimp only
    omega
  rintro σ G ⟨rs',o5,o6,rfl,kq,gQ,hl,hok⟩
  walk_at "go"
  exact q G _ rs' kq (by omega) gQ (by omega) (by intro r hr; have:=hok r hr; omega)
set_option maxHeartbeats 0 in
theorem aWu (T:Bl mg) (d:Df K mg "_law_here" aPk ["_law_script","_law_most","_law_extra"]  ) (o_grown:Okf P w K mg base k "_law_grown" ["_law_here_here","_law_number_here","_law_extra"] aO7) (o_number:Okf P w K mg base k "_law_number" ["_law_script","_law_k"] (aO5 K)) (o_time:Okf P w K mg base k "_law_time" ["_law_number_here"] aMs) (o_posts:Okf P w K mg base k "_law_posts" ["_law_number_here"] aJs):Okf P w K mg base (k+1) "_law_here" ["_law_script","_law_most","_law_extra"] (aMt K):=by
  refine Okf.of d aCd (fun vs H Q E h=>?_) (fun f cdv A outer s H vs Q E hr h=>?_)
  . obtain ⟨a,ns,rfl,_⟩:=h
    rfl
  . obtain ⟨a,ns,rfl,hS,h63,q⟩:=h
    refine ⟨_,(@aAc _ _ _ _ _ (@aAk _ _ (i:=3) _ _ _ _ aCd.nd rfl (by first | exact Or.inl rfl | exact Or.inr rfl) (@aAi _ _ _ _ _ _ _ _ _ _ o_posts hr rfl (@aAa _ _ _ _ _ (@aAi _ _ _ _ _ _ _ _ _ _ o_number hr rfl (@aAa _ _ _ _ _ (pv 0) (@aAa _ _ _ _ _ (@aAf _ _ _ _) (@aAd _) (by rfl)) (by rfl)) (by decide) (by rfl) (by rfl)) (@aAd _) (by rfl)) (by decide) (by rfl) (by rfl)) (by rfl) (by first | exact .inl rfl | exact .inr rfl | assumption)) (@aAc _ _ _ _ _ (@aAk _ _ (i:=4) _ _ _ _ aCd.nd rfl (by first | exact Or.inl rfl | exact Or.inr rfl) (@aAi _ _ _ _ _ _ _ _ _ _ o_number hr rfl (@aAa _ _ _ _ _ (pv 0) (@aAa _ _ _ _ _ (@aAf _ _ _ _) (@aAd _) (by rfl)) (by rfl)) (by decide) (by rfl) (by rfl)) (by rfl) (by first | exact .inl rfl | exact .inr rfl | assumption)) (@aAc _ _ _ _ _ (@aAk _ _ (i:=4) _ _ _ _ aCd.nd rfl (by first | exact Or.inl rfl | exact Or.inr rfl) (@aAj _ _ _ _ _ _ _ _ aAy (@aAf _ _ _ _) (@aAj _ _ _ _ _ _ _ _ aBe (@aAj _ _ _ _ _ _ _ _ aAx (pv 4) (@aAf _ _ _ _)) (@aAz _ _ _ _ _ _ _ aA0 (@aB8 _ _ _ _ (@aAa _ _ _ _ _ (@aAf _ _ _ _) (@aAa _ _ _ _ _ (@aAf _ _ _ _) (@aAa _ _ _ _ _ (@aAf _ _ _ _) (@aAa _ _ _ _ _ (@aAj _ _ _ _ _ _ _ _ aH3 (@aAf _ _ _ _) (@aAf _ _ _ _)) (@aAd _) (by rfl)) (by rfl)) (by rfl)) (by rfl))) (@aAj _ _ _ _ _ _ _ _ aBe (pv 4) (@aAf _ _ _ _)) (fun _ _=>rfl)))) (by rfl) (by first | exact .inl rfl | exact .inr rfl | assumption)) (@aAc _ _ _ _ _ (@aAk _ _ (i:=5) _ _ _ _ aCd.nd rfl (by first | exact Or.inl rfl | exact Or.inr rfl) (@aWl _ _ _ _ _ (@aFa _ _ _ _ _ _ _ _ _ (@aAt _ _ _ _) (pv 3) (@aFa _ _ _ _ _ _ _ _ _ (@aAt _ _ _ _) (pv 4) (@aFa _ _ _ _ _ _ _ _ _ (@aAt _ _ _ _) (@aB8 _ _ _ _ (@aAd _)) (@aFa _ _ _ _ _ _ _ _ _ (@aAt _ _ _ _) (@aB8 _ _ _ _ (@aAd _)) (@aFa _ _ _ _ _ _ _ _ _ (@aAt _ _ _ _) (@aB8 _ _ _ _ (@aAd _)) (@aWf _ _)))))) rfl rfl (List.cons_ne_nil _ _) (Nat.le_of_ble_eq_true rfl)) (by rfl) (by first | exact .inl rfl | exact .inr rfl | assumption)) (@aAc _ _ _ _ _ (@aCx _ _ _ _ _ _ _ _ PassesOwn.never rfl (@aP1 _ _ _ _ _ _ _ rfl T.z_range (@aAa _ _ _ _ _ (@aAf _ _ _ _) (@aAa _ _ _ _ _ (@aAs _ _ _ _ _ _ _ _ _ (bB5 rfl) rfl T.z_max aUy (@aAa _ _ _ _ _ (@aAf _ _ _ _) (@aAa _ _ _ _ _ (@aAs _ _ _ _ _ _ _ _ _ (aXq rfl) rfl T.z_min aR0 (@aAa _ _ _ _ _ (@aAs _ _ _ _ _ _ _ _ _ aGe rfl T.z_len aDm (@aAa _ _ _ _ _ (pv 0) (@aAd _) (by rfl)) (by decide) (by decide) (by rfl) (by rfl)) (@aAa _ _ _ _ _ (pv 1) (@aAd _) (by rfl)) (by rfl)) (by decide) (by decide) (by rfl) (by rfl)) (@aAd _) (by rfl)) (by rfl)) (by decide) (by decide) (by rfl) (by rfl)) (@aAd _) (by rfl)) (by rfl)) (by rfl) (by rfl)) (@aAm _ _ (i:=6) _ aCd.nd rfl (by first | exact Or.inl rfl | exact Or.inr rfl) (by first | exact .inl rfl | exact .inr rfl | assumption)) (@aAc _ _ _ _ _ (@aAk _ _ (i:=7) _ _ _ _ aCd.nd rfl (by first | exact Or.inl rfl | exact Or.inr rfl) (@aAi _ _ _ _ _ _ _ _ _ _ o_number hr rfl (@aAa _ _ _ _ _ (pv 0) (@aAa _ _ _ _ _ (pv 6) (@aAd _) (by rfl)) (by rfl)) (by decide) (by rfl) (by rfl)) (by rfl) (by first | exact .inl rfl | exact .inr rfl | assumption)) (@aAc _ _ _ _ _ (@aAk _ _ (i:=8) _ _ _ _ aCd.nd rfl (by first | exact Or.inl rfl | exact Or.inr rfl) (@aAj _ _ _ _ _ _ _ _ aBe (pv 7) (@aAf _ _ _ _)) (by rfl) (by first | exact .inl rfl | exact .inr rfl | assumption)) (@aAc _ _ _ _ _ (@aAk _ _ (i:=9) _ _ _ _ aCd.nd rfl (by first | exact Or.inl rfl | exact Or.inr rfl) (@aAj _ _ _ _ _ _ _ _ aBe (@aAj _ _ _ _ _ _ _ _ aAx (pv 7) (@aAf _ _ _ _)) (@aAs _ _ _ _ _ _ _ _ _ aGe rfl T.z_len aDm (@aAa _ _ _ _ _ (pv 3) (@aAd _) (by rfl)) (by decide) (by decide) (by rfl) (by rfl))) (by rfl) (by first | exact .inl rfl | exact .inr rfl | assumption)) (@aAc _ _ _ _ _ (@aAk _ _ (i:=10) _ _ _ _ aCd.nd rfl (by first | exact Or.inl rfl | exact Or.inr rfl) (@aAj _ _ _ _ _ _ _ _ aBe (@aAj _ _ _ _ _ _ _ _ aAy (@aAj _ _ _ _ _ _ _ _ aAy (pv 9) (@aAf _ _ _ _)) (@aAj _ _ _ _ _ _ _ _ aBe (@aAj _ _ _ _ _ _ _ _ aAx (pv 7) (@aAf _ _ _ _)) (@aAj _ _ _ _ _ _ _ _ aH2 (@aAs _ _ _ _ _ _ _ _ _ aGe rfl T.z_len aDm (@aAa _ _ _ _ _ (pv 3) (@aAd _) (by rfl)) (by decide) (by decide) (by rfl) (by rfl)) (@aAf _ _ _ _)))) (@aAs _ _ _ _ _ _ _ _ _ aGe rfl T.z_len aDm (@aAa _ _ _ _ _ (pv 3) (@aAd _) (by rfl)) (by decide) (by decide) (by rfl) (by rfl))) (by rfl) (by first | exact .inl rfl | exact .inr rfl | assumption)) (@aAh _ _ _ (@aB3 _ _ _ _ _ _ _ _ (@PW.pt _ _ _ (@aGx _ _ _ _ _ _ _ (@aA2 _ _ _ _ _ _ _ _ aL0 (pv 8) (@aAf _ _ _ _) (aA4 _)) (@aD0 _ _ _ _ (@aA2 _ _ _ _ _ _ _ _ (aD3 hr.units) (@aAp _ _ _ _ _ _ hr.u1 (pv 5) (@aAt _ _ _ _) (fun _ _=>rfl)) (@aB8 _ _ _ _ (@aAd _)) (aA4 _))))) (@aAh _ _ _ (@aCy _ _ _ _ (@aF9 _ _ _ _ _ _ _ _ _ _ _ _ PySem.F.plainAttrs_list PySem.F.slot_list_append PySem.F.type_list_append aBs (@aAp _ _ _ _ _ _ hr.u1 (pv 5) (@aAt _ _ _ _) (fun _ _=>rfl)) (@aAa _ _ _ _ _ (@aBa _ _ _ _ _ (@aAa _ _ _ _ _ (pv 9) (@aAa _ _ _ _ _ (pv 10) (@aAa _ _ _ _ _ (@aAi _ _ _ _ _ _ _ _ _ _ o_time hr rfl (@aAa _ _ _ _ _ (@aAj _ _ _ _ _ _ _ _ aAx (pv 7) (@aAf _ _ _ _)) (@aAd _) (by rfl)) (by decide) (by rfl) (by rfl)) (@aAd _) (by rfl)) (by rfl)) (by rfl))) (@aAd _) (by rfl)) (by rfl) (by rfl) (by rfl) (by rfl) (by rfl)) (by rfl))) (@aAh _ _ _ (@aB3 _ _ _ _ _ _ _ _ (@aA2 _ _ _ _ _ _ _ _ aL0 (pv 8) (@aAf _ _ _ _) (aA4 _)) (@aAc _ _ _ _ _ (@aAk _ _ (i:=11) _ _ _ _ aCd.nd rfl (by first | exact Or.inl rfl | exact Or.inr rfl) (@aAj _ _ _ _ _ _ _ _ aBe (@aAj _ _ _ _ _ _ _ _ aAx (pv 7) (@aAf _ _ _ _)) (@aAz _ _ _ _ _ _ _ aA0 (@aB8 _ _ _ _ (@aAa _ _ _ _ _ (@aAf _ _ _ _) (@aAa _ _ _ _ _ (@aAf _ _ _ _) (@aAa _ _ _ _ _ (@aAf _ _ _ _) (@aAa _ _ _ _ _ (@aAj _ _ _ _ _ _ _ _ aH3 (@aAf _ _ _ _) (@aAf _ _ _ _)) (@aAd _) (by rfl)) (by rfl)) (by rfl)) (by rfl))) (@aAj _ _ _ _ _ _ _ _ aBe (@aAj _ _ _ _ _ _ _ _ aAx (pv 7) (@aAf _ _ _ _)) (@aAf _ _ _ _)) (fun _ _=>rfl))) (by rfl) (by first | exact .inl rfl | exact .inr rfl | assumption)) (@aAh _ _ _ (@aCy _ _ _ _ (@aF9 _ _ _ _ _ _ _ _ _ _ _ _ PySem.F.plainAttrs_list PySem.F.slot_list_append PySem.F.type_list_append aBs (@aAp _ _ _ _ _ _ hr.u1 (pv 5) (@aAt _ _ _ _) (fun _ _=>rfl)) (@aAa _ _ _ _ _ (@aBa _ _ _ _ _ (@aAa _ _ _ _ _ (pv 9) (@aAa _ _ _ _ _ (pv 11) (@aAd _) (by rfl)) (by rfl))) (@aAd _) (by rfl)) (by rfl) (by rfl) (by rfl) (by rfl) (by rfl)) (by rfl)))) (@aAc _ _ _ _ _ (@aAk _ _ (i:=11) _ _ _ _ aCd.nd rfl (by first | exact Or.inl rfl | exact Or.inr rfl) (@aAj _ _ _ _ _ _ _ _ aBe (@aAj _ _ _ _ _ _ _ _ aAx (pv 7) (@aAf _ _ _ _)) (@aAz _ _ _ _ _ _ _ aA0 (@aB8 _ _ _ _ (@aAa _ _ _ _ _ (@aAf _ _ _ _) (@aAa _ _ _ _ _ (@aAf _ _ _ _) (@aAa _ _ _ _ _ (@aAf _ _ _ _) (@aAa _ _ _ _ _ (@aAj _ _ _ _ _ _ _ _ aH3 (@aAf _ _ _ _) (@aAf _ _ _ _)) (@aAd _) (by rfl)) (by rfl)) (by rfl)) (by rfl))) (@aAj _ _ _ _ _ _ _ _ aBe (pv 10) (@aAf _ _ _ _)) (fun _ _=>rfl))) (by rfl) (by first | exact .inl rfl | exact .inr rfl | assumption)) (@aAh _ _ _ (@aCy _ _ _ _ (@aF9 _ _ _ _ _ _ _ _ _ _ _ _ PySem.F.plainAttrs_list PySem.F.slot_list_append PySem.F.type_list_append aBs (@aAp _ _ _ _ _ _ hr.u1 (pv 5) (@aAt _ _ _ _) (fun _ _=>rfl)) (@aAa _ _ _ _ _ (@aBa _ _ _ _ _ (@aAa _ _ _ _ _ (@aAj _ _ _ _ _ _ _ _ aBe (@aAj _ _ _ _ _ _ _ _ aAx (pv 7) (@aAf _ _ _ _)) (@aAs _ _ _ _ _ _ _ _ _ aGe rfl T.z_len aDm (@aAa _ _ _ _ _ (@aAp _ _ _ _ _ _ hr.u1 (pv 5) (@aAt _ _ _ _) (fun _ _=>rfl)) (@aAd _) (by rfl)) (by decide) (by decide) (by rfl) (by rfl))) (@aAa _ _ _ _ _ (pv 11) (@aAd _) (by rfl)) (by rfl))) (@aAd _) (by rfl)) (by rfl) (by rfl) (by rfl) (by rfl) (by rfl)) (by rfl)))))))))))) (by intro _; rfl)) (@aAc _ _ _ _ _ (@aAk _ _ (i:=7) _ _ _ _ aCd.nd rfl (by first | exact Or.inl rfl | exact Or.inr rfl) (@aAj _ _ _ _ _ _ _ _ aAx (@aAi _ _ _ _ _ _ _ _ _ _ o_number hr rfl (@aAa _ _ _ _ _ (pv 0) (@aAa _ _ _ _ _ (@aAf _ _ _ _) (@aAd _) (by rfl)) (by rfl)) (by decide) (by rfl) (by rfl)) (@aAf _ _ _ _)) (by rfl) (by first | exact .inl rfl | exact .inr rfl | assumption)) (@aAc _ _ _ _ _ (@aB3 _ _ _ _ _ _ _ _ (@aA2 _ _ _ _ _ _ _ _ (aD3 hr.units) (@aAj _ _ _ _ _ _ _ _ aBe (pv 7) (@aAf _ _ _ _)) (@aAf _ _ _ _) (aA4 _)) (@aAh _ _ _ (@aCy _ _ _ _ (@aAi _ _ _ _ _ _ _ _ _ _ o_grown hr rfl (@aAa _ _ _ _ _ (pv 5) (@aAa _ _ _ _ _ (@aAj _ _ _ _ _ _ _ _ aAx (pv 7) (@aAf _ _ _ _)) (@aAa _ _ _ _ _ (pv 2) (@aAd _) (by rfl)) (by rfl)) (by rfl)) (by decide) (by rfl) (by rfl)) (by rfl))) (@aA5 _)) (@aAh _ _ _ (@aAw _ _ _ _ (pv 5)))))))))),?_⟩
    walk_at "go"
    refine ⟨a,ns,1,rfl,hS,by decide,by decide,fun r1=>?_⟩
    walk_at "go"
    refine ⟨r1,rfl,fun ln H1 U hln s1 hU hU2 hU8 hUd hUq=>?_⟩
    walk_at "go"
    refine ⟨a,ns,2,rfl,s1.seq hS,by decide,by decide,fun r2=>?_⟩
    walk_at "go"
    refine aVu ?_
    walk_at "go"
    refine aB7 fun l4 hl4=>?_
    have s2:=s1.trans (aAo.new (o:=.lst [V.int 1,V.int 12,V.int 60,V.int 1000000000000]) hl4)
    have hU1:=aAl (o:=.lst [V.int 1,V.int 12,V.int 60,V.int 1000000000000]) hl4 hU
    have hl':=aAb (H:=H1) (a:=l4) (o:=.lst [V.int 1,V.int 12,V.int 60,V.int 1000000000000])
    generalize L2.upd H1 l4 (.lst [V.int 1,V.int 12,V.int 60,V.int 1000000000000])=H2 at s2 hl' hU1 ⊢
    walk_at "go"
    obtain ⟨t,et,ht⟩:=at4 (x0:=1) (x1:=12) (x2:=60) (x3:=1000000000000) (fun z=>0 < z/\z<=10 ^ 12) (by decide) (by decide) (by decide) (by decide) (r2 % 4) (Int.emod_nonneg _ (by decide)) (Int.emod_lt_of_pos _ (by decide))
    refine aDx hl' et ?_
    refine aJ3 ht.1 ?_
    have m0:=Int.emod_nonneg (r2.fdiv 4) (show t≠0 by omega)
    have m1:=Int.emod_lt_of_pos (r2.fdiv 4) ht.1
    generalize r2.fdiv 4 % t=z at *
    walk_at "go"
    generalize hu:1+z=u
    have u0:0 < u:=by omega
    have u1:u<=10 ^ 12:=by omega
    clear hl' et hU m0 m1 ht hu
    refine aV3 fun dd hdd=>?_
    have sd:=aAo.new (o:=.dK []) hdd
    walk_at "go"
    refine aB7 fun lr hlr=>?_
    walk_at "go"
    refine aB7 fun lp hlp=>?_
    walk_at "go"
    refine aB7 fun lt hlt=>?_
    have hlr2:H2 lr=none:=sd.free hlr
    have sr:=sd.trans (aAo.new (o:=.lst []) hlr)
    have hlp2:H2 lp=none:=sr.free hlp
    have sp:=sr.trans (aAo.new (o:=.lst []) hlp)
    have hlt2:H2 lt=none:=sp.free hlt
    have st:=sp.trans (aAo.new (o:=.lst []) hlt)
    have ndr:dd≠lr:=aAe aAb hlr
    have ndp:dd≠lp:=aAe (aAl hlr aAb) hlp
    have ndt:dd≠lt:=aAe (aAl hlp (aAl hlr aAb)) hlt
    have nrp:lr≠lp:=aAe aAb hlp
    have nrt:lr≠lt:=aAe (aAl hlp aAb) hlt
    have npt:lp≠lt:=aAe aAb hlt
    refine aRg (aAl hlt (aAl hlp (aAl hlr aAb))) ?_
    have G0:aFn H2 (L2.upd (L2.upd (L2.upd (L2.upd (L2.upd H2 dd (.dK [])) lr (.lst [])) lp (.lst [])) lt (.lst [])) dd (.dK (aGd ln u lr lp lt))) dd U u [] [] [] ln lr lp lt 0 :=
      ⟨⟨u0,u1,hU2,hU8,(fun _ h=>nomatch h),(fun _ h=>nomatch h),(fun _ h=>nomatch h),Nat.le_refl _⟩,
       ⟨aAb,aBb (aAe hU1 hdd) (st _ _ hU1),⟨[],aBb (Ne.symm ndr) (aAl hlt (aAl hlp aAb)),.nil⟩,⟨[],aBb (Ne.symm ndp) (aAl hlt aAb),.nil⟩,⟨[],aBb (Ne.symm ndt) aAb,.nil⟩⟩,
       Kp.upd.sm st hdd,hlr2,hlp2,hlt2,nrp,nrt,npt,(fun z=>nomatch z)⟩
    generalize L2.upd (L2.upd (L2.upd (L2.upd (L2.upd H2 dd (.dK [])) lr (.lst [])) lp (.lst [])) lt (.lst [])) dd (.dK (aGd ln u lr lp lt))=H3 at G0 ⊢
    have nlr:ln≠lr:=aAe hU1 hlr2
    have nlp:ln≠lp:=aAe hU1 hlp2
    have nlt:ln≠lt:=aAe hU1 hlt2
    have hdH:H dd=none:=s2.free hdd
    clear sd sr sp st hlr hlp hlt ndr ndp ndt hl4
    walk_at "go"
    refine aPm (s2.trans G0.s |>.seq hS) ?_
    walk_at "go"
    rw [List.length_map]
    generalize hmx:(if (if (23:Int) < (ns.length:Int) then 23 else (ns.length:Int)) > 4 then (if (23:Int) < (ns.length:Int) then 23 else (ns.length:Int)) else 4)=mx
    have x0:4<=mx:=by
      rw [← hmx]
      split <;> split at * <;> omega
    have x1:mx<=23:=by
      rw [← hmx]
      split <;> split at * <;> omega
    refine aVs (by decide) (by decide) (by omega) (by omega) ?_
    refine aIr (n:=(mx - 3).toNat) (fun i σ G=>∃ (rs:List (Int×Int×Int)) (ps ts:List (Int×Int)) (o5 o6 o7 o8 o9 o10:Option V),σ=[some (.ref a),some (.int 23),some (.int 90),some (.ref ln),some (.int u),some (.ref dd),o5,o6,o7,o8,o9,o10]/\aFn H2 G dd U u rs ps ts ln lr lp lt i) ⟨[],[],[],_,_,_,_,_,_,rfl,G0⟩ ?_ ?_
    . intro P' rt' bk' hP'
      rintro i σ G hi ⟨rs,ps,ts,o5,o6,o7,o8,o9,o10,rfl,g⟩
      have sG:=s2.trans g.s
      walk_at "go"
      refine ⟨a,ns,_,rfl,sG.seq hS,by omega,by omega,fun num=>?_⟩
      walk_at "go"
      refine aMz g.q.nm ?_
      walk_at "go"
      rw [List.length_map]
      refine aJ3 (by omega) ?_
      have a0:=Int.emod_nonneg (num.fdiv 8) (show (U.length:Int)≠0 by omega)
      have a1:=Int.emod_lt_of_pos (num.fdiv 8) (show (0:Int) < U.length by omega)
      generalize num.fdiv 8 % (U.length:Int)=aa at *
      walk_at "go"
      refine aMz g.q.nm ?_
      walk_at "go"
      rw [List.length_map]
      refine aJ3 (by omega) ?_
      generalize num.fdiv 64 % ((U.length:Int) - 1)=bb0
      walk_at "go"
      refine aMz g.q.nm ?_
      walk_at "go"
      rw [List.length_map]
      refine aJ3 (by omega) ?_
      have b0:=Int.emod_nonneg (aa+1+bb0) (show (U.length:Int)≠0 by omega)
      have b1:=Int.emod_lt_of_pos (aa+1+bb0) (show (0:Int) < U.length by omega)
      generalize (aa+1+bb0) % (U.length:Int)=bb at *
      walk_at "go"
      refine i_d (fun c1=>?_) (fun c1=>?_)
      . walk_at "go"
        refine aCa (.inl g.q.d) aBt ?_
        obtain ⟨vr,hvr,pvr⟩:=id g.q.rq
        have hvl:=Paired.length pvr
        have hil:=g.i.len
        walk_at "go"
        refine ⟨_,rfl,fun tm G1 st1 t0 t1=>?_⟩
        walk_at "go"
        refine aAv fun p hp=>?_
        have st2:=st1.trans (aAo.new (o:=.tup [.int aa,.int bb,.int tm]) hp)
        have hp2:=aAb (H:=G1) (a:=p) (o:=.tup [.int aa,.int bb,.int tm])
        generalize L2.upd G1 p (.tup [.int aa,.int bb,.int tm])=G2 at st2 hp2 ⊢
        walk_at "go"
        refine aEw (st2 _ _ hvr) (by omega) ?_
        walk_at "go"
        exact hP' _ _ _ ⟨_,_,_,_,_,_,_,_,_,rfl,(g.sm st2).run (x:=(aa,bb,tm)) (st2 _ _ hvr) (Pd.imp pvr fun v b f=>f.tk st2.tk) ⟨p,rfl,hp2⟩ ⟨a0,a1,b0,b1,t0,t1⟩ nlr⟩
      . walk_at "go"
        refine aCa (.inl g.q.d) aBt ?_
        obtain ⟨vs0,hvs0,pvs0⟩:=id g.q.rq
        walk_at "go"
        refine aB7 fun le hle=>?_
        have se:=aAo.new (o:=.lst []) hle
        have hle':=aAb (H:=G) (a:=le) (o:=.lst [])
        generalize L2.upd G le (.lst [])=G0 at se hle' ⊢
        have g0:=g.sm se
        refine bBy (se _ _ hvs0) (Pd.imp pvs0 fun v b f=>f.tk se.tk) hle' ?_
        clear hle' hvs0 pvs0 vs0
        walk_at "go"
        refine i_d (fun hrs=>?_) (fun hrs=>?_)
        . walk_at "go"
          refine aCa (.inl g0.q.d) aBt ?_
          obtain ⟨vr,hvr,pvr⟩:=id g0.q.rq
          have hvl:=Paired.length pvr
          have hil:=g0.i.len
          walk_at "go"
          refine ⟨_,rfl,fun tm G1 st1 t0 t1=>?_⟩
          walk_at "go"
          refine aAv fun p hp=>?_
          have st2:=st1.trans (aAo.new (o:=.tup [.int aa,.int bb,.int tm]) hp)
          have hp2:=aAb (H:=G1) (a:=p) (o:=.tup [.int aa,.int bb,.int tm])
          generalize L2.upd G1 p (.tup [.int aa,.int bb,.int tm])=G2 at st2 hp2 ⊢
          walk_at "go"
          refine aEw (st2 _ _ hvr) (by omega) ?_
          walk_at "go"
          exact hP' _ _ _ ⟨_,_,_,_,_,_,_,_,_,rfl,(g0.sm st2).run (x:=(aa,bb,tm)) (st2 _ _ hvr) (Pd.imp pvr fun v b f=>f.tk st2.tk) ⟨p,rfl,hp2⟩ ⟨a0,a1,b0,b1,t0,t1⟩ nlr⟩
        . walk_at "go"
          refine i_d (fun c2=>?_) (fun c2=>?_)
          . walk_at "go"
            refine aIq ?_
            walk_at "go"
            refine aB7 fun l4 hl4=>?_
            have st1:=aAo.new (o:=.lst [V.int 12,V.int 12,V.int 1000,V.int 1000000000000000000000000000000]) hl4
            have hl':=aAb (H:=G0) (a:=l4) (o:=.lst [V.int 12,V.int 12,V.int 1000,V.int 1000000000000000000000000000000])
            generalize L2.upd G0 l4 (.lst [V.int 12,V.int 12,V.int 1000,V.int 1000000000000000000000000000000])=G1 at st1 hl' ⊢
            walk_at "go"
            obtain ⟨t,et,ht⟩:=at4 (x0:=12) (x1:=12) (x2:=1000) (x3:=1000000000000000000000000000000) (fun z=>0 < z/\z<=10 ^ 30) (by decide) (by decide) (by decide) (by decide) (num.fdiv 8 % 4) (Int.emod_nonneg _ (by decide)) (Int.emod_lt_of_pos _ (by decide))
            refine aDx hl' et ?_
            refine aJ3 ht.1 ?_
            have m0:=Int.emod_nonneg (num.fdiv 64) (show t≠0 by omega)
            have m1:=Int.emod_lt_of_pos (num.fdiv 64) ht.1
            generalize num.fdiv 64 % t=mom at *
            have g1:=g0.sm st1
            walk_at "go"
            refine aCa (.inl g1.q.d) aHf ?_
            obtain ⟨vr,hvr,pvr⟩:=id g1.q.pq
            have hvl:=Paired.length pvr
            have hil:=g1.i.len
            walk_at "go"
            refine aAv fun p hp=>?_
            have st2:=aAo.new (o:=.tup [.int aa,.int mom]) hp
            have hp2:=aAb (H:=G1) (a:=p) (o:=.tup [.int aa,.int mom])
            generalize L2.upd G1 p (.tup [.int aa,.int mom])=G2 at st2 hp2 ⊢
            walk_at "go"
            refine aEw (st2 _ _ hvr) (by omega) ?_
            walk_at "go"
            exact hP' _ _ _ ⟨_,_,_,_,_,_,_,_,_,rfl,(g1.sm st2).pus (x:=(aa,mom)) (st2 _ _ hvr) (Pd.imp pvr fun v b f=>f.tk st2.tk) ⟨p,rfl,hp2⟩ ⟨a0,a1,m0,by omega⟩ nlp hrs⟩
          . walk_at "go"
            refine aIq ?_
            walk_at "go"
            refine aB7 fun l4 hl4=>?_
            have st1:=aAo.new (o:=.lst [V.int 12,V.int 30,V.int 1000,V.int 1000000000000000000000000000000]) hl4
            have hl':=aAb (H:=G0) (a:=l4) (o:=.lst [V.int 12,V.int 30,V.int 1000,V.int 1000000000000000000000000000000])
            generalize L2.upd G0 l4 (.lst [V.int 12,V.int 30,V.int 1000,V.int 1000000000000000000000000000000])=G1 at st1 hl' ⊢
            walk_at "go"
            obtain ⟨t,et,ht⟩:=at4 (x0:=12) (x1:=30) (x2:=1000) (x3:=1000000000000000000000000000000) (fun z=>0 < z/\z<=10 ^ 30) (by decide) (by decide) (by decide) (by decide) (bb % 4) (Int.emod_nonneg _ (by decide)) (Int.emod_lt_of_pos _ (by decide))
            refine aDx hl' et ?_
            refine aJ3 ht.1 ?_
            have m0:=Int.emod_nonneg (num.fdiv 512) (show t≠0 by omega)
            have m1:=Int.emod_lt_of_pos (num.fdiv 512) ht.1
            generalize num.fdiv 512 % t=mom at *
            have g1:=g0.sm st1
            walk_at "go"
            refine aCa (.inl g1.q.d) aD8 ?_
            obtain ⟨vr,hvr,pvr⟩:=id g1.q.tq
            obtain ⟨vz,hvz,pvz⟩:=id g1.q.rq
            have hvl:=Paired.length pvr
            have hzl:=Paired.length pvz
            have hil:=g1.i.len
            have hr0:0 < rs.length:=List.length_pos_iff.mpr hrs
            walk_at "go"
            refine aCa (.inl g1.q.d) aBt ?_
            walk_at "go"
            have w0:=Int.emod_nonneg (num.fdiv 8) (show (vz.length:Int)≠0 by omega)
            generalize num.fdiv 8 % (vz.length:Int)=wh at *
            walk_at "go"
            refine aAv fun p hp=>?_
            have st2:=aAo.new (o:=.tup [.int wh,.int mom]) hp
            have hp2:=aAb (H:=G1) (a:=p) (o:=.tup [.int wh,.int mom])
            generalize L2.upd G1 p (.tup [.int wh,.int mom])=G2 at st2 hp2 ⊢
            walk_at "go"
            refine aEw (st2 _ _ hvr) (by omega) ?_
            walk_at "go"
            exact hP' _ _ _ ⟨_,_,_,_,_,_,_,_,_,rfl,(g1.sm st2).tak (x:=(wh,mom)) (st2 _ _ hvr) (Pd.imp pvr fun v b f=>f.tk st2.tk) ⟨p,rfl,hp2⟩ ⟨w0,m0,by omega⟩ nlt hrs⟩
    rintro σ G ⟨rs,ps,ts,o5,o6,o7,o8,o9,o10,rfl,g⟩
    walk_at "go"
    have hi:=g.i
    have hil:=hi.len
    have hr0:0 < rs.length:=List.length_pos_iff.mpr (g.m (by omega))
    refine ⟨a,ns,2,rfl,(s2.trans g.s).seq hS,by decide,by decide,fun r3=>?_⟩
    walk_at "go"
    refine i_d (fun c=>?_) (fun c=>?_)
    . walk_at "go"
      refine ⟨dd,U,u,rs,ps,ts,ln,lr,lp,lt,_,rfl,g.q,hU2,hU8,by omega,nlr,nlp,nlt,g.n1,g.n2,fun H' i rs' kq hi9 hQ hl hok=>?_⟩
      walk_at "go"
      have hlH:H lr=none:=s2.free g.f1
      refine q dd H' (grown U i) u (rs++rs') ps ts ln lr lp lt hdH (fun b o h=>kq b o (aAe h hln) (aAe h hlH) ((s2.trans g.s) b o h)) ⟨hi.u0,hi.u1,aTq hUd hUq i,by rw [aDc]; omega,by rw [aDc]; omega,fun r hr=>?_,fun r hr=>?_,hi.tok,by rw [List.length_append]; omega,by rw [List.length_append]; omega,by omega,by omega⟩ hQ
      . rw [aDc]
        rcases List.mem_append.mp hr with h | h
        . have:=hi.rok r h
          omega
        . have:=hok r h
          omega
      . rw [aDc]
        have:=hi.pok r hr
        omega
    . walk_at "go"
      exact q dd G U u rs ps ts ln lr lp lt hdH (s2.trans g.s) ⟨hi.u0,hi.u1,hUd,hi.n2,by omega,hi.rok,hi.pok,hi.tok,by omega,by omega,by omega,by omega⟩ g.q
set_option maxHeartbeats 0 in
theorem bAw (T:Bl mg) (d:Df K mg "_law_net" aSs ["_law_here_here"]  ) (o_low:Okf P w K mg base k "_law_low" ["_law_top","_law_bottom"] aGh):Okf P w K mg base (k+1) "_law_net" ["_law_here_here"] aO6:=by
 refine Okf.of d aUm (fun vs H Q E h=>?_) (fun f cdv A outer s H vs Q E hr h=>?_)
 ·obtain ⟨dd,U,u,rs,ps,ts,ln,lr,lp,lt,rfl,_⟩:=h
  rfl
 ·obtain ⟨dd,U,u,rs,ps,ts,ln,lr,lp,lt,rfl,hI,hQ,q⟩:=h
  refine ⟨_,(@aAc _ _ _ _ _ (@aAk _ _ (i:=1) _ _ _ _ aUm.nd rfl (by first | exact Or.inl rfl | exact Or.inr rfl) (@aAp _ _ _ _ _ _ hr.u1 (pv 0) (@aAt _ _ _ _) (fun _ _=>rfl)) (by rfl) (by first | exact .inl rfl | exact .inr rfl | assumption)) (@aAh _ _ _ (@aAw _ _ _ _ (@aDi _ _ _ _ _ _ _ _ _ _ _ _ _ _ (@aC6 _ _ (sc:=aAg aSs) (N:=["_law_here_here","_law_names"]) (tn:=["_law_a","_law_b","_law_time_here"]) (names:=["_law_names","_law_here_here"]) (is:=[1,0]) rfl rfl (by decide +kernel) (by decide +kernel) rfl (by decide +kernel) rfl (by decide +kernel) (by decide +kernel) (by decide +kernel)) rfl (@aBx _ _ _ _ (@aAp _ _ _ _ _ _ hr.u1 (pv 0) (@aAt _ _ _ _) (fun _ _=>rfl))) (fun _ _ _ _=>(@aFy _ _ _ _ _ _ _ _ _ _ _ (n:=3) _ rfl (@aAn _ _ _ _ _ (@aAm _ _ (i:=0) _ (show (["_law_a","_law_b","_law_time_here","_law_names","_law_here_here"]:List Str).Nodup by decide +kernel) rfl (Or.inl rfl) (Or.inr rfl)) (@aAn _ _ _ _ _ (@aAm _ _ (i:=1) _ (show (["_law_a","_law_b","_law_time_here","_law_names","_law_here_here"]:List Str).Nodup by decide +kernel) rfl (Or.inl rfl) (Or.inr rfl)) (@aAn _ _ _ _ _ (@aAm _ _ (i:=2) _ (show (["_law_a","_law_b","_law_time_here","_law_names","_law_here_here"]:List Str).Nodup by decide +kernel) rfl (Or.inl rfl) (Or.inr rfl)) (@aBy _) (by rfl)) (by rfl)) (by rfl)) (by rfl) (by rfl))) (fun _ _ _ _=>(@aBa _ _ _ _ _ (@aAa _ _ _ _ _ (@aAz _ _ _ _ _ _ _ aH7 (pv 3) (pv 0) (fun _ _=>rfl)) (@aAa _ _ _ _ _ (@aAz _ _ _ _ _ _ _ aH7 (pv 3) (pv 1) (fun _ _=>rfl)) (@aAa _ _ _ _ _ (@aAi _ _ _ _ _ _ _ _ _ _ o_low hr rfl (@aAa _ _ _ _ _ (pv 2) (@aAa _ _ _ _ _ (@aAp _ _ _ _ _ _ hr.u1 (pv 4) (@aAt _ _ _ _) (fun _ _=>rfl)) (@aAd _) (by rfl)) (by rfl)) (by decide) (by rfl) (by rfl)) (@aAd _) (by rfl)) (by rfl)) (by rfl)))) (fun _ _ _ _=>(@aCs _)) (by intro _; rfl))))),?_⟩
  walk_at "go"
  refine aCa (.inl hQ.d) aB9 ?_
  walk_at "go"
  refine aCa (.inl hQ.d) aBt ?_
  obtain ⟨vr,hvr,pvr⟩:=id hQ.rq
  have hvl:vr.length=rs.length:=Paired.length pvr
  have hlen:=hI.rl
  walk_at "go"
  refine aBw (SqL.of hvr) ?_
  refine aLv (xs:=vr) (by omega) (fun acc i ys G=>Kp acc H G/\Paired (aHk G) ys (kn (aG5 U u (rs.take i)))) (fun acc h0=>⟨Kp.new h0,.nil⟩) ?_ ?_ ?_
  ·rintro acc i ys G h0 _ ⟨kp,_⟩
   exact SqL.of (kp _ _ (aAe hvr h0) hvr)
  ·rintro acc i ys G x h0 hx hyl hG ⟨kp,pn⟩
   obtain ⟨r,hr,p,rfl,hp⟩:=Paired.at pvr hx
   obtain ⟨r0,r1,r2,r3,r4,r5⟩:=hI.rok r (List.mem_of_getElem? hr)
   have hpG:G p=some (.tup [.int r.1,.int r.2.1,.int r.2.2]):=kp _ _ (aAe hp h0) hp
   have hnmG:=kp _ _ (aAe hQ.nm h0) hQ.nm
   have hdG:=kp _ _ (aAe hQ.d h0) hQ.d
   have es1:=aLz (U:=U) r0 r1
   have es2:=aLz (U:=U) r2 r3
   have hnt:=aWy (U:=U) (u:=u) hr
   generalize nmI U r.1=s1 at es1 hnt
   generalize nmI U r.2.1=s2 at es2 hnt
   have u0:=hI.u0
   have u1:=hI.u1
   refine ⟨p,_,_,_,rfl,hpG,?_⟩
   walk_at "go"
   refine aDx hnmG es1 ?_
   walk_at "go"
   refine aDx hnmG es2 ?_
   walk_at "go"
   refine aCa (.inl hdG) aHe ?_
   walk_at "go"
   refine ⟨r.2.2,u,rfl,u0,aXy (by omega) (by omega),aXy (by omega) (by omega),fun q1 hq1=>?_⟩
   have f1:FrQ (L2.upd G q1 (.tup [.int (aB1 r.2.2 u),.int (aB2 r.2.2 u)])) (.ref q1) (Rat.divInt r.2.2 u):=FrQ.low (by omega) aAb
   have t1:=aAo.new (o:=.tup [.int (aB1 r.2.2 u),.int (aB2 r.2.2 u)]) hq1
   generalize L2.upd G q1 (.tup [.int (aB1 r.2.2 u),.int (aB2 r.2.2 u)])=G1 at f1 t1 ⊢
   walk_at "go"
   refine aAv fun q2 hq2=>?_
   have t2:=t1.trans (aAo.new (o:=.tup [.str s1,.str s2,.ref q1]) hq2)
   have h2:=aAb (H:=G1) (a:=q2) (o:=.tup [.str s1,.str s2,.ref q1])
   have f2:=f1.tk (aAo.new (o:=.tup [.str s1,.str s2,.ref q1]) hq2).tk
   generalize L2.upd G1 q2 (.tup [.str s1,.str s2,.ref q1])=G2 at t2 h2 f2 ⊢
   have tk:=TK.lst (o:=.lst (ys++[.ref q2])) (t2 _ _ hG)
   refine aFj (List.getElem?_eq_some_iff.mp hx).1 hyl (t2 _ _ hG) ⟨(kp.trans t2.kp).trans Kp.upd,?_⟩
   rw [hnt]
   exact Pd.snoc (Pd.imp pn fun v b f=>(aHk.tk f t2.tk).tk tk) ⟨q2,.ref q1,rfl,tk _ _ h2,f2.tk tk⟩
  rintro acc ys G h0 hG hyl ⟨kp,pn⟩
  walk_at "go"
  rw [hvl,List.take_length] at pn
  exact q acc G h0 (fun b o h=>kp _ _ (aAe h h0) h) ⟨ys,hG,pn⟩
set_option maxHeartbeats 0 in
theorem aQd (T:Bl mg) (d:Df K mg "_law_pushes" aEg ["_law_here_here"]  ):Okf P w K mg base (k+1) "_law_pushes" ["_law_here_here"] aFs:=by
 refine Okf.of d aJz (fun vs H Q E h=>?_) (fun f cdv A outer s H vs Q E hr h=>?_)
 ·obtain ⟨dd,U,u,rs,ps,ts,ln,lr,lp,lt,rfl,_⟩:=h
  rfl
 ·obtain ⟨dd,U,u,rs,ps,ts,ln,lr,lp,lt,rfl,hI,hQ,q⟩:=h
  refine ⟨_,(@aAc _ _ _ _ _ (@aAk _ _ (i:=1) _ _ _ _ aJz.nd rfl (by first | exact Or.inl rfl | exact Or.inr rfl) (@aAj _ _ _ _ _ _ _ _ aAy (@aDi _ _ _ _ _ _ _ _ _ _ _ _ _ _ (@aC6 _ _ (sc:=aAg aEg) (N:=["_law_here_here","_law_used"]) (tn:=["_law_a","_law_b","_law_time_here"]) (names:=[]) (is:=[]) rfl rfl (by decide +kernel) (by decide +kernel) rfl (by decide +kernel) rfl (by decide +kernel) (by decide +kernel) (by decide +kernel)) rfl (@aBx _ _ _ _ (@aAp _ _ _ _ _ _ hr.u1 (pv 0) (@aAt _ _ _ _) (fun _ _=>rfl))) (fun _ _ _ _=>(@aFy _ _ _ _ _ _ _ _ _ _ _ (n:=3) _ rfl (@aAn _ _ _ _ _ (@aAm _ _ (i:=0) _ (show (["_law_a","_law_b","_law_time_here"]:List Str).Nodup by decide +kernel) rfl (Or.inl rfl) (Or.inr rfl)) (@aAn _ _ _ _ _ (@aAm _ _ (i:=1) _ (show (["_law_a","_law_b","_law_time_here"]:List Str).Nodup by decide +kernel) rfl (Or.inl rfl) (Or.inr rfl)) (@aAn _ _ _ _ _ (@aAm _ _ (i:=2) _ (show (["_law_a","_law_b","_law_time_here"]:List Str).Nodup by decide +kernel) rfl (Or.inl rfl) (Or.inr rfl)) (@aBy _) (by rfl)) (by rfl)) (by rfl)) (by rfl) (by rfl))) (fun _ _ _ _=>(pv 0)) (fun _ _ _ _=>(@aCs _)) (by intro _; rfl)) (@aDi _ _ _ _ _ _ _ _ _ _ _ _ _ _ (@aC6 _ _ (sc:=aAg aEg) (N:=["_law_here_here","_law_used"]) (tn:=["_law_a","_law_b","_law_time_here"]) (names:=[]) (is:=[]) rfl rfl (by decide +kernel) (by decide +kernel) rfl (by decide +kernel) rfl (by decide +kernel) (by decide +kernel) (by decide +kernel)) rfl (@aBx _ _ _ _ (@aAp _ _ _ _ _ _ hr.u1 (pv 0) (@aAt _ _ _ _) (fun _ _=>rfl))) (fun _ _ _ _=>(@aFy _ _ _ _ _ _ _ _ _ _ _ (n:=3) _ rfl (@aAn _ _ _ _ _ (@aAm _ _ (i:=0) _ (show (["_law_a","_law_b","_law_time_here"]:List Str).Nodup by decide +kernel) rfl (Or.inl rfl) (Or.inr rfl)) (@aAn _ _ _ _ _ (@aAm _ _ (i:=1) _ (show (["_law_a","_law_b","_law_time_here"]:List Str).Nodup by decide +kernel) rfl (Or.inl rfl) (Or.inr rfl)) (@aAn _ _ _ _ _ (@aAm _ _ (i:=2) _ (show (["_law_a","_law_b","_law_time_here"]:List Str).Nodup by decide +kernel) rfl (Or.inl rfl) (Or.inr rfl)) (@aBy _) (by rfl)) (by rfl)) (by rfl)) (by rfl) (by rfl))) (fun _ _ _ _=>(pv 1)) (fun _ _ _ _=>(@aCs _)) (by intro _; rfl))) (by rfl) (by first | exact .inl rfl | exact .inr rfl | assumption)) (@aAh _ _ _ (@aAw _ _ _ _ (@aDi _ _ _ _ _ _ _ _ _ _ _ _ _ _ (@aC6 _ _ (sc:=aAg aEg) (N:=["_law_here_here","_law_used"]) (tn:=["_law_a","_law_moment"]) (names:=["_law_used"]) (is:=[1]) rfl rfl (by decide +kernel) (by decide +kernel) rfl (by decide +kernel) rfl (by decide +kernel) (by decide +kernel) (by decide +kernel)) rfl (@aBx _ _ _ _ (@aAp _ _ _ _ _ _ hr.u1 (pv 0) (@aAt _ _ _ _) (fun _ _=>rfl))) (fun _ _ _ _=>(@aFy _ _ _ _ _ _ _ _ _ _ _ (n:=2) _ rfl (@aAn _ _ _ _ _ (@aAm _ _ (i:=0) _ (show (["_law_a","_law_moment","_law_used"]:List Str).Nodup by decide +kernel) rfl (Or.inl rfl) (Or.inr rfl)) (@aAn _ _ _ _ _ (@aAm _ _ (i:=1) _ (show (["_law_a","_law_moment","_law_used"]:List Str).Nodup by decide +kernel) rfl (Or.inl rfl) (Or.inr rfl)) (@aBy _) (by rfl)) (by rfl)) (by rfl) (by rfl))) (fun _ _ _ _=>(@aBa _ _ _ _ _ (@aAa _ _ _ _ _ (pv 0) (@aAa _ _ _ _ _ (pv 1) (@aAd _) (by rfl)) (by rfl)))) (fun _ _ _ _=>(@aWb _ _ _ (@aA2 _ _ _ _ _ _ _ _ aN2 (pv 0) (pv 2) (by with_unfolding_all rfl)))) (by intro _; rfl))))),?_⟩
  obtain ⟨vr,hvr,pvr⟩:=id hQ.rq
  have hvl:vr.length=rs.length:=Paired.length pvr
  have hlen:=hI.rl
  have hpl0:=hI.pl
  walk_at "go"
  refine aCa (.inl hQ.d) aBt ?_
  walk_at "go"
  refine aBw (SqL.of hvr) ?_
  refine aLv (xs:=vr) (by omega) (fun acc i ys G=>Kp acc H G/\ys=((rs.take i).map (·.1)).map V.int) (fun acc h0=>⟨Kp.new h0,rfl⟩) ?_ ?_ ?_
  ·rintro acc i ys G h0 _ ⟨kp,_⟩
   exact SqL.of (kp _ _ (aAe hvr h0) hvr)
  ·rintro acc i ys G x h0 hx hyl hG ⟨kp,rfl⟩
   obtain ⟨r,hr,p,rfl,hp⟩:=Paired.at pvr hx
   have hpG:G p=some (.tup [.int r.1,.int r.2.1,.int r.2.2]):=kp _ _ (aAe hp h0) hp
   refine ⟨p,_,_,_,rfl,hpG,?_⟩
   walk_at "go"
   exact aFj (List.getElem?_eq_some_iff.mp hx).1 hyl hG ⟨kp.trans Kp.upd,by rw [aDs hr,List.map_append,List.map_append]; rfl⟩
  rintro a1 ys1 G1 h1 hG1 hy1 ⟨kp1,rfl⟩
  have s1:aAo H G1:=fun b o h=>kp1 _ _ (aAe h h1) h
  have hQ1:=hQ.sm s1
  have hvr1:=s1 _ _ hvr
  have pvr1:=Pd.imp pvr fun v b f=>f.tk s1.tk
  walk_at "go"
  refine aCa (.inl hQ1.d) aBt ?_
  walk_at "go"
  refine aBw (SqL.of hvr1) ?_
  refine aLv (xs:=vr) (by omega) (fun acc i ys G=>Kp acc G1 G/\ys=((rs.take i).map (·.2.1)).map V.int) (fun acc h0=>⟨Kp.new h0,rfl⟩) ?_ ?_ ?_
  ·rintro acc i ys G h0 _ ⟨kp,_⟩
   exact SqL.of (kp _ _ (aAe hvr1 h0) hvr1)
  ·rintro acc i ys G x h0 hx hyl hG ⟨kp,rfl⟩
   obtain ⟨r,hr,p,rfl,hp⟩:=Paired.at pvr1 hx
   have hpG:G p=some (.tup [.int r.1,.int r.2.1,.int r.2.2]):=kp _ _ (aAe hp h0) hp
   refine ⟨p,_,_,_,rfl,hpG,?_⟩
   walk_at "go"
   exact aFj (List.getElem?_eq_some_iff.mp hx).1 hyl hG ⟨kp.trans Kp.upd,by rw [aDs hr,List.map_append,List.map_append]; rfl⟩
  rintro a2 ys2 G2 h2 hG2 hy2 ⟨kp2,rfl⟩
  have s2:aAo G1 G2:=fun b o h=>kp2 _ _ (aAe h h2) h
  rw [hvl,List.take_length] at hG1 hG2 hy1 hy2
  rw [List.length_map,List.length_map] at hy1 hy2
  walk_at "go"
  refine bB9 (s2 _ _ hG1) hG2 (by simp; omega) fun a3 h3=>?_
  rw [← List.map_append,show (List.map (fun x=>x.1) rs++List.map (fun x=>x.2.1) rs:List Int)=aK9 rs from rfl]
  have s3:=(s1.trans s2).trans (aAo.new (o:=.lst ((aK9 rs).map V.int)) h3)
  have hG3:=aAb (H:=G2) (a:=a3) (o:=.lst ((aK9 rs).map V.int))
  generalize L2.upd G2 a3 (.lst ((aK9 rs).map V.int))=G3 at s3 hG3 ⊢
  have hQ3:=hQ.sm s3
  obtain ⟨vp,hvp,pvp⟩:=id hQ3.pq
  have hpl:vp.length=ps.length:=Paired.length pvp
  walk_at "go"
  refine aCa (.inl hQ3.d) aHf ?_
  walk_at "go"
  refine aBw (SqL.of hvp) ?_
  refine aSy (xs:=vp) (by omega) (fun acc i ys G=>Kp acc G3 G/\Paired (aHl G) ys (aE5 rs (ps.take i))) (fun acc h0=>⟨Kp.new h0,.nil⟩) ?_ ?_ ?_
  ·rintro acc i ys G h0 _ ⟨kp,_⟩
   exact SqL.of (kp _ _ (aAe hvp h0) hvp)
  ·rintro acc i ys G x h0 hx hyl hG ⟨kp,pn⟩
   obtain ⟨r,hr,p,rfl,hp⟩:=Paired.at pvp hx
   have hi:=(List.getElem?_eq_some_iff.mp hx).1
   have hpG:G p=some (.tup [.int r.1,.int r.2]):=kp _ _ (aAe hp h0) hp
   have hzG:=kp _ _ (aAe hG3 h0) hG3
   refine ⟨p,_,_,rfl,hpG,?_⟩
   walk_at "go"
   refine r_inI hzG ?_
   walk_at "go"
   refine i_d (fun c=>?_) (fun c=>?_)
   ·walk_at "go"
    refine aAv fun q2 hq2=>?_
    have t2:=aAo.new (o:=.tup [.int r.1,.int r.2]) hq2
    have h2:=aAb (H:=G) (a:=q2) (o:=.tup [.int r.1,.int r.2])
    generalize L2.upd G q2 (.tup [.int r.1,.int r.2])=G4 at t2 h2 ⊢
    have tk:=TK.lst (o:=.lst (ys++[.ref q2])) (t2 _ _ hG)
    refine bBr hi hyl (t2 _ _ hG) ⟨(kp.trans t2.kp).trans Kp.upd,?_⟩
    rw [aWc hr c]
    exact Pd.snoc (Pd.imp pn fun v b f=>(f.tk t2.tk).tk tk) ⟨q2,rfl,tk _ _ h2⟩
   ·walk_at "go"
    refine bBq hi hyl hG ⟨kp,?_⟩
    rw [bAi hr c]
    exact pn
  rintro acc ys G h0 hG hyl ⟨kp,pn⟩
  walk_at "go"
  rw [hpl,List.take_length] at pn
  exact q acc G (s3.free h0) (s3.trans fun b o h=>kp _ _ (aAe h h0) h) ⟨ys,hG,pn⟩
set_option maxHeartbeats 0 in
theorem aTb (T:Bl mg) (d:Df K mg "_law_taken" aLl ["_law_here_here"]  ):Okf P w K mg base (k+1) "_law_taken" ["_law_here_here"] aLc:=by
 refine Okf.of d aGj (fun vs H Q E h=>?_) (fun f cdv A outer s H vs Q E hr h=>?_)
 ·obtain ⟨dd,U,u,rs,ps,ts,ln,lr,lp,lt,rfl,_⟩:=h
  rfl
 ·obtain ⟨dd,U,u,rs,ps,ts,ln,lr,lp,lt,rfl,hI,hQ,q⟩:=h
  refine ⟨_,(@aAc _ _ _ _ _ (@aAk _ _ (i:=1) _ _ _ _ aGj.nd rfl (by first | exact Or.inl rfl | exact Or.inr rfl) (@aFc _ _) (by rfl) (by first | exact .inl rfl | exact .inr rfl | assumption)) (@aAc _ _ _ _ _ (@aCx _ _ _ _ _ _ _ _ PassesOwn.never rfl (@aBx _ _ _ _ (@aAp _ _ _ _ _ _ hr.u1 (pv 0) (@aAt _ _ _ _) (fun _ _=>rfl))) (@aD1 _ _ _ _ _ (n:=2) rfl (@aAn _ _ _ _ _ (@aAm _ _ (i:=2) _ aGj.nd rfl (by first | exact Or.inl rfl | exact Or.inr rfl) (by first | exact .inl rfl | exact .inr rfl | assumption)) (@aAn _ _ _ _ _ (@aAm _ _ (i:=3) _ aGj.nd rfl (by first | exact Or.inl rfl | exact Or.inr rfl) (by first | exact .inl rfl | exact .inr rfl | assumption)) (@aBy _) (by rfl)) (by rfl)) (by rfl) (by rfl)) (@aAh _ _ _ (@aFx _ _ _ _ _ _ _ _ _ hr.u1 (pv 1) (pv 2) (@aAs _ _ _ _ _ _ _ _ _ (aXq rfl) rfl T.z_min aR0 (@aAa _ _ _ _ _ (pv 3) (@aAa _ _ _ _ _ (@aEh _ _ _ _ _ _ _ _ _ hr.u1 (pv 1) (pv 2) (pv 3) ⟨rfl,rfl,rfl,rfl⟩) (@aAd _) (by rfl)) (by rfl)) (by decide) (by decide) (by rfl) (by rfl)) rfl)) (by intro _; rfl)) (@aAh _ _ _ (@aAw _ _ _ _ (pv 1))))),?_⟩
  have htl:=hI.tl
  walk_at "go"
  refine aJ4 fun d hd=>?_
  have s0:=aAo.new (o:=.dK []) hd
  have hd0:=aAb (H:=H) (a:=d) (o:=.dK [])
  generalize L2.upd H d (.dK [])=H0 at s0 hd0 ⊢
  have hQ0:=hQ.sm s0
  obtain ⟨vt,hvt,pvt⟩:=id hQ0.tq
  have hvl:vt.length=ts.length:=Paired.length pvt
  walk_at "go"
  refine aCa (.inl hQ0.d) aD8 ?_
  walk_at "go"
  refine aBw (SqL.of hvt) ?_
  have hdt:∀ {p:Addr} {o:HO},H0 p=some o->(∀ kv,o≠.dK kv)->p≠d:=fun {p o} h n e=>by rw [e,hd0] at h; cases h; exact n _ rfl
  refine aGv (xs:=vt) (fun i σ H1=>∃ (o2 o3:Option V) (D:AL Key Int),σ=[some (.ref dd),some (.ref d),o2,o3]/\Kp d H0 H1/\DQ IQ H1 d D/\TkT u D (tsU u (ts.take i))/\D.length<=i/\∀ x∈D,0<=x.2/\x.2<=10 ^ 30) ⟨_,_,[],rfl,Kp.refl _ _,⟨[],hd0,.nil⟩,fun k=>rfl,Nat.le_refl _,fun _ h=>nomatch h⟩ ?_ ?_ ?_
  ·rintro i σ H1 _ ⟨o2,o3,D,rfl,kp,_⟩
   exact SqL.of (kp _ _ (hdt hvt (by intro kv z; cases z)) hvt)
  ·intro P' rt' bk' hP'
   rintro i x σ H1 hx ⟨o2,o3,D,rfl,kp,⟨kv,hkv,kq⟩,TT,hDl,hDb⟩
   obtain ⟨r,hr,p,rfl,hp⟩:=Paired.at pvt hx
   have hi:=(List.getElem?_eq_some_iff.mp hx).1
   obtain ⟨r1,r2,r3⟩:=hI.tok r (List.mem_of_getElem? hr)
   have hp1:=kp _ _ (hdt hp (by intro kv z; cases z)) hp
   walk_at "go"
   refine ⟨d,rfl,.inl ⟨kv,.inl hkv⟩,?_⟩
   walk_at "go"
   refine ⟨_,.inl ⟨kv,Sum.inl r.1,.inl hkv,rfl,rfl⟩,?_⟩
   rw [aNe kq]
   walk_at "go"
   rw [bA1]
   have hkl:=kq.len
   refine aJ5 (c:=Sum.inl r.1) hkv (by omega) ?_
   walk_at "go"
   refine hP' _ _ _ ⟨_,_,lsI D r,rfl,kp.trans Kp.upd,⟨_,aAb,(kq.put rfl).imp fun v b f=>f⟩,?_,Nat.le_trans (aIc _ _ _) (by omega),aQs (P:=fun z=>0<=z/\z<=10 ^ 30) hDb ⟨r2,r3⟩⟩
   rw [aT6 hr]
   exact TT.step hI.u0
  rintro σ H1 ⟨o2,o3,D,rfl,kp,dq,TT,hDl,hDb⟩
  walk_at "go"
  rw [hvl,List.take_length] at TT
  exact q d H1 D hd (fun b o h=>kp _ _ (aAe h hd) (s0 _ _ h)) dq TT hDb
set_option maxHeartbeats 0 in
theorem bA0 (T:Bl mg) (d:Df K mg "_law_due" aVp ["_law_here_here"]  ) (o_pushes:Okf P w K mg base k "_law_pushes" ["_law_here_here"] aFs) (o_taken:Okf P w K mg base k "_law_taken" ["_law_here_here"] aLc):Okf P w K mg base (k+1) "_law_due" ["_law_here_here"] aYu:=by
 refine Okf.of d aCq (fun vs H Q E h=>?_) (fun f cdv A outer s H vs Q E hr h=>?_)
 ·obtain ⟨dd,U,u,rs,ps,ts,ln,lr,lp,lt,rfl,_⟩:=h
  rfl
 ·obtain ⟨dd,U,u,rs,ps,ts,ln,lr,lp,lt,rfl,hI,hQ,q⟩:=h
  refine ⟨_,(@aAc _ _ _ _ _ (@aAk _ _ (i:=1) _ _ _ _ aCq.nd rfl (by first | exact Or.inl rfl | exact Or.inr rfl) (@aAi _ _ _ _ _ _ _ _ _ _ o_taken hr rfl (@aAa _ _ _ _ _ (pv 0) (@aAd _) (by rfl)) (by decide) (by rfl) (by rfl)) (by rfl) (by first | exact .inl rfl | exact .inr rfl | assumption)) (@aAc _ _ _ _ _ (@aAk _ _ (i:=2) _ _ _ _ aCq.nd rfl (by first | exact Or.inl rfl | exact Or.inr rfl) (@aFc _ _) (by rfl) (by first | exact .inl rfl | exact .inr rfl | assumption)) (@aAc _ _ _ _ _ (@aCx _ _ _ _ _ _ _ _ PassesOwn.never rfl (@aBx _ _ _ _ (@aAi _ _ _ _ _ _ _ _ _ _ o_pushes hr rfl (@aAa _ _ _ _ _ (pv 0) (@aAd _) (by rfl)) (by decide) (by rfl) (by rfl))) (@aD1 _ _ _ _ _ (n:=2) rfl (@aAn _ _ _ _ _ (@aAm _ _ (i:=3) _ aCq.nd rfl (by first | exact Or.inl rfl | exact Or.inr rfl) (by first | exact .inl rfl | exact .inr rfl | assumption)) (@aAn _ _ _ _ _ (@aAm _ _ (i:=4) _ aCq.nd rfl (by first | exact Or.inl rfl | exact Or.inr rfl) (by first | exact .inl rfl | exact .inr rfl | assumption)) (@aBy _) (by rfl)) (by rfl)) (by rfl) (by rfl)) (@aAh _ _ _ (@aFx _ _ _ _ _ _ _ _ _ hr.u1 (pv 2) (pv 3) (@aAs _ _ _ _ _ _ _ _ _ (aXq rfl) rfl T.z_min aR0 (@aAa _ _ _ _ _ (pv 4) (@aAa _ _ _ _ _ (@aEh _ _ _ _ _ _ _ _ _ hr.u1 (pv 2) (pv 3) (pv 4) ⟨rfl,rfl,rfl,rfl⟩) (@aAd _) (by rfl)) (by rfl)) (by decide) (by decide) (by rfl) (by rfl)) rfl)) (by intro _; rfl)) (@aAc _ _ _ _ _ (@aAk _ _ (i:=5) _ _ _ _ aCq.nd rfl (by first | exact Or.inl rfl | exact Or.inr rfl) (@aJ6 _ _ _ _) (by rfl) (by first | exact .inl rfl | exact .inr rfl | assumption)) (@aAc _ _ _ _ _ (@aGk _ _ _ _ _ _ PassesOwn.never (@aC4 _ _ _ (pv 5) (by intro _; rfl)) (@aAc _ _ _ _ _ (@aAk _ _ (i:=5) _ _ _ _ aCq.nd rfl (by first | exact Or.inl rfl | exact Or.inr rfl) (@aJ6 _ _ _ _) (by rfl) (by first | exact .inl rfl | exact .inr rfl | assumption)) (@aAc _ _ _ _ _ (@aAk _ _ (i:=6) _ _ _ _ aCq.nd rfl (by first | exact Or.inl rfl | exact Or.inr rfl) (@aWk _ _ _ _ _ _ _ rfl rfl T.z_list rfl T.z_range (@aAa _ _ _ _ _ (@aAs _ _ _ _ _ _ _ _ _ aGe rfl T.z_len aDm (@aAa _ _ _ _ _ (@aAp _ _ _ _ _ _ hr.u1 (pv 0) (@aAt _ _ _ _) (fun _ _=>rfl)) (@aAd _) (by rfl)) (by decide) (by decide) (by rfl) (by rfl)) (@aAd _) (by rfl)) (by rfl) (by rfl)) (by rfl) (by first | exact .inl rfl | exact .inr rfl | assumption)) (@aAh _ _ _ (@aCx _ _ _ _ _ _ _ _ PassesOwn.never rfl (@aBx _ _ _ _ (@aAj _ _ _ _ _ _ _ _ aAy (pv 6) (@bAn _ _ _ _ _ _ _ _ (pv 6)))) (@aAm _ _ (i:=7) _ aCq.nd rfl (by first | exact Or.inl rfl | exact Or.inr rfl) (by first | exact .inl rfl | exact .inr rfl | assumption)) (@aAc _ _ _ _ _ (@aPu _ _ _ _ _ _ (@aAz _ _ _ _ _ _ _ aA0 (@aAp _ _ _ _ _ _ hr.u1 (pv 0) (@aAt _ _ _ _) (fun _ _=>rfl)) (pv 7) (fun _ _=>rfl)) (@aD1 _ _ _ _ _ (n:=3) rfl (@aAn _ _ _ _ _ (@aAm _ _ (i:=8) _ aCq.nd rfl (by first | exact Or.inl rfl | exact Or.inr rfl) (by first | exact .inl rfl | exact .inr rfl | assumption)) (@aAn _ _ _ _ _ (@aAm _ _ (i:=9) _ aCq.nd rfl (by first | exact Or.inl rfl | exact Or.inr rfl) (by first | exact .inl rfl | exact .inr rfl | assumption)) (@aAn _ _ _ _ _ (@aAm _ _ (i:=10) _ aCq.nd rfl (by first | exact Or.inl rfl | exact Or.inr rfl) (by first | exact .inl rfl | exact .inr rfl | assumption)) (@aBy _) (by rfl)) (by rfl)) (by rfl)) (by rfl) (by rfl)) (by rfl) (by rfl) (by rfl)) (@aAh _ _ _ (@aCx _ _ _ _ _ _ _ _ PassesOwn.never rfl (@aBx _ _ _ _ (@aB8 _ _ _ _ (@aAa _ _ _ _ _ (@aBa _ _ _ _ _ (@aAa _ _ _ _ _ (pv 8) (@aAa _ _ _ _ _ (pv 9) (@aAd _) (by rfl)) (by rfl))) (@aAa _ _ _ _ _ (@aBa _ _ _ _ _ (@aAa _ _ _ _ _ (pv 9) (@aAa _ _ _ _ _ (pv 8) (@aAd _) (by rfl)) (by rfl))) (@aAd _) (by rfl)) (by rfl)))) (@aD1 _ _ _ _ _ (n:=2) rfl (@aAn _ _ _ _ _ (@aAm _ _ (i:=11) _ aCq.nd rfl (by first | exact Or.inl rfl | exact Or.inr rfl) (by first | exact .inl rfl | exact .inr rfl | assumption)) (@aAn _ _ _ _ _ (@aAm _ _ (i:=12) _ aCq.nd rfl (by first | exact Or.inl rfl | exact Or.inr rfl) (by first | exact .inl rfl | exact .inr rfl | assumption)) (@aBy _) (by rfl)) (by rfl)) (by rfl) (by rfl)) (@aAh _ _ _ (@aB3 _ _ _ _ _ _ _ _ (@aEn _ _ _ _ _ _ (@aG2 _ _ _ _ _ hr.u1 (pv 11) (pv 2)) (by first | exact nobehind _ (by decide) (by decide) | rfl)) (@aAc _ _ _ _ _ (@aAk _ _ (i:=13) _ _ _ _ aCq.nd rfl (by first | exact Or.inl rfl | exact Or.inr rfl) (@aAj _ _ _ _ _ _ _ _ aAy (@aAp _ _ _ _ _ _ hr.u1 (pv 2) (pv 11) (fun _ _=>rfl)) (pv 10)) (by rfl) (by first | exact .inl rfl | exact .inr rfl | assumption)) (@aAh _ _ _ (@aB3 _ _ _ _ _ _ _ _ (@PW.pt _ _ _ (@aGy _ _ _ _ _ _ _ (@aA2 _ _ _ _ _ _ _ _ op_le (pv 13) (@aEh _ _ _ _ _ _ _ _ _ hr.u1 (pv 1) (pv 7) (pv 13) ⟨rfl,rfl,rfl,rfl⟩) (aA4 _)) (@aEx _ _ _ _ (@aA2 _ _ _ _ _ _ _ _ aL0 (pv 13) (@aEh _ _ _ _ _ _ _ _ _ hr.u1 (pv 2) (pv 12) (@aAj _ _ _ _ _ _ _ _ aAy (pv 13) (@aAf _ _ _ _)) ⟨rfl,rfl,rfl,rfl⟩) (aA4 _))))) (@aAc _ _ _ _ _ (@aFx _ _ _ _ _ _ _ _ _ hr.u1 (pv 2) (pv 12) (pv 13) rfl) (@aAh _ _ _ (@aAk _ _ (i:=5) _ _ _ _ aCq.nd rfl (by first | exact Or.inl rfl | exact Or.inr rfl) (@aJ6 _ _ _ _) (by rfl) (by first | exact .inl rfl | exact .inr rfl | assumption)))) (@aA5 _)))) (@aA5 _))) (by intro _; rfl)))) (by intro _; rfl)))))) (@aAh _ _ _ (@aAw _ _ _ _ (pv 2)))))))),?_⟩
  have hpl0:=hI.pl
  have hrl:=hI.rl
  have hsl:=aLx rs ps
  walk_at "go"
  refine ⟨dd,U,u,rs,ps,ts,ln,lr,lp,lt,rfl,hI,hQ,fun dT H1 TB hdT s1 tq TT hTb=>?_⟩
  walk_at "go"
  refine aJ4 fun d hd=>?_
  have hdH:H d=none:=s1.free hd
  have s01:=aAo.new (o:=.dK []) hd
  have hd0:=aAb (H:=H1) (a:=d) (o:=.dK [])
  have tq0:=tq.sm IQ.tk s01
  generalize L2.upd H1 d (.dK [])=H2 at s01 hd0 tq0 ⊢
  have s2:=s1.trans s01
  have hQ2:=hQ.sm s2
  walk_at "go"
  refine ⟨dd,U,u,rs,ps,ts,ln,lr,lp,lt,rfl,hI,hQ2,fun lq H3 hlq s3 lq3=>?_⟩
  have hd3:=s3 _ _ hd0
  have tq3:=tq0.sm IQ.tk s3
  have hQ3:=hQ2.sm s3
  have s03:=s2.trans s3
  obtain ⟨vt,hvt,pvt⟩:=id lq3
  have hvl:vt.length=(aE5 rs ps).length:=Paired.length pvt
  have hdt:∀ {p:Addr} {o:HO},H3 p=some o->(∀ kv,o≠.dK kv)->p≠d:=fun {p o} h n e=>by rw [e,hd3] at h; cases h; exact n _ rfl
  have hdTd:dT≠d:=by
   obtain ⟨kt,hkt,_⟩:=tq
   exact aAe hkt hd
  walk_at "go"
  refine aBw (SqL.of hvt) ?_
  refine aGv (xs:=vt) (fun i σ H4=>∃ (o2 o3:Option V) (D:AL Key Int),σ=[some (.ref dd),some (.ref dT),some (.ref d),o2,o3,none,none,none,none,none,none,none,none,none]/\Kp d H3 H4/\DQ IQ H4 d D/\mT U u D=aBf (lst (psU U u ((aE5 rs ps).take i)))/\D.length<=i/\(∀ x∈D,0<=x.2/\x.2<=10 ^ 30)/\(D.map (·.1)).Nodup/\∀ x∈D,∃ i:Nat,x.1=Sum.inl (i:Int)/\i < U.length) ⟨_,_,[],rfl,Kp.refl _ _,⟨[],hd3,.nil⟩,by funext p; exact aW2,Nat.le_refl _,(fun _ h=>nomatch h),List.nodup_nil,fun _ h=>nomatch h⟩ ?_ ?_ ?_
  ·rintro i σ H4 _ ⟨o2,o3,D,rfl,kp,_⟩
   exact SqL.of (kp _ _ (hdt hvt (by intro kv z; cases z)) hvt)
  ·intro P' rt' bk' hP'
   rintro i x σ H1 hx ⟨o2,o3,D,rfl,kp,⟨kv,hkv,kq⟩,TT,hDl,hDb,hDn,hDk⟩
   obtain ⟨r,hr,p,rfl,hp⟩:=Paired.at pvt hx
   have hi:=(List.getElem?_eq_some_iff.mp hx).1
   obtain ⟨r1,r2,r3,r4⟩:=hI.pok r (aLw (List.mem_of_getElem? hr))
   have hp1:=kp _ _ (hdt hp (by intro kv z; cases z)) hp
   walk_at "go"
   refine ⟨d,rfl,.inl ⟨kv,.inl hkv⟩,?_⟩
   walk_at "go"
   refine ⟨_,.inl ⟨kv,Sum.inl r.1,.inl hkv,rfl,rfl⟩,?_⟩
   rw [aNe kq]
   walk_at "go"
   rw [bA1]
   have hkl:=kq.len
   refine aJ5 (c:=Sum.inl r.1) hkv (by omega) ?_
   walk_at "go"
   refine hP' _ _ _ ⟨_,_,lsI D r,rfl,kp.trans Kp.upd,⟨_,aAb,(kq.put rfl).imp fun v b f=>f⟩,?_,Nat.le_trans (aIc _ _ _) (by omega),aQs (P:=fun z=>0<=z/\z<=10 ^ 30) hDb ⟨r3,r4⟩,bA3 hDn,aW3 (P:=fun k=>∃ i:Nat,k=Sum.inl (i:Int)/\i < U.length) hDk ⟨r.1.toNat,by congr 1; omega,by omega⟩⟩
   rw [aUp hr]
   exact bA2 hI.nd hI.u0 r1 r2 TT
  rintro σ H4 ⟨o2,o3,D0,rfl,kp4,dq4,TT0,hDl,hDb,hDn,hDk⟩
  rw [hvl,List.take_length] at TT0
  have du0:DuS U u rs (psU U u (aE5 rs ps)) (aC8 (tsU u ts)) D0:=DuS.start hDn hDk hDb TT0
  clear TT0 hDl hDb hDn hDk
  have kp4':=kp4
  have ndd:dd≠d:=aAe (s1 _ _ hQ.d) hd
  obtain ⟨kT,hkT,kqT⟩:=id tq3
  have fin:∀ {G:Hp},Kp d H3 G->aAo H G:=fun {G} k b o h=>k _ _ (aAe h hdH) (s03 _ _ h)
  have e2:∀ {G G':Hp},Kp d H3 G->aAo G G'->Kp d H3 G':=fun {G G'} k s b o n h=>s _ _ (k b o n h)
  walk_at "go"
  refine r_whl (fun m σ G=>∃ (c:Bool) (D:AL Key Int) (o3 o4 o6 o7 o8 o9 o10 o11 o12 o13:Option V),σ=[some (.ref dd),some (.ref dT),some (.ref d),o3,o4,some (.bl c),o6,o7,o8,o9,o10,o11,o12,o13]/\Kp d H3 G/\DQ IQ G d D/\DuS U u rs (psU U u (aE5 rs ps)) (aC8 (tsU u ts)) D/\(c=false->∀ k,Cl2 (aC8 (tsU u ts)) u rs k D)/\m=2 * mu U.length D+(if c=true then 1 else 0)) ⟨true,D0,_,_,_,_,_,_,_,_,_,_,rfl,kp4',dq4,du0,(fun z=>nomatch z),rfl⟩ ?_
  rintro m σ G ⟨c,D1,o3,o4,o6,o7,o8,o9,o10,o11,o12,o13,rfl,kG,dG,duG,clG,rfl⟩
  cases c with
  | false =>
   walk_at "go"
   exact q d G D1 hdH (fin kG) dG duG (duG.falls hI.nd hI.u0 hI.rok (clG rfl))
  | true =>
   walk_at "go"
   refine ⟨fun σ G=>∃ (c:Bool) (D:AL Key Int) (o3 o4 o6 o7 o8 o9 o10 o11 o12 o13:Option V),σ=[some (.ref dd),some (.ref dT),some (.ref d),o3,o4,some (.bl c),o6,o7,o8,o9,o10,o11,o12,o13]/\Kp d H3 G/\DQ IQ G d D/\Pas U u rs (psU U u (aE5 rs ps)) (aC8 (tsU u ts)) D1 D c (∀ k,Cl2 (aC8 (tsU u ts)) u rs k D1),?_,?_⟩
   ·rintro σ' G' ⟨c,D,o3,o4,o6,o7,o8,o9,o10,o11,o12,o13,rfl,k',d',pa⟩
    refine ⟨_,?_,c,D,_,_,_,_,_,_,_,_,_,_,rfl,k',d',pa.d,fun z=>?_,rfl⟩
    ·cases c with
     | true =>
      have:=pa.ch rfl
      simp only [if_true]
      omega
     | false =>
      have:=pa.le
      simp only [if_true,Bool.false_eq_true,if_false]
      omega
    ·obtain ⟨e,cl⟩:=pa.st z
     rw [e]
     exact cl
   have hQG:=hQ3
   obtain ⟨vr,hvr,pvr⟩:=id hQ3.rq
   have hvrl:vr.length=rs.length:=Paired.length pvr
   have hdG:G dd=some (.dK (aGd ln u lr lp lt)):=kG _ _ ndd hQ3.d
   have hvrG:G lr=some (.lst vr):=kG _ _ (hdt hvr (by intro kv z; cases z)) hvr
   walk_at "go"
   refine aCa (.inl hdG) aBt ?_
   walk_at "go"
   refine ⟨rs.length,by rw [hvrl],by omega,fun l1 hl1=>?_⟩
   have t1:=aAo.new (o:=.lst (aLq rs.length)) hl1
   have hG1:=aAb (H:=G) (a:=l1) (o:=.lst (aLq rs.length))
   generalize L2.upd G l1 (.lst (aLq rs.length))=G1 at t1 hG1 ⊢
   walk_at "go"
   refine r_rev ?_
   walk_at "go"
   refine ⟨l1,_,rfl,hG1,fun l2 hl2=>?_⟩
   have t2:=aAo.new (o:=.lst (aLq rs.length).reverse) hl2
   have hG2:=aAb (H:=G1) (a:=l2) (o:=.lst (aLq rs.length).reverse)
   generalize L2.upd G1 l2 (.lst (aLq rs.length).reverse)=G2 at t2 hG2 ⊢
   walk_at "go"
   refine bB9 (t2 _ _ hG1) hG2 (by simp [aLq]; omega) fun l3 hl3=>?_
   obtain ⟨L,hL⟩:∃ L:List Nat,List.range rs.length++(List.range rs.length).reverse=L:=⟨_,rfl⟩
   have eL:aLq rs.length++(aLq rs.length).reverse=L.map fun (k:Nat)=>V.int (k:Int):=by
    rw [← hL,List.map_append,List.map_reverse]
    rfl
   have Lk:∀ k∈L,k < rs.length:=fun k hk=>by
    rw [← hL] at hk
    rcases List.mem_append.mp hk with h | h
    ·exact List.mem_range.mp h
    ·exact List.mem_range.mp (List.mem_reverse.mp h)
   have Lk2:∀ k,k < rs.length->k∈L:=fun k hk=>by
    rw [← hL]
    exact List.mem_append_left _ (List.mem_range.mpr hk)
   clear hL
   rw [eL]
   have t3:=aAo.new (o:=.lst (L.map fun (k:Nat)=>V.int (k:Int))) hl3
   have hG3:=aAb (H:=G2) (a:=l3) (o:=.lst (L.map fun (k:Nat)=>V.int (k:Int)))
   generalize L2.upd G2 l3 (.lst (L.map fun (k:Nat)=>V.int (k:Int)))=G3 at t3 hG3 ⊢
   have t123:=(t1.trans t2).trans t3
   have kG3:=e2 kG t123
   have dG3:=dG.sm IQ.tk t123
   have ndl:l3≠d:=by
    obtain ⟨_,z,_⟩:=id dG
    exact Ne.symm (aAe ((t1.trans t2) _ _ z) hl3)
   clear t1 t2 t3 t123 hG1 hG2 hl1 hl2 hl3 eL hdG hvrG
   walk_at "go"
   refine aBw (SqL.of hG3) ?_
   refine aGv (xs:=L.map fun (k:Nat)=>V.int (k:Int)) (fun i σ F=>∃ (c:Bool) (D:AL Key Int) (o3 o4 o6 o7 o8 o9 o10 o11 o12 o13:Option V),σ=[some (.ref dd),some (.ref dT),some (.ref d),o3,o4,some (.bl c),o6,o7,o8,o9,o10,o11,o12,o13]/\Kp d G3 F/\DQ IQ F d D/\Pas U u rs (psU U u (aE5 rs ps)) (aC8 (tsU u ts)) D1 D c (∀ k∈L.take i,Cl2 (aC8 (tsU u ts)) u rs k D1)) ⟨false,D1,_,_,_,_,_,_,_,_,_,_,rfl,Kp.refl _ _,dG3,⟨duG,Nat.le_refl _,(fun z=>nomatch z),fun _=>⟨rfl,fun k hk=>(by simp at hk)⟩⟩⟩ ?_ ?_ ?_
   ·rintro i σ F _ ⟨c,D,o3,o4,o6,o7,o8,o9,o10,o11,o12,o13,rfl,kF,_⟩
    exact SqL.of (kF _ _ ndl hG3)
   ·intro P' rt' bk' hP'
    rintro i x σ F hx ⟨c,D,o3,o4,o6,o7,o8,o9,o10,o11,o12,o13,rfl,kF,dF,pa⟩
    rw [List.getElem?_map] at hx
    cases hk:L[i]? with
    | none=>rw [hk] at hx; cases hx
    | some k =>
     rw [hk] at hx
     cases hx
     have hkn:=Lk k (List.mem_of_getElem? hk)
     obtain ⟨r,hr⟩:∃ r,rs[k]?=some r:=⟨_,List.getElem?_eq_getElem hkn⟩
     have rok:=hI.rok r (List.mem_of_getElem? hr)
     obtain ⟨vx,hvx,p,rfl,hp⟩:=aM7 pvr hr
     have kF3:Kp d H3 F:=kG3.trans kF
     have hdF:F dd=some (.dK (aGd ln u lr lp lt)):=kF3 _ _ ndd hQ3.d
     have hvrF:F lr=some (.lst vr):=kF3 _ _ (hdt hvr (by intro kv z; cases z)) hvr
     have hpF:=kF3 _ _ (hdt hp (by intro kv z; cases z)) hp
     walk_at "go"
     refine aCa (.inl hdF) aBt ?_
     walk_at "go"
     refine aDx hvrF (aF4 hvx) ?_
     walk_at "go"
     refine aAv fun p1 hp1=>?_
     walk_at "go"
     refine aAv fun p2 hp2=>?_
     walk_at "go"
     refine aB7 fun l4 hl4=>?_
     have y1:=aAo.new (o:=.tup [.int r.1,.int r.2.1]) hp1
     have y2:=aAo.new (o:=.tup [.int r.2.1,.int r.1]) hp2
     have y3:=aAo.new (o:=.lst [.ref p1,.ref p2]) hl4
     have z1:=y3 _ _ (y2 _ _ (aAb (H:=F) (a:=p1) (o:=.tup [.int r.1,.int r.2.1])))
     have z2:=y3 _ _ (aAb (H:=L2.upd F p1 (.tup [.int r.1,.int r.2.1])) (a:=p2) (o:=.tup [.int r.2.1,.int r.1]))
     have z3:=aAb (H:=L2.upd (L2.upd F p1 (.tup [.int r.1,.int r.2.1])) p2 (.tup [.int r.2.1,.int r.1])) (a:=l4) (o:=.lst [.ref p1,.ref p2])
     have y123:=(y1.trans y2).trans y3
     generalize L2.upd (L2.upd (L2.upd F p1 (.tup [.int r.1,.int r.2.1])) p2 (.tup [.int r.2.1,.int r.1])) l4 (.lst [.ref p1,.ref p2])=F3 at z1 z2 z3 y123 ⊢
     clear y1 y2 y3 hp1 hp2 hl4
     have dF3:=dF.sm IQ.tk y123
     have kF33:=e2 kF3 y123
     have kGF:Kp d G3 F3:=fun b o n h=>y123 _ _ (kF b o n h)
     have nf:∀ {p:Addr} {o:HO},F3 p=some o->(∀ kv,o≠.dK kv)->p≠d:=fun {p o} h n e=>by
      obtain ⟨kv,z,_⟩:=id dF3
      rw [e,z] at h
      cases h
      exact n _ rfl
     obtain ⟨dr,hdr⟩:∃ dr:Nat->Int×Int,dr=fun j=>if j=0 then (r.1,r.2.1) else (r.2.1,r.1):=⟨_,rfl⟩
     have d0:dr 0=(r.1,r.2.1):=by rw [hdr]; rfl
     have d1:dr 1=(r.2.1,r.1):=by rw [hdr]; rfl
     have hdir:∀ (j:Nat) (x:V),([V.ref p1,.ref p2]:List V)[j]?=some x->∃ t,x=.ref t/\F3 t=some (.tup [.int (dr j).1,.int (dr j).2])/\((r.1=(dr j).1/\r.2.1=(dr j).2)∨(r.2.1=(dr j).1/\r.1=(dr j).2)):=by
      intro j x hx
      match j,hx with
      | 0,hx=>cases hx; exact ⟨p1,rfl,by rw [d0]; exact z1,.inl (by rw [d0]; exact ⟨rfl,rfl⟩)⟩
      | 1,hx=>cases hx; exact ⟨p2,rfl,by rw [d1]; exact z2,.inr (by rw [d1]; exact ⟨rfl,rfl⟩)⟩
      | j+2,hx=>simp at hx
     clear hdr z1 z2 dF kF hpF hdF hvrF
     walk_at "go"
     refine aBw (SqL.of z3) ?_
     refine aGv (xs:=[V.ref p1,.ref p2]) (fun j σ F=>∃ (c:Bool) (D:AL Key Int) (o3 o4 o6 o11 o12 o13:Option V),σ=[some (.ref dd),some (.ref dT),some (.ref d),o3,o4,some (.bl c),o6,some (.int (k:Int)),some (.int r.1),some (.int r.2.1),some (.int r.2.2),o11,o12,o13]/\Kp d F3 F/\DQ IQ F d D/\Pas U u rs (psU U u (aE5 rs ps)) (aC8 (tsU u ts)) D1 D c ((∀ k∈L.take i,Cl2 (aC8 (tsU u ts)) u rs k D1)/\∀ j' < j,Cl1 (aC8 (tsU u ts)) u k r.2.2 (dr j').1 (dr j').2 D1)) ⟨c,D,_,_,_,_,_,_,rfl,Kp.refl _ _,dF3,pa.imp fun _ z=>⟨z,fun j' h=>absurd h (Nat.not_lt_zero _)⟩⟩ ?_ ?_ ?_
     ·rintro j σ F _ ⟨c,D,o3,o4,o6,o11,o12,o13,rfl,kF,_⟩
      exact SqL.of (kF _ _ (nf z3 (by intro kv z; cases z)) z3)
     ·intro P2 rt2 bk2 hP2
      rintro j x σ F hx ⟨c,D,o3,o4,o6,o11,o12,o13,rfl,kF,⟨kv,hkv,kq⟩,pa⟩
      obtain ⟨t,rfl,ht,hj⟩:=hdir j x hx
      have htF:=kF _ _ (nf ht (by intro kv z; cases z)) ht
      have hkTF:F dT=some (.dK kT):=kF _ _ hdTd (kF33 _ _ hdTd hkT)
      have nx:∀ {Z:Prop},Cl1 (aC8 (tsU u ts)) u k r.2.2 (dr j).1 (dr j).2 D->(c=false->D=D1)->Pas U u rs (psU U u (aE5 rs ps)) (aC8 (tsU u ts)) D1 D c ((∀ k∈L.take i,Cl2 (aC8 (tsU u ts)) u rs k D1)/\∀ j' < j+1,Cl1 (aC8 (tsU u ts)) u k r.2.2 (dr j').1 (dr j').2 D1):=fun {Z} h _=>pa.imp fun e z=>⟨z.1,fun j' hj'=>by
       rcases Nat.lt_or_ge j' j with h1 | h1
       ·exact z.2 j' h1
       ·have:j'=j:=by omega
        subst this
        rw [← e]
        exact h⟩
      generalize (dr j).1=a at hj htF nx
      generalize (dr j).2=b at hj htF nx
      have duD:=pa.d
      walk_at "go"
      refine aLt (.inl hkv) ?_
      rcases kq.val (k:=Sum.inl a) with ⟨e1,e1'⟩ | ⟨va,v,e1,e1',f1⟩
      ·rw [e1]
       walk_at "go"
       exact hP2 _ _ _ ⟨c,D,_,_,_,_,_,_,rfl,kF,⟨kv,hkv,kq⟩,nx (Z:=True) (bB2 e1') fun z=>(pa.st z).1⟩
      ·rw [e1]
       cases (show va=.int v from f1)
       walk_at "go"
       refine aFw (.inl hkv) e1 ?_
       walk_at "go"
       refine ⟨dT,rfl,.inl ⟨kT,.inl hkTF⟩,?_⟩
       walk_at "go"
       refine ⟨_,.inl ⟨kT,Sum.inl (k:Int),.inl hkTF,rfl,rfl⟩,?_⟩
       rw [aNe kqT]
       walk_at "go"
       have hU98:=hI.n98
       have hkl:=kq.len
       have hdl:=duD.len
       refine i_d (fun c1=>?_) (fun c1=>?_)
       ·walk_at "go"
        refine ⟨d,rfl,.inl ⟨kv,.inl hkv⟩,?_⟩
        walk_at "go"
        refine ⟨_,.inl ⟨kv,Sum.inl b,.inl hkv,rfl,rfl⟩,?_⟩
        rw [aNe kq]
        walk_at "go"
        refine i_d (fun c2=>?_) (fun c2=>?_)
        ·walk_at "go"
         refine aJ5 (c:=Sum.inl b) hkv (by omega) ?_
         walk_at "go"
         obtain ⟨du2,lt2⟩:=duD.go hI.nd hI.u0 (by omega) hr rok hj e1' ((aQa hI.u0 TT k _).mpr c1) fun w hw=>by rw [hw] at c2; exact c2
         exact hP2 _ _ _ ⟨true,aDp D (Sum.inl b) (v+r.2.2),_,_,_,_,_,_,rfl,kF.trans Kp.upd,⟨_,aAb,(kq.put rfl).imp fun v b f=>f⟩,du2,Nat.le_of_lt (Nat.lt_of_lt_of_le lt2 pa.le),fun _=>Nat.lt_of_lt_of_le lt2 pa.le,fun z=>nomatch z⟩
        ·walk_at "go"
         exact hP2 _ _ _ ⟨c,D,_,_,_,_,_,_,rfl,kF,⟨kv,hkv,kq⟩,nx (Z:=True) (cl_le e1' c2) fun z=>(pa.st z).1⟩
       ·walk_at "go"
        exact hP2 _ _ _ ⟨c,D,_,_,_,_,_,_,rfl,kF,⟨kv,hkv,kq⟩,nx (Z:=True) (bB3 e1' fun z=>c1 ((aQa hI.u0 TT k _).mp z)) fun z=>(pa.st z).1⟩
     ·rintro σ F ⟨c,D,o3,o4,o6,o11,o12,o13,rfl,kF,dF,pa⟩
      refine hP' _ _ _ ⟨c,D,_,_,_,_,_,_,_,_,_,_,rfl,kGF.trans kF,dF,pa.imp fun _ z k' hk'=>?_⟩
      rw [aDs hk] at hk'
      rcases List.mem_append.mp hk' with h | h
      ·exact z.1 k' h
      ·rw [List.mem_singleton.mp h]
       intro r' hr'
       rw [hr] at hr'
       cases hr'
       have c0:=z.2 0 (show 0 < 2 by decide)
       have c1:=z.2 1 (show 1 < 2 by decide)
       rw [d0] at c0
       rw [d1] at c1
       exact ⟨c0,c1⟩
   ·rintro σ F ⟨c,D,o3,o4,o6,o7,o8,o9,o10,o11,o12,o13,rfl,kF,dF,pa⟩
    rw [List.length_map,List.take_length] at pa
    exact ⟨c,D,_,_,_,_,_,_,_,_,_,_,rfl,kG3.trans kF,dF,pa.imp fun _ z k=>if h:k < rs.length then z k (Lk2 k h) else fun r hr=>absurd (List.getElem?_eq_some_iff.mp hr).1 h⟩
set_option maxHeartbeats 0 in
theorem aQg (T:Bl mg) (d:Df K mg "_law_handed" aE8 ["_law_here_here"]  ) (o_low:Okf P w K mg base k "_law_low" ["_law_top","_law_bottom"] aGh) (o_pushes:Okf P w K mg base k "_law_pushes" ["_law_here_here"] aFs):Okf P w K mg base (k+1) "_law_handed" ["_law_here_here"] aHw:=by
 refine Okf.of d aE6 (fun vs H Q E h=>?_) (fun f cdv A outer s H vs Q E hr h=>?_)
 ·obtain ⟨dd,U,u,rs,ps,ts,ln,lr,lp,lt,rfl,_⟩:=h
  rfl
 ·obtain ⟨dd,U,u,rs,ps,ts,ln,lr,lp,lt,rfl,hI,hQ,q⟩:=h
  refine ⟨_,(@aAc _ _ _ _ _ (@aAk _ _ (i:=1) _ _ _ _ aE6.nd rfl (by first | exact Or.inl rfl | exact Or.inr rfl) (@aAp _ _ _ _ _ _ hr.u1 (pv 0) (@aAt _ _ _ _) (fun _ _=>rfl)) (by rfl) (by first | exact .inl rfl | exact .inr rfl | assumption)) (@aAc _ _ _ _ _ (@aAk _ _ (i:=2) _ _ _ _ aE6.nd rfl (by first | exact Or.inl rfl | exact Or.inr rfl) (@aAp _ _ _ _ _ _ hr.u1 (pv 0) (@aAt _ _ _ _) (fun _ _=>rfl)) (by rfl) (by first | exact .inl rfl | exact .inr rfl | assumption)) (@aAc _ _ _ _ _ (@aWd _ _ _ _ _ _ _ _ _ _ _ _ _ _ (i:=3) _ _ _ aE6.nd rfl (by first | exact Or.inl rfl | exact Or.inr rfl) (@aC6 _ _ (sc:=aAg aE8) (N:=["_law_here_here","_law_names","_law_unit","_law_pushes_here"]) (tn:=["_law_a","_law_moment"]) (names:=["_law_unit","_law_names"]) (is:=[2,1]) rfl rfl (by decide +kernel) (by decide +kernel) rfl (by decide +kernel) rfl (by decide +kernel) (by decide +kernel) (by decide +kernel)) rfl (@aBx _ _ _ _ (@aAi _ _ _ _ _ _ _ _ _ _ o_pushes hr rfl (@aAa _ _ _ _ _ (pv 0) (@aAd _) (by rfl)) (by decide) (by rfl) (by rfl))) (fun _ _ _ _=>(@aFy _ _ _ _ _ _ _ _ _ _ _ (n:=2) _ rfl (@aAn _ _ _ _ _ (@aAm _ _ (i:=0) _ (show (["_law_a","_law_moment","_law_unit","_law_names"]:List Str).Nodup by decide +kernel) rfl (Or.inl rfl) (Or.inr rfl)) (@aAn _ _ _ _ _ (@aAm _ _ (i:=1) _ (show (["_law_a","_law_moment","_law_unit","_law_names"]:List Str).Nodup by decide +kernel) rfl (Or.inl rfl) (Or.inr rfl)) (@aBy _) (by rfl)) (by rfl)) (by rfl) (by rfl))) (fun _ _ _ _=>(@aBa _ _ _ _ _ (@aAa _ _ _ _ _ (@aAz _ _ _ _ _ _ _ aH7 (pv 3) (pv 0) (fun _ _=>rfl)) (@aAa _ _ _ _ _ (@aAi _ _ _ _ _ _ _ _ _ _ o_low hr rfl (@aAa _ _ _ _ _ (pv 1) (@aAa _ _ _ _ _ (pv 2) (@aAd _) (by rfl)) (by rfl)) (by decide) (by rfl) (by rfl)) (@aAd _) (by rfl)) (by rfl)))) (fun _ _ _ _=>(@aCs _)) (by intro _; rfl) (by rfl) (by first | exact .inl rfl | exact .inr rfl | assumption)) (@aAh _ _ _ (@aAw _ _ _ _ (@aBa _ _ _ _ _ (@aAa _ _ _ _ _ (pv 3) (@aAa _ _ _ _ _ (@aDi _ _ _ _ _ _ _ _ _ _ _ _ _ _ (@aC6 _ _ (sc:=aAg aE8) (N:=["_law_here_here","_law_names","_law_unit","_law_pushes_here"]) (tn:=["_law_number_here","_law_moment"]) (names:=["_law_unit"]) (is:=[2]) rfl rfl (by decide +kernel) (by decide +kernel) rfl (by decide +kernel) rfl (by decide +kernel) (by decide +kernel) (by decide +kernel)) rfl (@aBx _ _ _ _ (@aAp _ _ _ _ _ _ hr.u1 (pv 0) (@aAt _ _ _ _) (fun _ _=>rfl))) (fun _ _ _ _=>(@aFy _ _ _ _ _ _ _ _ _ _ _ (n:=2) _ rfl (@aAn _ _ _ _ _ (@aAm _ _ (i:=0) _ (show (["_law_number_here","_law_moment","_law_unit"]:List Str).Nodup by decide +kernel) rfl (Or.inl rfl) (Or.inr rfl)) (@aAn _ _ _ _ _ (@aAm _ _ (i:=1) _ (show (["_law_number_here","_law_moment","_law_unit"]:List Str).Nodup by decide +kernel) rfl (Or.inl rfl) (Or.inr rfl)) (@aBy _) (by rfl)) (by rfl)) (by rfl) (by rfl))) (fun _ _ _ _=>(@aBa _ _ _ _ _ (@aAa _ _ _ _ _ (pv 0) (@aAa _ _ _ _ _ (@aAi _ _ _ _ _ _ _ _ _ _ o_low hr rfl (@aAa _ _ _ _ _ (pv 1) (@aAa _ _ _ _ _ (pv 2) (@aAd _) (by rfl)) (by rfl)) (by decide) (by rfl) (by rfl)) (@aAd _) (by rfl)) (by rfl)))) (fun _ _ _ _=>(@aCs _)) (by intro _; rfl)) (@aAd _) (by rfl)) (by rfl)))))))),?_⟩
  have u0:=hI.u0
  have u1:=hI.u1
  have hpl0:=hI.pl
  have htl0:=hI.tl
  have hsl:=aLx rs ps
  walk_at "go"
  refine aCa (.inl hQ.d) aB9 ?_
  walk_at "go"
  refine aCa (.inl hQ.d) aHe ?_
  walk_at "go"
  refine ⟨dd,U,u,rs,ps,ts,ln,lr,lp,lt,rfl,hI,hQ,fun lq H1 hlq s1 lq1=>?_⟩
  have hQ1:=hQ.sm s1
  obtain ⟨vp,hvp,pvp⟩:=id lq1
  have hvl:vp.length=(aE5 rs ps).length:=Paired.length pvp
  walk_at "go"
  refine aBw (SqL.of hvp) ?_
  refine aPp (xs:=vp) (by omega) (fun acc i ys G=>Kp acc H1 G/\Paired (KvQ G) ys (psU U u ((aE5 rs ps).take i))) (fun acc h0=>⟨Kp.new h0,.nil⟩) ?_ ?_ ?_
  ·rintro acc i ys G h0 _ ⟨kp,_⟩
   exact SqL.of (kp _ _ (aAe hvp h0) hvp)
  ·rintro acc i ys G x h0 hx hyl hG ⟨kp,pn⟩
   obtain ⟨r,hr,p,rfl,hp⟩:=Paired.at pvp hx
   obtain ⟨r0,r1,r2,r3⟩:=hI.pok r (aLw (List.mem_of_getElem? hr))
   have hpG:G p=some (.tup [.int r.1,.int r.2]):=kp _ _ (aAe hp h0) hp
   have hnmG:=kp _ _ (aAe hQ1.nm h0) hQ1.nm
   have es0:=aLz (U:=U) r0 r1
   have hnt:=aUp (U:=U) (u:=u) hr
   generalize nmI U r.1=s0 at es0 hnt
   refine ⟨p,_,_,rfl,hpG,?_⟩
   walk_at "go"
   refine aDx hnmG es0 ?_
   walk_at "go"
   refine ⟨r.2,u,rfl,u0,aXy (by omega) (by omega),aXy (by omega) (by omega),fun q1 hq1=>?_⟩
   have f1:FrQ (L2.upd G q1 (.tup [.int (aB1 r.2 u),.int (aB2 r.2 u)])) (.ref q1) (Rat.divInt r.2 u):=FrQ.low (by omega) aAb
   have t1:=aAo.new (o:=.tup [.int (aB1 r.2 u),.int (aB2 r.2 u)]) hq1
   generalize L2.upd G q1 (.tup [.int (aB1 r.2 u),.int (aB2 r.2 u)])=G4 at f1 t1 ⊢
   walk_at "go"
   refine aAv fun q2 hq2=>?_
   have t2:=t1.trans (aAo.new (o:=.tup [.str s0,.ref q1]) hq2)
   have h2:=aAb (H:=G4) (a:=q2) (o:=.tup [.str s0,.ref q1])
   have f2:=f1.tk (aAo.new (o:=.tup [.str s0,.ref q1]) hq2).tk
   generalize L2.upd G4 q2 (.tup [.str s0,.ref q1])=G5 at t2 h2 f2 ⊢
   have tk:=TK.lst (o:=.lst (ys++[.ref q2])) (t2 _ _ hG)
   refine aFj (List.getElem?_eq_some_iff.mp hx).1 hyl (t2 _ _ hG) ⟨(kp.trans t2.kp).trans Kp.upd,?_⟩
   rw [hnt]
   exact Pd.snoc (Pd.imp pn fun v b f=>(f.tk t2.tk).tk tk) ⟨q2,.ref q1,rfl,tk _ _ h2,f2.tk tk⟩
  rintro l1 ys1 G1 h1 hG1 hy1 ⟨kp1,pn1⟩
  have s2:aAo H1 G1:=fun b o h=>kp1 _ _ (aAe h h1) h
  have s12:=s1.trans s2
  have hQ2:=hQ.sm s12
  obtain ⟨vt,hvt,pvt⟩:=id hQ2.tq
  have hvtl:vt.length=ts.length:=Paired.length pvt
  walk_at "go"
  refine aCa (.inl hQ2.d) aD8 ?_
  walk_at "go"
  refine aBw (SqL.of hvt) ?_
  refine aPp (xs:=vt) (by omega) (fun acc i ys G=>Kp acc G1 G/\Paired (KvQ G) ys (tsU u (ts.take i))) (fun acc h0=>⟨Kp.new h0,.nil⟩) ?_ ?_ ?_
  ·rintro acc i ys G h0 _ ⟨kp,_⟩
   exact SqL.of (kp _ _ (aAe hvt h0) hvt)
  ·rintro acc i ys G x h0 hx hyl hG ⟨kp,pn⟩
   obtain ⟨r,hr,p,rfl,hp⟩:=Paired.at pvt hx
   obtain ⟨r1,r2,r3⟩:=hI.tok r (List.mem_of_getElem? hr)
   have hnt:=aT6 (u:=u) hr
   have hpG:G p=some (.tup [.int r.1,.int r.2]):=kp _ _ (aAe hp h0) hp
   refine ⟨p,_,_,rfl,hpG,?_⟩
   walk_at "go"
   refine ⟨r.2,u,rfl,u0,aXy (by omega) (by omega),aXy (by omega) (by omega),fun q1 hq1=>?_⟩
   have f1:FrQ (L2.upd G q1 (.tup [.int (aB1 r.2 u),.int (aB2 r.2 u)])) (.ref q1) (Rat.divInt r.2 u):=FrQ.low (by omega) aAb
   have t1:=aAo.new (o:=.tup [.int (aB1 r.2 u),.int (aB2 r.2 u)]) hq1
   generalize L2.upd G q1 (.tup [.int (aB1 r.2 u),.int (aB2 r.2 u)])=G4 at f1 t1 ⊢
   walk_at "go"
   refine aAv fun q2 hq2=>?_
   have t2:=t1.trans (aAo.new (o:=.tup [.int r.1,.ref q1]) hq2)
   have h2:=aAb (H:=G4) (a:=q2) (o:=.tup [.int r.1,.ref q1])
   have f2:=f1.tk (aAo.new (o:=.tup [.int r.1,.ref q1]) hq2).tk
   generalize L2.upd G4 q2 (.tup [.int r.1,.ref q1])=G5 at t2 h2 f2 ⊢
   have tk:=TK.lst (o:=.lst (ys++[.ref q2])) (t2 _ _ hG)
   refine aFj (List.getElem?_eq_some_iff.mp hx).1 hyl (t2 _ _ hG) ⟨(kp.trans t2.kp).trans Kp.upd,?_⟩
   rw [hnt]
   exact Pd.snoc (Pd.imp pn fun v b f=>(f.tk t2.tk).tk tk) ⟨q2,.ref q1,rfl,tk _ _ h2,f2.tk tk⟩
  rintro l2 ys2 G2 h2 hG2 hy2 ⟨kp2,pn2⟩
  have s3:aAo G1 G2:=fun b o h=>kp2 _ _ (aAe h h2) h
  walk_at "go"
  refine aAv fun p hp=>?_
  have s4:=aAo.new (o:=.tup [.ref l1,.ref l2]) hp
  have s34:=s3.trans s4
  walk_at "go"
  rw [hvl,List.take_length] at pn1
  rw [hvtl,List.take_length] at pn2
  exact q p _ l1 l2 ((s12.trans s3).free hp) (s1.free h1) (s12.free h2) (s12.trans s34) aAb ⟨ys1,s34 _ _ hG1,Pd.imp pn1 fun v b f=>f.tk s34.tk⟩ ⟨ys2,s4 _ _ hG2,Pd.imp pn2 fun v b f=>f.tk s4.tk⟩
set_option maxHeartbeats 0 in
theorem bAz (T:Bl mg) (d:Df K mg "_law_end" aVo ["_law_here_here","_law_due_here","_law_k"]  ) (o_low:Okf P w K mg base k "_law_low" ["_law_top","_law_bottom"] aGh) (o_taken:Okf P w K mg base k "_law_taken" ["_law_here_here"] aLc):Okf P w K mg base (k+1) "_law_end" ["_law_here_here","_law_due_here","_law_k"] aO8:=by
 refine Okf.of d aC3 (fun vs H Q E h=>?_) (fun f cdv A outer s H vs Q E hr h=>?_)
 ·obtain ⟨dd,U,u,rs,ps,ts,ln,lr,lp,lt,d,D,kk,r,rfl,_⟩:=h
  rfl
 ·obtain ⟨dd,U,u,rs,ps,ts,ln,lr,lp,lt,d,D,kk,r,rfl,hI,hQ,hdq,du,hrk,q⟩:=h
  refine ⟨_,(@aAc _ _ _ _ _ (@aPu _ _ _ _ _ _ (@aAz _ _ _ _ _ _ _ aA0 (@aAp _ _ _ _ _ _ hr.u1 (pv 0) (@aAt _ _ _ _) (fun _ _=>rfl)) (pv 2) (fun _ _=>rfl)) (@aD1 _ _ _ _ _ (n:=3) rfl (@aAn _ _ _ _ _ (@aAm _ _ (i:=3) _ aC3.nd rfl (by first | exact Or.inl rfl | exact Or.inr rfl) (by first | exact .inl rfl | exact .inr rfl | assumption)) (@aAn _ _ _ _ _ (@aAm _ _ (i:=4) _ aC3.nd rfl (by first | exact Or.inl rfl | exact Or.inr rfl) (by first | exact .inl rfl | exact .inr rfl | assumption)) (@aAn _ _ _ _ _ (@aAm _ _ (i:=5) _ aC3.nd rfl (by first | exact Or.inl rfl | exact Or.inr rfl) (by first | exact .inl rfl | exact .inr rfl | assumption)) (@aBy _) (by rfl)) (by rfl)) (by rfl)) (by rfl) (by rfl)) (by rfl) (by rfl) (by rfl)) (@aAc _ _ _ _ _ (@aAk _ _ (i:=6) _ _ _ _ aC3.nd rfl (by first | exact Or.inl rfl | exact Or.inr rfl) (@aAp _ _ _ _ _ _ hr.u1 (pv 0) (@aAt _ _ _ _) (fun _ _=>rfl)) (by rfl) (by first | exact .inl rfl | exact .inr rfl | assumption)) (@aAc _ _ _ _ _ (@aAk _ _ (i:=7) _ _ _ _ aC3.nd rfl (by first | exact Or.inl rfl | exact Or.inr rfl) (@aEh _ _ _ _ _ _ _ _ _ hr.u1 (@aAi _ _ _ _ _ _ _ _ _ _ o_taken hr rfl (@aAa _ _ _ _ _ (pv 0) (@aAd _) (by rfl)) (by decide) (by rfl) (by rfl)) (pv 2) (@aCc _ _ _) ⟨rfl,rfl,rfl,rfl⟩) (by rfl) (by first | exact .inl rfl | exact .inr rfl | assumption)) (@aAc _ _ _ _ _ (@aAk _ _ (i:=8) _ _ _ _ aC3.nd rfl (by first | exact Or.inl rfl | exact Or.inr rfl) (@aBa _ _ _ _ _ (@aAa _ _ _ _ _ (@aAt _ _ _ _) (@aAd _) (by rfl))) (by rfl) (by first | exact .inl rfl | exact .inr rfl | assumption)) (@aAc _ _ _ _ _ (@aAk _ _ (i:=9) _ _ _ _ aC3.nd rfl (by first | exact Or.inl rfl | exact Or.inr rfl) (@aCc _ _ _) (by rfl) (by first | exact .inl rfl | exact .inr rfl | assumption)) (@aAc _ _ _ _ _ (@aB3 _ _ _ _ _ _ _ _ (@PW.pt _ _ _ (@aGy _ _ _ _ _ _ _ (@aEn _ _ _ _ _ _ (@aG2 _ _ _ _ _ hr.u1 (pv 3) (pv 1)) (by first | exact nobehind _ (by decide) (by decide) | rfl)) (@aEx _ _ _ _ (@PW.pt _ _ _ (@aGx _ _ _ _ _ _ _ (@aEn _ _ _ _ _ _ (@aFd _ _ _ _ _ hr.u1 (pv 4) (pv 1)) (by first | exact nobehind _ (by decide) (by decide) | rfl)) (@aD0 _ _ _ _ (@aA2 _ _ _ _ _ _ _ _ aWq (@aAp _ _ _ _ _ _ hr.u1 (pv 1) (pv 4) (fun _ _=>rfl)) (@aAj _ _ _ _ _ _ _ _ aAy (@aAp _ _ _ _ _ _ hr.u1 (pv 1) (pv 3) (fun _ _=>rfl)) (pv 5)) (aA4 _)))))))) (@aAc _ _ _ _ _ (@aAk _ _ (i:=9) _ _ _ _ aC3.nd rfl (by first | exact Or.inl rfl | exact Or.inr rfl) (@aAj _ _ _ _ _ _ _ _ aA7 (@aAf _ _ _ _) (@aAj _ _ _ _ _ _ _ _ aAy (@aAp _ _ _ _ _ _ hr.u1 (pv 1) (pv 3) (fun _ _=>rfl)) (pv 5))) (by rfl) (by first | exact .inl rfl | exact .inr rfl | assumption)) (@aAh _ _ _ (@aAk _ _ (i:=8) _ _ _ _ aC3.nd rfl (by first | exact Or.inl rfl | exact Or.inr rfl) (@aBa _ _ _ _ _ (@aAa _ _ _ _ _ (@aAt _ _ _ _) (@aAa _ _ _ _ _ (@aAz _ _ _ _ _ _ _ aA0 (@aAp _ _ _ _ _ _ hr.u1 (pv 0) (@aAt _ _ _ _) (fun _ _=>rfl)) (pv 3) (fun _ _=>rfl)) (@aAa _ _ _ _ _ (@aAi _ _ _ _ _ _ _ _ _ _ o_low hr rfl (@aAa _ _ _ _ _ (pv 9) (@aAa _ _ _ _ _ (@aAj _ _ _ _ _ _ _ _ aA7 (@aAf _ _ _ _) (pv 6)) (@aAd _) (by rfl)) (by rfl)) (by decide) (by rfl) (by rfl)) (@aAd _) (by rfl)) (by rfl)) (by rfl))) (by rfl) (by first | exact .inl rfl | exact .inr rfl | assumption)))) (@aAh _ _ _ (@aB3 _ _ _ _ _ _ _ _ (@PW.pt _ _ _ (@aGy _ _ _ _ _ _ _ (@aEn _ _ _ _ _ _ (@aG2 _ _ _ _ _ hr.u1 (pv 4) (pv 1)) (by first | exact nobehind _ (by decide) (by decide) | rfl)) (@aEx _ _ _ _ (@PW.pt _ _ _ (@aGx _ _ _ _ _ _ _ (@aEn _ _ _ _ _ _ (@aFd _ _ _ _ _ hr.u1 (pv 3) (pv 1)) (by first | exact nobehind _ (by decide) (by decide) | rfl)) (@aD0 _ _ _ _ (@aA2 _ _ _ _ _ _ _ _ aWq (@aAp _ _ _ _ _ _ hr.u1 (pv 1) (pv 3) (fun _ _=>rfl)) (@aAj _ _ _ _ _ _ _ _ aAy (@aAp _ _ _ _ _ _ hr.u1 (pv 1) (pv 4) (fun _ _=>rfl)) (pv 5)) (aA4 _)))))))) (@aAc _ _ _ _ _ (@aAk _ _ (i:=9) _ _ _ _ aC3.nd rfl (by first | exact Or.inl rfl | exact Or.inr rfl) (@aAj _ _ _ _ _ _ _ _ aA7 (@aAf _ _ _ _) (@aAj _ _ _ _ _ _ _ _ aAy (@aAp _ _ _ _ _ _ hr.u1 (pv 1) (pv 4) (fun _ _=>rfl)) (pv 5))) (by rfl) (by first | exact .inl rfl | exact .inr rfl | assumption)) (@aAh _ _ _ (@aAk _ _ (i:=8) _ _ _ _ aC3.nd rfl (by first | exact Or.inl rfl | exact Or.inr rfl) (@aBa _ _ _ _ _ (@aAa _ _ _ _ _ (@aAt _ _ _ _) (@aAa _ _ _ _ _ (@aAz _ _ _ _ _ _ _ aA0 (@aAp _ _ _ _ _ _ hr.u1 (pv 0) (@aAt _ _ _ _) (fun _ _=>rfl)) (pv 4) (fun _ _=>rfl)) (@aAa _ _ _ _ _ (@aAi _ _ _ _ _ _ _ _ _ _ o_low hr rfl (@aAa _ _ _ _ _ (pv 9) (@aAa _ _ _ _ _ (@aAj _ _ _ _ _ _ _ _ aA7 (@aAf _ _ _ _) (pv 6)) (@aAd _) (by rfl)) (by rfl)) (by decide) (by rfl) (by rfl)) (@aAd _) (by rfl)) (by rfl)) (by rfl))) (by rfl) (by first | exact .inl rfl | exact .inr rfl | assumption)))) (@aAh _ _ _ (@aB3 _ _ _ _ _ _ _ _ (@aEn _ _ _ _ _ _ (@aG2 _ _ _ _ _ hr.u1 (pv 3) (pv 1)) (by first | exact nobehind _ (by decide) (by decide) | rfl)) (@aAc _ _ _ _ _ (@aAk _ _ (i:=9) _ _ _ _ aC3.nd rfl (by first | exact Or.inl rfl | exact Or.inr rfl) (@aAj _ _ _ _ _ _ _ _ aAy (@aAj _ _ _ _ _ _ _ _ aAy (@aAp _ _ _ _ _ _ hr.u1 (pv 1) (pv 3) (fun _ _=>rfl)) (@aAp _ _ _ _ _ _ hr.u1 (pv 1) (pv 4) (fun _ _=>rfl))) (pv 5)) (by rfl) (by first | exact .inl rfl | exact .inr rfl | assumption)) (@aAh _ _ _ (@aAk _ _ (i:=8) _ _ _ _ aC3.nd rfl (by first | exact Or.inl rfl | exact Or.inr rfl) (@aBa _ _ _ _ _ (@aAa _ _ _ _ _ (@aAt _ _ _ _) (@aAa _ _ _ _ _ (@aAi _ _ _ _ _ _ _ _ _ _ o_low hr rfl (@aAa _ _ _ _ _ (pv 9) (@aAa _ _ _ _ _ (@aAj _ _ _ _ _ _ _ _ aA7 (@aAf _ _ _ _) (pv 6)) (@aAd _) (by rfl)) (by rfl)) (by decide) (by rfl) (by rfl)) (@aAa _ _ _ _ _ (@aAi _ _ _ _ _ _ _ _ _ _ o_low hr rfl (@aAa _ _ _ _ _ (@aAj _ _ _ _ _ _ _ _ aH2 (pv 9) (@aAj _ _ _ _ _ _ _ _ aA7 (@aAf _ _ _ _) (@aAp _ _ _ _ _ _ hr.u1 (pv 1) (pv 3) (fun _ _=>rfl)))) (@aAa _ _ _ _ _ (@aAj _ _ _ _ _ _ _ _ aA7 (@aAf _ _ _ _) (pv 5)) (@aAd _) (by rfl)) (by rfl)) (by decide) (by rfl) (by rfl)) (@aAd _) (by rfl)) (by rfl)) (by rfl))) (by rfl) (by first | exact .inl rfl | exact .inr rfl | assumption)))) (@aA5 _)))))) (@aAc _ _ _ _ _ (@aB3 _ _ _ _ _ _ _ _ (@PW.pt _ _ _ (@aGy _ _ _ _ _ _ _ (@aA2 _ _ _ _ _ _ _ _ aIt (pv 7) (@aCc _ _ _) (aA4 _)) (@aEx _ _ _ _ (@PW.pt _ _ _ (@aGx _ _ _ _ _ _ _ (@aA2 _ _ _ _ _ _ _ _ aD2 (pv 9) (@aCc _ _ _) (aA4 _)) (@aD0 _ _ _ _ (@aA2 _ _ _ _ _ _ _ _ aL0 (@aAj _ _ _ _ _ _ _ _ aA7 (@aAf _ _ _ _) (pv 7)) (pv 9) (aA4 _)))))))) (@aAh _ _ _ (@aAw _ _ _ _ (@aBa _ _ _ _ _ (@aAa _ _ _ _ _ (@aAt _ _ _ _) (@aAa _ _ _ _ _ (@aAi _ _ _ _ _ _ _ _ _ _ o_low hr rfl (@aAa _ _ _ _ _ (pv 7) (@aAa _ _ _ _ _ (pv 6) (@aAd _) (by rfl)) (by rfl)) (by decide) (by rfl) (by rfl)) (@aAd _) (by rfl)) (by rfl))))) (@aA5 _)) (@aAh _ _ _ (@aAw _ _ _ _ (pv 8)))))))))),?_⟩
  obtain ⟨vr,hvr,pvr⟩:=id hQ.rq
  obtain ⟨vx,hvx,p,rfl,hp⟩:=aM7 pvr hrk
  obtain ⟨r0,r1,r2,r3,r4,r5⟩:=hI.rok r (List.mem_of_getElem? hrk)
  obtain ⟨kv,hkv,kq⟩:=id hdq
  have u0:=hI.u0
  have u1:=hI.u1
  have hdl:=du.len
  have hU98:=hI.n98
  have bdD:∀ i v,aBf D (Sum.inl i)=some v->0<=v/\v<=10 ^ 33:=fun i v e=>by
   obtain ⟨a1,a2,_⟩:=du.val e
   omega
  walk_at "go"
  refine aCa (.inl hQ.d) aBt ?_
  walk_at "go"
  refine aDx hvr (aF4 hvx) ?_
  walk_at "go"
  refine aCa (.inl hQ.d) aHe ?_
  walk_at "go"
  refine ⟨dd,U,u,rs,ps,ts,ln,lr,lp,lt,rfl,hI,hQ,fun dT H1 TB hdT s1 tq TT hTb=>?_⟩
  obtain ⟨kT,hkT,kqT⟩:=id tq
  rw [aL9 hI.nd r0 r1,aL9 hI.nd r2 r3,aX9 TT] at q
  refine ⟨dT,rfl,.inl ⟨kT,.inl hkT⟩,?_⟩
  walk_at "go"
  refine ⟨_,.inl ⟨kT,Sum.inl (kk:Int),.inl hkT,rfl,rfl⟩,?_⟩
  have htk:(aBf TB (Sum.inl (kk:Int))=none/\(aBu kT (Sum.inl (kk:Int))).getD .non=.non)∨∃ w,aBf TB (Sum.inl (kk:Int))=some w/\(aBu kT (Sum.inl (kk:Int))).getD .non=.int w/\0<=w/\w<=10 ^ 30:=by
   rcases kqT.val (k:=Sum.inl (kk:Int)) with ⟨e1,e2⟩ | ⟨v,w,e1,e2,f1⟩
   ·exact .inl ⟨e2,by rw [e1]; rfl⟩
   ·cases (show v=.int w from f1)
    obtain ⟨w0,w1⟩:=hTb _ (aBm e2)
    exact .inr ⟨w,e2,by rw [e1]; rfl,w0,w1⟩
  generalize (aBu kT (Sum.inl (kk:Int))).getD .non=tkv at htk ⊢
  generalize aBf TB (Sum.inl (kk:Int))=otk at htk q
  walk_at "go"
  refine aAv fun p0 hp0=>?_
  have t0:=aAo.new (o:=.tup [.str "stands"]) hp0
  have ev0:aEb (L2.upd H1 p0 (.tup [.str "stands"])) (.ref p0) .stands:=⟨p0,rfl,aAb⟩
  generalize L2.upd H1 p0 (.tup [.str "stands"])=H2 at t0 ev0 ⊢
  have hkv2:=t0 _ _ (s1 _ _ hkv)
  have hQ2:=hQ.sm (s1.trans t0)
  have kq2:KQ IQ H2 kv D:=kq.imp fun v b f=>f
  clear hkT kqT tq
  walk_at "go"
  refine aLt (.inl hkv2) ?_
  rcases kq2.val (k:=Sum.inl r.1) with ⟨ea,ea'⟩ | ⟨va,f,ea,ea',fa⟩
  ·rw [ea]
   rw [ea'] at q
   walk_at "go"
   refine aLt (.inl hkv2) ?_
   rcases kq2.val (k:=Sum.inl r.2.1) with ⟨eb,eb'⟩ | ⟨vb,g,eb,eb',fb⟩
   ·rw [eb]
    rw [eb'] at q
    walk_at "go"
    refine aLt (.inl hkv2) ?_
    rw [ea]
    rw [bBx] at q
    walk_at "go"
    rcases htk with ⟨rfl,rfl⟩ | ⟨w,rfl,rfl,w0,w1⟩
    ·walk_at "go"
     exact q _ _ (s1.trans t0) ev0
    ·walk_at "go"
     refine aHy ?_
     walk_at "go"
     refine ⟨w,u,rfl,by omega,aGi (by omega),aGi (by omega),fun qw hqw=>?_⟩
     have fqw:FrQ (L2.upd H2 qw (.tup [.int (aB1 (w) (u)),.int (aB2 (w) (u))])) (.ref qw) (ut (u) (w)):=FrQ.low (by omega) aAb
     have tqw:=aAo.new (H:=H2) (o:=.tup [.int (aB1 (w) (u)),.int (aB2 (w) (u))]) hqw
     generalize L2.upd H2 qw (.tup [.int (aB1 (w) (u)),.int (aB2 (w) (u))])=GW at fqw tqw ⊢
     walk_at "go"
     refine aAv fun pw hpw=>?_
     walk_at "go"
     refine q _ _ (((s1.trans t0).trans tqw).trans (aAo.new hpw)) ?_
     show aEb _ _ (if aDk (ut u w) none=true then aBg.taken (ut u w) else aBg.stands)
     rw [show aDk (ut u w) none=true from rfl,if_pos rfl]
     exact ⟨pw,.ref qw,rfl,aAb,fqw.tk (TK.new hpw)⟩
   ·rw [eb]
    rw [eb'] at q
    cases (show vb=.int g from fb)
    obtain ⟨g0,g1⟩:=bdD _ _ eb'
    obtain ⟨_,e,he⟩:=aRf (a:=nmI U r.1) (b:=nmI U r.2.1) u0 (oa:=none) (ob:=some g) (T:=r.2.2) rfl rfl
    cases e
    walk_at "go"
    refine aV6 (.inl hkv2) ?_
    rw [ea]
    walk_at "go"
    refine aFw (.inl hkv2) eb ?_
    walk_at "go"
    refine aCa (.inl hQ2.d) aB9 ?_
    walk_at "go"
    refine aDx hQ2.nm (aLz r2 r3) ?_
    walk_at "go"
    refine ⟨(2 * (g+r.2.2)),(2 * u),rfl,by omega,aGi (by omega),aGi (by omega),fun q1 hq1=>?_⟩
    have fq1:FrQ (L2.upd H2 q1 (.tup [.int (aB1 ((2 * (g+r.2.2))) ((2 * u))),.int (aB2 ((2 * (g+r.2.2))) ((2 * u)))])) (.ref q1) (ut ((2 * u)) ((2 * (g+r.2.2)))):=FrQ.low (by omega) aAb
    have tq1:=aAo.new (H:=H2) (o:=.tup [.int (aB1 ((2 * (g+r.2.2))) ((2 * u))),.int (aB2 ((2 * (g+r.2.2))) ((2 * u)))]) hq1
    generalize L2.upd H2 q1 (.tup [.int (aB1 ((2 * (g+r.2.2))) ((2 * u))),.int (aB2 ((2 * (g+r.2.2))) ((2 * u)))])=H3 at fq1 tq1 ⊢
    walk_at "go"
    refine aAv fun p3 hp3=>?_
    have t3:=aAo.new (o:=.tup [.str "swept",.str (nmI U r.2.1),.ref q1]) hp3
    have ev:aEb (L2.upd H3 p3 (.tup [.str "swept",.str (nmI U r.2.1),.ref q1])) (.ref p3) (.swept (nmI U r.2.1) (ut (2 * u) (2 * (g+r.2.2)))):=⟨p3,.ref q1,rfl,aAb,fq1.tk (TK.new hp3)⟩
    generalize L2.upd H3 p3 (.tup [.str "swept",.str (nmI U r.2.1),.ref q1])=H4 at t3 ev ⊢
    rw [he] at q
    walk_at "go"
    rcases htk with ⟨rfl,rfl⟩ | ⟨w,rfl,rfl,w0,w1⟩
    ·walk_at "go"
     exact q _ _ (((s1.trans t0).trans tq1).trans t3) ev
    ·walk_at "go"
     refine aHy ?_
     walk_at "go"
     refine i_d (fun cw=>?_) (fun cw=>?_)
     ·walk_at "go"
      refine ⟨w,u,rfl,by omega,aGi (by omega),aGi (by omega),fun qw hqw=>?_⟩
      have fqw:FrQ (L2.upd H4 qw (.tup [.int (aB1 (w) (u)),.int (aB2 (w) (u))])) (.ref qw) (ut (u) (w)):=FrQ.low (by omega) aAb
      have tqw:=aAo.new (H:=H4) (o:=.tup [.int (aB1 (w) (u)),.int (aB2 (w) (u))]) hqw
      generalize L2.upd H4 qw (.tup [.int (aB1 (w) (u)),.int (aB2 (w) (u))])=GW at fqw tqw ⊢
      walk_at "go"
      refine aAv fun pw hpw=>?_
      walk_at "go"
      refine q _ _ (((((s1.trans t0).trans tq1).trans t3).trans tqw).trans (aAo.new hpw)) ?_
      show aEb _ _ (if aDk (ut u w) (some (ut (2 * u) (2 * (g+r.2.2))))=true then aBg.taken (ut u w) else aBg.swept (nmI U r.2.1) (ut (2 * u) (2 * (g+r.2.2))))
      rw [aEp u0,decide_eq_true cw,if_pos rfl]
      exact ⟨pw,.ref qw,rfl,aAb,fqw.tk (TK.new hpw)⟩
     ·walk_at "go"
      refine q _ _ (((s1.trans t0).trans tq1).trans t3) ?_
      show aEb _ _ (if aDk (ut u w) (some (ut (2 * u) (2 * (g+r.2.2))))=true then aBg.taken (ut u w) else aBg.swept (nmI U r.2.1) (ut (2 * u) (2 * (g+r.2.2))))
      rw [aEp u0,decide_eq_false cw,if_neg (by decide)]
      exact ev
  ·rw [ea]
   rw [ea'] at q
   cases (show va=.int f from fa)
   obtain ⟨f0,f1⟩:=bdD _ _ ea'
   walk_at "go"
   refine aV6 (.inl hkv2) ?_
   rcases kq2.val (k:=Sum.inl r.2.1) with ⟨eb,eb'⟩ | ⟨vb,g,eb,eb',fb⟩
   ·rw [eb]
    rw [eb'] at q
    obtain ⟨_,e,he⟩:=aUv (a:=nmI U r.1) (b:=nmI U r.2.1) u0 (oa:=some f) (ob:=none) (T:=r.2.2) rfl
    cases e
    walk_at "go"
    refine aFw (.inl hkv2) ea ?_
    walk_at "go"
    refine aCa (.inl hQ2.d) aB9 ?_
    walk_at "go"
    refine aDx hQ2.nm (aLz r0 r1) ?_
    walk_at "go"
    refine ⟨(2 * (f+r.2.2)),(2 * u),rfl,by omega,aGi (by omega),aGi (by omega),fun q1 hq1=>?_⟩
    have fq1:FrQ (L2.upd H2 q1 (.tup [.int (aB1 ((2 * (f+r.2.2))) ((2 * u))),.int (aB2 ((2 * (f+r.2.2))) ((2 * u)))])) (.ref q1) (ut ((2 * u)) ((2 * (f+r.2.2)))):=FrQ.low (by omega) aAb
    have tq1:=aAo.new (H:=H2) (o:=.tup [.int (aB1 ((2 * (f+r.2.2))) ((2 * u))),.int (aB2 ((2 * (f+r.2.2))) ((2 * u)))]) hq1
    generalize L2.upd H2 q1 (.tup [.int (aB1 ((2 * (f+r.2.2))) ((2 * u))),.int (aB2 ((2 * (f+r.2.2))) ((2 * u)))])=H3 at fq1 tq1 ⊢
    walk_at "go"
    refine aAv fun p3 hp3=>?_
    have t3:=aAo.new (o:=.tup [.str "swept",.str (nmI U r.1),.ref q1]) hp3
    have ev:aEb (L2.upd H3 p3 (.tup [.str "swept",.str (nmI U r.1),.ref q1])) (.ref p3) (.swept (nmI U r.1) (ut (2 * u) (2 * (f+r.2.2)))):=⟨p3,.ref q1,rfl,aAb,fq1.tk (TK.new hp3)⟩
    generalize L2.upd H3 p3 (.tup [.str "swept",.str (nmI U r.1),.ref q1])=H4 at t3 ev ⊢
    rw [he] at q
    walk_at "go"
    rcases htk with ⟨rfl,rfl⟩ | ⟨w,rfl,rfl,w0,w1⟩
    ·walk_at "go"
     exact q _ _ (((s1.trans t0).trans tq1).trans t3) ev
    ·walk_at "go"
     refine aHy ?_
     walk_at "go"
     refine i_d (fun cw=>?_) (fun cw=>?_)
     ·walk_at "go"
      refine ⟨w,u,rfl,by omega,aGi (by omega),aGi (by omega),fun qw hqw=>?_⟩
      have fqw:FrQ (L2.upd H4 qw (.tup [.int (aB1 (w) (u)),.int (aB2 (w) (u))])) (.ref qw) (ut (u) (w)):=FrQ.low (by omega) aAb
      have tqw:=aAo.new (H:=H4) (o:=.tup [.int (aB1 (w) (u)),.int (aB2 (w) (u))]) hqw
      generalize L2.upd H4 qw (.tup [.int (aB1 (w) (u)),.int (aB2 (w) (u))])=GW at fqw tqw ⊢
      walk_at "go"
      refine aAv fun pw hpw=>?_
      walk_at "go"
      refine q _ _ (((((s1.trans t0).trans tq1).trans t3).trans tqw).trans (aAo.new hpw)) ?_
      show aEb _ _ (if aDk (ut u w) (some (ut (2 * u) (2 * (f+r.2.2))))=true then aBg.taken (ut u w) else aBg.swept (nmI U r.1) (ut (2 * u) (2 * (f+r.2.2))))
      rw [aEp u0,decide_eq_true cw,if_pos rfl]
      exact ⟨pw,.ref qw,rfl,aAb,fqw.tk (TK.new hpw)⟩
     ·walk_at "go"
      refine q _ _ (((s1.trans t0).trans tq1).trans t3) ?_
      show aEb _ _ (if aDk (ut u w) (some (ut (2 * u) (2 * (f+r.2.2))))=true then aBg.taken (ut u w) else aBg.swept (nmI U r.1) (ut (2 * u) (2 * (f+r.2.2))))
      rw [aEp u0,decide_eq_false cw,if_neg (by decide)]
      exact ev
   ·rw [eb]
    rw [eb'] at q
    cases (show vb=.int g from fb)
    obtain ⟨g0,g1⟩:=bdD _ _ eb'
    walk_at "go"
    refine aFw (.inl hkv2) eb ?_
    walk_at "go"
    refine aFw (.inl hkv2) ea ?_
    walk_at "go"
    refine i_d (fun c=>?_) (fun c=>?_)
    ·obtain ⟨_,e,he⟩:=aUv (a:=nmI U r.1) (b:=nmI U r.2.1) u0 (oa:=some f) (ob:=some g) (T:=r.2.2) (decide_eq_true c)
     cases e
     walk_at "go"
     refine aFw (.inl hkv2) ea ?_
     walk_at "go"
     refine aCa (.inl hQ2.d) aB9 ?_
     walk_at "go"
     refine aDx hQ2.nm (aLz r0 r1) ?_
     walk_at "go"
     refine ⟨(2 * (f+r.2.2)),(2 * u),rfl,by omega,aGi (by omega),aGi (by omega),fun q1 hq1=>?_⟩
     have fq1:FrQ (L2.upd H2 q1 (.tup [.int (aB1 ((2 * (f+r.2.2))) ((2 * u))),.int (aB2 ((2 * (f+r.2.2))) ((2 * u)))])) (.ref q1) (ut ((2 * u)) ((2 * (f+r.2.2)))):=FrQ.low (by omega) aAb
     have tq1:=aAo.new (H:=H2) (o:=.tup [.int (aB1 ((2 * (f+r.2.2))) ((2 * u))),.int (aB2 ((2 * (f+r.2.2))) ((2 * u)))]) hq1
     generalize L2.upd H2 q1 (.tup [.int (aB1 ((2 * (f+r.2.2))) ((2 * u))),.int (aB2 ((2 * (f+r.2.2))) ((2 * u)))])=H3 at fq1 tq1 ⊢
     walk_at "go"
     refine aAv fun p3 hp3=>?_
     have t3:=aAo.new (o:=.tup [.str "swept",.str (nmI U r.1),.ref q1]) hp3
     have ev:aEb (L2.upd H3 p3 (.tup [.str "swept",.str (nmI U r.1),.ref q1])) (.ref p3) (.swept (nmI U r.1) (ut (2 * u) (2 * (f+r.2.2)))):=⟨p3,.ref q1,rfl,aAb,fq1.tk (TK.new hp3)⟩
     generalize L2.upd H3 p3 (.tup [.str "swept",.str (nmI U r.1),.ref q1])=H4 at t3 ev ⊢
     rw [he] at q
     walk_at "go"
     rcases htk with ⟨rfl,rfl⟩ | ⟨w,rfl,rfl,w0,w1⟩
     ·walk_at "go"
      exact q _ _ (((s1.trans t0).trans tq1).trans t3) ev
     ·walk_at "go"
      refine aHy ?_
      walk_at "go"
      refine i_d (fun cw=>?_) (fun cw=>?_)
      ·walk_at "go"
       refine ⟨w,u,rfl,by omega,aGi (by omega),aGi (by omega),fun qw hqw=>?_⟩
       have fqw:FrQ (L2.upd H4 qw (.tup [.int (aB1 (w) (u)),.int (aB2 (w) (u))])) (.ref qw) (ut (u) (w)):=FrQ.low (by omega) aAb
       have tqw:=aAo.new (H:=H4) (o:=.tup [.int (aB1 (w) (u)),.int (aB2 (w) (u))]) hqw
       generalize L2.upd H4 qw (.tup [.int (aB1 (w) (u)),.int (aB2 (w) (u))])=GW at fqw tqw ⊢
       walk_at "go"
       refine aAv fun pw hpw=>?_
       walk_at "go"
       refine q _ _ (((((s1.trans t0).trans tq1).trans t3).trans tqw).trans (aAo.new hpw)) ?_
       show aEb _ _ (if aDk (ut u w) (some (ut (2 * u) (2 * (f+r.2.2))))=true then aBg.taken (ut u w) else aBg.swept (nmI U r.1) (ut (2 * u) (2 * (f+r.2.2))))
       rw [aEp u0,decide_eq_true cw,if_pos rfl]
       exact ⟨pw,.ref qw,rfl,aAb,fqw.tk (TK.new hpw)⟩
      ·walk_at "go"
       refine q _ _ (((s1.trans t0).trans tq1).trans t3) ?_
       show aEb _ _ (if aDk (ut u w) (some (ut (2 * u) (2 * (f+r.2.2))))=true then aBg.taken (ut u w) else aBg.swept (nmI U r.1) (ut (2 * u) (2 * (f+r.2.2))))
       rw [aEp u0,decide_eq_false cw,if_neg (by decide)]
       exact ev
    ·walk_at "go"
     refine aLt (.inl hkv2) ?_
     rw [eb]
     walk_at "go"
     refine aV6 (.inl hkv2) ?_
     rw [ea]
     walk_at "go"
     refine aFw (.inl hkv2) ea ?_
     walk_at "go"
     refine aFw (.inl hkv2) eb ?_
     walk_at "go"
     refine i_d (fun c3=>?_) (fun c3=>?_)
     ·obtain ⟨_,e,he⟩:=aRf (a:=nmI U r.1) (b:=nmI U r.2.1) u0 (oa:=some f) (ob:=some g) (T:=r.2.2) (decide_eq_false c) (decide_eq_true c3)
      cases e
      walk_at "go"
      refine aFw (.inl hkv2) eb ?_
      walk_at "go"
      refine aCa (.inl hQ2.d) aB9 ?_
      walk_at "go"
      refine aDx hQ2.nm (aLz r2 r3) ?_
      walk_at "go"
      refine ⟨(2 * (g+r.2.2)),(2 * u),rfl,by omega,aGi (by omega),aGi (by omega),fun q1 hq1=>?_⟩
      have fq1:FrQ (L2.upd H2 q1 (.tup [.int (aB1 ((2 * (g+r.2.2))) ((2 * u))),.int (aB2 ((2 * (g+r.2.2))) ((2 * u)))])) (.ref q1) (ut ((2 * u)) ((2 * (g+r.2.2)))):=FrQ.low (by omega) aAb
      have tq1:=aAo.new (H:=H2) (o:=.tup [.int (aB1 ((2 * (g+r.2.2))) ((2 * u))),.int (aB2 ((2 * (g+r.2.2))) ((2 * u)))]) hq1
      generalize L2.upd H2 q1 (.tup [.int (aB1 ((2 * (g+r.2.2))) ((2 * u))),.int (aB2 ((2 * (g+r.2.2))) ((2 * u)))])=H3 at fq1 tq1 ⊢
      walk_at "go"
      refine aAv fun p3 hp3=>?_
      have t3:=aAo.new (o:=.tup [.str "swept",.str (nmI U r.2.1),.ref q1]) hp3
      have ev:aEb (L2.upd H3 p3 (.tup [.str "swept",.str (nmI U r.2.1),.ref q1])) (.ref p3) (.swept (nmI U r.2.1) (ut (2 * u) (2 * (g+r.2.2)))):=⟨p3,.ref q1,rfl,aAb,fq1.tk (TK.new hp3)⟩
      generalize L2.upd H3 p3 (.tup [.str "swept",.str (nmI U r.2.1),.ref q1])=H4 at t3 ev ⊢
      rw [he] at q
      walk_at "go"
      rcases htk with ⟨rfl,rfl⟩ | ⟨w,rfl,rfl,w0,w1⟩
      ·walk_at "go"
       exact q _ _ (((s1.trans t0).trans tq1).trans t3) ev
      ·walk_at "go"
       refine aHy ?_
       walk_at "go"
       refine i_d (fun cw=>?_) (fun cw=>?_)
       ·walk_at "go"
        refine ⟨w,u,rfl,by omega,aGi (by omega),aGi (by omega),fun qw hqw=>?_⟩
        have fqw:FrQ (L2.upd H4 qw (.tup [.int (aB1 (w) (u)),.int (aB2 (w) (u))])) (.ref qw) (ut (u) (w)):=FrQ.low (by omega) aAb
        have tqw:=aAo.new (H:=H4) (o:=.tup [.int (aB1 (w) (u)),.int (aB2 (w) (u))]) hqw
        generalize L2.upd H4 qw (.tup [.int (aB1 (w) (u)),.int (aB2 (w) (u))])=GW at fqw tqw ⊢
        walk_at "go"
        refine aAv fun pw hpw=>?_
        walk_at "go"
        refine q _ _ (((((s1.trans t0).trans tq1).trans t3).trans tqw).trans (aAo.new hpw)) ?_
        show aEb _ _ (if aDk (ut u w) (some (ut (2 * u) (2 * (g+r.2.2))))=true then aBg.taken (ut u w) else aBg.swept (nmI U r.2.1) (ut (2 * u) (2 * (g+r.2.2))))
        rw [aEp u0,decide_eq_true cw,if_pos rfl]
        exact ⟨pw,.ref qw,rfl,aAb,fqw.tk (TK.new hpw)⟩
       ·walk_at "go"
        refine q _ _ (((s1.trans t0).trans tq1).trans t3) ?_
        show aEb _ _ (if aDk (ut u w) (some (ut (2 * u) (2 * (g+r.2.2))))=true then aBg.taken (ut u w) else aBg.swept (nmI U r.2.1) (ut (2 * u) (2 * (g+r.2.2))))
        rw [aEp u0,decide_eq_false cw,if_neg (by decide)]
        exact ev
     ·have he:=aXh (a:=nmI U r.1) (b:=nmI U r.2.1) u0 (f:=f) (g:=g) (T:=r.2.2) (by omega) (decide_eq_false c) (decide_eq_false c3)
      replace q:∀ v H',aAo H H'->aEb H' v (aTv (aHn (nmI U r.1) (nmI U r.2.1) (some (ut u f)) (some (ut u g)) (ut u r.2.2)) (otk.map (ut u)))->Q v H':=q
      rw [he] at q
      walk_at "go"
      refine aLt (.inl hkv2) ?_
      rw [ea]
      walk_at "go"
      refine aFw (.inl hkv2) ea ?_
      walk_at "go"
      refine aFw (.inl hkv2) eb ?_
      walk_at "go"
      refine ⟨(f+g+r.2.2),(2 * u),rfl,by omega,aGi (by omega),aGi (by omega),fun q1 hq1=>?_⟩
      have fq1:FrQ (L2.upd H2 q1 (.tup [.int (aB1 ((f+g+r.2.2)) ((2 * u))),.int (aB2 ((f+g+r.2.2)) ((2 * u)))])) (.ref q1) (ut ((2 * u)) ((f+g+r.2.2))):=FrQ.low (by omega) aAb
      have tq1:=aAo.new (H:=H2) (o:=.tup [.int (aB1 ((f+g+r.2.2)) ((2 * u))),.int (aB2 ((f+g+r.2.2)) ((2 * u)))]) hq1
      generalize L2.upd H2 q1 (.tup [.int (aB1 ((f+g+r.2.2)) ((2 * u))),.int (aB2 ((f+g+r.2.2)) ((2 * u)))])=H3 at fq1 tq1 ⊢
      have hkv3:=tq1 _ _ hkv2
      walk_at "go"
      refine aFw (.inl hkv3) ea ?_
      walk_at "go"
      refine ⟨(f+g+r.2.2 - 2 * f),(2 * r.2.2),rfl,by omega,aGi (by omega),aGi (by omega),fun q2 hq2=>?_⟩
      have fq2:FrQ (L2.upd H3 q2 (.tup [.int (aB1 ((f+g+r.2.2 - 2 * f)) ((2 * r.2.2))),.int (aB2 ((f+g+r.2.2 - 2 * f)) ((2 * r.2.2)))])) (.ref q2) (ut ((2 * r.2.2)) ((f+g+r.2.2 - 2 * f))):=FrQ.low (by omega) aAb
      have tq2:=aAo.new (H:=H3) (o:=.tup [.int (aB1 ((f+g+r.2.2 - 2 * f)) ((2 * r.2.2))),.int (aB2 ((f+g+r.2.2 - 2 * f)) ((2 * r.2.2)))]) hq2
      generalize L2.upd H3 q2 (.tup [.int (aB1 ((f+g+r.2.2 - 2 * f)) ((2 * r.2.2))),.int (aB2 ((f+g+r.2.2 - 2 * f)) ((2 * r.2.2)))])=H4 at fq2 tq2 ⊢
      walk_at "go"
      refine aAv fun p3 hp3=>?_
      have t3:=aAo.new (o:=.tup [.str "met",.ref q1,.ref q2]) hp3
      have ev:aEb (L2.upd H4 p3 (.tup [.str "met",.ref q1,.ref q2])) (.ref p3) (.met (ut (2 * u) (f+g+r.2.2)) (ut (2 * r.2.2) (f+g+r.2.2 - 2 * f))):=⟨p3,.ref q1,.ref q2,rfl,aAb,(fq1.tk tq2.tk).tk (TK.new hp3),fq2.tk (TK.new hp3)⟩
      generalize L2.upd H4 p3 (.tup [.str "met",.ref q1,.ref q2])=H5 at t3 ev ⊢
      walk_at "go"
      rcases htk with ⟨rfl,rfl⟩ | ⟨w,rfl,rfl,w0,w1⟩
      ·walk_at "go"
       exact q _ _ ((((s1.trans t0).trans tq1).trans tq2).trans t3) ev
      ·walk_at "go"
       refine aHy ?_
       walk_at "go"
       refine i_d (fun cw=>?_) (fun cw=>?_)
       ·walk_at "go"
        refine ⟨w,u,rfl,by omega,aGi (by omega),aGi (by omega),fun qw hqw=>?_⟩
        have fqw:FrQ (L2.upd H5 qw (.tup [.int (aB1 (w) (u)),.int (aB2 (w) (u))])) (.ref qw) (ut (u) (w)):=FrQ.low (by omega) aAb
        have tqw:=aAo.new (H:=H5) (o:=.tup [.int (aB1 (w) (u)),.int (aB2 (w) (u))]) hqw
        generalize L2.upd H5 qw (.tup [.int (aB1 (w) (u)),.int (aB2 (w) (u))])=GW at fqw tqw ⊢
        walk_at "go"
        refine aAv fun pw hpw=>?_
        walk_at "go"
        refine q _ _ ((((((s1.trans t0).trans tq1).trans tq2).trans t3).trans tqw).trans (aAo.new hpw)) ?_
        show aEb _ _ (if aDk (ut u w) (some (ut (2 * u) (f+g+r.2.2)))=true then aBg.taken (ut u w) else aBg.met (ut (2 * u) (f+g+r.2.2)) (ut (2 * r.2.2) (f+g+r.2.2 - 2 * f)))
        rw [aEp u0,decide_eq_true cw,if_pos rfl]
        exact ⟨pw,.ref qw,rfl,aAb,fqw.tk (TK.new hpw)⟩
       ·walk_at "go"
        refine q _ _ ((((s1.trans t0).trans tq1).trans tq2).trans t3) ?_
        show aEb _ _ (if aDk (ut u w) (some (ut (2 * u) (f+g+r.2.2)))=true then aBg.taken (ut u w) else aBg.met (ut (2 * u) (f+g+r.2.2)) (ut (2 * r.2.2) (f+g+r.2.2 - 2 * f)))
        rw [aEp u0,decide_eq_false cw,if_neg (by decide)]
        exact ev
theorem aS9 (T:Bl mg) (d:Df K mg "_law_whole" aLj ["_law_found"]  ):Okf P w K mg base (k+1) "_law_whole" ["_law_found"] (aMr K):=by
 refine Okf.of d aSq (fun vs H Q E h=>?_) (fun f cdv A outer s H vs Q E hr h=>?_)
 ·obtain ⟨x,t,b,c,rfl,_⟩:=h
  rfl
 ·obtain ⟨x,t,b,c,rfl,ty,e1,e2,q⟩:=h
  refine ⟨_,(@aAh _ _ _ (@aAw _ _ _ _ (@aH0 _ _ _ _ _ _ _ (@aAs _ _ _ _ _ _ _ _ _ (aB4 (T:="int")) rfl T.z_isinstance aA3 (@aAa _ _ _ _ _ (pv 0) (@aAa _ _ _ _ _ (@aCp _ _ (v:=.ty "int") _ _ rfl T.z_int aUz rfl (by decide) (by decide)) (@aAd _) (by rfl)) (by rfl)) (by decide) (by decide) (by rfl) (by rfl)) (@aFb _ _ _ _ _ (@aP4 _ _ _ _ (@aAs _ _ _ _ _ _ _ _ _ (aB4 (T:="bool")) rfl T.z_isinstance aA3 (@aAa _ _ _ _ _ (pv 0) (@aAa _ _ _ _ _ (@aCp _ _ (v:=.ty "bool") _ _ rfl T.z_bool aR2 rfl (by decide) (by decide)) (@aAd _) (by rfl)) (by rfl)) (by decide) (by decide) (by rfl) (by rfl))))))),?_⟩
  walk_at "go"
  refine aDy ty e1 ?_
  cases b
  ·walk_at "go"
   exact q
  ·walk_at "go"
   refine aDy ty e2 ?_
   walk_at "go"
   exact q
set_option maxHeartbeats 0 in
theorem aQc (T:Bl mg) (d:Df K mg "_law_same" aJ2 ["_law_found","_law_due_here"]  ) {dd:Nat} (o_whole:Okf P w K mg base k "_law_whole" ["_law_found"] (aMr K)) (o_same:Okf P w K mg base k "_law_same" ["_law_found","_law_due_here"] (aO3 dd)):Okf P w K mg base (k+1) "_law_same" ["_law_found","_law_due_here"] (aJr dd):=by
 refine Okf.of d aIk (fun vs H Q E h=>?_) (fun f cdv A outer s H vs Q E hr h=>?_)
 ·obtain ⟨x,y,rfl,_⟩:=h
  rfl
 ·obtain ⟨x,y,rfl,hs,q⟩:=h
  refine ⟨_,(@aAc _ _ _ _ _ (@aB3 _ _ _ _ _ _ _ _ (@aA2 _ _ _ _ _ _ _ _ aD2 (pv 1) (@aCc _ _ _) (aA4 _)) (@aAh _ _ _ (@aAw _ _ _ _ (@aEy _ _ _ _ _ _ _ _ aD2 (pv 0) (@aCc _ _ _) (aA4 _)))) (@aA5 _)) (@aAc _ _ _ _ _ (@aB3 _ _ _ _ _ _ _ _ (@aC4 _ _ _ (@aAs _ _ _ _ _ _ _ _ _ aRx rfl T.z_isinstance aA3 (@aAa _ _ _ _ _ (pv 1) (@aAa _ _ _ _ _ (@aBa _ _ _ _ _ (@aAa _ _ _ _ _ (@aCp _ _ (v:=.ty "list") _ _ rfl T.z_list aE1 rfl (by decide) (by decide)) (@aAa _ _ _ _ _ (@aCp _ _ (v:=.ty "tuple") _ _ rfl T.z_tuple aJg rfl (by decide) (by decide)) (@aAd _) (by rfl)) (by rfl))) (@aAd _) (by rfl)) (by rfl)) (by decide) (by decide) (by rfl) (by rfl)) (by intro _; rfl)) (@aAc _ _ _ _ _ (@aB3 _ _ _ _ _ _ _ _ (@PW.pt _ _ _ (@aGx _ _ _ _ _ _ _ (@aA2 _ _ _ _ _ _ _ _ (aM8 hr.units) (@aAs _ _ _ _ _ _ _ _ _ (aB4 (T:="list")) rfl T.z_isinstance aA3 (@aAa _ _ _ _ _ (pv 0) (@aAa _ _ _ _ _ (@aCp _ _ (v:=.ty "list") _ _ rfl T.z_list aE1 rfl (by decide) (by decide)) (@aAd _) (by rfl)) (by rfl)) (by decide) (by decide) (by rfl) (by rfl)) (@aAs _ _ _ _ _ _ _ _ _ (aB4 (T:="list")) rfl T.z_isinstance aA3 (@aAa _ _ _ _ _ (pv 1) (@aAa _ _ _ _ _ (@aCp _ _ (v:=.ty "list") _ _ rfl T.z_list aE1 rfl (by decide) (by decide)) (@aAd _) (by rfl)) (by rfl)) (by decide) (by decide) (by rfl) (by rfl)) (aA4 _)) (@aD0 _ _ _ _ (@aA2 _ _ _ _ _ _ _ _ (aM8 hr.units) (@aAs _ _ _ _ _ _ _ _ _ (aB4 (T:="tuple")) rfl T.z_isinstance aA3 (@aAa _ _ _ _ _ (pv 0) (@aAa _ _ _ _ _ (@aCp _ _ (v:=.ty "tuple") _ _ rfl T.z_tuple aJg rfl (by decide) (by decide)) (@aAd _) (by rfl)) (by rfl)) (by decide) (by decide) (by rfl) (by rfl)) (@aAs _ _ _ _ _ _ _ _ _ (aB4 (T:="tuple")) rfl T.z_isinstance aA3 (@aAa _ _ _ _ _ (pv 1) (@aAa _ _ _ _ _ (@aCp _ _ (v:=.ty "tuple") _ _ rfl T.z_tuple aJg rfl (by decide) (by decide)) (@aAd _) (by rfl)) (by rfl)) (by decide) (by decide) (by rfl) (by rfl)) (aA4 _))))) (@aAh _ _ _ (@aAw _ _ _ _ (@aJ6 _ _ _ _))) (@aA5 _)) (@aAc _ _ _ _ _ (@aB3 _ _ _ _ _ _ _ _ (@aA2 _ _ _ _ _ _ _ _ (aM8 hr.units) (@aAs _ _ _ _ _ _ _ _ _ aGe rfl T.z_len aDm (@aAa _ _ _ _ _ (pv 0) (@aAd _) (by rfl)) (by decide) (by decide) (by rfl) (by rfl)) (@aAs _ _ _ _ _ _ _ _ _ aGe rfl T.z_len aDm (@aAa _ _ _ _ _ (pv 1) (@aAd _) (by rfl)) (by decide) (by decide) (by rfl) (by rfl)) (aA4 _)) (@aAh _ _ _ (@aAw _ _ _ _ (@aJ6 _ _ _ _))) (@aA5 _)) (@aAc _ _ _ _ _ (@aCx _ _ _ _ _ _ _ _ PassesOwn.never rfl (@aWh _ _ _ _ _ _ _ _ _ rfl T.z_zip (@aAa _ _ _ _ _ (pv 0) (@aAa _ _ _ _ _ (pv 1) (@aAd _) (by rfl)) (by rfl)) (by rfl) (by rfl)) (@aD1 _ _ _ _ _ (n:=2) rfl (@aAn _ _ _ _ _ (@aAm _ _ (i:=2) _ aIk.nd rfl (by first | exact Or.inl rfl | exact Or.inr rfl) (by first | exact .inl rfl | exact .inr rfl | assumption)) (@aAn _ _ _ _ _ (@aAm _ _ (i:=3) _ aIk.nd rfl (by first | exact Or.inl rfl | exact Or.inr rfl) (by first | exact .inl rfl | exact .inr rfl | assumption)) (@aBy _) (by rfl)) (by rfl)) (by rfl) (by rfl)) (@aAh _ _ _ (@aB3 _ _ _ _ _ _ _ _ (@aM0 _ _ _ _ (@aC4 _ _ _ (@aAi _ _ _ _ _ _ _ _ _ _ o_same hr rfl (@aAa _ _ _ _ _ (pv 2) (@aAa _ _ _ _ _ (pv 3) (@aAd _) (by rfl)) (by rfl)) (by decide) (by rfl) (by rfl)) (by intro _; rfl))) (@aAh _ _ _ (@aAw _ _ _ _ (@aJ6 _ _ _ _))) (@aA5 _))) (by intro _; rfl)) (@aAh _ _ _ (@aAw _ _ _ _ (@aJ6 _ _ _ _)))))) (@aA5 _)) (@aAc _ _ _ _ _ (@aB3 _ _ _ _ _ _ _ _ (@aC4 _ _ _ (@aAs _ _ _ _ _ _ _ _ _ (aB4 (T:="str")) rfl T.z_isinstance aA3 (@aAa _ _ _ _ _ (pv 1) (@aAa _ _ _ _ _ (@aCp _ _ (v:=.ty "str") _ _ rfl T.z_str aUx rfl (by decide) (by decide)) (@aAd _) (by rfl)) (by rfl)) (by decide) (by decide) (by rfl) (by rfl)) (by intro _; rfl)) (@aAh _ _ _ (@aAw _ _ _ _ (@aH0 _ _ _ _ _ _ _ (@aAs _ _ _ _ _ _ _ _ _ (aB4 (T:="str")) rfl T.z_isinstance aA3 (@aAa _ _ _ _ _ (pv 0) (@aAa _ _ _ _ _ (@aCp _ _ (v:=.ty "str") _ _ rfl T.z_str aUx rfl (by decide) (by decide)) (@aAd _) (by rfl)) (by rfl)) (by decide) (by decide) (by rfl) (by rfl)) (@aFb _ _ _ _ _ (@aEy _ _ _ _ _ _ _ _ (aD3 hr.units) (pv 0) (pv 1) (aA4 _)))))) (@aA5 _)) (@aAh _ _ _ (@aAw _ _ _ _ (@aH0 _ _ _ _ _ _ _ (@aAi _ _ _ _ _ _ _ _ _ _ o_whole hr rfl (@aAa _ _ _ _ _ (pv 0) (@aAd _) (by rfl)) (by decide) (by rfl) (by rfl)) (@aFb _ _ _ _ _ (@aEy _ _ _ _ _ _ _ _ (aD3 hr.units) (pv 0) (pv 1) (aA4 _))))))))),?_⟩
  have hl:SmL x y∨∃ n a b xs ys,dd=n+1/\x=.ref a/\y=.ref b/\H a=some (.tup xs)/\H b=some (.tup ys)/\xs.length=ys.length/\xs.length<=1000/\∀ (i:Nat) (x y:V),xs[i]?=some x->ys[i]?=some y->SmQ n H x y:=by
   cases dd with
   | zero=>exact .inl hs
   | succ n =>
    rcases hs with h | ⟨a,b,xs,ys,e1,e2,h1,h2,hl,h3,h⟩
    ·exact .inl h
    ·exact .inr ⟨n,a,b,xs,ys,rfl,e1,e2,h1,h2,hl,h3,h⟩
  rcases hl with (⟨rfl,rfl⟩ | ⟨z,rfl,rfl⟩ | ⟨s',rfl,rfl⟩) | ⟨n,a,b,xs,ys,rfl,rfl,rfl,h1,h2,hl,h3,h⟩
  ·walk_at "go"
   exact q _ (aAo.refl _)
  ·walk_at "go"
   refine aAv fun p0 hp0=>?_
   have t0:=aAo.new (o:=.tup [.ty "list",.ty "tuple"]) hp0
   have g0:=aAb (H:=H) (a:=p0) (o:=.tup [.ty "list",.ty "tuple"])
   generalize L2.upd H p0 (.tup [.ty "list",.ty "tuple"])=H1 at t0 g0 ⊢
   walk_at "go"
   refine ⟨.int z,_,p0,_,_,false,false,rfl,g0,rfl,aKh,aI4,?_⟩
   walk_at "go"
   refine aXb (by decide) ?_
   walk_at "go"
   refine aDy (.int z) aMb ?_
   walk_at "go"
   refine ⟨_,_,true,false,rfl,.int z,aE0,aD7,?_⟩
   walk_at "go"
   refine aUt rfl ?_
   walk_at "go"
   rw [decide_eq_true rfl]
   exact q _ t0
  ·walk_at "go"
   refine aAv fun p0 hp0=>?_
   have t0:=aAo.new (o:=.tup [.ty "list",.ty "tuple"]) hp0
   have g0:=aAb (H:=H) (a:=p0) (o:=.tup [.ty "list",.ty "tuple"])
   generalize L2.upd H p0 (.tup [.ty "list",.ty "tuple"])=H1 at t0 g0 ⊢
   walk_at "go"
   refine ⟨.str s',_,p0,_,_,false,false,rfl,g0,rfl,aKg,aI3,?_⟩
   walk_at "go"
   refine aXb (by decide) ?_
   walk_at "go"
   refine aDy (.str s') aHa ?_
   walk_at "go"
   refine aDy (.str s') aHa ?_
   walk_at "go"
   rw [beq_self_eq_true]
   exact q _ t0
  ·walk_at "go"
   refine aAv fun p0 hp0=>?_
   have t0:=aAo.new (o:=.tup [.ty "list",.ty "tuple"]) hp0
   have g0:=aAb (H:=H) (a:=p0) (o:=.tup [.ty "list",.ty "tuple"])
   generalize L2.upd H p0 (.tup [.ty "list",.ty "tuple"])=H1 at t0 g0 ⊢
   have k1:=t0 _ _ h1
   have k2:=t0 _ _ h2
   walk_at "go"
   refine ⟨.ref b,_,p0,_,_,false,true,rfl,g0,⟨rfl,_,k2⟩,aC5,aCz,?_⟩
   walk_at "go"
   refine aUt rfl ?_
   walk_at "go"
   refine aDy (.tup k1) aC5 ?_
   walk_at "go"
   refine aDy (.tup k2) aC5 ?_
   walk_at "go"
   refine aUt rfl ?_
   walk_at "go"
   refine aDy (.tup k1) aCz ?_
   walk_at "go"
   refine aDy (.tup k2) aCz ?_
   walk_at "go"
   refine aUt rfl ?_
   walk_at "go"
   refine aVw ?_
   walk_at "go"
   refine e_Z k1 k2 ?_
   refine aZr hl (fun i σ G=>∃ (o2 o3:Option V),σ=[some (.ref a),some (.ref b),o2,o3]/\aAo H1 G) ⟨_,_,rfl,aAo.refl _⟩ ?_ ?_ ?_
   ·rintro i σ G _ ⟨o2,o3,rfl,s1⟩
    exact ⟨SqT.of (s1 _ _ k1),SqT.of (s1 _ _ k2)⟩
   ·rintro i x y T' σ G hx hy hT ⟨o2,o3,rfl,s1⟩
    have t2:=aAo.new (o:=.tup [x,y]) hT
    have g2:=aAb (H:=G) (a:=T') (o:=.tup [x,y])
    generalize L2.upd G T' (.tup [x,y])=G2 at t2 g2 ⊢
    have t3:=s1.trans t2
    walk_at "go"
    refine ⟨x,y,rfl,(h i x y hx hy).sm (t0.trans t3),fun H' s'=>?_⟩
    walk_at "go"
    exact ⟨_,_,rfl,t3.trans s'⟩
   ·rintro σ G ⟨o2,o3,rfl,s1⟩
    walk_at "go"
    exact q _ (t0.trans s1)
set_option maxHeartbeats 0 in
theorem bAy {f:Addr} {fd:FuncData} (T:Bl mg) (F:Fun K "law" "law" aIn f fd) (o_same:Okf P w K mg base k "_law_same" ["_law_found","_law_due_here"] (aJr 3)) (o_ending_of:aOk P w K mg base k "ending_of" ["net","pushes","number","takings"] [.non] 3 ["takings"] (aO9 w)) (o_end:Okf P w K mg base k "_law_end" ["_law_here_here","_law_due_here","_law_k"] aO8) (o_handed:Okf P w K mg base k "_law_handed" ["_law_here_here"] aHw) (o_net:Okf P w K mg base k "_law_net" ["_law_here_here"] aO6) (o_due:Okf P w K mg base k "_law_due" ["_law_here_here"] aYu) (o_here:Okf P w K mg base k "_law_here" ["_law_script","_law_most","_law_extra"] (aMt K)):aK2 P w K mg base CX0 (k+1) f fd ["_law_script"] (aSk K):=by
 refine F.ok aDu (fun vs H Q E h=>?_) (fun cdv A outer s H vs Q E hr h=>?_)
 ·obtain ⟨a,ns,rfl,_⟩:=h
  rfl
 ·obtain ⟨a,ns,rfl,hS,h63,q⟩:=h
  refine ⟨_,(@aAc _ _ _ _ _ (@aAk _ _ (i:=1) _ _ _ _ aDu.nd rfl (by first | exact Or.inl rfl | exact Or.inr rfl) (@aAi _ _ _ _ _ _ _ _ _ _ o_here hr rfl (@aAa _ _ _ _ _ (pv 0) (@aAa _ _ _ _ _ (@aAf _ _ _ _) (@aAa _ _ _ _ _ (@aAf _ _ _ _) (@aAd _) (by rfl)) (by rfl)) (by rfl)) (by decide) (by rfl) (by rfl)) (by rfl) (by first | exact .inl rfl | exact .inr rfl | assumption)) (@aAc _ _ _ _ _ (@aAk _ _ (i:=2) _ _ _ _ aDu.nd rfl (by first | exact Or.inl rfl | exact Or.inr rfl) (@aAi _ _ _ _ _ _ _ _ _ _ o_due hr rfl (@aAa _ _ _ _ _ (pv 1) (@aAd _) (by rfl)) (by decide) (by rfl) (by rfl)) (by rfl) (by first | exact .inl rfl | exact .inr rfl | assumption)) (@aAc _ _ _ _ _ (@aAk _ _ (i:=3) _ _ _ _ aDu.nd rfl (by first | exact Or.inl rfl | exact Or.inr rfl) (@aAi _ _ _ _ _ _ _ _ _ _ o_net hr rfl (@aAa _ _ _ _ _ (pv 1) (@aAd _) (by rfl)) (by decide) (by rfl) (by rfl)) (by rfl) (by first | exact .inl rfl | exact .inr rfl | assumption)) (@aAc _ _ _ _ _ (@aPu _ _ _ _ _ _ (@aAi _ _ _ _ _ _ _ _ _ _ o_handed hr rfl (@aAa _ _ _ _ _ (pv 1) (@aAd _) (by rfl)) (by decide) (by rfl) (by rfl)) (@aD1 _ _ _ _ _ (n:=2) rfl (@aAn _ _ _ _ _ (@aAm _ _ (i:=4) _ aDu.nd rfl (by first | exact Or.inl rfl | exact Or.inr rfl) (by first | exact .inl rfl | exact .inr rfl | assumption)) (@aAn _ _ _ _ _ (@aAm _ _ (i:=5) _ aDu.nd rfl (by first | exact Or.inl rfl | exact Or.inr rfl) (by first | exact .inl rfl | exact .inr rfl | assumption)) (@aBy _) (by rfl)) (by rfl)) (by rfl) (by rfl)) (by rfl) (by rfl) (by rfl)) (@aAc _ _ _ _ _ (@aAk _ _ (i:=6) _ _ _ _ aDu.nd rfl (by first | exact Or.inl rfl | exact Or.inr rfl) (@aB8 _ _ _ _ (@aAa _ _ _ _ _ (@aDa _ _ _ _ _ _ _ _ _ aRy rfl T.z_list aE1 (@aAa _ _ _ _ _ (pv 3) (@aAd _) (by rfl)) (by decide) (by decide) (by rfl) (by rfl)) (@aAa _ _ _ _ _ (@aDa _ _ _ _ _ _ _ _ _ aRy rfl T.z_list aE1 (@aAa _ _ _ _ _ (pv 4) (@aAd _) (by rfl)) (by decide) (by decide) (by rfl) (by rfl)) (@aAa _ _ _ _ _ (@aDa _ _ _ _ _ _ _ _ _ aRy rfl T.z_list aE1 (@aAa _ _ _ _ _ (pv 5) (@aAd _) (by rfl)) (by decide) (by decide) (by rfl) (by rfl)) (@aAd _) (by rfl)) (by rfl)) (by rfl))) (by rfl) (by first | exact .inl rfl | exact .inr rfl | assumption)) (@aAc _ _ _ _ _ (@aCx _ _ _ _ _ _ _ _ PassesOwn.never rfl (@aP0 _ _ _ _ _ _ _ _ rfl T.z_range (@aAa _ _ _ _ _ (@aAf _ _ _ _) (@aAa _ _ _ _ _ (@aAs _ _ _ _ _ _ _ _ _ aGe rfl T.z_len aDm (@aAa _ _ _ _ _ (pv 3) (@aAd _) (by rfl)) (by decide) (by decide) (by rfl) (by rfl)) (@aAa _ _ _ _ _ (@aAj _ _ _ _ _ _ _ _ aAy (@aAf _ _ _ _) (@aAj _ _ _ _ _ _ _ _ aAx (@aAs _ _ _ _ _ _ _ _ _ aGe rfl T.z_len aDm (@aAa _ _ _ _ _ (pv 3) (@aAd _) (by rfl)) (by decide) (by decide) (by rfl) (by rfl)) (@aAf _ _ _ _))) (@aAd _) (by rfl)) (by rfl)) (by rfl)) (by rfl) (by rfl)) (@aAm _ _ (i:=7) _ aDu.nd rfl (by first | exact Or.inl rfl | exact Or.inr rfl) (by first | exact .inl rfl | exact .inr rfl | assumption)) (@aAc _ _ _ _ _ (@aAk _ _ (i:=8) _ _ _ _ aDu.nd rfl (by first | exact Or.inl rfl | exact Or.inr rfl) (@aAi _ _ _ _ _ _ _ _ _ _ o_end hr rfl (@aAa _ _ _ _ _ (pv 1) (@aAa _ _ _ _ _ (pv 2) (@aAa _ _ _ _ _ (pv 7) (@aAd _) (by rfl)) (by rfl)) (by rfl)) (by decide) (by rfl) (by rfl)) (by rfl) (by first | exact .inl rfl | exact .inr rfl | assumption)) (@aAc _ _ _ _ _ (@aAk _ _ (i:=9) _ _ _ _ aDu.nd rfl (by first | exact Or.inl rfl | exact Or.inr rfl) (@aB8 _ _ _ _ (@aAa _ _ _ _ _ (@aAi _ _ _ _ _ _ _ _ _ _ o_ending_of.d.f hr rfl (@aAa _ _ _ _ _ (@aAz _ _ _ _ _ _ _ aA0 (pv 6) (@aAf _ _ _ _) (fun _ _=>rfl)) (@aAa _ _ _ _ _ (@aAz _ _ _ _ _ _ _ aA0 (pv 6) (@aAf _ _ _ _) (fun _ _=>rfl)) (@aAa _ _ _ _ _ (pv 7) (@aAa _ _ _ _ _ (@aAz _ _ _ _ _ _ _ aA0 (pv 6) (@aAf _ _ _ _) (fun _ _=>rfl)) (@aAd _) (by rfl)) (by rfl)) (by rfl)) (by rfl)) (by decide) (by rfl) (by rfl)) (@aAd _) (by rfl))) (by rfl) (by first | exact .inl rfl | exact .inr rfl | assumption)) (@aAc _ _ _ _ _ (@aB3 _ _ _ _ _ _ _ _ (@aA2 _ _ _ _ _ _ _ _ (aD3 hr.units) (pv 7) (@aAf _ _ _ _) (aA4 _)) (@aAc _ _ _ _ _ (@aCy _ _ _ _ (@aF9 _ _ _ _ _ _ _ _ _ _ _ _ PySem.F.plainAttrs_list PySem.F.slot_list_append PySem.F.type_list_append aBs (pv 9) (@aAa _ _ _ _ _ (@aP6 _ _ _ _ _ _ _ _ _ _ _ _ _ _ _ _ o_ending_of hr rfl (@aAa _ _ _ _ _ (@aAz _ _ _ _ _ _ _ aA0 (pv 6) (@aAf _ _ _ _) (fun _ _=>rfl)) (@aAa _ _ _ _ _ (@aAz _ _ _ _ _ _ _ aA0 (pv 6) (@aAf _ _ _ _) (fun _ _=>rfl)) (@aAa _ _ _ _ _ (pv 7) (@aAd _) (by rfl)) (by rfl)) (by rfl)) (@aAz _ _ _ _ _ _ _ aA0 (pv 6) (@aAf _ _ _ _) (fun _ _=>rfl)) (by decide) (by rfl) (by rfl)) (@aAd _) (by rfl)) (by rfl) (by rfl) (by rfl) (by rfl) (by rfl)) (by rfl)) (@aAh _ _ _ (@aB3 _ _ _ _ _ _ _ _ (@aA2 _ _ _ _ _ _ _ _ (aD3 hr.units) (pv 5) (@aB8 _ _ _ _ (@aAd _)) (aA4 _)) (@aAh _ _ _ (@aCy _ _ _ _ (@aF9 _ _ _ _ _ _ _ _ _ _ _ _ PySem.F.plainAttrs_list PySem.F.slot_list_append PySem.F.type_list_append aBs (pv 9) (@aAa _ _ _ _ _ (@aS7 _ _ _ _ _ _ _ _ _ _ _ o_ending_of.d hr rfl (@aAa _ _ _ _ _ (@aAz _ _ _ _ _ _ _ aA0 (pv 6) (@aAf _ _ _ _) (fun _ _=>rfl)) (@aAa _ _ _ _ _ (@aAz _ _ _ _ _ _ _ aA0 (pv 6) (@aAf _ _ _ _) (fun _ _=>rfl)) (@aAa _ _ _ _ _ (pv 7) (@aAd _) (by rfl)) (by rfl)) (by rfl)) (by decide) (by rfl) (by rfl)) (@aAd _) (by rfl)) (by rfl) (by rfl) (by rfl) (by rfl) (by rfl)) (by rfl))) (@aA5 _)))) (@aA5 _)) (@aAh _ _ _ (@aCx _ _ _ _ _ _ _ _ PassesOwn.never rfl (@aBx _ _ _ _ (pv 9)) (@aAm _ _ (i:=10) _ aDu.nd rfl (by first | exact Or.inl rfl | exact Or.inr rfl) (by first | exact .inl rfl | exact .inr rfl | assumption)) (@aAh _ _ _ (@aB3 _ _ _ _ _ _ _ _ (@aM0 _ _ _ _ (@aC4 _ _ _ (@aAi _ _ _ _ _ _ _ _ _ _ o_same hr rfl (@aAa _ _ _ _ _ (pv 10) (@aAa _ _ _ _ _ (pv 8) (@aAd _) (by rfl)) (by rfl)) (by decide) (by rfl) (by rfl)) (by intro _; rfl))) (@aAh _ _ _ (@aAw _ _ _ _ (@aJ6 _ _ _ _))) (@aA5 _))) (by intro _; rfl)))))) (by intro _; rfl)) (@aAh _ _ _ (@aAw _ _ _ _ (@aEy _ _ _ _ _ _ _ _ (aD3 hr.units) (pv 6) (@aB8 _ _ _ _ (@aAa _ _ _ _ _ (pv 3) (@aAa _ _ _ _ _ (pv 4) (@aAa _ _ _ _ _ (pv 5) (@aAd _) (by rfl)) (by rfl)) (by rfl))) (aA4 _)))))))))),?_⟩
  walk_at "go"
  refine ⟨a,ns,rfl,hS,h63,fun dd H1 U u rs ps ts ln lr lp lt hdd s1 hI hQ=>?_⟩
  walk_at "go"
  refine ⟨dd,U,u,rs,ps,ts,ln,lr,lp,lt,rfl,hI,hQ,fun d H2 D hd s2 dq du fal=>?_⟩
  have hQ2:=hQ.sm s2
  walk_at "go"
  refine ⟨dd,U,u,rs,ps,ts,ln,lr,lp,lt,rfl,hI,hQ2,fun n0 H3 hn0 s3 nq=>?_⟩
  have hQ3:=hQ2.sm s3
  walk_at "go"
  refine ⟨dd,U,u,rs,ps,ts,ln,lr,lp,lt,rfl,hI,hQ3,fun tp H4 l1 l2 htp hl1 hl2 s4 htq pq tq=>?_⟩
  have hQ4:=hQ3.sm s4
  have nq4:=nq.sm aHk.tk s4
  have dq4:=dq.sm IQ.tk (s3.trans s4)
  have s14:=s1.trans (s2.trans (s3.trans s4))
  have u0:=hI.u0
  have u1:=hI.u1
  have hrl:=hI.rl
  have hr1:=hI.r1
  have hpl:=hI.pl
  have htl:=hI.tl
  have hU98:=hI.n98
  have hsl:=aLx rs ps
  have hpsl:(psU U u (aE5 rs ps)).length<=20:=by unfold psU; rw [List.length_map]; omega
  have htsl:(tsU u ts).length<=20:=by unfold tsU; rw [List.length_map]; exact htl
  have hdl:=du.len
  have bdD:∀ x∈D,0<=x.2/\x.2<=10 ^ 33:=fun x hx=>by
   have:=du.bd x hx
   omega
  obtain ⟨vn,hvn,pvn⟩:=id nq4
  obtain ⟨vp,hvp,pvp⟩:=id pq
  obtain ⟨vt,hvt,pvt⟩:=id tq
  have hvnl:vn.length=rs.length:=(Paired.length pvn).trans (by simp [kn,aG5])
  walk_at "go"
  refine aW6 hvn fun m1 hm1=>?_
  walk_at "go"
  refine aW6 (aAl hm1 hvp) fun m2 hm2=>?_
  walk_at "go"
  refine aW6 (aAl hm2 (aAl hm1 hvt)) fun m3 hm3=>?_
  walk_at "go"
  refine aB7 fun lh hlh=>?_
  have s78:=(((aAo.new (o:=.lst vn) hm1).trans (aAo.new (o:=.lst vp) hm2)).trans (aAo.new (o:=.lst vt) hm3)).trans (aAo.new (o:=.lst [.ref m1,.ref m2,.ref m3]) hlh)
  have g1:=aAl (o:=.lst [.ref m1,.ref m2,.ref m3]) hlh (aAl (o:=.lst vt) hm3 (aAl (o:=.lst vp) hm2 (aAb (H:=H4) (a:=m1) (o:=.lst vn))))
  have g2:=aAl (o:=.lst [.ref m1,.ref m2,.ref m3]) hlh (aAl (o:=.lst vt) hm3 (aAb (H:=L2.upd H4 m1 (.lst vn)) (a:=m2) (o:=.lst vp)))
  have g3:=aAl (o:=.lst [.ref m1,.ref m2,.ref m3]) hlh (aAb (H:=L2.upd (L2.upd H4 m1 (.lst vn)) m2 (.lst vp)) (a:=m3) (o:=.lst vt))
  have gh:=aAb (H:=L2.upd (L2.upd (L2.upd H4 m1 (.lst vn)) m2 (.lst vp)) m3 (.lst vt)) (a:=lh) (o:=.lst [.ref m1,.ref m2,.ref m3])
  generalize L2.upd (L2.upd (L2.upd (L2.upd H4 m1 (.lst vn)) m2 (.lst vp)) m3 (.lst vt)) lh (.lst [.ref m1,.ref m2,.ref m3])=H8 at s78 g1 g2 g3 gh ⊢
  have q1:LQ aHk H8 m1 (kn (aG5 U u rs)):=⟨vn,g1,Pd.imp pvn fun v b f=>aHk.tk f s78.tk⟩
  have q2:LQ KvQ H8 m2 (psU U u (aE5 rs ps)):=⟨vp,g2,Pd.imp pvp fun v b f=>KvQ.tk f s78.tk⟩
  have q3:LQ KvQ H8 m3 (tsU u ts):=⟨vt,g3,Pd.imp pvt fun v b f=>KvQ.tk f s78.tk⟩
  have nq8:=nq4.sm aHk.tk s78
  have pq8:=pq.sm KvQ.tk s78
  have tq8:=tq.sm KvQ.tk s78
  have hQ8:=hQ4.sm s78
  have dq8:=dq4.sm IQ.tk s78
  have hS8:=(s14.trans s78).seq hS
  have hvn8:=s78 _ _ hvn
  clear g1 g2 g3 hm1 hm2 hm3 hlh hvp hvt pvp pvt pvn hvn hQ4 dq4 nq4 pq tq hQ hQ2 hQ3 nq htq htp hl1 hl2 hn0 hd hdd dq s14 s78 s1 s2 s3 s4 hS
  walk_at "go"
  refine aY3 ?_
  walk_at "go"
  have hst:St4 (1+(vn.length:Int).fdiv 33):=by
   rw [Int.fdiv_eq_ediv_of_nonneg _ (by decide)]
   unfold St4
   omega
  refine ⟨_,_,_,rfl,⟨hst,by decide,by decide,by omega,by omega⟩,?_⟩
  generalize 1+(vn.length:Int).fdiv 33=st at hst ⊢
  have hlt:∀ i,i < (Builtin.Range.rangeSize 0 (vn.length:Int) st).toNat->0+(i:Int) * st < vn.length:=fun i hi=>aVl hst hi
  generalize (Builtin.Range.rangeSize 0 (vn.length:Int) st).toNat=N at hlt ⊢
  have hst0:0<=st:=by unfold St4 at hst; omega
  refine aZs (fun i σ G=>∃ (o7 o8 o9 o10:Option V),σ=[some (.ref a),some (.ref dd),some (.ref d),some (.ref n0),some (.ref l1),some (.ref l2),some (.ref lh),o7,o8,o9,o10]/\aAo H8 G) ⟨_,_,_,_,rfl,aAo.refl _⟩ ?_ ?_
  ·rintro i σ G hi ⟨o7,o8,o9,o10,rfl,sG⟩
   have hi2:=hlt i hi
   have hi3:0<=(i:Int) * st:=Int.mul_nonneg (by omega) hst0
   obtain ⟨kk,hkk⟩:∃ kk:Nat,0+(i:Int) * st=(kk:Int):=⟨(0+(i:Int) * st).toNat,by omega⟩
   rw [hkk] at hi2 ⊢
   have hkn:kk < rs.length:=by omega
   obtain ⟨r,hrk⟩:∃ r,rs[kk]?=some r:=⟨_,List.getElem?_eq_getElem hkn⟩
   have hnk:(aG5 U u rs)[kk]?=some (nmI U r.1,nmI U r.2.1,ut u r.2.2):=by
    unfold aG5
    rw [List.getElem?_map,hrk]
    rfl
   walk_at "go"
   refine ⟨dd,U,u,rs,ps,ts,ln,lr,lp,lt,d,D,kk,r,rfl,hI,hQ8.sm sG,dq8.sm IQ.tk sG,du,hrk,fun ev G1 t1 eq1=>?_⟩
   have sG1:=sG.trans t1
   have ghG1:=sG1 _ _ gh
   walk_at "go"
   refine ⟨m1,aG5 U u rs,m2,psU U u (aE5 rs ps),.ref m3,tsU u ts,u.toNat,10 ^ 31,U,kk,_,rfl,aQi (q1.sm aHk.tk sG1) (by rw [aQk]; omega) (aW0 hI) (aQj hI),⟨q2.sm KvQ.tk sG1,by omega,aWn hI⟩,⟨.inr ⟨m3,rfl,q3.sm KvQ.tk sG1⟩,by omega,fun x hx=>(aSg hI x hx).mono (by decide)⟩,aPl u0 u1,by omega,aIu hI,hnk,sz_u u0 u1,aSg hI,fun fv G2 FF t2 fo zF fvq=>?_⟩
   rw [show aCh FF=mT U u D from fo.falls.uniq fal] at fvq
   replace fvq:aEb G2 fv (aTv (aHn (nmI U r.1) (nmI U r.2.1) (mT U u D (Sum.inr (nmI U r.1))) (mT U u D (Sum.inr (nmI U r.2.1))) (ut u r.2.2)) (aC8 (tsU u ts) kk)):=fvq
   have eq2:=eq1.tk t2.tk
   have sG2:=sG1.trans t2
   clear fo zF eq1 ghG1 t1 t2 sG1
   walk_at "go"
   refine aB7 fun lT hlT=>?_
   have hlT8:H8 lT=none:=sG2.free hlT
   have t3:=aAo.new (o:=.lst [fv]) hlT
   have gT:=aAb (H:=G2) (a:=lT) (o:=.lst [fv])
   have eq3:=eq2.tk t3.tk
   have fv3:=fvq.tk t3.tk
   generalize L2.upd G2 lT (.lst [fv])=G3 at t3 gT eq3 fv3 ⊢
   have sG3:=sG2.trans t3
   clear eq2 fvq sG2 t3 hlT
   walk_at "gos"
   refine r_nx ?_
   refine aNz ?_
   refine aZ2 (fun σ F=>∃ (xs:List V) (o10:Option V),σ=[some (.ref a),some (.ref dd),some (.ref d),some (.ref n0),some (.ref l1),some (.ref l2),some (.ref lh),some (.int (kk:Int)),some ev,some (.ref lT),o10]/\aAo H8 F/\F lT=some (.lst xs)/\(∀ x∈xs,aEb F x (aTv (aHn (nmI U r.1) (nmI U r.2.1) (mT U u D (Sum.inr (nmI U r.1))) (mT U u D (Sum.inr (nmI U r.2.1))) (ut u r.2.2)) (aC8 (tsU u ts) kk)))/\aEb F ev (aTv (aHn (nmI U r.1) (nmI U r.2.1) (mT U u D (Sum.inr (nmI U r.1))) (mT U u D (Sum.inr (nmI U r.2.1))) (ut u r.2.2)) (aC8 (tsU u ts) kk))) ?_ ?_
   ·rintro σ F ⟨xs,o10,rfl,sF,gF,hx,he⟩
    walk_at "go"
    refine aBw (SqL.of gF) ?_
    refine aPo (xs:=xs) (fun i σ F'=>∃ (o10:Option V),σ=[some (.ref a),some (.ref dd),some (.ref d),some (.ref n0),some (.ref l1),some (.ref l2),some (.ref lh),some (.int (kk:Int)),some ev,some (.ref lT),o10]/\aAo F F') ⟨_,rfl,aAo.refl _⟩ ?_ ?_ ?_
    ·rintro j σ F' _ ⟨o10,rfl,s'⟩
     exact SqL.of (s' _ _ gF)
    ·rintro j x σ F' hx' ⟨o10,rfl,s'⟩
     walk_at "go"
     refine ⟨x,ev,rfl,aYw ((hx x (List.mem_of_getElem? hx')).tk s'.tk) (he.tk s'.tk),fun F2 t2=>?_⟩
     walk_at "go"
     exact ⟨_,rfl,s'.trans t2⟩
    ·rintro σ F' ⟨o10,rfl,s'⟩
     walk_at "go"
     exact ⟨_,_,_,_,rfl,sF.trans s'⟩
   ·intro NX hNX
    have ghG3:=sG3 _ _ gh
    walk_at "go"
    refine i_d (fun c1=>?_) (fun c1=>?_)
    ·walk_at "go"
     refine ⟨m1,aG5 U u rs,m2,psU U u (aE5 rs ps),.ref m3,tsU u ts,u.toNat,10 ^ 31,U,kk,_,rfl,aQi (q1.sm aHk.tk sG3) (by rw [aQk]; omega) (aW0 hI) (aQj hI),⟨q2.sm KvQ.tk sG3,by omega,aWn hI⟩,⟨.inr ⟨m3,rfl,q3.sm KvQ.tk sG3⟩,by omega,fun x hx=>(aSg hI x hx).mono (by decide)⟩,aPl u0 u1,by omega,aIu hI,hnk,sz_u u0 u1,aSg hI,fun fv2 G4 FF t4 fo zF fvq=>?_⟩
     rw [show aCh FF=mT U u D from fo.falls.uniq fal] at fvq
     replace fvq:aEb G4 fv2 (aTv (aHn (nmI U r.1) (nmI U r.2.1) (mT U u D (Sum.inr (nmI U r.1))) (mT U u D (Sum.inr (nmI U r.2.1))) (ut u r.2.2)) (aC8 (tsU u ts) kk)):=fvq
     clear fo zF
     have sG4:=sG3.trans t4
     have gT4:=t4 _ _ gT
     have eq4:=eq3.tk t4.tk
     have fv4:=fv3.tk t4.tk
     walk_at "go"
     refine aEw gT4 (show 1<=1000 by decide) ?_
     have tL:TK G4 (L2.upd G4 lT (.lst ([fv]++[fv2]))):=TK.lst gT4
     have sG5:aAo H8 (L2.upd G4 lT (.lst ([fv]++[fv2]))):=Kp.upd.sm sG4 hlT8
     have gT5:=aAb (H:=G4) (a:=lT) (o:=.lst ([fv]++[fv2]))
     have eq5:=eq4.tk tL
     have fv5:=fv4.tk tL
     have fw5:=fvq.tk tL
     generalize L2.upd G4 lT (.lst ([fv]++[fv2]))=G5 at sG5 gT5 eq5 fv5 fw5 ⊢
     clear tL
     walk_at "go"
     refine aB7 fun le hle=>?_
     have tE:=aAo.new (o:=.lst []) hle
     have hE:=aAb (H:=G5) (a:=le) (o:=.lst [])
     generalize L2.upd G5 le (.lst [])=G6 at tE hE ⊢
     have sG6:=sG5.trans tE
     have ghG6:=sG6 _ _ gh
     obtain ⟨vt2,hvt2,pvt2⟩:=id (tq8.sm KvQ.tk sG6)
     have gT6:=tE _ _ gT5
     have eq6:=eq5.tk tE.tk
     have fv6:=fv5.tk tE.tk
     have fw6:=fw5.tk tE.tk
     walk_at "go"
     refine e_kvE hvt2 pvt2 hE ?_
     walk_at "go"
     refine i_d (fun c2=>?_) (fun c2=>?_)
     ·have fal2:=fal
      rw [c2] at fal2
      walk_at "go"
      refine ⟨m1,aG5 U u rs,m2,psU U u (aE5 rs ps),.non,[],u.toNat,10 ^ 31,U,kk,_,rfl,aQi (q1.sm aHk.tk sG6) (by rw [aQk]; omega) (aW0 hI) (aQj hI),⟨q2.sm KvQ.tk sG6,by omega,aWn hI⟩,⟨.inl ⟨rfl,rfl⟩,by decide,fun _ h=>nomatch h⟩,aPl u0 u1,by omega,aIu hI,hnk,sz_u u0 u1,(fun _ h=>nomatch h),fun fv3' G7 FF t7 fo zF fvq3=>?_⟩
      rw [show aCh FF=mT U u D from fo.falls.uniq fal2] at fvq3
      replace fvq3:aEb G7 fv3' (aTv (aHn (nmI U r.1) (nmI U r.2.1) (mT U u D (Sum.inr (nmI U r.1))) (mT U u D (Sum.inr (nmI U r.2.1))) (ut u r.2.2)) (aC8 [] kk)):=fvq3
      rw [← c2] at fvq3
      have gT7:=t7 _ _ gT6
      walk_at "go"
      refine aEw gT7 (show 2<=1000 by decide) ?_
      have tL:TK G7 (L2.upd G7 lT (.lst ([fv]++[fv2]++[fv3']))):=TK.lst gT7
      walk_at "go"
      refine hNX _ _ ⟨_,_,rfl,Kp.upd.sm (sG6.trans t7) hlT8,aAb,fun x hx=>?_,(eq6.tk t7.tk).tk tL⟩
      simp only [List.cons_append,List.nil_append,List.mem_cons,List.not_mem_nil,or_false] at hx
      rcases hx with rfl | rfl | rfl
      ·exact (fv6.tk t7.tk).tk tL
      ·exact (fw6.tk t7.tk).tk tL
      ·exact fvq3.tk tL
     ·walk_at "go"
      refine hNX _ _ ⟨_,_,rfl,sG6,gT6,fun x hx=>?_,eq6⟩
      simp only [List.cons_append,List.nil_append,List.mem_cons,List.not_mem_nil,or_false] at hx
      rcases hx with rfl | rfl
      ·exact fv6
      ·exact fw6
    ·walk_at "go"
     refine hNX _ _ ⟨_,_,rfl,sG3,gT,fun x hx=>?_,eq3⟩
     rw [List.mem_singleton.mp hx]
     exact fv3
  ·rintro σ G ⟨o7,o8,o9,o10,rfl,sG⟩
   walk_at "go"
   refine aB7 fun le hle=>?_
   have sE:=sG.trans (aAo.new (o:=.lst [.ref n0,.ref l1,.ref l2]) hle)
   walk_at "go"
   refine aXj (sE _ _ gh) aAb (q1.sm aHk.tk sE) (q2.sm KvQ.tk sE) (q3.sm KvQ.tk sE) (nq8.sm aHk.tk sE) (pq8.sm KvQ.tk sE) (tq8.sm KvQ.tk sE) ?_
   walk_at "go"
   exact q _
end
structure DA (K:PySem.W.Frag) (n:Str) (s:Stmt):Prop where
 ex:∃ (f:Addr) (oc:Value) (od an:Option Addr) (sl:Array (Option Value)) (kV dc pm cd ct:Value),PySem.W.nsIn K mainGlobals n=some (some (.ref f))/\K.lookup f=some ⟨oc,od,.func (PySem.W.fnOf n n (aBc s) (aA6 s) (aAg s) .none kV dc pm an cd ct),sl⟩/\PySem.W.codeIn K cd n=true/\PySem.W.keepIn K (.ref f)=true
theorem DA.of {K:PySem.W.Frag} {n:Str} {s:Stmt} {f:Addr} {oc:Value} {od an:Option Addr} {sl:Array (Option Value)} {kV dc pm cd ct:Value} (a:PySem.W.nsIn K mainGlobals n=some (some (.ref f))) (l:K.lookup f=some ⟨oc,od,.func (PySem.W.fnOf n n (aBc s) (aA6 s) (aAg s) .none kV dc pm an cd ct),sl⟩) (c:PySem.W.codeIn K cd n=true) (k:PySem.W.keepIn K (.ref f)=true):DA K n s:=⟨_,_,_,_,_,_,_,_,_,_,a,l,c,k⟩
theorem DA.df {K:PySem.W.Frag} {mg:Str->Option Value} {h:Heap} {x:Str} {st:Stmt} {ps:List Str} (d:DA K x st) (X:K.In h) (G:h.Ns mainGlobals mg)
 (b:∀ (kV doc pm:Value) (an:Option Addr) (cdv ct:Value) (us:List Value),us.length=ps.length->bindArgs (PySem.W.fnOf x x (aBc st) (aA6 st) (aAg st) .none kV doc pm an cdv ct) ⟨us,[]⟩=pure (ps.zip us)):Df K mg x st ps:=by
 obtain ⟨f,oc,od,an,sl,kV,dc,pm,cd,ct,a,l,c,k⟩:=d.ex
 exact df_mk X G a l c k (b _ _ _ _ _ _)
set_option maxHeartbeats 0 in
theorem all_mk {l:PySem.W.OpenLaw} {w:World} {K:PySem.W.Frag} {h:Heap} {mg:Str->Option Value} {fa:Addr} (X:K.In h) (G:h.Ns mainGlobals mg) (hfa:mg "law"=some (.ref fa)) {f2:Addr} {oc2:Value} {od2 an2:Option Addr} {sl2:Array (Option Value)} {kV2 dc2 pm2 cd2 ct2:Value} {dT2:Addr} {dO2:Obj} {dN2:Nat} {dK2:Tok} {f13:Addr} {oc13:Value} {od13 an13:Option Addr} {sl13:Array (Option Value)} {kV13 dc13 pm13 cd13 ct13:Value} {dT13:Addr} {dO13:Obj} {dN13:Nat} {f14:Addr} {oc14:Value} {od14 an14:Option Addr} {sl14:Array (Option Value)} {kV14 dc14 pm14 cd14 ct14:Value} {dT14:Addr} {dO14:Obj} {dN14:Nat} {f19:Addr} {oc19:Value} {od19 an19:Option Addr} {sl19:Array (Option Value)} {kV19 dc19 pm19 cd19 ct19:Value} {dT19:Addr} {dO19:Obj} {dN19:Nat} {f36:Addr} {oc36:Value} {od36 an36:Option Addr} {sl36:Array (Option Value)} {kV36 dc36 pm36 cd36 ct36:Value}
  (a0:DA K "is_whole" aFu)
  (a1:DA K "common_divisor" aCo)
  (a2:PySem.W.nsIn K mainGlobals "fraction"=some (some (.ref f2))) (l2:K.lookup f2=some ⟨oc2,od2,.func (PySem.W.fnOf "fraction" "fraction" (aBc aCv) (aA6 aCv) (aAg aCv) (.ref dT2) kV2 dc2 pm2 an2 cd2 ct2),sl2⟩) (c2:PySem.W.codeIn K cd2 "fraction"=true) (k2:PySem.W.keepIn K (.ref f2)=true)
  (t2:K.lookup dT2=some dO2) (u2:dO2.data=.seq #[.int 1 dK2] dN2)
  (a3:DA K "added" aLp)
  (a4:DA K "lessened" aFt)
  (a5:DA K "timed" aLk)
  (a6:DA K "divided" aGt)
  (a7:DA K "is_less" aGs)
  (a8:DA K "posts_of" aC9)
  (a9:DA K "runs_beside" aDf)
  (a10:DA K "least_moments" aCw)
  (a11:DA K "is_out" aIo)
  (a12:DA K "earliest_of" aDg)
  (a13:PySem.W.nsIn K mainGlobals "falls_of"=some (some (.ref f13))) (l13:K.lookup f13=some ⟨oc13,od13,.func (PySem.W.fnOf "falls_of" "falls_of" (aBc aCe) (aA6 aCe) (aAg aCe) (.ref dT13) kV13 dc13 pm13 an13 cd13 ct13),sl13⟩) (c13:PySem.W.codeIn K cd13 "falls_of"=true) (k13:PySem.W.keepIn K (.ref f13)=true)
  (t13:K.lookup dT13=some dO13) (u13:dO13.data=.seq #[.none] dN13)
  (a14:PySem.W.nsIn K mainGlobals "fall_moments"=some (some (.ref f14))) (l14:K.lookup f14=some ⟨oc14,od14,.func (PySem.W.fnOf "fall_moments" "fall_moments" (aBc aBi) (aA6 aBi) (aAg aBi) (.ref dT14) kV14 dc14 pm14 an14 cd14 ct14),sl14⟩) (c14:PySem.W.codeIn K cd14 "fall_moments"=true) (k14:PySem.W.keepIn K (.ref f14)=true)
  (t14:K.lookup dT14=some dO14) (u14:dO14.data=.seq #[.none] dN14)
  (a15:DA K "is_swept" aFv)
  (a16:DA K "ending_by_falls" aCg)
  (a17:DA K "moment_of" aEu)
  (a18:DA K "ending_by" aEv)
  (a19:PySem.W.nsIn K mainGlobals "ending_of"=some (some (.ref f19))) (l19:K.lookup f19=some ⟨oc19,od19,.func (PySem.W.fnOf "ending_of" "ending_of" (aBc aCf) (aA6 aCf) (aAg aCf) (.ref dT19) kV19 dc19 pm19 an19 cd19 ct19),sl19⟩) (c19:PySem.W.codeIn K cd19 "ending_of"=true) (k19:PySem.W.keepIn K (.ref f19)=true)
  (t19:K.lookup dT19=some dO19) (u19:dO19.data=.seq #[.none] dN19)
  (a20:DA K "_law_cell_at" aGu)
  (a21:DA K "_law_mixed" aLn)
  (a22:DA K "_law_number" aIm)
  (a23:DA K "_law_low" aVn)
  (a24:DA K "_law_posts" aLm)
  (a25:DA K "_law_time" aPj)
  (a26:DA K "_law_grown" aLo)
  (a27:DA K "_law_here" aPk)
  (a28:DA K "_law_net" aSs)
  (a29:DA K "_law_pushes" aEg)
  (a30:DA K "_law_taken" aLl)
  (a31:DA K "_law_due" aVp)
  (a32:DA K "_law_handed" aE8)
  (a33:DA K "_law_end" aVo)
  (a34:DA K "_law_whole" aLj)
  (a35:DA K "_law_same" aJ2)
  (a36:PySem.W.nsIn K mainGlobals "law"=some (some (.ref f36))) (l36:K.lookup f36=some ⟨oc36,od36,.func (PySem.W.fnOf "law" "law" (aBc aIn) (aA6 aIn) (aAg aIn) .none kV36 dc36 pm36 an36 cd36 ct36),sl36⟩) (c36:PySem.W.codeIn K cd36 "law"=true) (k36:PySem.W.keepIn K (.ref f36)=true)
  (z_int:PySem.W.nsIn K mainGlobals "int"=some none)
  (z_bool:PySem.W.nsIn K mainGlobals "bool"=some none)
  (z_str:PySem.W.nsIn K mainGlobals "str"=some none)
  (z_list:PySem.W.nsIn K mainGlobals "list"=some none)
  (z_tuple:PySem.W.nsIn K mainGlobals "tuple"=some none)
  (z_dict:PySem.W.nsIn K mainGlobals "dict"=some none)
  (z_set:PySem.W.nsIn K mainGlobals "set"=some none)
  (z_range:PySem.W.nsIn K mainGlobals "range"=some none)
  (z_enumerate:PySem.W.nsIn K mainGlobals "enumerate"=some none)
  (z_zip:PySem.W.nsIn K mainGlobals "zip"=some none)
  (z_reversed:PySem.W.nsIn K mainGlobals "reversed"=some none)
  (z_len:PySem.W.nsIn K mainGlobals "len"=some none)
  (z_abs:PySem.W.nsIn K mainGlobals "abs"=some none)
  (z_max:PySem.W.nsIn K mainGlobals "max"=some none)
  (z_min:PySem.W.nsIn K mainGlobals "min"=some none)
  (z_isinstance:PySem.W.nsIn K mainGlobals "isinstance"=some none)
  (z_sorted:PySem.W.nsIn K mainGlobals "sorted"=some none)
  (z_all:PySem.W.nsIn K mainGlobals "all"=some none)
  (z_any:PySem.W.nsIn K mainGlobals "any"=some none)
  (z_sum:PySem.W.nsIn K mainGlobals "sum"=some none) :
  ∃ fd:FuncData,(∀ (s:Shared) (v:Value),BindsTo s fd ⟨[v],[]⟩ [("_law_script",v)])/\∀ base:Heap,K.In base->base.Ns mainGlobals mg->aK2 l.prog w K mg base CX0 13 fa fd ["_law_script"] (aSk K):=by
 have e:=hfa.symm.trans (PySem.W.mg_of X G a36)
 cases e
 have T:Bl mg:=⟨PySem.W.mg_none_of X G z_int,PySem.W.mg_none_of X G z_bool,PySem.W.mg_none_of X G z_str,PySem.W.mg_none_of X G z_list,PySem.W.mg_none_of X G z_tuple,PySem.W.mg_none_of X G z_dict,PySem.W.mg_none_of X G z_set,PySem.W.mg_none_of X G z_range,PySem.W.mg_none_of X G z_enumerate,PySem.W.mg_none_of X G z_zip,PySem.W.mg_none_of X G z_reversed,PySem.W.mg_none_of X G z_len,PySem.W.mg_none_of X G z_abs,PySem.W.mg_none_of X G z_max,PySem.W.mg_none_of X G z_min,PySem.W.mg_none_of X G z_isinstance,PySem.W.mg_none_of X G z_sorted,PySem.W.mg_none_of X G z_all,PySem.W.mg_none_of X G z_any,PySem.W.mg_none_of X G z_sum⟩
 have d_fraction:DfD K mg "fraction" aCv ["top","bottom"] [.int 1]:=aRm (ds:=[.int 1 dK2]) X G a2 l2 c2 k2 t2 u2 (fun sh us hg hl=>by refine aMf (P:=fun us=>BindsTo sh _ ⟨us,[]⟩ (List.zip ["top","bottom"] us)) ?_ us hl; exact fun _ _=>.of_defaults rfl hg u2 rfl rfl) (.cons ⟨_,rfl⟩ .nil) (fun sh us hg hl=>by refine aK4 (P:=fun us=>BindsTo sh _ ⟨us,[]⟩ (List.zip ["top","bottom"] (us++[.int 1 dK2]))) ?_ us (show us.length=1 by simpa using hl); exact fun _=>.of_defaults rfl hg u2 rfl rfl)
 have d_falls_of:DfD K mg "falls_of" aCe ["net","pushes","takings"] [.non]:=aRm (ds:=[.none]) X G a13 l13 c13 k13 t13 u13 (fun sh us hg hl=>by refine aSc (P:=fun us=>BindsTo sh _ ⟨us,[]⟩ (List.zip ["net","pushes","takings"] us)) ?_ us hl; exact fun _ _ _=>.of_defaults rfl hg u13 rfl rfl) (.cons rfl .nil) (fun sh us hg hl=>by refine aMf (P:=fun us=>BindsTo sh _ ⟨us,[]⟩ (List.zip ["net","pushes","takings"] (us++[.none]))) ?_ us (show us.length=2 by simpa using hl); exact fun _ _=>.of_defaults rfl hg u13 rfl rfl)
 have d_fall_moments:DfD K mg "fall_moments" aBi ["net","pushes","takings"] [.non]:=aRm (ds:=[.none]) X G a14 l14 c14 k14 t14 u14 (fun sh us hg hl=>by refine aSc (P:=fun us=>BindsTo sh _ ⟨us,[]⟩ (List.zip ["net","pushes","takings"] us)) ?_ us hl; exact fun _ _ _=>.of_defaults rfl hg u14 rfl rfl) (.cons rfl .nil) (fun sh us hg hl=>by refine aMf (P:=fun us=>BindsTo sh _ ⟨us,[]⟩ (List.zip ["net","pushes","takings"] (us++[.none]))) ?_ us (show us.length=2 by simpa using hl); exact fun _ _=>.of_defaults rfl hg u14 rfl rfl)
 have d_ending_of:DfK K mg "ending_of" aCf ["net","pushes","number","takings"] [.non] 3 ["takings"]:=bBz (ds:=[.none]) X G a19 l19 c19 k19 t19 u19 (fun sh us hg hl=>by refine el_4 (P:=fun us=>BindsTo sh _ ⟨us,[]⟩ (List.zip ["net","pushes","number","takings"] us)) ?_ us hl; exact fun _ _ _ _=>.of_defaults rfl hg u19 rfl rfl) (.cons rfl .nil) (fun sh us hg hl=>by refine aSc (P:=fun us=>BindsTo sh _ ⟨us,[]⟩ (List.zip ["net","pushes","number","takings"] (us++[.none]))) ?_ us (show us.length=3 by simpa using hl); exact fun _ _ _=>.of_defaults rfl hg u19 rfl rfl) (by decide) (fun sh us ws hg hu hw=>by refine aSc (P:=fun us=>BindsTo sh _ ⟨us,List.zip ["takings"] ws⟩ (List.zip ["net","pushes","number","takings"] (us++ws))) ?_ us hu; exact fun _ _ _=>by refine aK4 (P:=fun ws=>BindsTo sh _ ⟨_,List.zip ["takings"] ws⟩ (List.zip ["net","pushes","number","takings"] (_++ws))) ?_ ws hw; exact fun _=>.of_defaults rfl hg u19 rfl rfl)
 have FL:=bBp (st:=aIn) l36 c36 k36
 refine ⟨PySem.W.fnOf "law" "law" (aBc aIn) (aA6 aIn) (aAg aIn) .none kV36 dc36 pm36 an36 cd36 ct36,fun s v=>.of_eq rfl,fun base _ _=>?_⟩
 have o_is_whole:=aL3 (P:=l.prog) (w:=w) (base:=base) (k:=0) T (a0.df X G fun _ _ _ _ _ _=>aK4 fun _=>rfl)
 have o_common_divisor:=aFz (P:=l.prog) (w:=w) (base:=base) (k:=0) T (a1.df X G fun _ _ _ _ _ _=>aMf fun _ _=>rfl)
 have o_fraction:aHp l.prog w K mg base 2 "fraction" ["top","bottom"] [.int 1]  (aEe K):=aL5 (k:=1) T d_fraction (o_common_divisor.mono (by decide)) (o_is_whole.mono (by decide))
 have o_added:=aTf (k:=1) T (a3.df X G fun _ _ _ _ _ _=>aMf fun _ _=>rfl) (o_common_divisor.mono (by decide))
 have o_lessened:=aL2 (k:=2) T (a4.df X G fun _ _ _ _ _ _=>aMf fun _ _=>rfl) (o_added.mono (by decide))
 have o_timed:=aTa (k:=2) T (a5.df X G fun _ _ _ _ _ _=>aMf fun _ _=>rfl) (o_fraction.mono (by decide))
 have o_divided:=aN5 (k:=2) T (a6.df X G fun _ _ _ _ _ _=>aMf fun _ _=>rfl) (o_fraction.mono (by decide))
 have o_is_less:=aN4 (P:=l.prog) (w:=w) (base:=base) (k:=0) T (a7.df X G fun _ _ _ _ _ _=>aMf fun _ _=>rfl)
 have o_posts_of:=aL1 (P:=l.prog) (w:=w) (base:=base) (k:=0) T (a8.df X G fun _ _ _ _ _ _=>aK4 fun _=>rfl)
 have o_runs_beside:=aHs (P:=l.prog) (w:=w) (base:=base) (k:=0) T (a9.df X G fun _ _ _ _ _ _=>aK4 fun _=>rfl)
 have o_least_moments:=aGa (k:=1) T (a10.df X G fun _ _ _ _ _ _=>aK4 fun _=>rfl) (o_is_less.mono (by decide))
 have o_is_out:=aQf (k:=1) T (a11.df X G fun _ _ _ _ _ _=>aSc fun _ _ _=>rfl) (o_is_less.mono (by decide))
 have o_earliest_of:=aHt (k:=1) T (a12.df X G fun _ _ _ _ _ _=>aK4 fun _=>rfl) (o_is_less.mono (by decide))
 have o_falls_of:aHp l.prog w K mg base 3 "falls_of" ["net","pushes","takings"] [.non]  aVi:=aL6 (k:=2) T d_falls_of (o_is_less.mono (by decide)) (o_is_out.mono (by decide)) (o_added.mono (by decide)) (o_earliest_of.mono (by decide)) (o_least_moments.mono (by decide)) (o_runs_beside.mono (by decide))
 have o_fall_moments:aHp l.prog w K mg base 4 "fall_moments" ["net","pushes","takings"] [.non]  (spFm w):=aG3 (k:=3) T d_fall_moments (o_posts_of.mono (by decide)) (o_falls_of.mono (by decide))
 have o_is_swept:=aL4 (k:=2) T (a15.df X G fun _ _ _ _ _ _=>aSc fun _ _ _=>rfl) (o_added.mono (by decide)) (o_is_less.mono (by decide))
 have o_ending_by_falls:=aFe (k:=3) T (a16.df X G fun _ _ _ _ _ _=>aMf fun _ _=>rfl) (o_lessened.mono (by decide)) (o_divided.mono (by decide)) (o_added.mono (by decide)) (o_timed.mono (by decide)) (o_is_swept.mono (by decide))
 have o_moment_of:=aJ8 (P:=l.prog) (w:=w) (base:=base) (k:=0) T (a17.df X G fun _ _ _ _ _ _=>aK4 fun _=>rfl)
 have o_ending_by:=aKa (k:=4) T (a18.df X G fun _ _ _ _ _ _=>aSc fun _ _ _=>rfl) (o_is_less.mono (by decide)) (o_moment_of.mono (by decide)) (o_ending_by_falls.mono (by decide))
 have o_ending_of:aOk l.prog w K mg base 6 "ending_of" ["net","pushes","number","takings"] [.non] 3 ["takings"] (aO9 w):=aJ9 (k:=5) T d_ending_of (o_least_moments.mono (by decide)) (o_ending_by.mono (by decide)) (o_fall_moments.mono (by decide))
 have o_cell_at:=aN6 (P:=l.prog) (w:=w) (base:=base) (k:=0) T (a20.df X G fun _ _ _ _ _ _=>aMf fun _ _=>rfl)
 have o_mixed:=aTd (P:=l.prog) (w:=w) (base:=base) (k:=0) T (a21.df X G fun _ _ _ _ _ _=>aMf fun _ _=>rfl)
 have o_number:=aQe (k:=1) T (a22.df X G fun _ _ _ _ _ _=>aMf fun _ _=>rfl) (o_mixed.mono (by decide)) (o_cell_at.mono (by decide))
 have o_low:=bAx (P:=l.prog) (w:=w) (base:=base) (k:=0) T (a23.df X G fun _ _ _ _ _ _=>aMf fun _ _=>rfl)
 have o_posts:=aTc (P:=l.prog) (w:=w) (base:=base) (k:=0) T (a24.df X G fun _ _ _ _ _ _=>aK4 fun _=>rfl)
 have o_time:=aWt (P:=l.prog) (w:=w) (base:=base) (k:=0) T (a25.df X G fun _ _ _ _ _ _=>aK4 fun _=>rfl)
 have o_grown:=aTe (P:=l.prog) (w:=w) (base:=base) (k:=0) T (a26.df X G fun _ _ _ _ _ _=>aSc fun _ _ _=>rfl)
 have o_here:=aWu (k:=2) T (a27.df X G fun _ _ _ _ _ _=>aSc fun _ _ _=>rfl) (o_grown.mono (by decide)) (o_number.mono (by decide)) (o_time.mono (by decide)) (o_posts.mono (by decide))
 have o_net:=bAw (k:=1) T (a28.df X G fun _ _ _ _ _ _=>aK4 fun _=>rfl) (o_low.mono (by decide))
 have o_pushes:=aQd (P:=l.prog) (w:=w) (base:=base) (k:=0) T (a29.df X G fun _ _ _ _ _ _=>aK4 fun _=>rfl)
 have o_taken:=aTb (P:=l.prog) (w:=w) (base:=base) (k:=0) T (a30.df X G fun _ _ _ _ _ _=>aK4 fun _=>rfl)
 have o_due:=bA0 (k:=1) T (a31.df X G fun _ _ _ _ _ _=>aK4 fun _=>rfl) (o_pushes.mono (by decide)) (o_taken.mono (by decide))
 have o_handed:=aQg (k:=1) T (a32.df X G fun _ _ _ _ _ _=>aK4 fun _=>rfl) (o_low.mono (by decide)) (o_pushes.mono (by decide))
 have o_end:=bAz (k:=1) T (a33.df X G fun _ _ _ _ _ _=>aSc fun _ _ _=>rfl) (o_low.mono (by decide)) (o_taken.mono (by decide))
 have o_whole:=aS9 (P:=l.prog) (w:=w) (base:=base) (k:=0) T (a34.df X G fun _ _ _ _ _ _=>aK4 fun _=>rfl)
 have d_same:Df K mg "_law_same" aJ2 ["_law_found","_law_due_here"]:=(a35.df X G fun _ _ _ _ _ _=>aMf fun _ _=>rfl)
 have o_same:Okf l.prog w K mg base 12 "_law_same" ["_law_found","_law_due_here"] (aJr 3):=by
  have z:∀ dd:Nat,dd<=3->Okf l.prog w K mg base (dd+9) "_law_same" ["_law_found","_law_due_here"] (aJr dd):=by
   intro dd
   induction dd with
   | zero=>exact fun _=>aQc (dd:=0) (k:=8) T d_same (o_same:=aPi (k:=7) d_same) (o_whole:=o_whole.mono (by decide))
   | succ dd ih=>exact fun h=>aQc (dd:=dd+1) (k:=dd+9) T d_same (o_same:=ih (by omega)) (o_whole:=o_whole.mono (by omega))
  exact z 3 (by decide)
 exact bAy (k:=12) T FL (o_same.mono (by decide)) (o_ending_of.mono (by decide)) (o_end.mono (by decide)) (o_handed.mono (by decide)) (o_net.mono (by decide)) (o_due.mono (by decide)) (o_here.mono (by decide))
theorem walk {l:PySem.W.OpenLaw} {q:Program} {loose:List Str} {XP:(Str->Option Value)->Heap->Prop} {YP:World->Heap->Prop} {d:DefRec} {K:Params->PySem.W.Frag} (hn:l.most=some 63) (hdf:d.params.defaults=[])
  (hY:∀ (w:World) (h:Heap),YP w h->(K w.params).In h)
  (F:∀ (w:World) (mg:Str->Option Value) (fa:Addr) (h:Heap),(K w.params).In h->h.Ns mainGlobals mg->mg d.name=some (.ref fa) ->
   ∃ fd:FuncData,(∀ (s:Shared) (u:Value),BindsTo s fd ⟨[u],[]⟩ [("_law_script",u)])/\∀ base:Heap,(K w.params).In base->base.Ns mainGlobals mg->aK2 l.prog w (K w.params) mg base CX0 13 fa fd ["_law_script"] (aSk (K w.params))) :
  PySem.W.WalkO q loose XP YP l.row.toRowW d [] (fun f vs=>PySem.call f vs) :=
 L2.walk_of (n:=63) (k:=13) (x:="_law_script") (CX:=fun _=>CX0) (sp:=fun w=>aSk (K w.params)) hn (by decide) hdf ⟨rfl,by decide,by decide⟩ hY F (fun _ _ a ns hl _ hS=>⟨a,ns,rfl,hS,hl,fun _=>rfl⟩) fun _ _ _ _ _ z=>z
open PySem.W in
theorem zwalk {q:Program} {loose:List Str} {XP:(Str->Option Value)->Heap->Prop} {r:RowW} {d:DefRec} {kwd:List (Str×Expr)} {run:Value->List Value->Sem Value} {K:Params->Frag} {as:List Addr} {n t:Nat} (e:∀ P:Params,as=List.map (fun x=>x.fst) (K P))
  (W:WalkO q loose XP (kHook K as e).says r d kwd run):WalkX q loose XP (X.obsZ as) (X.valZ K n t) r d kwd run :=
 fun w s₀ s₁ mg mb G y a o pm cd doc dV kV ho hd hcd hD hmg hg args vals as' L hpre hlay hrd hwl hlo =>
  W w s₀ s₁ mg mb G ((kHook K as e).keeps w s₀.heap s₁.heap ((kHook K as e).of w s₀ (congrArg Prod.fst y)) L.keeps) a o pm cd doc dV kV ho hd hcd hD hmg hg args vals as' hpre hlay hrd hwl hlo
end Lw
local macro_rules | `(tactic| walk_at "df") => `(tactic| (refine' Lw.DA.of ?a ?l ?c ?k; (case a => k_is); (case l => k_is); (case c => k_is); (case k => k_is)))
open PySem PySem.W PyProof.Rows
set_option maxRecDepth 100000 in
set_option maxHeartbeats 0 in
theorem PySem.Challenge.cw_tilefall_k22_how_runs_end_holds : PySem.Challenge.rw_tilefall_k22_how_runs_end.Holds := by
  w_on; o_law; z_head; (case hw => w_witness2)
  k_fill
  refine Lw.zwalk (fun _ => rfl) ?_
  refine Lw.walk (l := PySem.Challenge.rw_tilefall_k22_how_runs_end) rfl rfl (fun w h Y => PySem.W.kIn_of Y) ?F
  case F =>
    intro w mg fa h KX G hmg
    refine' Lw.all_mk KX G hmg ?a0 ?a1 ?a2 ?l2 ?c2 ?k2 ?t2 ?u2 ?a3 ?a4 ?a5 ?a6 ?a7 ?a8 ?a9 ?a10 ?a11 ?a12 ?a13 ?l13 ?c13 ?k13 ?t13 ?u13 ?a14 ?l14 ?c14 ?k14 ?t14 ?u14 ?a15 ?a16 ?a17 ?a18 ?a19 ?l19 ?c19 ?k19 ?t19 ?u19 ?a20 ?a21 ?a22 ?a23 ?a24 ?a25 ?a26 ?a27 ?a28 ?a29 ?a30 ?a31 ?a32 ?a33 ?a34 ?a35 ?a36 ?l36 ?c36 ?k36   ?z_int ?z_bool ?z_str ?z_list ?z_tuple ?z_dict ?z_set ?z_range ?z_enumerate ?z_zip ?z_reversed ?z_len ?z_abs ?z_max ?z_min ?z_isinstance ?z_sorted ?z_all ?z_any ?z_sum
    (case a0 | a1 | a3 | a4 | a5 | a6 | a7 | a8 | a9 | a10 | a11 | a12 | a15 | a16 | a17 | a18 | a20 | a21 | a22 | a23 | a24 | a25 | a26 | a27 | a28 | a29 | a30 | a31 | a32 | a33 | a34 | a35 => walk_at "df")
    (case a2 => k_is); (case l2 => k_is); (case c2 => k_is); (case k2 => k_is); (case t2 => k_is); (case u2 => exact rfl)
    (case a13 => k_is); (case l13 => k_is); (case c13 => k_is); (case k13 => k_is); (case t13 => k_is); (case u13 => exact rfl)
    (case a14 => k_is); (case l14 => k_is); (case c14 => k_is); (case k14 => k_is); (case t14 => k_is); (case u14 => exact rfl)
    (case a19 => k_is); (case l19 => k_is); (case c19 => k_is); (case k19 => k_is); (case t19 => k_is); (case u19 => exact rfl)
    (case a36 => k_is); (case l36 => k_is); (case c36 => k_is); (case k36 => k_is)
    (case z_int => k_is)
    (case z_bool => k_is)
    (case z_str => k_is)
    (case z_list => k_is)
    (case z_tuple => k_is)
    (case z_dict => k_is)
    (case z_set => k_is)
    (case z_range => k_is)
    (case z_enumerate => k_is)
    (case z_zip => k_is)
    (case z_reversed => k_is)
    (case z_len => k_is)
    (case z_abs => k_is)
    (case z_max => k_is)
    (case z_min => k_is)
    (case z_isinstance => k_is)
    (case z_sorted => k_is)
    (case z_all => k_is)
    (case z_any => k_is)
    (case z_sum => k_is)
#print axioms PySem.Challenge.cw_tilefall_k22_how_runs_end_holds
