import PyProof.Rows.All
import Wide.All
import OpenK.AllK
import Wide.FinOn
import Lean
import PyProof.EqAt
import PyProof.EqKinds
import PyProof.TupleCall
import PyProof.NeKinds
import KE.KTryMore
import KE.RegKTryMore
import KE.RegKIsAll
import PyProof.ExcBaseAll.ValueError
import PyProof.ExcBaseAll.Exception
import PyProof.ExcAttrAll.ValueError
import KE.KRevSl
import PyProof.TupleKey
import PyProof.IsRules
import KE.KSortTup
import KE.KPairComp
import PyProof.DictItemsLoops
import KE.KLam
import KE.KNestM
import KE.KSortKey
import PyProof.ZipIter
import PyProof.SeqI3
import PySem.Challenge.RW_tilefall_k63_whole_made_nets_play
set_option Elab.async false
set_option linter.all false
set_option maxRecDepth 100000
open List (all_cons any_cons any_eq_true append_assoc append_nil cons_append ext_getElem ext_getElem? filterMap_cons filter_cons find?_cons flatten_cons foldl_cons forIn_cons getD_eq_getElem?_getD length_append length_cons length_drop length_eq_zero_iff length_map length_pos_iff length_range length_replicate length_reverse length_singleton length_take length_zip lookup_cons map_append map_congr_left map_cons map_id map_map map_nil mem_append mem_append_left mem_append_right mem_cons mem_cons_of_mem mem_cons_self mem_filter mem_filterMap mem_map mem_of_getElem? mem_range mem_singleton nil_append nodup_append nodup_cons nodup_nil nodup_range not_mem_nil of_mem_zip pairwise_map replicate_succ reverse_cons size_toArray sum_cons take_add_one take_append_drop take_length take_of_length_le take_succ_eq_append_getElem)
open Nat (div_mul_cancel le_add_right le_of_dvd le_of_eq le_of_lt le_refl le_succ le_trans lt_irrefl lt_of_le_of_lt lt_of_lt_of_le lt_or_ge lt_succ_of_lt lt_succ_self lt_trans lt_trichotomy min_self mod_lt mul_comm mul_le_mul_left mul_pos ne_of_gt ne_of_lt not_lt not_lt_zero succ_mul succ_pos zero_le zero_mul)
open PySem.W (CodeHd Frag cellsFrom_some codeHdIn codeHd_of_K excIn exmOne fnOf keepIn kitOne kla_fn kla_obj methodObj mg_none_of mg_of nsIn tabObj)
open PySem.F (entry_dict_get plainAttrs_dict plainAttrs_list slot_dict_get slot_dict_pop slot_tuple_add)
open PySem.Heap (get?_none_of_le get?_push_of_some get?_push_size get?_update_other get?_update_self lt_size size_push size_update)
def PySem.W.Fast.tw743514231149122277:=0
def PySem.W.Fast.tw11196827579657279139:=0
def PySem.W.Fast.tw6798782404846084442:=0
def PySem.W.Fast.tw9924986155501365168:=0
def PySem.W.Fast.tw1554081377898813308:=0
def PySem.W.Fast.tw13339589187179859806:=0
def PySem.W.Fast.tw15125572295238036157:=0
def PySem.W.Fast.tw6070918599928093786:=0
def PySem.W.Fast.tw16212990796300887480:=0
def PySem.W.Fast.tw16342972029678732687:=0
namespace L2
open PySem PySem.Spec PyProof.Rows
section
noncomputable abbrev aH:=Sum Int Str
noncomputable def sM:aH->Value->Bool
|.inl k,v=>Value.isInt k v
|.inr x,v=>Value.isStrOf x v
noncomputable def Bs (w:World):aH->Int
|.inl k=>hashInt k
|.inr x=>hashStr w x
theorem bS:∀ {k:aH}{v:Value},sM k v=true->(∃ i t,k=Sum.inl i/\v=Value.int i t)∨(∃ x t,k=Sum.inr x/\v=Value.str x t)
|.inl i,v,h=>by
  obtain ⟨t,e⟩:=Value.isInt_shape (k:=i) (v:=v) h
  exact .inl ⟨i,t,rfl,e⟩
|.inr x,v,h=>by
  obtain ⟨t,e⟩:=Value.isStrOf_shape (x:=x) (v:=v) h
  exact .inr ⟨x,t,rfl,e⟩
theorem EJ (i:Int) (t:Tok):sM (.inl i) (.int i t)=true:=by simp [sM,Value.isInt]
theorem EI (x:Str) (t:Tok):sM (.inr x) (.str x t)=true:=by simp [sM,Value.isStrOf]
theorem UF (a b:Int):decide ((Sum.inl a:aH)=Sum.inl b)=(a==b):=by
 by_cases e:a=b
 ·subst e; simp
 ·have h:¬ (Sum.inl a:aH)=Sum.inl b:=fun q=>e (Sum.inl.inj q)
  rw [decide_eq_false h]
  exact (beq_eq_false_iff_ne.mpr e).symm
theorem UC (a b:Str):decide ((Sum.inr a:aH)=Sum.inr b)=decide (a=b):=by
 by_cases e:a=b
 ·subst e; simp
 ·have h:¬ (Sum.inr a:aH)=Sum.inr b:=fun q=>e (Sum.inr.inj q)
  rw [decide_eq_false h,decide_eq_false e]
theorem UE (a:Int) (b:Str):decide ((Sum.inl a:aH)=Sum.inr b)=false:=decide_eq_false (fun q=>nomatch q)
theorem UD (a:Str) (b:Int):decide ((Sum.inr a:aH)=Sum.inl b)=false:=decide_eq_false (fun q=>nomatch q)
noncomputable def aY (prog:Program) (w:World):PySem.KeyKind prog w aH where
 is:=sM
 hash:=Bs w
 inj:=fun v a b ha hb=>by
  rcases bS ha with ⟨i,t,rfl,rfl⟩|⟨x,t,rfl,rfl⟩
  ·rcases bS hb with ⟨j,u,rfl,e⟩|⟨y,u,rfl,e⟩
   ·injection e with e1 _; rw [e1]
   ·exact nomatch e
  ·rcases bS hb with ⟨j,u,rfl,e⟩|⟨y,u,rfl,e⟩
   ·exact nomatch e
   ·injection e with e1 _; rw [e1]
 byValue:=fun k v h=>by
  rcases bS h with ⟨i,t,rfl,rfl⟩|⟨x,t,rfl,rfl⟩ <;> rfl
 pyHash:=fun hv h=>by
  rcases bS hv with ⟨i,t,rfl,rfl⟩|⟨x,t,rfl,rfl⟩
  ·exact wpAny_pyHash_int h
  ·exact wpAny_pyHash_str h
 eqBool:=fun hu hv h=>by
  rcases bS hu with ⟨i,t,rfl,rfl⟩|⟨x,t,rfl,rfl⟩
  ·rcases bS hv with ⟨j,u,rfl,rfl⟩|⟨y,u,rfl,rfl⟩
   ·rw [UF] at h; exact wpAny_eqBool_int h
   ·rw [UE] at h; exact SeqAt.EqAt.int_str i t y u _ _ _ _ h
  ·rcases bS hv with ⟨j,u,rfl,rfl⟩|⟨y,u,rfl,rfl⟩
   ·rw [UD] at h; exact SeqAt.EqAt.str_int x t j u _ _ _ _ h
   ·rw [UC] at h; exact wpAny_eqBool_str h
 «strs»:=fun k x t v h=>by
  rcases bS h with ⟨i,u,rfl,e⟩|⟨y,u,rfl,e⟩
  ·exact nomatch e
  ·injection e with e1 _
   subst e1
   cases v <;> rfl
theorem xA (prog:Program) (w:World) (i:Int) (t:Tok):(aY prog w).is (.inl i) (.int i t)=true:=EJ i t
theorem wZ (prog:Program) (w:World) (x:Str) (t:Tok):(aY prog w).is (.inr x) (.str x t)=true:=EI x t
end
section
inductive V where
|non|bl (b:Bool)|int (i:Int)|str (x:Str)|byt (b:Array UInt8)|flt (b:UInt64)|ref (a:Addr)|ty (n:String)
 deriving DecidableEq
noncomputable def aV:V->Value->Prop
|.non,u=>u=Value.none
|.bl b,u=>u=Value.bool b
|.int i,u=>∃ t,u=Value.int i t
|.str x,u=>∃ t,u=Value.str x t
|.byt b,u=>∃ t,u=Value.bytes b t
|.flt b,u=>∃ t,u=Value.float b t
|.ref a,u=>u=Value.ref a
|.ty n,u=>u=Value.type n
noncomputable abbrev aQ:List V->List Value->Prop:=Paired aV
theorem aQ.length {xs:List V}{us:List Value} (r:aQ xs us):xs.length=us.length:=Paired.length r
theorem aQ.get:∀ {xs:List V}{us:List Value}{i:Nat}{x:V},aQ xs us->xs[i]?=some x->∃ u,us[i]?=some u/\aV x u
|_,_,_,_,.nil,e=>by simp at e
|_,_,0,_,.cons r _,e=>by simp at e; subst e; exact ⟨_,rfl,r⟩
|_,_,i+1,x,.cons _ t,e=>by
  obtain ⟨u,h1,h2⟩:=aQ.get (i:=i) (x:=x) t (by simpa using e)
  exact ⟨u,by simpa using h1,h2⟩
theorem aQ.append:∀ {xs ys:List V}{us ws:List Value},aQ xs us->aQ ys ws->aQ (xs++ys) (us++ws)
|_,_,_,_,.nil,s=>s
|_,_,_,_,.cons r t,s=>.cons r (aQ.append t s)
noncomputable def nH:Option V->Option Value->Prop
|some v,some u=>aV v u
|none,none=>True
|_,_=>False
noncomputable def KV {κ:Type}:List (κ×V)->List (κ×Value)->Prop:=Paired fun (p:κ×V) (q:κ×Value)=>p.1=q.1/\aV p.2 q.2
noncomputable def kV:aH->V
|.inl i=>.int i
|.inr x=>.str x
inductive HO where
 |lst (xs:List V)
 |tup (xs:List V)
 |dK (kvs:List (aH×V))|dT (kvs:List (List aH×V))
 |set (S:Int->Bool) (n:Nat)
 |ins (C dx:Addr) (fs:List (Str×V))
 |own (x:Addr)
 |xd (fs:List (Str×V))
 |met (f x:Addr)
 |rng (lo hi:Int)
 |frz (o:Obj) (u:HO)
 |tbl (ps:Array Value)
 |ext (φ:Heap->Prop)
noncomputable abbrev Hp:=Addr->Option HO
noncomputable def upd (H:Hp) (a:Addr) (o:HO):Hp:=fun b=>if b=a then some o else H b
theorem aB {H:Hp}{a:Addr}{o:HO}:upd H a o a=some o:=by unfold upd; rw [if_pos rfl]
theorem aJ {H:Hp}{a b:Addr}{o:HO} (h:b≠a):upd H a o b=H b:=by unfold upd; rw [if_neg h]
theorem LK {H:Hp}{a:Addr}{o u:HO}:upd (upd H a o) a u=upd H a u:=by
 funext b; unfold upd; split <;> rfl
theorem cP {H:Hp}{a b:Addr}{o u:HO} (h:H a=some o) (h':H b=some u) (d:o≠u):a≠b:=by
 intro e; subst e; rw [h] at h'; exact d (Option.some.inj h')
theorem aA {H:Hp}{a b:Addr}{o:HO} (h:H a=some o) (h':H b=none):a≠b:=by
 intro e; subst e; rw [h] at h'; cases h'
section
variable (P:Program) (w:World)
noncomputable def cF (H:Hp) (h:Heap) (a:Addr):HO->Prop
|.lst xs=>xs.length<=sizeLine/\∃ (its:List Value) (n:Nat),aQ xs its/\h.get? a=some { cls:=.type "list",data:=.seq its.toArray n }
|.tup xs=>(xs.length<=sizeLine/\∃ o,h.get? a=some o/\o.dict=none)/\∃ its:List Value,aQ xs its/\IsTup h a its.toArray
|.dK kvs=>kvs.length<=sizeLine/\(a==sysModules)=false/\∃ vs,KV kvs vs/\h.DictOf (aY P w) a vs
|.dT kvs=>kvs.length<=sizeLine/\(a==sysModules)=false/\∃ xs:List (List aH×Addr×Value),
   Paired (fun (p:List aH×V) (q:List aH×Addr×Value)=>p.1=q.1/\H q.2.1=some (.tup (p.1.map kV))/\aV p.2 q.2.2) kvs xs /\
   ∃ o es ep,h.get? a=some o/\o.ExactDict/\o.data=.dict es ep/\es.toList=xs.map (entryOfKey (tupleKind (aY P w)))/\(xs.map (·.1)).Nodup
|.set S n=>h.SetOf (intKind P w) a S n
|.ins C dx fs=>H dx=some (.own a)/\fs.length<=1000/\dx≠a/\h.get? a=some (PySem.W.instObj C dx) /\
   ∃ mA,h.Ns1 dx mA/\(∀ f,nH (fs.lookup f) (mA f))/\PySem.Within mA (fs.map (·.1))
|.own _=>∃ o,h.get? a=some o
|.xd fs=>∃ mA,h.Ns1 a mA/\∀ f,nH (fs.lookup f) (mA f)
|.rng lo hi=>∃ t u v,h.get? a=some { cls:=.type "range",data:=.fields #[.int lo t,.int hi u,.int 1 v] }
|.frz o u=>h.get? a=some o/\cF H h a u
|.tbl ps=>h.get? a=some { cls:=.none,data:=.fields ps }
|.met f x=>h.get? a=some (methodObj (.ref f) (.ref x))
|.ext φ=>φ h/\(∃ o,h.get? a=some o)/\∀ h1 h2:Heap,φ h1->(∀ o,h1.get? a=some o->h2.get? a=some o)->φ h2
noncomputable def jK (H:Hp) (h:Heap):Prop:=∀ a o,H a=some o->cF P w H h a o
end
section
variable {P:Program} {w:World} {H H':Hp} {h h':Heap} {a:Addr} {o:HO}
theorem cF.lt (x:cF P w H h a o):a < h.objs.size:=by
 cases o with
|lst xs=>obtain ⟨_,_,_,_,e⟩:=x; exact lt_size e
|tup xs=>obtain ⟨_,_,_,p⟩:=x; exact p.lt
|dK kvs=>obtain ⟨_,_,_,_,o,_,_,e,_⟩:=x; exact lt_size e
|dT kvs=>obtain ⟨_,_,_,_,o,_,_,e,_⟩:=x; exact lt_size e
|set S n=>obtain ⟨o,_,_,_,e,_⟩:=x; exact lt_size e
|ins C dx fs=>obtain ⟨_,_,_,e,_⟩:=x; exact lt_size e
|own y=>obtain ⟨_,e⟩:=x; exact lt_size e
|xd fs=>obtain ⟨_,⟨_,_,_,e,_⟩,_⟩:=x; exact lt_size e
|rng lo hi=>obtain ⟨_,_,_,e⟩:=x; exact lt_size e
|frz ob u=>obtain ⟨e,_⟩:=x; exact lt_size e
|tbl ps=>exact lt_size (show h.get? a=some _ from x)
|met f y=>exact lt_size (show h.get? a=some _ from x)
|ext φ=>obtain ⟨_,⟨_,e⟩,_⟩:=x; exact lt_size e
theorem Paired.mapP {α β:Type}{F G:α->β->Prop}:∀ {l₁:List α}{l₂:List β},Paired F l₁ l₂->(∀ a b,F a b->G a b)->Paired G l₁ l₂
|_,_,.nil,_=>.nil
|_,_,.cons r t,f=>.cons (f _ _ r) (Paired.mapP t f)
theorem cF.stay (x:cF P w H h a o) (k:∀ b u,(b=a∨H b=some (.own a))->h.get? b=some u->h'.get? b=some u)
  (ho:∀ b,H b=some (.own a)->H' b=some (.own a)) (ht:∀ b xs,H b=some (.tup xs)->H' b=some (.tup xs)):cF P w H' h' a o:=by
 induction o with
|lst xs=>obtain ⟨z,its,n,r,e⟩:=x; exact ⟨z,its,n,r,k _ _ (.inl rfl) e⟩
|tup xs=>obtain ⟨⟨z,o1,e1,d1⟩,its,r,ob,e,c⟩:=x; exact ⟨⟨z,o1,k _ _ (.inl rfl) e1,d1⟩,its,r,ob,k _ _ (.inl rfl) e,c⟩
|dK kvs=>obtain ⟨z,y,vs,r,ob,es,ep,e,c⟩:=x; exact ⟨z,y,vs,r,ob,es,ep,k _ _ (.inl rfl) e,c⟩
|dT kvs =>
  obtain ⟨z,y,xs,r,ob,es,ep,e,c⟩:=x
  exact ⟨z,y,xs,Paired.mapP r fun p q z=>⟨z.1,ht _ _ z.2.1,z.2.2⟩,ob,es,ep,k _ _ (.inl rfl) e,c⟩
|set S n=>obtain ⟨ob,es,ep,t,e,c⟩:=x; exact ⟨ob,es,ep,t,k _ _ (.inl rfl) e,c⟩
|ins C dx fs =>
  obtain ⟨d,z,ne,e,mA,⟨od,es,ep,e2,c⟩,r⟩:=x
  exact ⟨ho _ d,z,ne,k _ _ (.inl rfl) e,mA,⟨od,es,ep,k _ _ (.inr d) e2,c⟩,r⟩
|own y=>obtain ⟨ob,e⟩:=x; exact ⟨ob,k _ _ (.inl rfl) e⟩
|xd fs=>obtain ⟨mA,⟨od,es,ep,e,c⟩,r⟩:=x; exact ⟨mA,⟨od,es,ep,k _ _ (.inl rfl) e,c⟩,r⟩
|rng lo hi=>obtain ⟨t,u,v,e⟩:=x; exact ⟨t,u,v,k _ _ (.inl rfl) e⟩
|frz ob u ih=>obtain ⟨e,q⟩:=x; exact ⟨k _ _ (.inl rfl) e,ih q⟩
|tbl ps =>
  have e:h.get? a=some { cls:=.none,data:=.fields ps }:=x
  show h'.get? a=some { cls:=.none,data:=.fields ps }
  exact k a _ (.inl rfl) e
|met f y =>
  have e:h.get? a=some (methodObj (.ref f) (.ref y)):=x
  show h'.get? a=some (methodObj (.ref f) (.ref y))
  exact k a _ (.inl rfl) e
|ext φ=>obtain ⟨p,⟨o,e⟩,st⟩:=x; exact ⟨st _ _ p fun o q=>k _ _ (.inl rfl) q,⟨o,k _ _ (.inl rfl) e⟩,st⟩
theorem jK.lt (x:jK P w H h) (e:H a=some o):a < h.objs.size:=(x a o e).lt
theorem jK.fresh (x:jK P w H h) (e:h.objs.size<=a):H a=none:=by
 cases q:H a with
|none=>rfl
|some u=>exact absurd (lt_of_lt_of_le (x.lt q) e) (lt_irrefl _)
theorem jK.kept (x:jK P w H h) (k:∀ b u,h.get? b=some u->h'.get? b=some u):jK P w H h':=fun a o e =>
 (x a o e).stay (fun b u _ q=>k b u q) (fun _ q=>q) fun _ _ q=>q
theorem jK.laid (x:jK P w H h) (k:∀ b u,h.get? b=some u->h'.get? b=some u) (hp:h.objs.size<=a) (new:cF P w (upd H a o) h' a o):jK P w (upd H a o) h':=fun b u e=>by
 have hn:=x.fresh hp
 by_cases hb:b=a
 ·subst hb; rw [aB] at e; cases e; exact new
 ·rw [aJ hb] at e
  exact (x b u e).stay (fun c v _ q=>k c v q) (fun c q=>by rw [aJ (aA q hn)]; exact q) fun c xs q=>by rw [aJ (aA q hn)]; exact q
end
noncomputable def Rd (H:Hp) (a:Addr) (u:HO):Prop:=H a=some u∨∃ o,H a=some (.frz o u)
theorem Rd.ok {P:Program}{w:World}{H:Hp}{h:Heap}{a:Addr}{u:HO} (r:Rd H a u) (x:jK P w H h):cF P w H h a u:=by
 rcases r with r|⟨o,r⟩
 ·exact x a u r
 ·obtain ⟨_,q⟩:=x a _ r
  exact q
noncomputable def Af:Option HO->Prop
|some (.lst _)=>True
|some (.dK _)=>True
|some (.dT _)=>True
|some (.set _ _)=>True
|some (.ins _ _ _)=>True
|some (.ext _)=>True
|_=>False
section
variable {P:Program} {w:World} {H:Hp} {h h':Heap} {x e:Addr} {o':HO}
theorem jK.write (ok:jK P w H h) (mu:Af (H x)) (he:e=x∨H e=some (.own x)) (k:∀ b u,b≠e->h.get? b=some u->h'.get? b=some u) (heo:∃ u,h'.get? e=some u)
  (new:cF P w (upd H x o') h' x o'):jK P w (upd H x o') h':=fun b u q=>by
 have nown:∀ c y,H c=some (.own y)->c≠x:=fun c y r z=>by subst z; rw [r] at mu; exact mu
 have ntup:∀ c xs,H c=some (.tup xs)->c≠x:=fun c xs r z=>by subst z; rw [r] at mu; exact mu
 by_cases hb:b=x
 ·subst hb; rw [aB] at q; cases q; exact new
 ·rw [aJ hb] at q
  by_cases hbe:b=e
  ·have q':H b=some (.own x):=by
    rcases he with z|z
    ·exact absurd (hbe.trans z) hb
    ·rw [hbe]; exact z
   rw [q] at q'; cases q'
   obtain ⟨v,hv⟩:=heo
   exact ⟨v,by rw [hbe]; exact hv⟩
  ·refine (ok b u q).stay (fun c v hc r=>k c v ?_ r) (fun c r=>by rw [aJ (nown c b r)]; exact r) fun c xs r=>by rw [aJ (ntup c xs r)]; exact r
   rcases hc with rfl|hc
   ·exact hbe
   ·rintro rfl
    rcases he with z|z
    ·exact nown c b hc z
    ·rw [hc] at z; cases z; exact hb rfl
end
structure Un (fs ex:List Addr) (H H':Hp) (h h':Heap):Prop where
 keep:∀ b o,h.get? b=some o->H b=none->b∉fs->b∉ex->h'.get? b=some o
 slot:∀ b o,h.get? b=some o->H b=none->b∈fs->b∉ex->∃ sl,h'.get? b=some { o with slots:=sl }
 free:∀ b o,h.get? b=some o->H b=none->b∉ex->H' b=none
 there:∀ b o,h.get? b=some o->b∉ex->∃ o',h'.get? b=some o'
 tups:∀ b xs,H b=some (.tup xs)->H' b=some (.tup xs)
 frzs:∀ b o u,H b=some (.frz o u)->H' b=some (.frz o u)
 tbls:∀ b ps,H b=some (.tbl ps)->∃ more,H' b=some (.tbl (ps++more))
section
variable {fs fs' ex ex':List Addr} {H H1 H2:Hp} {h h1 h2 h':Heap} {a x e:Addr} {o:HO}
theorem Un.any (u:Un fs ex H H1 h h1) {b:Addr}{ob:Obj} (q:h.get? b=some ob) (n:H b=none) (hx:b∉ex):∃ sl,h1.get? b=some { ob with slots:=sl }:=by
 by_cases hb:b∈fs
 ·exact u.slot b ob q n hb hx
 ·exact ⟨ob.slots,u.keep b ob q n hb hx⟩
theorem Un.trans (a:Un fs ex H H1 h h1) (b:Un fs ex H1 H2 h1 h2):Un fs ex H H2 h h2 where
 keep:=fun c ob q n hc hx=>b.keep c ob (a.keep c ob q n hc hx) (a.free c ob q n hx) hc hx
 slot:=fun c ob q n hc hx=>by
  obtain ⟨sl,e1⟩:=a.slot c ob q n hc hx
  obtain ⟨sl',e2⟩:=b.slot c _ e1 (a.free c ob q n hx) hc hx
  exact ⟨sl',e2⟩
 free:=fun c ob q n hx=>by
  obtain ⟨o',e1⟩:=a.there c ob q hx
  exact b.free c o' e1 (a.free c ob q n hx) hx
 there:=fun c ob q hx=>by
  obtain ⟨o',e1⟩:=a.there c ob q hx
  exact b.there c o' e1 hx
 tups:=fun c xs q=>b.tups c xs (a.tups c xs q)
 frzs:=fun c ob xs q=>b.frzs c ob xs (a.frzs c ob xs q)
 tbls:=fun c ps q=>by
  obtain ⟨m1,e1⟩:=a.tbls c ps q
  obtain ⟨m2,e2⟩:=b.tbls c _ e1
  exact ⟨m1++m2,by rw [e2,Array.append_assoc]⟩
theorem Un.kept (k:∀ b u,h.get? b=some u->h'.get? b=some u):Un fs ex H H h h':=
 ⟨fun b ob q _ _ _=>k b ob q,fun b ob q _ _ _=>⟨ob.slots,k b ob q⟩,fun _ _ _ n _=>n,fun b ob q _=>⟨ob,k b ob q⟩,fun _ _ q=>q,fun _ _ _ q=>q,fun _ ps q=>⟨#[],by rw [q]; simp⟩⟩
theorem Un.refl:Un fs ex H H h h:=Un.kept fun _ _ q=>q
theorem Un.laid (k:∀ b u,h.get? b=some u->h'.get? b=some u) (hp:h.objs.size<=a) (hn:H a=none):Un fs ex H (upd H a o) h h' where
 keep:=fun b u q _ _ _=>k b u q
 slot:=fun b u q _ _ _=>⟨u.slots,k b u q⟩
 free:=fun b u q n _=>by rw [aJ (ne_of_lt (lt_of_lt_of_le (lt_size q) hp))]; exact n
 there:=fun b u q _=>⟨u,k b u q⟩
 tups:=fun b xs q=>by rw [aJ (aA q hn)]; exact q
 frzs:=fun b u xs q=>by rw [aJ (aA q hn)]; exact q
 tbls:=fun b ps q=>⟨#[],by rw [aJ (aA q hn),q]; simp⟩
theorem Un.write (mu:Af (H x)) (he:e=x∨H e=some (.own x)) (k:∀ b u,b≠e->h.get? b=some u->h'.get? b=some u) (heo:∃ u,h'.get? e=some u):Un fs ex H (upd H x o) h h':=by
 have hx:∀ b,H b=none->b≠x:=fun b n z=>by subst z; rw [n] at mu; exact mu
 have hb:∀ b,H b=none->b≠e:=fun b n z=>by
  subst z
  rcases he with r|r
  ·exact hx b n r
  ·rw [n] at r; cases r
 have hm:∀ b u,H b=some u->¬ Af (some u)->b≠x:=fun b u q nm z=>by subst z; rw [q] at mu; exact nm mu
 refine ⟨fun b u q n _ _=>k b u (hb b n) q,fun b u q n _ _=>⟨u.slots,k b u (hb b n) q⟩,fun b u q n _=>by rw [aJ (hx b n)]; exact n,fun b u q _=>?_,
  fun b xs q=>by rw [aJ (hm b _ q fun z=>z)]; exact q,fun b u xs q=>by rw [aJ (hm b _ q fun z=>z)]; exact q,fun b ps q=>⟨#[],by rw [aJ (hm b _ q fun z=>z),q]; simp⟩⟩
 by_cases hbe:b=e
 ·subst hbe; exact heo
 ·exact ⟨u,k b u hbe q⟩
end
noncomputable def Aj (h:Heap) (H:Hp):List Addr:=(List.range h.objs.size).filter fun a=>(H a).isSome
noncomputable def qY (h:Heap) (H:Hp):Heap:=PySem.W.hideAll h (Aj h H)
theorem EM (h:Heap) (H:Hp):(qY h H).objs.size=h.objs.size:=PySem.W.hideAll_size _ _
theorem JG {h:Heap}{H:Hp}{b:Addr}{o:Obj} (e:h.get? b=some o) (n:H b=none):(qY h H).get? b=some o:=
 PySem.W.hideAll_get _ e fun hm=>by
  have q:(H b).isSome=true:=(mem_filter.mp hm).2
  rw [n] at q; simp at q
theorem ND {h:Heap}{H:Hp}{b:Addr}{o:Obj} (e:(qY h H).get? b=some o):h.get? b=some o/\H b=none:=by
 have e':h.get? b=some o:=PySem.W.of_hideAll (Aj h H) e
 refine ⟨e',?_⟩
 cases q:H b with
|none=>rfl
|some x =>
  have hm:b∈Aj h H:=mem_filter.mpr ⟨mem_range.mpr (lt_size e'),by simp [q]⟩
  have z:(qY h H).get? b=none:=PySem.W.hideAll_none (Aj h H) hm
  rw [z] at e; cases e
noncomputable def OK (g h:Heap) (L:Addr):List (Addr×Obj):=(List.range h.objs.size).filterMap fun a=>if a=L∨(g.get? a).isSome=true then none else (h.get? a).map fun o=>(a,o)
noncomputable def dH (g h:Heap) (L d:Addr):List (Addr×Obj):=(OK g h L).filter fun p=>decide (p.1≠d)
end
section
structure Mod (K:Frag) (mg:Str->Option Value) (base:Heap):Prop where
 kin:K.In base
 glob:base.Ns mainGlobals mg
 blt:∃ mb,base.Ns builtinsNs mb/\∀ x:Str,x≠"__name__"->mb x=bootBuiltins x
 nolimit:base.NoLimit
set_option genInjectivity false in
set_option genSizeOfSpec false in
structure Cx where
 prog:Program
 w:World
 K:Frag
 mg:Str->Option Value
 base:Heap
 A:Around
 N:List Str
 s₀:Shared
 H₀:Hp
 env:Env
 outer:List Env
 stack:List Env
 ex:List Addr
 fn:Str->Bool
 calm:Bool
 pn:List (Addr×Obj)
 xe:Value->Shared->Prop
noncomputable def nN (l:List Env):List Addr:=l.filterMap (·.frame)
noncomputable abbrev Cx.fs (X:Cx):List Addr:=nN X.outer
noncomputable def Aa (sc:Scope) (x:Str):Prop:=sc.names.lookup x=some .local∨sc.names.lookup x=some .cell∨sc.names.lookup x=some .free
noncomputable def VT (sc:Scope) (x:Str):Prop:=sc.names.lookup x=some .local∨sc.names.lookup x=some .cell
noncomputable def Ch (env:Env) (h:Heap) (m:Str->Option Value) (x:Str) (u:Value):Prop:=
 (env.kindOf x=some .local/\m x=some u)∨((env.kindOf x=some .cell∨env.kindOf x=some .free)/\∃ c,env.cells.lookup x=some c/\h.IsCell c (some u))
structure Cx.Ok (X:Cx):Prop where
 mod:Mod X.K X.mg X.base
 kind:X.env.scope.kind=.function
 glob:X.env.globals=mainGlobals
 blt:X.env.builtins=builtinsNs
 above:X.s₀.heap.objs.size<=X.env.locals
 inj:∀ x y c,X.env.cells.lookup x=some c->X.env.cells.lookup y=some c->x=y
 has:∀ x,(X.env.kindOf x=some .cell∨X.env.kindOf x=some .free)->∃ c,X.env.cells.lookup x=some c
 cab:∀ x c,X.fn x=true->X.env.cells.lookup x=some c->X.s₀.heap.objs.size<=c
 hd:X.calm=true->X.A.handled=none
 frames:X.A.frames=some X.stack
 stk:X.stack=X.outer∨(X.stack=X.env::X.outer/\X.env.frame=some X.env.locals)
 exf:∀ b∈X.ex,b≠X.env.locals/\∀ x c,X.env.cells.lookup x=some c->c≠b
 bs:∀ b o,X.base.get? b=some o->X.s₀.heap.get? b=some o/\X.H₀ b=none
 bsz:X.base.objs.size<=X.s₀.heap.objs.size
 noex:∀ b o,X.base.get? b=some o->b∉X.ex
 exfs:∀ b∈X.ex,b∉X.fs
 funs:X.s₀.heap.FunFrames X.base X.outer
 frf:∀ b∈X.fs,X.H₀ b=none
structure aN (X:Cx) (pins:List (Addr×Obj)) (σ:List (Option V)) (H:Hp) (s:Shared):Prop where
 ok:X.Ok
 os:s.os=X.s₀.os
 bare:AllBare s.gens
 base:Un X.fs X.ex X.H₀ H X.s₀.heap s.heap
 loc:∃ m,s.heap.Ns X.env.locals m/\∀ (i:Nat) (x:Str) (v:V),X.N[i]?=some x->σ[i]?=some (some v)->Aa X.env.scope x->∃ u,aV v u/\Ch X.env s.heap m x u
 cell:∀ x c,X.env.cells.lookup x=some c->∃ v,s.heap.IsCell c v
 free:H X.env.locals=none
 freeC:∀ x c,X.env.cells.lookup x=some c->H c=none
 pin:∀ p∈X.pn++pins,s.heap.get? p.1=some p.2/\H p.1=none/\p.1≠X.env.locals/\p.1∉X.fs/\∀ v,p.2.data≠.cell v
 hok:jK X.prog X.w H s.heap
 len:σ.length=X.N.length
section
variable {X:Cx} {pins:List (Addr×Obj)} {σ:List (Option V)} {H H':Hp} {s:Shared} {h':Heap}
theorem Cx.Ok.nofr (ok:X.Ok) {b:Addr}{o:Obj} (e:X.base.get? b=some o):b∉X.fs:=fun hb=>by
 have:=(ok.funs.mem hb).1
 rw [e] at this; cases this
theorem aN.bs (I:aN X pins σ H s):∀ b o,X.base.get? b=some o->s.heap.get? b=some o/\H b=none:=fun b o e =>
 ⟨I.base.keep b o (I.ok.bs b o e).1 (I.ok.bs b o e).2 (I.ok.nofr e) (I.ok.noex b o e),I.base.free b o (I.ok.bs b o e).1 (I.ok.bs b o e).2 (I.ok.noex b o e)⟩
theorem aN.bk (I:aN X pins σ H s):∀ b o,X.base.get? b=some o->s.heap.get? b=some o:=fun b o e=>(I.bs b o e).1
theorem aN.mod (I:aN X pins σ H s):Mod X.K X.mg X.base:=I.ok.mod
theorem aN.kIn (I:aN X pins σ H s):X.K.In s.heap:=I.ok.mod.kin.keeps I.bk
theorem aN.lt (I:aN X pins σ H s):X.env.locals < s.heap.objs.size:=let ⟨_,hn,_⟩:=I.loc; hn.lt
theorem aN.sz (I:aN X pins σ H s):X.s₀.heap.objs.size<=s.heap.objs.size:=le_trans I.ok.above (le_of_lt I.lt)
theorem aN.nofs (I:aN X pins σ H s) {a:Addr} (h:s.heap.objs.size<=a):a∉X.fs:=fun hb=>by
 obtain ⟨_,o,ho,_⟩:=I.ok.funs.mem hb
 exact absurd (lt_of_lt_of_le (lt_size ho) (le_trans I.sz h)) (lt_irrefl _)
theorem aN.cne (I:aN X pins σ H s):∀ x c,X.env.cells.lookup x=some c->c≠X.env.locals:=fun x c e z=>by
 obtain ⟨v,o,ho,hd⟩:=I.cell x c e
 obtain ⟨m,⟨o',es,ep,ho',hd',_⟩,_⟩:=I.loc
 rw [z,ho'] at ho; cases ho; rw [hd'] at hd; cases hd
theorem aN.funs (I:aN X pins σ H s):s.heap.FunFrames X.base X.outer:=by
 have all:∀ (l:List Env),(∀ b∈nN l,b∈X.fs)->X.s₀.heap.FunFrames X.base l->s.heap.FunFrames X.base l:=by
  intro l
  induction l with
 |nil=>intro _ _; trivial
 |cons env r ih =>
   intro hs hl
   obtain ⟨hk,⟨L,o,hf,hn,ho,hd⟩,hr⟩:=hl
   have hL:L∈X.fs:=hs L (by unfold nN; rw [filterMap_cons,hf]; exact mem_cons_self)
   obtain ⟨sl,e⟩:=I.base.slot L o ho (I.ok.frf L hL) hL fun z=>I.ok.exfs L z hL
   exact ⟨hk,⟨L,_,hf,hn,e,hd⟩,ih (fun b hb=>hs b (by unfold nN; rw [filterMap_cons,hf]; exact mem_cons_of_mem _ hb)) hr⟩
 exact all X.outer (fun _ hb=>hb) I.ok.funs
theorem aN.stack (I:aN X pins σ H s):s.heap.FunFrames X.base X.stack:=by
 rcases I.ok.stk with e|⟨e,hf⟩
 ·rw [e]; exact I.funs
 ·rw [e]
  obtain ⟨m,hn,_⟩:=I.loc
  refine .cons (by rw [I.ok.kind]; decide) hf hn ?_ I.funs
  exact get?_none_of_le (le_trans I.ok.bsz I.ok.above)
theorem aN.stkSub (I:aN X pins σ H s):∀ b∈nN X.stack,b∈X.env.locals::X.fs:=fun b hb=>by
 rcases I.ok.stk with e|⟨e,hf⟩
 ·rw [e] at hb; exact mem_cons_of_mem _ hb
 ·rw [e] at hb
  unfold nN at hb
  rw [filterMap_cons,hf] at hb
  exact hb
theorem aN.stkFree (I:aN X pins σ H s):∀ b∈nN X.stack,H b=none:=fun b hb=>by
 rcases mem_cons.mp (I.stkSub b hb) with e|hb
 ·rw [e]; exact I.free
 ·obtain ⟨_,o,ho,_⟩:=I.ok.funs.mem hb
  exact I.base.free b o ho (I.ok.frf b hb) fun z=>I.ok.exfs b z hb
theorem aN.step {g':Array GenState}{t':Nat}{d':Drawn}{ch:List Addr} (I:aN X pins σ H s)
  (hch:∀ b∈ch,(b∈X.ex∨X.s₀.heap.objs.size<=b)/\b≠X.env.locals/\(∀ x c,X.env.cells.lookup x=some c->c≠b)/\∀ p∈X.pn++pins,p.1≠b)
  (keep:∀ b o,b≠X.env.locals->b∉X.fs->b∉ch->s.heap.get? b=some o->H b=none->h'.get? b=some o)
  (slot:∀ b o,b≠X.env.locals->b∈X.fs->b∉ch->s.heap.get? b=some o->H b=none->∃ sl,h'.get? b=some { o with slots:=sl }) (free:∀ b o,b∉ch->s.heap.get? b=some o->H b=none->H' b=none)
  (there:∀ b o,b∉ch->s.heap.get? b=some o->∃ o',h'.get? b=some o')
  (tups:∀ b xs,H b=some (.tup xs)->H' b=some (.tup xs)) (frzs:∀ b o u,H b=some (.frz o u)->H' b=some (.frz o u)) (tbls:∀ b ps,H b=some (.tbl ps)->∃ more,H' b=some (.tbl (ps++more)))
  (ns:∀ m,s.heap.Ns X.env.locals m->h'.Ns X.env.locals m) (hok:jK X.prog X.w H' h') (hg:AllBare g') :
  aN X pins σ H' { s with heap:=h',gens:=g',drawn:=d',toks:=t' }:=by
 have neL:∀ b o,X.s₀.heap.get? b=some o->b≠X.env.locals:=fun b o e=>ne_of_lt (lt_of_lt_of_le (lt_size e) I.ok.above)
 have neC:∀ b o,X.s₀.heap.get? b=some o->b∉X.ex->b∉ch:=fun b o e hx hb=>by
  rcases (hch b hb).1 with z|z
  ·exact hx z
  ·exact absurd (lt_of_lt_of_le (lt_size e) z) (lt_irrefl _)
 have cellK:∀ x c,X.env.cells.lookup x=some c->∀ v,s.heap.IsCell c v->h'.IsCell c v:=fun x c e v ⟨o,ho,hd⟩=>by
  have nch:c∉ch:=fun z=>(hch c z).2.2.1 x c e rfl
  by_cases hc:c∈X.fs
  ·obtain ⟨sl,q⟩:=slot c o (I.cne x c e) hc nch ho (I.freeC x c e)
   exact ⟨_,q,hd⟩
  ·exact ⟨o,keep c o (I.cne x c e) hc nch ho (I.freeC x c e),hd⟩
 refine ⟨I.ok,I.os,hg,⟨fun b o e n hb hx=>?_,fun b o e n hb hx=>?_,fun b o e n hx=>?_,fun b o e hx=>?_,fun b xs e=>tups b xs (I.base.tups b xs e),fun b o xs e=>frzs b o xs (I.base.frzs b o xs e),fun b ps e=>?_⟩,?_,fun x c e=>?_,?_,fun x c e=>?_,fun p hp=>?_,hok,I.len⟩
 ·exact keep b o (neL b o e) hb (neC b o e hx) (I.base.keep b o e n hb hx) (I.base.free b o e n hx)
 ·obtain ⟨sl,e1⟩:=I.base.slot b o e n hb hx
  obtain ⟨sl',e2⟩:=slot b _ (neL b o e) hb (neC b o e hx) e1 (I.base.free b o e n hx)
  exact ⟨sl',e2⟩
 ·obtain ⟨o',e1⟩:=I.base.there b o e hx
  exact free b o' (neC b o e hx) e1 (I.base.free b o e n hx)
 ·obtain ⟨o',e1⟩:=I.base.there b o e hx
  exact there b o' (neC b o e hx) e1
 ·obtain ⟨m1,e1⟩:=I.base.tbls b ps e
  obtain ⟨m2,e2⟩:=tbls b _ e1
  exact ⟨m1++m2,by rw [e2,Array.append_assoc]⟩
 ·obtain ⟨m,hn,hl⟩:=I.loc
  refine ⟨m,ns m hn,fun i x v e1 e2 e3=>?_⟩
  obtain ⟨u,r,l⟩:=hl i x v e1 e2 e3
  refine ⟨u,r,?_⟩
  rcases l with l|⟨k,c,e,z⟩
  ·exact .inl l
  ·exact .inr ⟨k,c,e,cellK x c e _ z⟩
 ·obtain ⟨v,z⟩:=I.cell x c e
  exact ⟨v,cellK x c e v z⟩
 ·obtain ⟨m,⟨o,_,_,ho,_⟩,_⟩:=I.loc
  exact free _ o (fun z=>(hch _ z).2.1 rfl) ho I.free
 ·obtain ⟨v,o,ho,hd⟩:=I.cell x c e
  exact free c o (fun z=>(hch c z).2.2.1 x c e rfl) ho (I.freeC x c e)
 ·obtain ⟨e,n,ne,nf,d⟩:=I.pin p hp
  have nch:p.1∉ch:=fun z=>(hch p.1 z).2.2.2 p hp rfl
  exact ⟨keep p.1 p.2 ne nf nch e n,free p.1 p.2 nch e n,ne,nf,d⟩
theorem aN.un {t':Nat} (I:aN X pins σ H s) (u:Un X.fs [] H H' s.heap h') (hok:jK X.prog X.w H' h'):aN X pins σ H' { s with heap:=h',toks:=t' }:=by
 obtain ⟨m,⟨o,es,ep,ho,r⟩,_⟩:=id I.loc
 obtain ⟨sl,hL⟩:=u.any ho I.free (by simp)
 exact I.step (g':=s.gens) (d':=s.drawn) (ch:=[]) (fun _ z=>nomatch z) (fun b o _ hb _ e n=>u.keep b o e n hb (by simp)) (fun b o _ hb _ e n=>u.slot b o e n hb (by simp)) (fun b o _ e n=>u.free b o e n (by simp)) (fun b o _ e=>u.there b o e (by simp)) u.tups u.frzs u.tbls (fun m' hm=>by
  obtain ⟨o',es',ep',ho',r'⟩:=hm
  rw [ho] at ho'; cases ho'
  exact ⟨_,es',ep',hL,r'⟩) hok I.bare
theorem aN.call {g':Array GenState}{t':Nat}{d':Drawn}{ch:List Addr} (I:aN X pins σ H s) (u:Un (nN X.stack) ch H H' s.heap h') (hok:jK X.prog X.w H' h') (hg:AllBare g')
  (hch:∀ b∈ch,(b∈X.ex∨X.s₀.heap.objs.size<=b)/\b≠X.env.locals/\(∀ x c,X.env.cells.lookup x=some c->c≠b)/\∀ p∈X.pn++pins,p.1≠b) :
  aN X pins σ H' { s with heap:=h',gens:=g',drawn:=d',toks:=t' }:=by
 obtain ⟨m,⟨o,es,ep,ho,r⟩,_⟩:=id I.loc
 obtain ⟨sl,hL⟩:=u.any ho I.free fun z=>(hch _ z).2.1 rfl
 exact I.step (ch:=ch) hch (fun b o hL hb hc e n=>u.keep b o e n (fun z=>(mem_cons.mp (I.stkSub b z)).elim hL hb) hc) (fun b o _ _ hc e n=>u.any e n hc) (fun b o hc e n=>u.free b o e n hc) (fun b o hc e=>u.there b o e hc) u.tups u.frzs u.tbls (fun m' hm=>by
  obtain ⟨o',es',ep',ho',r'⟩:=hm
  rw [ho] at ho'; cases ho'
  exact ⟨_,es',ep',hL,r'⟩) hok hg
theorem aN.turned {t':Nat}{it:Addr} (I:aN X pins σ H s) (k:∀ b o,b≠it->s.heap.get? b=some o->h'.get? b=some o) (hn:H it=none) (hL:it≠X.env.locals)
  (h1:it∈X.ex∨X.s₀.heap.objs.size<=it) (h2:∀ x c,X.env.cells.lookup x=some c->c≠it) (h3:∀ p∈X.pn++pins,p.1≠it):aN X pins σ H { s with heap:=h',toks:=t' }:=by
 have nit:∀ b u,H b=some u->b≠it:=fun b u e z=>by rw [z,hn] at e; cases e
 refine I.step (g':=s.gens) (d':=s.drawn) (ch:=[it]) (fun b hb=>?_) (fun b o _ _ hc e _=>k b o (fun z=>hc (by simp [z])) e) (fun b o _ _ hc e _=>⟨o.slots,k b o (fun z=>hc (by simp [z])) e⟩) (fun _ _ _ _ n=>n)
  (fun b o hc e=>⟨o,k b o (fun z=>hc (by simp [z])) e⟩) (fun _ _ e=>e) (fun _ _ _ e=>e) (fun b ps e=>⟨#[],by rw [e]; simp⟩) (fun m hm=>?_) (fun b u e=>?_) I.bare
 ·have e:b=it:=by simpa using hb
  subst e
  exact ⟨h1,hL,h2,h3⟩
 ·obtain ⟨o,es,ep,ho,r⟩:=hm
  exact ⟨o,es,ep,k _ o (Ne.symm hL) ho,r⟩
 ·refine (I.hok b u e).stay (fun c v hc q=>k c v ?_ q) (fun _ q=>q) fun _ _ q=>q
  rcases hc with z|z
  ·rw [z]; exact nit b u e
  ·exact nit c _ z
theorem aN.tok (I:aN X pins σ H s) (t:Nat):aN X pins σ H { s with toks:=t }:=I.un (h':=s.heap) (t':=t) Un.refl I.hok
theorem aN.kept {t':Nat} (I:aN X pins σ H s) (k:∀ b u,s.heap.get? b=some u->h'.get? b=some u):aN X pins σ H { s with heap:=h',toks:=t' }:=I.un (Un.kept k) (I.hok.kept k)
theorem aN.laid {a:Addr}{o:HO}{t':Nat} (I:aN X pins σ H s) (k:∀ b u,s.heap.get? b=some u->h'.get? b=some u) (hp:s.heap.objs.size<=a) (new:cF X.prog X.w (upd H a o) h' a o) :
  aN X pins σ (upd H a o) { s with heap:=h',toks:=t' }:=I.un (Un.laid k hp (I.hok.fresh hp)) (I.hok.laid k hp new)
theorem aN.write {x e:Addr}{o:HO}{t':Nat} (I:aN X pins σ H s) (mu:Af (H x)) (he:e=x∨H e=some (.own x)) (k:∀ b u,b≠e->s.heap.get? b=some u->h'.get? b=some u) (heo:∃ u,h'.get? e=some u)
  (new:cF X.prog X.w (upd H x o) h' x o):aN X pins σ (upd H x o) { s with heap:=h',toks:=t' }:=I.un (Un.write mu he k heo) (I.hok.write mu he k heo new)
theorem aN.pins_of {pins':List (Addr×Obj)} (I:aN X pins σ H s) (h:∀ p∈pins',s.heap.get? p.1=some p.2/\H p.1=none/\p.1≠X.env.locals/\p.1∉X.fs/\∀ v,p.2.data≠.cell v):aN X pins' σ H s:=
 ⟨I.ok,I.os,I.bare,I.base,I.loc,I.cell,I.free,I.freeC,fun p hp=>(mem_append.mp hp).elim (fun z=>I.pin p (mem_append_left _ z)) (h p),I.hok,I.len⟩
theorem wW {N:List Str} (hN:N.Nodup) {i j:Nat}{x:Str} (a:N[i]?=some x) (b:N[j]?=some x):i=j:=by
 obtain ⟨h1,e1⟩:=List.getElem?_eq_some_iff.mp a
 obtain ⟨h2,e2⟩:=List.getElem?_eq_some_iff.mp b
 exact (List.getElem_inj hN).mp (e1.trans e2.symm)
theorem rJ {M:Model}{A:Around}{E:Value->Shared->Prop}{i:Nat}{x:Str}{v:V}{u:Value}{Q:Unit->Shared->Prop} (I:aN X pins σ H s) (hN:X.N.Nodup) (hi:X.N[i]?=some x) (hx:VT X.env.scope x) (r:aV v u)
  (h:∀ s',aN X pins (σ.set i (some v)) H s'->(∃ a,Heap.SameBut a s.heap s'.heap/\(a=X.env.locals∨X.env.cells.lookup x=some a))->Q () s') (hf:X.fn x=true∨X.env.scope.names.lookup x=some .local:=by first|exact .inl rfl|exact .inr rfl|assumption):wpAny M A (storeName X.env x u) Q E s:=by
 obtain ⟨m,hn,hl⟩:=id I.loc
 have hcls:(X.env.scope.kind==.class || (X.env.scope.kind==.module&&X.env.locals !=X.env.globals))=false:=by rw [I.ok.kind]; rfl
 have hiσ:i < σ.length:=by rw [I.len]; exact (List.getElem?_eq_some_iff.mp hi).1
 have cne:=I.cne
 have tracked:∀ {a:Addr} {h':Heap},(∃ o,s.heap.get? a=some o/\H a=none)->Heap.SameBut a s.heap h'->jK X.prog X.w H h':=fun {a h'} ha hs b ob e=>by
  obtain ⟨_,_,hfree⟩:=ha
  refine (I.hok b ob e).stay (fun c w' hc q=>(hs.2 c ?_).trans q) (fun _ q=>q) fun _ _ q=>q
  rintro rfl
  rcases hc with rfl|hc
  ·rw [hfree] at e; cases e
  ·rw [hfree] at hc; cases hc
 rcases hx with hk|hk
 ·refine wpAny_storeName_local hk hn (fun h' hn' hs=>?_) hcls
  obtain ⟨oL,_,_,hoL,_⟩:=id hn
  refine h _ ⟨I.ok,I.os,I.bare,⟨fun b o e n hb hx=>?_,fun b o e n hb hx=>?_,I.base.free,fun b o e hx=>?_,I.base.tups,I.base.frzs,I.base.tbls⟩,⟨_,hn',fun j y v' e1 e2 e3=>?_⟩,fun y c e=>?_,I.free,I.freeC,fun p hp=>?_,tracked ⟨oL,hoL,I.free⟩ hs,by simpa using I.len⟩ ⟨_,hs,.inl rfl⟩
  ·exact (hs.2 b (ne_of_lt (lt_of_lt_of_le (lt_size e) I.ok.above))).trans (I.base.keep b o e n hb hx)
  ·obtain ⟨sl,e1⟩:=I.base.slot b o e n hb hx
   exact ⟨sl,(hs.2 b (ne_of_lt (lt_of_lt_of_le (lt_size e) I.ok.above))).trans e1⟩
  ·obtain ⟨o',e1⟩:=I.base.there b o e hx
   exact ⟨o',(hs.2 b (ne_of_lt (lt_of_lt_of_le (lt_size e) I.ok.above))).trans e1⟩
  ·by_cases hj:j=i
   ·subst hj
    rw [hi] at e1; cases e1
    rw [List.getElem?_set_self hiσ] at e2
    cases e2
    exact ⟨u,r,.inl ⟨hk,by simp⟩⟩
   ·rw [List.getElem?_set_ne (Ne.symm hj)] at e2
    obtain ⟨u',r',q⟩:=hl j y v' e1 e2 e3
    refine ⟨u',r',?_⟩
    rcases q with ⟨k,e⟩|⟨k,c,e,z⟩
    ·refine .inl ⟨k,?_⟩
     have:y≠x:=fun e=>hj (wW hN e1 (e ▸ hi))
     simp [this,e]
    ·exact .inr ⟨k,c,e,z.sameBut hs (cne y c e)⟩
  ·obtain ⟨w',z⟩:=I.cell y c e
   exact ⟨w',z.sameBut hs (cne y c e)⟩
  ·obtain ⟨e,n,ne,nf,d⟩:=I.pin p hp
   exact ⟨(hs.2 p.1 ne).trans e,n,ne,nf,d⟩
 ·have hfn:X.fn x=true:=by
   rcases hf with z|z
   ·exact z
   ·rw [z] at hk; cases hk
  obtain ⟨c,hc⟩:=I.ok.has x (.inl hk)
  obtain ⟨w',z⟩:=I.cell x c hc
  refine wpAny_storeName_cell I.ok.kind hk hc z (fun h' hc' hs=>?_)
  obtain ⟨oc,hoc,hocd⟩:=id z
  refine h { s with heap:=h' } ⟨I.ok,I.os,I.bare,⟨fun b o e n hb hx=>?_,fun b o e n hb hx=>?_,I.base.free,fun b o e hx=>?_,I.base.tups,I.base.frzs,I.base.tbls⟩,⟨m,hn.sameBut hs (Ne.symm (cne x c hc)),fun j y v' e1 e2 e3=>?_⟩,fun y c' e=>?_,I.free,I.freeC,fun p hp=>?_,tracked ⟨oc,hoc,I.freeC x c hc⟩ hs,by simpa using I.len⟩ ⟨c,hs,.inr hc⟩
  ·exact (hs.2 b (ne_of_lt (lt_of_lt_of_le (lt_size e) (I.ok.cab x c hfn hc)))).trans (I.base.keep b o e n hb hx)
  ·obtain ⟨sl,e1⟩:=I.base.slot b o e n hb hx
   exact ⟨sl,(hs.2 b (ne_of_lt (lt_of_lt_of_le (lt_size e) (I.ok.cab x c hfn hc)))).trans e1⟩
  ·obtain ⟨o',e1⟩:=I.base.there b o e hx
   exact ⟨o',(hs.2 b (ne_of_lt (lt_of_lt_of_le (lt_size e) (I.ok.cab x c hfn hc)))).trans e1⟩
  ·by_cases hj:j=i
   ·subst hj
    rw [hi] at e1; cases e1
    rw [List.getElem?_set_self hiσ] at e2
    cases e2
    exact ⟨u,r,.inr ⟨.inl hk,c,hc,hc'⟩⟩
   ·rw [List.getElem?_set_ne (Ne.symm hj)] at e2
    obtain ⟨u',r',q⟩:=hl j y v' e1 e2 e3
    refine ⟨u',r',?_⟩
    rcases q with q|⟨k,c',e,z'⟩
    ·exact .inl q
    ·refine .inr ⟨k,c',e,z'.sameBut hs ?_⟩
     rintro rfl
     exact hj (wW hN e1 (I.ok.inj _ _ _ e hc ▸ hi))
  ·by_cases hcc:c'=c
   ·subst hcc; exact ⟨_,hc'⟩
   ·obtain ⟨w2,z2⟩:=I.cell y c' e
    exact ⟨w2,z2.sameBut hs hcc⟩
  ·obtain ⟨e,n,ne,nf,d⟩:=I.pin p hp
   refine ⟨(hs.2 p.1 ?_).trans e,n,ne,nf,d⟩
   intro q
   rw [q,hoc] at e
   have q':oc=p.2:=Option.some.inj e
   exact d w' (by rw [← q']; exact hocd)
theorem jL {M:Model}{A:Around}{E:Value->Shared->Prop}{i:Nat}{x:Str}{v:V}{u:Value}{Q:Unit->Shared->Prop} (I:aN X pins σ H s) (hN:X.N.Nodup) (hi:X.N[i]?=some x) (hx:VT X.env.scope x) (r:aV v u)
  (h:∀ s',aN X pins (σ.set i (some v)) H s'->Q () s') (hf:X.fn x=true∨X.env.scope.names.lookup x=some .local:=by first|exact .inl rfl|exact .inr rfl|assumption):wpAny M A (storeName X.env x u) Q E s:=
 rJ I hN hi hx r (fun s' I' _=>h s' I') hf
theorem aN.call' {s':Shared}{ch:List Addr} (I:aN X pins σ H s) (ho:s'.os=s.os) (u:Un (nN X.stack) ch H H' s.heap s'.heap) (hok:jK X.prog X.w H' s'.heap) (hg:AllBare s'.gens)
  (hch:∀ b∈ch,(b∈X.ex∨X.s₀.heap.objs.size<=b)/\b≠X.env.locals/\(∀ x c,X.env.cells.lookup x=some c->c≠b)/\∀ p∈X.pn++pins,p.1≠b):aN X pins σ H' s':=by
 obtain ⟨h',g',d',t',o'⟩:=s'
 have e:o'=s.os:=ho
 subst e
 exact I.call (g':=g') (t':=t') (d':=d') u hok hg hch
end
noncomputable abbrev XK:=Value->Option Addr->Hp->Prop
noncomputable abbrev St:=List (Option V)
noncomputable abbrev VK:=V->Hp->Prop
noncomputable abbrev TE:=St->Hp->VK->Prop
noncomputable abbrev TT:=St->Hp->(Bool->Hp->Prop)->Prop
noncomputable abbrev TA:=St->Hp->(List V->Hp->Prop)->Prop
structure dC where
 nx:St->Hp->Prop
 rt:VK
 bk:St->Hp->Prop:=fun _ _=>False
 ct:St->Hp->Prop:=fun _ _=>False
noncomputable abbrev TS:=dC->St->Hp->Prop
noncomputable def EP (X:Cx) (pins:List (Addr×Obj)) (σ:St) (Q:VK) (u:Value) (s':Shared):Prop:=∃ v H',aN X pins σ H' s'/\aV v u/\Q v H'
noncomputable def TP (X:Cx) (pins:List (Addr×Obj)) (σ:St) (Q:Bool->Hp->Prop) (b:Bool) (s':Shared):Prop:=∃ H',aN X pins σ H' s'/\Q b H'
noncomputable def AP (X:Cx) (pins:List (Addr×Obj)) (σ:St) (Q:List V->Hp->Prop) (us:List Value) (s':Shared):Prop:=∃ vs H',aN X pins σ H' s'/\aQ vs us/\Q vs H'
noncomputable def SP (X:Cx) (pins:List (Addr×Obj)) (D:dC) (f:Flow) (s':Shared):Prop:=
 match f with
|.next=>∃ σ' H',aN X pins σ' H' s'/\D.nx σ' H'
|.brk=>∃ σ' H',aN X pins σ' H' s'/\D.bk σ' H'
|.cont=>∃ σ' H',aN X pins σ' H' s'/\D.ct σ' H'
|.ret u=>∃ v σ' H',aN X pins σ' H' s'/\aV v u/\D.rt v H'
noncomputable def PE (X:Cx) (e:Expr) (t:TE):Prop:=
 ∀ (pins:List (Addr×Obj)) (s:Shared) (σ:St) (H:Hp) (Q:VK),aN X pins σ H s->t σ H Q->wpAny (model X.prog X.w) X.A (eval e X.env) (EP X pins σ Q) X.xe s
noncomputable def PT (X:Cx) (e:Expr) (t:TT):Prop:=
 ∀ (pins:List (Addr×Obj)) (s:Shared) (σ:St) (H:Hp) (Q:Bool->Hp->Prop),aN X pins σ H s->t σ H Q->wpAny (model X.prog X.w) X.A (isTrue e X.env (eval e X.env)) (TP X pins σ Q) X.xe s
noncomputable def PW (X:Cx) (e:Expr) (t:TT):Prop:=
 ∀ (whole:Sem Value) (pins:List (Addr×Obj)) (s:Shared) (σ:St) (H:Hp) (Q:Bool->Hp->Prop),aN X pins σ H s->t σ H Q->wpAny (model X.prog X.w) X.A (isTrue e X.env whole) (TP X pins σ Q) X.xe s
theorem PW.pt {X:Cx}{e:Expr}{t:TT} (h:PW X e t):PT X e t:=h _
noncomputable def PA (X:Cx) (es:List Expr) (t:TA):Prop:=
 ∀ (pos:Pos) (pins:List (Addr×Obj)) (s:Shared) (σ:St) (H:Hp) (Q:List V->Hp->Prop),aN X pins σ H s->t σ H Q->wpAny (model X.prog X.w) X.A (spliced (backTo pos (starEach es X.env))) (AP X pins σ Q) X.xe s
noncomputable def PS (X:Cx) (st:Stmt) (t:TS):Prop:=
 ∀ (pins:List (Addr×Obj)) (s:Shared) (σ:St) (H:Hp) (D:dC),aN X pins σ H s->t D σ H->wpAny (model X.prog X.w) X.A (exec st X.env) (SP X pins D) X.xe s
noncomputable def tI (X:Cx) (st:List Stmt) (t:TS):Prop:=
 ∀ (pins:List (Addr×Obj)) (s:Shared) (σ:St) (H:Hp) (D:dC),aN X pins σ H s->t D σ H->wpAny (model X.prog X.w) X.A (execs st X.env) (SP X pins D) X.xe s
theorem cA {α:Type}{t:Sem α}{Q Q':α->Shared->Prop}{M:Model}{A:Around}{E:Value->Shared->Prop}{s:Shared} (h:wpAny M A t Q E s) (hQ:∀ a s,Q a s->Q' a s):wpAny M A t Q' E s:=wpAny_mono h hQ fun _ _ x=>x
end
section
section
variable {X:Cx}
noncomputable def RH (i:Nat):TE:=fun σ H Q=>∃ v,σ[i]?=some (some v)/\Q v H
noncomputable def tC (v:V):TE:=fun _ H Q=>Q v H
theorem SW {i:Nat}{x:Str}{pos:Pos} (hN:X.N[i]?=some x) (hv:Aa X.env.scope x) (hd:(x==("__debug__":Str))=false:=by decide) (hcd:(x==("__classdict__":Str))=false:=by decide):PE X (.Name x pos) (RH i):=by
 intro pins s σ H Q I h
 obtain ⟨v,e,h⟩:=h
 obtain ⟨m,hn,hl⟩:=I.loc
 obtain ⟨u,r,l⟩:=hl i x v hN e hv
 have fin:EP X pins σ Q u s:=⟨v,H,I,r,h⟩
 rcases l with ⟨hk,hm⟩|⟨hk,c,hc,hcell⟩
 ·exact wpAny_Name (wpAny_loadName_local I.ok.kind hk hn hm fin) hd
 ·rcases hk with hk|hk
  ·exact wpAny_Name (wpAny_loadName_cell I.ok.kind hk hc hcell fin) hd
  ·exact wpAny_Name (wpAny_loadName_free I.ok.kind hk hc hcell fin hcd) hd
theorem aE {i j pos}:PE X (.Constant (.int i) j pos) (tC (.int i)):=fun _ _ _ H _ I h=>wpAny_Constant_int ⟨.int i,H,I.tok _,⟨_,rfl⟩,h⟩
theorem pK {b j pos}:PE X (.Constant (.bool b) j pos) (tC (.bl b)):=fun _ _ _ H _ I h=>Constant_bool ⟨.bl b,H,I,rfl,h⟩
theorem eU {j pos}:PE X (.Constant .none j pos) (tC .non):=fun _ _ _ H _ I h=>Constant_none ⟨.non,H,I,rfl,h⟩
theorem fO {x j pos}:PE X (.Constant (.str x) j pos) (tC (.str x)):=fun _ _ _ H _ I h=>Calls.Constant_str ⟨.str x,H,I.tok _,⟨_,rfl⟩,h⟩
noncomputable def Gl (X:Cx) (x:Str):Prop:=X.env.kindOf x=some .globalImplicit
theorem uV {E:Value->Shared->Prop}{pins:List (Addr×Obj)}{s:Shared}{σ:St}{H:Hp}{x:Str}{u:Value}{pos:Pos}{Q:Value->Shared->Prop} (I:aN X pins σ H s) (hg:Gl X x) (hm:X.mg x=some u) (h:Q u s)
  (hd:(x==("__debug__":Str))=false:=by decide):wpAny (model X.prog X.w) X.A (eval (.Name x pos) X.env) Q E s:=
 Calls.Name_function_global I.ok.kind hg (Calls.loadGlobal_global (by rw [I.ok.glob]; exact I.mod.glob.keeps I.bk) hm h) hd
theorem jC {E:Value->Shared->Prop}{pins:List (Addr×Obj)}{s:Shared}{σ:St}{H:Hp}{x:Str}{u:Value}{pos:Pos}{Q:Value->Shared->Prop} (I:aN X pins σ H s) (hg:Gl X x) (hm:X.mg x=none) (hv:bootBuiltins x=some u) (h:Q u s)
  (hn:x≠"__name__":=by decide) (hd:(x==("__debug__":Str))=false:=by decide):wpAny (model X.prog X.w) X.A (eval (.Name x pos) X.env) Q E s:=by
 obtain ⟨mb,h1,h2⟩:=I.mod.blt
 exact Calls.Name_function_global I.ok.kind hg (Calls.loadGlobal_builtin (by rw [I.ok.glob]; exact I.mod.glob.keeps I.bk) hm (by rw [I.ok.blt]; exact h1.keeps I.bk) ((h2 x hn).trans hv) h) hd
theorem hX {x:Str}{v:V}{u:Value}{pos:Pos} (hg:Gl X x) (hm:X.mg x=some u) (r:aV v u) (hd:(x==("__debug__":Str))=false:=by decide):PE X (.Name x pos) (tC v):=
 fun _ _ _ H _ I h=>uV I hg hm ⟨v,H,I,r,h⟩ hd
variable {a b:Expr} {ta tb:TE} {pos:Pos}
noncomputable def PC (X:Cx) (op:CmpOp) (a b:Expr) (t:TE):Prop:=
 ∀ (pins:List (Addr×Obj)) (s:Shared) (σ:St) (H:Hp) (Q:VK),aN X pins σ H s->t σ H Q ->
  wpAny (model X.prog X.w) X.A (eval a X.env) (fun v s₁=>wpAny (model X.prog X.w) X.A (eval b X.env) (fun u s₂=>wpAny (model X.prog X.w) X.A (compareOp op v u) (EP X pins σ Q) X.xe s₂) X.xe s₁) X.xe s
noncomputable def tB (t:TE):TT:=fun σ H Q=>t σ H fun x H1=>∃ c,x=.bl c/\Q c H1
theorem TB {op:CmpOp}{t:TE} (h:PC X op a b t) (h1:behindInMarks op b=false:=by first|exact nobehind _ (by decide) (by decide)|rfl):PE X (.Compare a [op] [b] pos) t:=fun pins s σ H Q I hw=>wpAny_Compare1 (h pins s σ H Q I hw) h1
theorem uI {op:CmpOp}{t:TE} (h:PC X op a b t) (h1:behindInMarks op b=false:=by first|exact nobehind _ (by decide) (by decide)|rfl):PT X (.Compare a [op] [b] pos) (tB t):=by
 intro pins s σ H Q I hw
 refine wpAny_isTrue_Compare1 (cA (h pins s σ H _ I hw) fun v s1 h1=>cA h1 fun u s2 h2=>cA h2 fun c s3 ⟨x,H1,I1,r1,q1⟩=>?_) h1
 obtain ⟨d,rfl,q⟩:=q1
 cases r1
 exact wpAny_truthy_bool ⟨H1,I1,q⟩
theorem lC {e:Expr}{t:TE} (h:PE X e t) (he:∀ whole,isTrue e X.env whole=(do let v ← whole; standAt e.pos; holding [v] (truthy v)):=by intro _; rfl):PT X e (tB t):=by
 intro pins s σ H Q I hw
 refine isTrue_plain (cA (h pins s σ H _ I hw) fun v s1 ⟨x,H1,I1,r1,q1⟩=>?_) (he _)
 obtain ⟨d,rfl,q⟩:=q1
 cases r1
 exact wpAny_truthy_bool ⟨H1,I1,q⟩
variable {tA tB':TT} {dH:List Expr}
noncomputable def WQ (t u:TT):TT:=fun σ H Q=>t σ H fun c H1=>if c=true then u σ H1 Q else Q false H1
noncomputable def Cl (t u:TT):TT:=fun σ H Q=>t σ H fun c H1=>if c=true then Q true H1 else u σ H1 Q
noncomputable def WL (t:TT):TT:=fun σ H Q=>t σ H fun c H1=>Q (!c) H1
theorem uG (ha:PT X a tA):PW X (.BoolOp .And [a] pos) tA:=by
 intro wh pins s σ H Q I h
 refine isTrue_and (cA (ha pins s σ H Q I h) fun c s1 e=>?_)
 cases c with
|true=>exact isTrue_and_nil e
|false=>exact e
theorem jO (ha:PT X a tA):PW X (.BoolOp .Or [a] pos) tA:=by
 intro wh pins s σ H Q I h
 refine isTrue_or (cA (ha pins s σ H Q I h) fun c s1 e=>?_)
 cases c with
|false=>exact isTrue_or_nil e
|true=>exact e
theorem uH (ha:PT X a tA) (hb:PW X (.BoolOp .And (b::dH) pos) tB'):PW X (.BoolOp .And (a::b::dH) pos) (WQ tA tB'):=by
 intro wh pins s σ H Q I h
 refine isTrue_and (cA (ha pins s σ H _ I h) fun c s1 ⟨H1,I1,q1⟩=>?_)
 cases c with
|true=>exact hb wh pins s1 σ H1 Q I1 q1
|false=>exact ⟨H1,I1,q1⟩
theorem nK (ha:PT X a tA) (hb:PW X (.BoolOp .Or (b::dH) pos) tB'):PW X (.BoolOp .Or (a::b::dH) pos) (Cl tA tB'):=by
 intro wh pins s σ H Q I h
 refine isTrue_or (cA (ha pins s σ H _ I h) fun c s1 ⟨H1,I1,q1⟩=>?_)
 cases c with
|true=>exact ⟨H1,I1,q1⟩
|false=>exact hb wh pins s1 σ H1 Q I1 q1
theorem yW (ha:PT X a tA):PT X (.UnaryOp .Not a pos) (WL tA):=by
 intro pins s σ H Q I h
 exact isTrue_not (ha pins s σ H (fun c H1=>Q (!c) H1) I h)
noncomputable def PD (ta tb:TE):TE:=fun σ H Q=>ta σ H fun x H1=>∃ c,x=.bl c/\if c=true then tb σ H1 Q else Q (.bl false) H1
theorem yX {op}{t:TE} (h:PE X a t):PE X (.BoolOp op [a] pos) t:=fun pins s σ H Q I hw=>BoolOp_one (h pins s σ H Q I hw)
theorem HY (ha:PE X a ta) (hb:PE X (.BoolOp .And (b::dH) pos) tb):PE X (.BoolOp .And (a::b::dH) pos) (PD ta tb):=by
 intro pins s σ H Q I h
 refine BoolOp_and (cA (ha pins s σ H _ I h) fun v s1 ⟨x,H1,I1,r1,q1⟩=>?_)
 obtain ⟨c,rfl,q1⟩:=q1
 cases r1
 refine wpAny_truthy_bool ?_
 cases c with
|true=>exact hb pins s1 σ H1 Q I1 q1
|false=>exact ⟨.bl false,H1,I1,rfl,q1⟩
noncomputable def Cm (t:TT) (ta tb:TE):TE:=fun σ H Q=>t σ H fun c H1=>if c=true then ta σ H1 Q else tb σ H1 Q
theorem pI {c:Expr} (hc:PT X c tA) (ha:PE X a ta) (hb:PE X b tb):PE X (.IfExp c a b pos) (Cm tA ta tb):=by
 intro pins s σ H Q I h
 refine wpAny_IfExp (cA (hc pins s σ H _ I h) fun d s1 ⟨H1,I1,q1⟩=>?_)
 cases d with
|true=>exact ha pins s1 σ H1 Q I1 q1
|false=>exact hb pins s1 σ H1 Q I1 q1
end
end
section
noncomputable def bX (K:Frag) (H:Hp) (a:Addr) (xs:List V):Prop:=
 Rd H a (.lst xs) ∨
  ∃ (o:Obj) (its:Array Value) (n:Nat),K.lookup a=some o/\o.cls=.type "list"/\o.dict=none/\o.data=.seq its n/\its.size<=sizeLine/\aQ xs its.toList
noncomputable def AD (K:Frag) (H:Hp) (a:Addr) (xs:List V):Prop:=
 Rd H a (.tup xs) ∨
  ∃ (o:Obj) (its:Array Value) (n:Nat),K.lookup a=some o/\o.cls=.type "tuple"/\o.data=.seq its n/\its.size<=sizeLine/\aQ xs its.toList
noncomputable def Ca:Value->Option V
|.none=>some .non
|.bool b=>some (.bl b)
|.int i _=>some (.int i)
|.str x _=>some (.str x)
|.bytes b _=>some (.byt b)
|.float b _=>some (.flt b)
|.ref a=>some (.ref a)
|.type n=>some (.ty n)
|_=>none
theorem aV.abs {x:V}{u:Value} (r:aV x u):Ca u=some x:=by
 cases x with
|non=>cases r; rfl
|bl _=>cases r; rfl
|int _=>obtain ⟨t,rfl⟩:=r; rfl
|str _=>obtain ⟨t,rfl⟩:=r; rfl
|byt _=>obtain ⟨t,rfl⟩:=r; rfl
|flt _=>obtain ⟨t,rfl⟩:=r; rfl
|ref _=>cases r; rfl
|ty _=>cases r; rfl
theorem aV.inj {x y:V}{u:Value} (r:aV x u) (q:aV y u):x=y:=Option.some.inj (r.abs.symm.trans q.abs)
theorem aQ.inj:∀ {xs ys:List V}{us:List Value},aQ xs us->aQ ys us->xs=ys
|_,_,_,.nil,.nil=>rfl
|_,_,_,.cons r t,.cons r' t'=>by rw [r.inj r',aQ.inj t t']
section
variable {X:Cx} {pins:List (Addr×Obj)} {σ:St} {H:Hp} {s:Shared} {a:Addr} {xs ys:List V}
theorem bX.of {K:Frag} (h:H a=some (.lst xs)):bX K H a xs:=.inl (.inl h)
theorem AD.of {K:Frag} (h:H a=some (.tup xs)):AD K H a xs:=.inl (.inl h)
theorem aN.list (I:aN X pins σ H s) (h:bX X.K H a xs):∃ its:List Value,aQ xs its/\PlainL s.heap a its.toArray/\xs.length<=sizeLine:=by
 rcases h with h|⟨o,its,n,hk,hc,hd,hs,hz,r⟩
 ·obtain ⟨z,its,n,r,e⟩:=h.ok I.hok
  exact ⟨its,r,⟨_,n,e,rfl,rfl,rfl⟩,z⟩
 ·refine ⟨its.toList,r,⟨o,n,I.kIn a o hk,hc,hd,by simpa using hs⟩,?_⟩
  have e:=r.length
  simp only [Array.length_toList] at e
  omega
theorem aN.tuple (I:aN X pins σ H s) (h:AD X.K H a xs):∃ its:List Value,aQ xs its/\IsTup s.heap a its.toArray/\xs.length<=sizeLine:=by
 rcases h with h|⟨o,its,n,hk,hc,hs,hz,r⟩
 ·obtain ⟨z,its,r,p⟩:=h.ok I.hok
  exact ⟨its,r,p,z.1⟩
 ·refine ⟨its.toList,r,⟨o,I.kIn a o hk,hc,n,by simpa using hs⟩,?_⟩
  have e:=r.length
  simp only [Array.length_toList] at e
  omega
theorem aN.list_inj (I:aN X pins σ H s) (h:bX X.K H a xs) (h':bX X.K H a ys):xs=ys:=by
 obtain ⟨its,r,⟨o,n,e,_,_,d⟩,_⟩:=I.list h
 obtain ⟨its',r',⟨o',n',e',_,_,d'⟩,_⟩:=I.list h'
 rw [e] at e'; cases e'
 rw [d] at d'
 injection d' with d1 _
 have:its=its':=by simpa using congrArg Array.toList d1
 subst this
 exact r.inj r'
end
noncomputable abbrev Cx.wish (X:Cx) (E:Value->Shared->Prop):Cx:={ X with xe:=E }
noncomputable abbrev Cx.nox (X:Cx):Cx:=X.wish fun _ _=>False
theorem Cx.Ok.wish {X:Cx} (ok:X.Ok) (E:Value->Shared->Prop):(X.wish E).Ok:=
 ⟨ok.mod,ok.kind,ok.glob,ok.blt,ok.above,ok.inj,ok.has,ok.cab,ok.hd,ok.frames,ok.stk,ok.exf,ok.bs,ok.bsz,ok.noex,ok.exfs,ok.funs,ok.frf⟩
theorem Cx.Ok.unwish {X:Cx}{E:Value->Shared->Prop} (ok:(X.wish E).Ok):X.Ok:=
 ⟨ok.mod,ok.kind,ok.glob,ok.blt,ok.above,ok.inj,ok.has,ok.cab,ok.hd,ok.frames,ok.stk,ok.exf,ok.bs,ok.bsz,ok.noex,ok.exfs,ok.funs,ok.frf⟩
section
variable {X:Cx} {pins:List (Addr×Obj)} {σ:St} {H:Hp} {s:Shared} {E:Value -> Shared -> Prop}
theorem aN.wish (I:aN X pins σ H s) (E:Value->Shared->Prop):aN (X.wish E) pins σ H s:=⟨I.ok.wish E,I.os,I.bare,I.base,I.loc,I.cell,I.free,I.freeC,I.pin,I.hok,I.len⟩
theorem aN.unwish (I:aN (X.wish E) pins σ H s):aN X pins σ H s:=⟨I.ok.unwish,I.os,I.bare,I.base,I.loc,I.cell,I.free,I.freeC,I.pin,I.hok,I.len⟩
theorem SP.unwish {D:dC}{f:Flow}{s':Shared} (h:SP (X.wish E) pins D f s'):SP X pins D f s':=by
 cases f with
|next=>obtain ⟨σ',H',I,q⟩:=h; exact ⟨σ',H',I.unwish,q⟩
|brk=>obtain ⟨σ',H',I,q⟩:=h; exact ⟨σ',H',I.unwish,q⟩
|cont=>obtain ⟨σ',H',I,q⟩:=h; exact ⟨σ',H',I.unwish,q⟩
|ret u=>obtain ⟨v,σ',H',I,r,q⟩:=h; exact ⟨v,σ',H',I.unwish,r,q⟩
theorem tI.nox {st:List Stmt}{t:TS} (h:tI X.nox st t):tI X st t:=fun pins s σ H D I hw =>
 wpAny_mono (h pins s σ H D (I.wish _) hw) (fun _ _ q=>q.unwish) fun _ _ z=>False.elim z
end
section
variable {X:Cx} {st:Stmt} {dH:List Stmt} {t u:TS} {e:Expr} {te:TE} {pos:Pos}
noncomputable def OU:TS:=fun D σ H=>D.nx σ H
noncomputable def WG (t u:TS):TS:=fun D σ H=>t { D with nx:=u D } σ H
theorem cC:tI X [] OU:=fun _ _ σ H _ I h=>wpAny_execs_nil ⟨σ,H,I,h⟩
theorem aC (h1:PS X st t) (h2:tI X dH u):tI X (st::dH) (WG t u):=by
 intro pins s σ H D I h
 refine wpAny_execs_cons (cA (h1 pins s σ H { D with nx:=u D } I h) fun f s1 q=>?_)
 cases f with
|next =>
  obtain ⟨σ',H',I',q⟩:=q
  exact h2 pins s1 σ' H' D I' q
|ret v=>exact q
|brk=>exact q
|cont=>exact q
theorem aF (h1:PS X st t):tI X [st] t:=by
 intro pins s σ H D I h
 refine wpAny_execs_cons (cA (h1 pins s σ H D I h) fun f s1 q=>?_)
 cases f with
|next=>exact wpAny_execs_nil q
|ret v=>exact q
|brk=>exact q
|cont=>exact q
noncomputable def PB:TS:=fun D σ H=>D.ct σ H
theorem wK:PS X (.Continue pos) PB:=fun _ _ σ H _ I h=>wpAny_Continue ⟨σ,H,I,h⟩
theorem aN.quiet {pins:List (Addr×Obj)}{σ:St}{H:Hp}{s:Shared} (I:aN X pins σ H s):interactive X.env=false:=by simp [interactive,I.ok.kind]
noncomputable def OY (te:TE):TS:=fun D σ H=>te σ H fun _ H1=>D.nx σ H1
theorem fS (he:PE X e te) (hs:swapsWith e none pos.line X.env=pure false:=by rfl):PS X (.Expr e pos) (OY te):=by
 intro pins s σ H D I h
 exact wpAny_Expr_any (cA (he pins s σ H _ I h) fun v s1 ⟨x,H1,I1,r1,q1⟩=>⟨σ,H1,I1,q1⟩) I.quiet hs
noncomputable def WI (te:TE):TS:=fun D σ H=>te σ H D.rt
theorem aS (he:PE X e te):PS X (.Return (some e) pos) (WI te):=by
 intro pins s σ H D I h
 exact wpAny_Return_some (cA (he pins s σ H _ I h) fun v s1 ⟨x,H1,I1,r1,q1⟩=>⟨x,σ,H1,I1,r1,q1⟩)
noncomputable def WM (c:TT) (t u:TS):TS:=fun D σ H=>c σ H fun b H1=>if b=true then t D σ H1 else u D σ H1
theorem fF {c:Expr}{a b:List Stmt}{tc:TT} (hc:PT X c tc) (ha:tI X a t) (hb:tI X b u):PS X (.If c a b pos) (WM tc t u):=by
 intro pins s σ H D I h
 refine wpAny_If (cA (hc pins s σ H _ I h) fun d s1 ⟨H1,I1,q1⟩=>?_)
 cases d with
|true=>exact ha pins s1 σ H1 D I1 q1
|false=>exact hb pins s1 σ H1 D I1 q1
end
noncomputable abbrev TG:=V->St->Hp->(St->Hp->Prop)->Prop
noncomputable abbrev OL:=List V->St->Hp->(St->Hp->Prop)->Prop
noncomputable def PG (X:Cx) (target:Expr) (t:TG):Prop:=
 ∀ (pins:List (Addr×Obj)) (s:Shared) (σ:St) (H:Hp) (v:V) (u:Value) (Q:St->Hp->Prop),aN X pins σ H s->aV v u->t v σ H Q ->
  wpAny (model X.prog X.w) X.A (assign target X.env u) (fun _ s'=>∃ σ' H',aN X pins σ' H' s'/\Q σ' H') X.xe s
noncomputable def As (X:Cx) (ts:List Expr) (t:OL):Prop:=
 ∀ (pins:List (Addr×Obj)) (s:Shared) (σ:St) (H:Hp) (vs:List V) (us:List Value) (Q:St->Hp->Prop),aN X pins σ H s->aQ vs us->t vs σ H Q ->
  wpAny (model X.prog X.w) X.A (assignInOrder ((assignEach ts X.env).map (·.2)) us) (fun _ s'=>∃ σ' H',aN X pins σ' H' s'/\Q σ' H') X.xe s
noncomputable abbrev Ac:=V->V->Hp->VK->Prop
noncomputable def Cv (X:Cx) (op:Operator) (t:Ac):Prop:=
 ∀ (pins:List (Addr×Obj)) (s:Shared) (σ:St) (H:Hp) (x y:V) (v u:Value) (Q:VK),aN X pins σ H s->aV x v->aV y u->t x y H Q ->
  wpAny (model X.prog X.w) X.A (inplaceOp op v u) (EP X pins σ Q) X.xe s
section
variable {X:Cx} {pos:Pos}
noncomputable def nM (i:Nat):TG:=fun v σ H Q=>Q (σ.set i (some v)) H
theorem aP {i:Nat}{x:Str} (hN:X.N.Nodup) (hi:X.N[i]?=some x) (hx:VT X.env.scope x) (hf:X.fn x=true∨X.env.scope.names.lookup x=some .local:=by first|exact .inl rfl|exact .inr rfl|assumption):PG X (.Name x pos) (nM i):=by
 intro pins s σ H v u Q I r h
 exact wpAny_assign_Name (jL I hN hi hx r (fun s' I'=>⟨_,H,I',h⟩) hf)
noncomputable def ZN:OL:=fun vs σ H Q=>vs=[]/\Q σ H
noncomputable def QS (t:TG) (u:OL):OL:=fun vs σ H Q=>∃ v r,vs=v::r/\t v σ H fun σ' H'=>u r σ' H' Q
theorem hV:As X [] ZN:=by
 intro pins s σ H vs us Q I r h
 obtain ⟨e,h⟩:=h
 subst e
 cases r
 exact assignInOrder_nil ⟨σ,H,I,h⟩
theorem bO {e:Expr}{es:List Expr}{t:TG}{u:OL} (h1:PG X e t) (h2:As X es u)
  (hs:(assignEach (e::es) X.env).map (·.2)=assign e X.env::(assignEach es X.env).map (·.2):=by rfl):As X (e::es) (QS t u):=by
 intro pins s σ H vs us Q I r h
 obtain ⟨v,vr,e1,h⟩:=h
 subst e1
 cases r with
|cons r rr =>
  rw [hs]
  refine assignInOrder_cons (cA (h1 pins s σ H _ _ _ I r h) fun _ s1 ⟨σ1,H1,I1,q1⟩=>?_)
  exact h2 pins s1 σ1 H1 _ _ Q I1 rr q1
noncomputable def ZM (K:Frag) (n:Nat) (t:OL):TG:=fun v σ H Q=>∃ a xs,v=.ref a/\AD K H a xs/\xs.length=n/\t xs σ H Q
theorem jP {es:List Expr}{k:Nat}{t:OL}{n:Nat} (hc:X.calm=true) (h:As X es t)
  (hn:(assignEach es X.env).length=n:=by rfl) (hst:(assignEach es X.env).findIdx? (·.1)=none:=by rfl):PG X (.Tuple es k pos) (ZM X.K n t):=by
 intro pins s σ H v u Q I r hw
 obtain ⟨a,xs,e1,hq,hl,hw⟩:=hw
 subst e1
 cases r
 obtain ⟨its,rv,ht,hz⟩:=I.tuple hq
 refine assign_Tuple_tuple (I.ok.hd hc) ht (by simp [hn,← hl,rv.length]) hst fun h' hx=>?_
 have I1:aN X pins σ H { s with heap:=h' }:=I.kept (t':=s.toks) fun b o e=>hx b o (ne_of_lt (lt_size e)) e
 exact h pins _ σ H xs _ Q I1 (by simpa using rv) hw
noncomputable def LN (te:TE) (g:TG):TS:=fun D σ H=>te σ H fun x H1=>g x σ H1 D.nx
theorem HR {tg e:Expr}{te:TE}{g:TG} (he:PE X e te) (hg:PG X tg g) (hs:swapsWithSole [tg] e pos.line X.env=pure false:=by rfl) (hw:swappedStores [tg] e X.env=pure none:=by rfl)
  (h1:(assignEach [tg] X.env).map (·.2)=[assign tg X.env]:=by rfl):PS X (.Assign [tg] e pos) (LN te g):=by
 intro pins s σ H D I h
 refine wpAny_Assign_stores (cA (he pins s σ H _ I h) fun v s1 ⟨x,H1,I1,r1,q1⟩=>?_) hs hw
 rw [h1]
 exact cA (hg pins s1 σ H1 x v _ I1 r1 q1) fun _ s2 q=>q
theorem aK {i:Nat}{x:Str}{e:Expr}{te:TE}{pos':Pos} (hN:X.N.Nodup) (hi:X.N[i]?=some x) (hx:VT X.env.scope x) (he:PE X e te) (hs:swapsWith e (some (.Name x pos')) pos.line X.env=pure false:=by rfl) (hf:X.fn x=true∨X.env.scope.names.lookup x=some .local:=by first|exact .inl rfl|exact .inr rfl|assumption) :
  PS X (.Assign [.Name x pos'] e pos) (LN te (nM i)):=by
 intro pins s σ H D I h
 refine wpAny_Assign_Name (cA (he pins s σ H _ I h) fun v s1 ⟨y,H1,I1,r1,q1⟩=>?_) hs
 exact jL I1 hN hi hx r1 (fun s2 I2=>⟨_,H1,I2,q1⟩) hf
noncomputable def WJ (i j:Nat) (ta:TA):TS:=fun D σ H=>ta σ H fun vs H1=>∃ v w,vs=[v,w]/\D.nx ((σ.set i (some v)).set j (some w)) H1
theorem ST {i j:Nat}{x y:Str}{a b:Expr}{ta:TA}{px py pt:Pos}{kt k2 pt2} (hc:X.calm=true) (hN:X.N.Nodup) (hi:X.N[i]?=some x) (hj:X.N[j]?=some y) (hij:i≠j)
  (hx:X.env.scope.names.lookup x=some .local) (hy:X.env.scope.names.lookup y=some .local) (ha:PA X [a,b] ta)
  (hw:swappedStores [.Tuple [.Name x px,.Name y py] kt pt] (.Tuple [a,b] k2 pt2) X.env=pure (some [x,y]))
  (hs:swapsWithSole [.Tuple [.Name x px,.Name y py] kt pt] (.Tuple [a,b] k2 pt2) pos.line X.env=pure false:=by rfl) :
  PS X (.Assign [.Tuple [.Name x px,.Name y py] kt pt] (.Tuple [a,b] k2 pt2) pos) (WJ i j ta):=by
 intro pins s σ H D I h
 rw [exec_Assign_arm]
 refine wpAny_bind (wpAny_standAt ?_)
 rw [hs]
 refine wpAny_bind (wpAny_pure ?_)
 rw [if_neg (by decide)]
 refine wpAny_bind (Tuple_ (cA (ha _ pins s σ H _ I h) fun us s1 ⟨vs,H1,I1,r1,q1⟩=>?_))
 obtain ⟨v,w,e1,q1⟩:=q1
 subst e1
 obtain ⟨u1,u2,rfl,rv,rw'⟩:∃ u1 u2,us=[u1,u2]/\aV v u1/\aV w u2:=by
  cases r1 with
 |cons p q =>
   cases q with
  |cons p' q' =>
    cases q'
    exact ⟨_,_,rfl,p,p'⟩
 refine wpAny_newObj_type ?_ (by show 2<=sizeLine; decide)
 have I2:aN X pins σ H1 { s1 with heap:=s1.heap.push { cls:=.type "tuple",data:=.seq [u1,u2].toArray } }:=I1.kept (t':=s1.toks) fun b o e=>get?_push_of_some _ e
 rw [hw]
 refine wpAny_bind (wpAny_pure ?_)
 show wpAny (model X.prog X.w) X.A (do rule "assign.swapped-stores"; let items ← unpackItems (.ref s1.heap.objs.size) 2 none; assignInOrder [fun v=>bindName X.env y v,fun v=>bindName X.env x v] items.reverse; pure Flow.next) _ _ _
 refine wpAny_bind (wpAny_rule (wpAny_bind (unpackItems_tuple (items:=#[u1,u2]) (I.ok.hd hc) (IsTup.new s1.heap _) fun h' hx'=>?_)))
 have I3:=I2.kept (h':=h') (t':=s1.toks) fun b o e=>hx' b o (ne_of_lt (lt_size e)) e
 show wpAny _ _ (assignInOrder [fun v=>bindName X.env y v,fun v=>bindName X.env x v] [u2,u1] >>= fun _=>pure Flow.next) _ _ _
 refine wpAny_bind (assignInOrder_cons (wpAny_bindName (jL I3 hN hj (.inl hy) rw' (fun s2 I4=>?_) (.inr hy))))
 refine assignInOrder_cons (wpAny_bindName (jL I4 hN hi (.inl hx) rv (fun s3 I5=>assignInOrder_nil (wpAny_pure ?_)) (.inr hx)))
 rw [List.set_comm _ _ (Ne.symm hij)] at I5
 exact ⟨_,H1,I5,q1⟩
noncomputable def WP (i:Nat) (te:TE) (ti:Ac):TS:=fun D σ H=>∃ x,σ[i]?=some (some x)/\te σ H fun y H1=>ti x y H1 fun z H2=>D.nx (σ.set i (some z)) H2
theorem SU {i:Nat}{x:Str}{e:Expr}{te:TE}{op:Operator}{ti:Ac}{pos':Pos} (hN:X.N.Nodup) (hi:X.N[i]?=some x) (hx:VT X.env.scope x) (he:PE X e te) (ho:Cv X op ti) (hf:X.fn x=true∨X.env.scope.names.lookup x=some .local:=by first|exact .inl rfl|exact .inr rfl|assumption) :
  PS X (.AugAssign (.Name x pos') op e pos) (WP i te ti):=by
 intro pins s σ H D I h
 obtain ⟨v,e1,h⟩:=h
 obtain ⟨m,hn,hl⟩:=I.loc
 have vis:Aa X.env.scope x:=by rcases hx with k|k; exact .inl k; exact .inr (.inl k)
 obtain ⟨u,r,l⟩:=hl i x v hi e1 vis
 refine wpAny_AugAssign_Name ?_
 have go:wpAny (model X.prog X.w) X.A (eval e X.env) (fun w s₂=>wpAny (model X.prog X.w) X.A (inplaceOp op u w) (fun r s₃=>wpAny (model X.prog X.w) X.A (storeName X.env x r) (fun _=>SP X pins D .next) X.xe s₃) X.xe s₂) X.xe s:=by
  refine cA (he pins s σ H _ I h) fun w s1 ⟨y,H1,I1,r1,q1⟩=>?_
  refine cA (ho pins s1 σ H1 v y u w _ I1 r r1 q1) fun z s2 ⟨zv,H2,I2,r2,q2⟩=>?_
  exact jL I2 hN hi hx r2 (fun s3 I3=>⟨_,H2,I3,q2⟩) hf
 rcases l with ⟨hk,hm⟩|⟨hk,c,hc,hcell⟩
 ·exact wpAny_loadName_local I.ok.kind hk hn hm go
 ·rcases hk with hk|hk
  ·exact wpAny_loadName_cell I.ok.kind hk hc hcell go
  ·rcases hx with k|k
   ·have:X.env.scope.names.lookup x=some .free:=hk
    rw [k] at this; cases this
   ·have:X.env.scope.names.lookup x=some .free:=hk
    rw [k] at this; cases this
noncomputable def Cp (f:Int->Int->Int):Ac:=fun x y H Q=>∃ i j,x=.int i/\y=.int j/\Q (.int (f i j)) H
theorem UJ:Cv X .Sub (Cp fun i j=>i - j):=by
 intro pins s σ H x y v u Q I r1 r2 h
 obtain ⟨i,j,e1,e2,q⟩:=h
 subst e1; subst e2
 obtain ⟨t,rfl⟩:=r1
 obtain ⟨t',rfl⟩:=r2
 exact isub_int ⟨.int _,H,I.tok _,⟨_,rfl⟩,q⟩
end
section
variable {X:Cx} {pos:Pos}
noncomputable def tM (c:TT) (tb:TS):TS:=fun D σ H=>∃ W:Nat->St->Hp->Prop,(∃ m,W m σ H)/\∀ m σ H,W m σ H ->
 c σ H fun b H1=>if b=true then ∃ N:St->Hp->Prop,(∀ σ' H',N σ' H'->∃ m',m' < m/\W m' σ' H')/\tb { D with nx:=N,ct:=N,bk:=D.nx } σ H1 else D.nx σ H1
theorem iI {c:Expr}{body:List Stmt}{tc:TT}{tb:TS} (hp:PassesOwn (model X.prog X.w) X.A X.env X.xe) (hc:PT X c tc) (hb:tI X body tb):PS X (.While c body [] pos) (tM tc tb):=by
 intro pins s σ H D I h
 obtain ⟨W,⟨m0,w0⟩,turn⟩:=h
 refine wpAny_While (codeAny_whileLoop (fun n s'=>∃ σ' H',aN X pins σ' H' s'/\W n σ' H') ?_ m0 ⟨σ,H,I,w0⟩)
 rintro n s1 ⟨σ1,H1,I1,w1⟩
 refine wpAny_passesOwn hp (cA (hc pins s1 σ1 H1 _ I1 (turn n σ1 H1 w1)) fun b s2 ⟨H2,I2,q2⟩=>?_)
 cases b with
|true =>
  obtain ⟨N,hN,q2⟩:=q2
  rw [if_pos rfl]
  refine wpAny_passesOwn hp (cA (hb pins s2 σ1 H2 _ I2 q2) fun f s3 q3=>?_)
  cases f with
 |next =>
   obtain ⟨σ3,H3,I3,n3⟩:=q3
   obtain ⟨m',hm,w3⟩:=hN σ3 H3 n3
   exact ⟨m',hm,σ3,H3,I3,w3⟩
 |cont =>
   obtain ⟨σ3,H3,I3,n3⟩:=q3
   obtain ⟨m',hm,w3⟩:=hN σ3 H3 n3
   exact ⟨m',hm,σ3,H3,I3,w3⟩
 |brk=>exact q3
 |ret v=>exact q3
|false =>
  rw [if_neg Bool.false_ne_true]
  exact wpAny_execs_nil ⟨σ1,H2,I2,q2⟩
end
structure It where
 go:Nat->Hp->Prop
 yld:Nat->Hp->V->Hp->Prop
 stop:Nat->Hp->Prop
noncomputable def nX (X:Cx) (pins:List (Addr×Obj)) (H:Hp) (b:Addr):Prop:=
 H b=none/\b≠X.env.locals/\b∉X.fs/\(b∈X.ex∨X.s₀.heap.objs.size<=b)/\(∀ x c,X.env.cells.lookup x=some c->c≠b)/\∀ p∈X.pn++pins,p.1≠b
theorem aN.fpOk {X:Cx}{pins:List (Addr×Obj)}{σ:St}{H H':Hp}{s:Shared}{b:Addr} (I:aN X pins σ H s) (hb:s.heap.objs.size<=b) (hn:H' b=none):nX X pins H' b:=by
 refine ⟨hn,ne_of_gt (lt_of_lt_of_le I.lt hb),I.nofs hb,.inr (le_trans I.sz hb),fun x c e z=>?_,fun p hp z=>?_⟩
 ·obtain ⟨v,q⟩:=I.cell x c e
  exact absurd (lt_of_lt_of_le q.lt (by rw [z]; exact hb)) (lt_irrefl _)
 ·exact absurd (lt_of_lt_of_le (lt_size (I.pin p hp).1) (by rw [z]; exact hb)) (lt_irrefl _)
structure FH (P:Program) (w:World) (K:Frag) (tg:Expr) (J:It) (fp:List Addr) (it:Addr) (tn:Nat->Heap->Prop):Prop where
 mem:it∈fp
 obj:∀ i h,tn i h->∀ b∈fp,∃ o,h.get? b=some o/\∀ v,o.data≠.cell v
 keep:∀ i h h',tn i h->(∀ b∈fp,∀ o,h.get? b=some o->h'.get? b=some o)->tn i h'
 item:∀ (X:Cx),X.prog=P->X.w=w->X.K=K->X.calm=true->∀ (i:Nat) (pins:List (Addr×Obj)) (s:Shared) (σ:St) (H:Hp) (E:Value->Shared->Prop),aN X pins σ H s->(∀ b∈fp,nX X pins H b)->tn i s.heap->J.go i H ->
  wpAny (model P w) X.A (pyNext (.ref it)) (fun r s1=>∃ u,r=some u /\
   wpAny (model P w) X.A (letOwnedTupleGo tg (.ref it) u) (fun _ s2=>∃ x H',aN X pins σ H' s2/\aV x u/\J.yld i H x H'/\tn (i+1) s2.heap/\∀ b∈fp,H' b=none) E s1) E s
 done:∀ (X:Cx),X.prog=P->X.w=w->X.K=K->X.calm=true->∀ (i:Nat) (pins:List (Addr×Obj)) (s:Shared) (σ:St) (H:Hp) (E:Value->Shared->Prop),aN X pins σ H s->(∀ b∈fp,nX X pins H b)->tn i s.heap->J.stop i H ->
  wpAny (model P w) X.A (pyNext (.ref it)) (fun r s1=>r=none/\aN X pins σ H s1) E s
 self:∀ (A:Around) (i:Nat) (s:Shared) (Q:Value->Shared->Prop) (E:Value->Shared->Prop),tn i s.heap->Q (.ref it) s->wpAny (model P w) A (pyIter (.ref it)) Q E s
noncomputable abbrev TI:=St->Hp->(It->Hp->Prop)->Prop
noncomputable def Cf (X:Cx) (pins:List (Addr×Obj)) (σ:St) (tg:Expr) (R:It->Hp->Prop) (itv:Value) (s2:Shared):Prop:=
 ∃ (it:Addr) (fp:List Addr) (tn:Nat->Heap->Prop) (J:It) (H':Hp),itv=.ref it/\aN X pins σ H' s2/\FH X.prog X.w X.K tg J fp it tn/\tn 0 s2.heap/\(∀ b∈fp,nX X pins H' b)/\R J H'
noncomputable def PI (X:Cx) (tg iter:Expr) (wi:TI):Prop:=
 ∀ (pins:List (Addr×Obj)) (s:Shared) (σ:St) (H:Hp) (R:It->Hp->Prop),aN X pins σ H s->wi σ H R ->
  wpAny (model X.prog X.w) X.A (eval iter X.env) (fun v s1=>wpAny (model X.prog X.w) X.A (pyIter v) (Cf X pins σ tg R) X.xe s1) X.xe s
theorem JH {M:Model}{A:Around}{E:Value->Shared->Prop}{s:Shared}{tg:Expr}{it:Addr}{u:Value}{o:Obj}{n:String}{vs:Array Value}{Q:Unit->Shared->Prop} (ho:s.heap.get? it=some o) (hc:o.cls=.type n) (hd:o.data=.fields vs)
    (hn:["enumerate","zip","dict_itemiterator","dict_reverseitemiterator","odict_iterator","itertools.zip_longest","itertools.pairwise"].contains n=false) (hQ:Q () s):wpAny M A (letOwnedTupleGo tg (.ref it) u) Q E s:=by
  unfold letOwnedTupleGo
  cases tg <;> first
   |exact wpAny_pure hQ
    | (cases u <;> first
       |exact wpAny_pure hQ
        | (refine wpAny_bind (wpAny_load ho ?_)
           rw [hc,hd]
           show wpAny M A (if (["enumerate","zip","dict_itemiterator","dict_reverseitemiterator","odict_iterator","itertools.zip_longest","itertools.pairwise"].contains n&&vs[0]?==some (rawInt _))=true then _ else _) Q E s
           rw [if_neg (by intro h; rw [hn,Bool.false_and] at h; cases h)]
           exact wpAny_pure hQ))
noncomputable def LH (K:Frag) (a:Addr):It:=
 ⟨fun i H=>∃ xs x,bX K H a xs/\xs[i]?=some x,fun i H x H'=>H'=H/\∀ xs,bX K H a xs->xs[i]?=some x,fun i H=>∃ xs,bX K H a xs/\xs.length<=i⟩
noncomputable def LG (lo:Int) (n:Nat):It:=⟨fun i _=>i < n,fun i H x H'=>H'=H/\x=.int (lo+i),fun i _=>n<=i⟩
theorem CV {P:Program}{w:World}{K:Frag}{tg:Expr} (a it:Addr):FH P w K tg (LH K a) [it] it (fun i h=>h.IsListIter it a i) where
 mem:=by simp
 obj:=fun i h st b hb=>by
  have e:b=it:=by simpa using hb
  subst e
  obtain ⟨o,e,c,d⟩:=st
  exact ⟨o,e,fun v z=>by rw [d] at z; cases z⟩
 keep:=fun i h h' st k=>st.at fun o e=>k it (by simp) o e
 item:=by
  intro X hP hw hK hc i pins s σ H E I hf st hg
  subst hP hw hK
  obtain ⟨xs,x,hq,hx⟩:=hg
  obtain ⟨its,rv,p,hz⟩:=I.list hq
  obtain ⟨u,hu,ru⟩:=rv.get hx
  obtain ⟨f0,f1,f2,f3,f4,f5⟩:=hf it (by simp)
  refine wpAny_pyNext_list_item st p.isList (x:=u) (by simpa using hu) fun h' st' sb=>?_
  have I1:aN X pins σ H { s with heap:=h' }:=I.turned (t':=s.toks) (fun b o hb e=>(sb.2 b hb).trans e) f0 f1 f3 f4 f5
  obtain ⟨o,e,c,d⟩:=id st'
  exact ⟨u,rfl,JH (s:={ s with heap:=h' }) e c d (by decide) ⟨x,H,I1,ru,⟨rfl,fun ys hy=>by rw [I.list_inj hy hq]; exact hx⟩,st',fun b hb=>(hf b hb).1⟩⟩
 done:=by
  intro X hP hw hK hc i pins s σ H E I hf st hg
  subst hP hw hK
  obtain ⟨xs,hq,hx⟩:=hg
  obtain ⟨its,rv,p,hz⟩:=I.list hq
  obtain ⟨f0,f1,f2,f3,f4,f5⟩:=hf it (by simp)
  have hl:=rv.length
  exact wpAny_pyNext_list_end (I.ok.hd hc) st p.isList (by simp; omega) fun h' eb=>⟨rfl,I.turned (t':=s.toks) (fun b o hb e=>eb b o hb e) f0 f1 f3 f4 f5⟩
 self:=fun _ _ _ _ _ st h=>wpAny_pyIter_listiter st h
theorem yD {P:Program}{w:World}{K:Frag}{tg:Expr} (it:Addr) (lo:Int) (n:Nat):FH P w K tg (LG lo n) [it] it (fun i h=>IsRangeIter h it (lo+(i:Nat) * 1) ((n:Int) - (i:Nat)) 1) where
 mem:=by simp
 obj:=fun i h st b hb=>by
  have e:b=it:=by simpa using hb
  subst e
  exact ⟨_,st,fun v z=>by
   have z':Data.fields _=Data.cell v:=z
   cases z'⟩
 keep:=fun i h h' st k=>k it (by simp) _ st
 item:=by
  intro X hP hw hK hc i pins s σ H E I hf st hg
  subst hP hw hK
  obtain ⟨f0,f1,f2,f3,f4,f5⟩:=hf it (by simp)
  have W:=Walks.range (prog:=X.prog) (w:=X.w) (I.ok.hd hc) it lo 1 n
  refine W.item i s _ _ hg st fun v h' tk hv st' kk=>?_
  obtain ⟨t,rfl⟩:=hv
  have I1:aN X pins σ H { s with heap:=h',toks:=tk }:=I.turned (fun b o hb e=>kk b o (by simpa using hb) e) f0 f1 f3 f4 f5
  refine ⟨_,rfl,JH (s:={ s with heap:=h',toks:=tk }) (n:="range_iterator") st' rfl rfl (by decide) ⟨.int (lo+i),H,I1,⟨t,?_⟩,⟨rfl,rfl⟩,st',fun b hb=>(hf b hb).1⟩⟩
  rw [Int.mul_one]
 done:=by
  intro X hP hw hK hc i pins s σ H E I hf st hg
  subst hP hw hK
  obtain ⟨f0,f1,f2,f3,f4,f5⟩:=hf it (by simp)
  exact wpAny_pyNext_range_end (I.ok.hd hc) st (by have:n<=i:=hg; omega) fun h' eb=>⟨rfl,I.turned (t':=s.toks) (fun b o hb e=>eb b o hb e) f0 f1 f3 f4 f5⟩
 self:=fun _ _ _ _ _ st h=>wpAny_pyIter_rangeiter st h
end
section
section
variable {X:Cx} {tg:Expr}
noncomputable def QP (K:Frag) (tl:TE):TI:=fun σ H R=>tl σ H fun x H1=>∃ a,x=.ref a/\(∃ xs,bX K H1 a xs)/\R (LH K a) H1
theorem cH {l:Expr}{tl:TE} (hl:PE X l tl):PI X tg l (QP X.K tl):=by
 intro pins s σ H R I h
 refine cA (hl pins s σ H _ I h) fun v s1 ⟨x,H1,I1,r1,q1⟩=>?_
 obtain ⟨a,e,⟨xs,hq⟩,q⟩:=q1
 subst e
 cases r1
 obtain ⟨its,rv,p,hz⟩:=I1.list hq
 refine wpAny_pyIter_list p.isList ?_
 refine ⟨s1.heap.objs.size,[s1.heap.objs.size],_,_,H1,rfl,I1.kept (t':=s1.toks) fun b o e=>get?_push_of_some _ e,CV a _,⟨_,get?_push_size _ rfl,rfl,rfl⟩,fun b hb=>?_,q⟩
 have e:b=s1.heap.objs.size:=by simpa using hb
 subst e
 exact I1.fpOk (le_refl _) (I1.hok.fresh (le_refl _))
theorem wH {pins:List (Addr×Obj)}{σ:St}{H:Hp}{s:Shared}{R:It->Hp->Prop}{E:Value->Shared->Prop}{lo hi:Int}{t u v:Tok}{tk:Nat} (I:aN X pins σ H s) (h1:-(2 ^ 62)<=lo) (h2:lo < 2 ^ 62) (h3:-(2 ^ 62)<=hi) (h4:hi < 2 ^ 62)
  (q:R (LG lo (hi - lo).toNat) H):wpAny (model X.prog X.w) X.A (pyIter (.ref s.heap.objs.size)) (Cf X pins σ tg R) E { s with heap:=s.heap.push { cls:=.type "range",data:=.fields #[.int lo t,.int hi u,.int 1 v] },toks:=tk }:=by
 refine wpAny_pyIter_range (IsRange.new ..) (small_one h1 h2 h3 h4) ?_
 have I1:aN X pins σ H { s with heap:=s.heap.push { cls:=.type "range",data:=.fields #[.int lo t,.int hi u,.int 1 v] },toks:=tk }:=I.kept fun b o e=>get?_push_of_some _ e
 refine ⟨(s.heap.push { cls:=.type "range",data:=.fields #[.int lo t,.int hi u,.int 1 v] }).objs.size,[(s.heap.push { cls:=.type "range",data:=.fields #[.int lo t,.int hi u,.int 1 v] }).objs.size],_,_,H,rfl,
  I1.kept (t':=tk) fun b o e=>get?_push_of_some _ e,yD _ lo (hi - lo).toNat,?_,fun b hb=>?_,q⟩
 ·have e1:lo+((0:Nat):Int) * 1=lo:=by simp
  have e2:(((hi - lo).toNat:Nat):Int) - ((0:Nat):Int)=Builtin.Range.rangeSize lo hi 1:=by rw [rangeSize_one]; split <;> omega
  show IsRangeIter _ _ (lo+((0:Nat):Int) * 1) ((((hi - lo).toNat:Nat):Int) - ((0:Nat):Int)) 1
  rw [e1,e2]
  exact get?_push_size _ rfl
 ·have e:b=(s.heap.push { cls:=.type "range",data:=.fields #[.int lo t,.int hi u,.int 1 v] }).objs.size:=by simpa using hb
  subst e
  exact I1.fpOk (le_refl _) (I1.hok.fresh (le_refl _))
noncomputable def QO (ta:TA):TI:=fun σ H R=>ta σ H fun vs H1=>∃ j:Int,vs=[.int j]/\-(2 ^ 62)<=j/\j < 2 ^ 62/\R (LG 0 j.toNat) H1
noncomputable def QN (ta:TA):TI:=fun σ H R=>ta σ H fun vs H1=>∃ i j:Int,vs=[.int i,.int j]/\(-(2 ^ 62)<=i/\i < 2 ^ 62/\-(2 ^ 62)<=j/\j < 2 ^ 62)/\R (LG i (j - i).toNat) H1
theorem rX {a:Expr}{ta:TA}{p pos:Pos} (hg:Gl X "range") (hm:X.mg "range"=none) (ha:PA X [a] ta) (hs:starEach [a] X.env=[(false,eval a X.env)]:=by rfl):PI X tg (.Call (.Name "range" p) [a] [] pos) (QO ta):=by
 intro pins s σ H R I h
 refine Call_ (jC I hg hm boot_range (PyProof.Rows.callWith_type1 (cA (ha pos pins s σ H _ I h) fun us s1 ⟨vs,H1,I1,r1,q1⟩=>?_) hs rfl))
 obtain ⟨j,e,q1,q2,q⟩:=q1
 subst e
 cases r1 with
|cons r rr =>
  cases rr
  obtain ⟨t,rfl⟩:=r
  exact call_range_1 (wH I1 (by omega) (by omega) q1 q2 (by simpa using q))
theorem rW {a b:Expr}{ta:TA}{p pos:Pos} (hg:Gl X "range") (hm:X.mg "range"=none) (ha:PA X [a,b] ta) (hs:starEach [a,b] X.env=[(false,eval a X.env),(false,eval b X.env)]:=by rfl) (hs2:starEach [b] X.env=[(false,eval b X.env)]:=by rfl) :
  PI X tg (.Call (.Name "range" p) [a,b] [] pos) (QN ta):=by
 intro pins s σ H R I h
 refine Call_ (jC I hg hm boot_range (PyProof.Rows.callWith_type1 (cA (ha pos pins s σ H _ I h) fun us s1 ⟨vs,H1,I1,r1,q1⟩=>?_) (by rw [hs,hs2]) (by rw [hs2]; rfl)))
 obtain ⟨i,j,e,⟨q1,q2,q3,q4⟩,q⟩:=q1
 subst e
 cases r1 with
|cons r rr =>
  cases rr with
 |cons r' rr =>
   cases rr
   obtain ⟨t,rfl⟩:=r
   obtain ⟨t',rfl⟩:=r'
   exact call_range_2 (wH I1 q1 q2 q3 q4 q)
noncomputable def LM (wi:TI) (g:TG) (tb:TS):TS:=fun D σ H=>wi σ H fun J H1=>∃ W:Nat->Nat->St->Hp->Prop,(∃ m,W 0 m σ H1)/\∀ i m σ H,W i m σ H ->
 (J.stop i H/\D.nx σ H)∨(J.go i H/\∃ N:St->Hp->Prop,(∀ σ' H',N σ' H'->∃ m',m' < m/\W (i+1) m' σ' H')/\∀ x H',J.yld i H x H'->g x σ H' fun σ2 H2=>tb { D with nx:=N,ct:=N,bk:=D.nx } σ2 H2)
noncomputable def lD (fp:List Addr) (h:Heap):List (Addr×Obj):=fp.filterMap fun b=>(h.get? b).map fun o=>(b,o)
theorem jB {fp:List Addr}{h:Heap}{b:Addr}{o:Obj} (hb:b∈fp) (e:h.get? b=some o):(b,o)∈lD fp h:=mem_filterMap.mpr ⟨b,hb,by rw [e]; rfl⟩
theorem DX {fp:List Addr}{h:Heap}{p:Addr×Obj} (hp:p∈lD fp h):p.1∈fp/\h.get? p.1=some p.2:=by
 obtain ⟨b,hb,e⟩:=mem_filterMap.mp hp
 cases q:h.get? b with
|none=>rw [q] at e; cases e
|some o =>
  rw [q] at e
  have e':(b,o)=p:=Option.some.inj e
  subst e'
  exact ⟨hb,q⟩
theorem aN.pinned {pins:List (Addr×Obj)}{σ:St}{H:Hp}{s:Shared}{fp:List Addr} (I:aN X pins σ H s) (hf:∀ b∈fp,nX X pins H b) (ho:∀ b∈fp,∃ o,s.heap.get? b=some o/\∀ v,o.data≠.cell v):aN X (pins++lD fp s.heap) σ H s:=
 I.pins_of fun p hp=>(mem_append.mp hp).elim (fun z=>I.pin p (mem_append_right _ z)) fun z=>by
  obtain ⟨hb,e⟩:=DX z
  obtain ⟨f0,f1,f2,_⟩:=hf p.1 hb
  obtain ⟨o,e',d⟩:=ho p.1 hb
  rw [e] at e'; cases e'
  exact ⟨e,f0,f1,f2,d⟩
theorem aN.unpinned {pins pl:List (Addr×Obj)}{σ:St}{H:Hp}{s:Shared} (I:aN X (pins++pl) σ H s):aN X pins σ H s:=I.pins_of fun p hp=>I.pin p (mem_append_right _ (mem_append_left _ hp))
theorem dS {iter:Expr}{body:List Stmt}{wi:TI}{g:TG}{tb:TS}{pos:Pos} (hp:PassesOwn (model X.prog X.w) X.A X.env X.xe) (hc:X.calm=true) (hi:PI X tg iter wi) (hg:PG X tg g) (hb:tI X body tb)
  (hs:∀ x,foldedSetIterable iter X.env x=pure x:=by intro _; rfl):PS X (.For tg iter body [] pos) (LM wi g tb):=by
 intro pins s σ H D I h
 refine wpAny_For (cA (hi pins s σ H _ I h) fun v s1 h1=>cA h1 fun itv s2 h2=>?_) hs
 obtain ⟨it,fp,tn,J,H2,e,I2,T,st2,f2,W,⟨m0,w0⟩,turn⟩:=h2
 subst e
 -- what stays true of the iterator's objects through the loop
 have stat:∀ {H':Hp},(∀ b∈fp,H' b=none)->∀ b∈fp,nX X pins H' b:=fun hn b hb=>⟨hn b hb,(f2 b hb).2⟩
 refine codeAny_forLoop_any (fun n s'=>∃ i σ' H',aN X pins σ' H' s'/\tn i s'.heap/\(∀ b∈fp,H' b=none)/\W i n σ' H') ?_ m0 ⟨0,σ,H2,I2,st2,fun b hb=>(f2 b hb).1,w0⟩
 rintro n s3 ⟨i,σ3,H3,I3,st3,fr3,w3⟩
 rcases turn i n σ3 H3 w3 with ⟨stop,qn⟩|⟨go,N,hN,step⟩
 ·refine wpAny_passesOwn hp (cA (T.done X rfl rfl rfl hc i pins s3 σ3 H3 X.xe I3 (stat fr3) st3 stop) fun r s4 ⟨hr,I4⟩=>?_)
  subst hr
  exact wpAny_execs_nil ⟨σ3,H3,I4,qn⟩
 ·refine wpAny_passesOwn hp (cA (T.item X rfl rfl rfl hc i pins s3 σ3 H3 X.xe I3 (stat fr3) st3 go) fun r s4 ⟨u,hr,h4⟩=>?_)
  subst hr
  refine wpAny_passesOwn hp (cA h4 fun _ s5 ⟨x,H5,I5,r5,y5,st5,fr5⟩=>?_)
  have I5':=I5.pinned (stat fr5) (T.obj _ _ st5)
  refine wpAny_passesOwn hp (cA (hg _ s5 σ3 H5 x u _ I5' r5 (step x H5 y5)) fun _ s6 ⟨σ6,H6,I6,q6⟩=>?_)
  refine wpAny_passesOwn hp (cA (hb _ s6 σ6 H6 _ I6 q6) fun f s7 q7=>?_)
  have again:∀ {σ7:St} {H7:Hp},aN X (pins++lD fp s5.heap) σ7 H7 s7->N σ7 H7->∃ m,m < n/\∃ i σ' H',aN X pins σ' H' s7/\tn i s7.heap/\(∀ b∈fp,H' b=none)/\W i m σ' H':=fun {σ7 H7} I7 n7=>by
   obtain ⟨m',hm,w7⟩:=hN σ7 H7 n7
   refine ⟨m',hm,i+1,σ7,H7,I7.unpinned,T.keep _ _ _ st5 fun b hb o e=>(I7.pin (b,o) (mem_append_right _ (mem_append_right _ (jB hb e)))).1,fun b hb=>?_,w7⟩
   obtain ⟨o,e,d⟩:=T.obj _ _ st5 b hb
   exact (I7.pin (b,o) (mem_append_right _ (mem_append_right _ (jB hb e)))).2.1
  cases f with
 |next=>obtain ⟨σ7,H7,I7,n7⟩:=q7; exact again I7 n7
 |cont=>obtain ⟨σ7,H7,I7,n7⟩:=q7; exact again I7 n7
 |brk=>obtain ⟨σ7,H7,I7,q7⟩:=q7; exact ⟨σ7,H7,I7.unpinned,q7⟩
 |ret v=>obtain ⟨x7,σ7,H7,I7,r7,q7⟩:=q7; exact ⟨x7,σ7,H7,I7.unpinned,r7,q7⟩
end
theorem JK {K:Frag}{a:Addr}{xs:List V}{g:TG}{tb:TS}{D:dC}{σ:St}{H:Hp} (Pv:Nat->St->Hp->Prop) (h0:Pv 0 σ H) (hl:∀ i σ H,i<=xs.length->Pv i σ H->bX K H a xs)
  (hs:∀ i x σ H,xs[i]?=some x->Pv i σ H->g x σ H fun σ2 H2=>tb { D with nx:=Pv (i+1),ct:=Pv (i+1),bk:=D.nx } σ2 H2) (hd:∀ σ H,Pv xs.length σ H->D.nx σ H) :
  ∃ W:Nat->Nat->St->Hp->Prop,(∃ m,W 0 m σ H)/\∀ i m σ H,W i m σ H ->
   ((LH K a).stop i H/\D.nx σ H)∨((LH K a).go i H/\∃ N:St->Hp->Prop,(∀ σ' H',N σ' H'->∃ m',m' < m/\W (i+1) m' σ' H')/\∀ x H',(LH K a).yld i H x H'->g x σ H' fun σ2 H2=>tb { D with nx:=N,ct:=N,bk:=D.nx } σ2 H2):=by
 refine ⟨fun i m σ H=>m=xs.length - i/\i<=xs.length/\Pv i σ H,⟨xs.length,by simp,zero_le _,h0⟩,?_⟩
 rintro i m σ H ⟨rfl,hi,p⟩
 have q:=hl i σ H hi p
 by_cases hlt:i < xs.length
 ·refine .inr ⟨⟨xs,xs[i],q,by simp [hlt]⟩,Pv (i+1),fun σ' H' p'=>⟨xs.length - (i+1),by omega,rfl,hlt,p'⟩,fun x H' y=>?_⟩
  obtain ⟨e,y⟩:=y
  subst e
  exact hs i x σ _ (y xs q) p
 ·have e:i=xs.length:=by omega
  subst e
  exact .inl ⟨⟨xs,q,le_refl _⟩,hd σ H p⟩
theorem EO {lo:Int}{n:Nat}{g:TG}{tb:TS}{D:dC}{σ:St}{H:Hp} (Pv:Nat->St->Hp->Prop) (h0:Pv 0 σ H)
  (hs:∀ i σ H,i < n->Pv i σ H->g (.int (lo+i)) σ H fun σ2 H2=>tb { D with nx:=Pv (i+1),ct:=Pv (i+1),bk:=D.nx } σ2 H2) (hd:∀ σ H,Pv n σ H->D.nx σ H) :
  ∃ W:Nat->Nat->St->Hp->Prop,(∃ m,W 0 m σ H)/\∀ i m σ H,W i m σ H ->
   ((LG lo n).stop i H/\D.nx σ H)∨((LG lo n).go i H/\∃ N:St->Hp->Prop,(∀ σ' H',N σ' H'->∃ m',m' < m/\W (i+1) m' σ' H')/\∀ x H',(LG lo n).yld i H x H'->g x σ H' fun σ2 H2=>tb { D with nx:=N,ct:=N,bk:=D.nx } σ2 H2):=by
 refine ⟨fun i m σ H=>m=n - i/\i<=n/\Pv i σ H,⟨n,by simp,zero_le _,h0⟩,?_⟩
 rintro i m σ H ⟨rfl,hi,p⟩
 by_cases hlt:i < n
 ·refine .inr ⟨hlt,Pv (i+1),fun σ' H' p'=>⟨n - (i+1),by omega,rfl,hlt,p'⟩,fun x H' y=>?_⟩
  obtain ⟨e,y⟩:=y
  subst e y
  exact hs i σ _ hlt p
 ·have e:i=n:=by omega
  subst e
  exact .inl ⟨le_refl _,hd σ H p⟩
theorem oR {c:TT}{tb:TS}{D:dC}{σ:St}{H:Hp} (Pv:St->Hp->Prop) (μ:St->Hp->Nat) (h0:Pv σ H)
  (hs:∀ σ H,Pv σ H->c σ H fun b H1=>if b=true then tb { D with nx:=fun σ' H'=>Pv σ' H'/\μ σ' H' < μ σ H,ct:=fun σ' H'=>Pv σ' H'/\μ σ' H' < μ σ H,bk:=D.nx } σ H1 else D.nx σ H1)
  (mono:∀ σ H Q Q',(∀ b H1,Q b H1->Q' b H1)->c σ H Q->c σ H Q'):tM c tb D σ H:=by
 refine ⟨fun m σ H=>m=μ σ H/\Pv σ H,⟨_,rfl,h0⟩,?_⟩
 rintro m σ H ⟨rfl,p⟩
 refine mono σ H _ _ (fun b H1 q=>?_) (hs σ H p)
 cases b with
|true=>exact ⟨_,fun σ' H' ⟨p',l⟩=>⟨_,l,rfl,p'⟩,q⟩
|false=>exact q
end
section
noncomputable abbrev R2:=V->V->Hp->VK->Prop
noncomputable def jG (X:Cx) (f:Value->Value->Sem Value) (r:R2):Prop:=
 ∀ (pins:List (Addr×Obj)) (s:Shared) (σ:St) (H:Hp) (x y:V) (v u:Value) (Q:VK),aN X pins σ H s->aV x v->aV y u->r x y H Q ->
  wpAny (model X.prog X.w) X.A (f v u) (EP X pins σ Q) X.xe s
noncomputable def Cc (X:Cx) (f:Value->Sem Value) (r:V->Hp->VK->Prop):Prop:=
 ∀ (pins:List (Addr×Obj)) (s:Shared) (σ:St) (H:Hp) (x:V) (v:Value) (Q:VK),aN X pins σ H s->aV x v->r x H Q ->
  wpAny (model X.prog X.w) X.A (f v) (EP X pins σ Q) X.xe s
noncomputable def jJ (X:Cx) (f:Value) (r:List V->Hp->VK->Prop):Prop:=
 ∀ (pins:List (Addr×Obj)) (s:Shared) (σ:St) (H:Hp) (xs:List V) (us:List Value) (Q:VK),aN X pins σ H s->aQ xs us->r xs H Q ->
  wpAny (model X.prog X.w) X.A (call f us) (EP X pins σ Q) X.xe s
noncomputable def Cd (X:Cx) (r:V->Hp->(Bool->Hp->Prop)->Prop):Prop:=
 ∀ (pins:List (Addr×Obj)) (s:Shared) (σ:St) (H:Hp) (x:V) (v:Value) (Q:Bool->Hp->Prop),aN X pins σ H s->aV x v->r x H Q ->
  wpAny (model X.prog X.w) X.A (truthy v) (TP X pins σ Q) X.xe s
noncomputable def VO (r:R2) (ta tb:TE):TE:=fun σ H Q=>ta σ H fun x H1=>tb σ H1 fun y H2=>r x y H2 Q
noncomputable def Ck (r:V->Hp->VK->Prop) (ta:TE):TE:=fun σ H Q=>ta σ H fun x H1=>r x H1 Q
noncomputable def rI (C:Int->Int->Prop) (g:Int->Int->V):R2:=fun x y H Q=>∃ i j,x=.int i/\y=.int j/\C i j/\Q (g i j) H
noncomputable def KW (g:Int->Int->V):R2:=fun x y H Q=>∃ i j,x=.int i/\y=.int j/\Q (g i j) H
noncomputable def rU (g:Int->V):V->Hp->VK->Prop:=fun x H Q=>∃ i,x=.int i/\Q (g i) H
section
variable {X:Cx} {a b c:Expr} {ta tb tc:TE} {pos:Pos}
theorem VB (ha:PE X a ta) (hb:PE X b tb) {pins:List (Addr×Obj)}{s:Shared}{σ:St}{H:Hp}{R:V->V->Hp->Prop} (I:aN X pins σ H s)
  (h:ta σ H fun x H1=>tb σ H1 fun y H2=>R x y H2) {Q:Value->Shared->Prop} {f:Value->Value->Sem Value}
  (hf:∀ v u s2 x y H2,aN X pins σ H2 s2->aV x v->aV y u->R x y H2->wpAny (model X.prog X.w) X.A (f v u) Q X.xe s2) :
  wpAny (model X.prog X.w) X.A (eval a X.env) (fun v s₁=>wpAny (model X.prog X.w) X.A (eval b X.env) (fun u s₂=>wpAny (model X.prog X.w) X.A (f v u) Q X.xe s₂) X.xe s₁) X.xe s:=by
 refine cA (ha pins s σ H _ I h) fun v s1 ⟨x,H1,I1,r1,q1⟩=>?_
 refine cA (hb pins s1 σ H1 _ I1 q1) fun u s2 ⟨y,H2,I2,r2,q2⟩=>?_
 exact hf v u s2 x y H2 I2 r1 r2 q2
theorem aM {op:Operator}{r:R2} (ho:jG X (binaryOp op) r) (ha:PE X a ta) (hb:PE X b tb):PE X (.BinOp a op b pos) (VO r ta tb):=by
 intro pins s σ H Q I h
 exact wpAny_BinOp (VB ha hb I h fun v u s2 x y H2 I2 rx ry q=>ho pins s2 σ H2 x y v u Q I2 rx ry q)
theorem YT {op:UnaryOp}{r:V->Hp->VK->Prop} (ho:Cc X (unaryOp op) r) (ha:PE X a ta):PE X (.UnaryOp op a pos) (Ck r ta):=by
 intro pins s σ H Q I h
 exact UnaryOp_ (cA (ha pins s σ H _ I h) fun v s1 ⟨x,H1,I1,r1,q1⟩=>ho pins s1 σ H1 x v Q I1 r1 q1)
theorem ZB {f:Value->Value->Sem Value}{C:Int->Int->Prop}{g:Int->Int->Int}
  (rule:∀ (i j:Int) (t u:Tok) (s:Shared) (Q:Value->Shared->Prop) (E:Value->Shared->Prop),C i j->Q (.int (g i j) s.toks) { s with toks:=s.toks+1 }->wpAny (model X.prog X.w) X.A (f (.int i t) (.int j u)) Q E s) :
  jG X f (rI C fun i j=>.int (g i j)):=by
 intro pins s σ H x y v u Q I rx ry h
 obtain ⟨i,j,rfl,rfl,hc,q⟩:=h
 obtain ⟨t,rfl⟩:=rx
 obtain ⟨t',rfl⟩:=ry
 exact rule i j t t' s _ _ hc ⟨.int (g i j),H,I.tok _,⟨_,rfl⟩,q⟩
theorem ZA {f:Value->Value->Sem Value}{g:Int->Int->Int}
  (rule:∀ (i j:Int) (t u:Tok) (s:Shared) (Q:Value->Shared->Prop) (E:Value->Shared->Prop),Q (.int (g i j) s.toks) { s with toks:=s.toks+1 }->wpAny (model X.prog X.w) X.A (f (.int i t) (.int j u)) Q E s) :
  jG X f (KW fun i j=>.int (g i j)):=by
 intro pins s σ H x y v u Q I rx ry h
 obtain ⟨i,j,rfl,rfl,q⟩:=h
 obtain ⟨t,rfl⟩:=rx
 obtain ⟨t',rfl⟩:=ry
 exact rule i j t t' s _ _ ⟨.int (g i j),H,I.tok _,⟨_,rfl⟩,q⟩
theorem MZ {f:Value->Value->Sem Value}{g:Int->Int->Bool}
  (rule:∀ (i j:Int) (t u:Tok) (s:Shared) (Q:Value->Shared->Prop) (E:Value->Shared->Prop),Q (.bool (g i j)) s->wpAny (model X.prog X.w) X.A (f (.int i t) (.int j u)) Q E s) :
  jG X f (KW fun i j=>.bl (g i j)):=by
 intro pins s σ H x y v u Q I rx ry h
 obtain ⟨i,j,rfl,rfl,q⟩:=h
 obtain ⟨t,rfl⟩:=rx
 obtain ⟨t',rfl⟩:=ry
 exact rule i j t t' s _ _ ⟨.bl (g i j),H,I,rfl,q⟩
noncomputable def VM (i j:Int):Prop:=0<=j/\j<=1000000/\i.natAbs < 2 ^ 64
noncomputable def VN (i j:Int):Prop:=(-(2 ^ 64) < i/\i < 2 ^ 64)∨(-(2 ^ 64) < j/\j < 2 ^ 64)
theorem VN.ok {i j:Int} (h:VN i j):IntMulOk i j:=by
 rcases h with ⟨h1,h2⟩|⟨h1,h2⟩
 ·exact .of_left (intBits_le_64 h1 h2)
 ·exact .of_right (intBits_le_64 h1 h2)
theorem TQ:jG X (binaryOp .Add) (KW fun i j=>.int (i+j)):=ZA fun _ _ _ _ _ _ _ q=>add_int q
theorem uP:jG X (binaryOp .Sub) (KW fun i j=>.int (i - j)):=ZA fun _ _ _ _ _ _ _ q=>sub_int q
theorem dD:jG X (binaryOp .Mod) (rI (fun _ j=>0 < j) fun i j=>.int (i % j)):=ZB fun i j _ _ _ _ _ hc q=>by
 have h1:(0:Int) < j:=hc
 exact mod_int' (by omega) (by rw [Int.fmod_eq_emod_of_nonneg i (by omega)]; exact q)
theorem MW:jG X (binaryOp .Mod) (rI (fun _ j=>j≠0) fun i j=>.int (i.fmod j)):=ZB fun _ _ _ _ _ _ _ hc q=>mod_int' hc q
theorem ID:jG X (binaryOp .Pow) (rI VM fun i j=>.int (i ^ j.toNat)):=ZB fun _ _ _ _ _ _ _ hc q=>pow_int_small hc.1 hc.2.1 hc.2.2 q
theorem unI {f:Value->Sem Value}{g:Int->Int}
  (rule:∀ (i:Int) (t:Tok) (s:Shared) (Q:Value->Shared->Prop) (E:Value->Shared->Prop),Q (.int (g i) s.toks) { s with toks:=s.toks+1 }->wpAny (model X.prog X.w) X.A (f (.int i t)) Q E s) :
  Cc X f (rU fun i=>.int (g i)):=by
 intro pins s σ H x v Q I rx h
 obtain ⟨i,rfl,q⟩:=h
 obtain ⟨t,rfl⟩:=rx
 exact rule i t s _ _ ⟨.int (g i),H,I.tok _,⟨_,rfl⟩,q⟩
theorem RC:Cc X (unaryOp .USub) (rU fun i=>.int (-i)):=unI fun _ _ _ _ _ q=>neg_int q
end
noncomputable def WR:V->V->Bool
|.non,.non=>true|.non,.int _=>true|.int _,.non=>true|.non,.bl _=>true|.bl _,.non=>true|.non,.str _=>true|.str _,.non=>true
|.int _,.int _=>true|.bl _,.bl _=>true|.str _,.str _=>true|.byt _,.byt _=>true
|.int _,.str _=>true|.str _,.int _=>true|.bl _,.str _=>true|.str _,.bl _=>true
|_,_=>false
noncomputable def Bp:R2:=fun x y H Q=>WR x y=true/\Q (.bl (decide (x=y))) H
noncomputable def Al:R2:=fun x y H Q=>WR x y=true/\Q (.bl (!decide (x=y))) H
theorem oN {i j:Int}:decide (V.int i=V.int j)=(i==j):=by
 rw [Bool.eq_iff_iff]
 simp
theorem zS {i j:Bool}:decide (V.bl i=V.bl j)=(i==j):=by
 rw [Bool.eq_iff_iff]
 simp
theorem vE {i j:Str}:decide (V.str i=V.str j)=(i==j):=by
 rw [Bool.eq_iff_iff]
 simp
theorem CM {i j:Array UInt8}:decide (V.byt i=V.byt j)=(i.toList==j.toList):=by
 rw [Bool.eq_iff_iff]
 cases i
 cases j
 simp
section
variable {X:Cx} {a b c:Expr} {ta tb tc:TE} {pos:Pos}
theorem aZ {pins:List (Addr×Obj)}{σ:St}{H:Hp}{s:Shared}{Q:VK}{k k':Bool} (I:aN X pins σ H s) (q:Q (.bl k) H) (e:k=k'):EP X pins σ Q (.bool k') s:=by
 subst e
 exact ⟨.bl k,H,I,rfl,q⟩
theorem YZ:jG X (compareOp .Eq) Bp:=by
 intro pins s σ H x y v u Q I rx ry h
 obtain ⟨hs,q⟩:=h
 cases x with
|non =>
  cases rx
  cases y with
 |non=>cases ry; exact PySem.EqNone.eq_none_none (aZ I q (by simp))
 |bl j=>cases ry; exact PySem.EqNone.eq_none_bool (aZ I q (by simp))
 |int j=>obtain ⟨t',rfl⟩:=ry; exact PySem.EqNone.eq_none_int (aZ I q (by simp))
 |str j=>obtain ⟨t',rfl⟩:=ry; exact PySem.EqNone.eq_none_str (aZ I q (by simp))
 |_=>exact absurd (show false=true from hs) Bool.false_ne_true
|bl i =>
  cases rx
  cases y with
 |non=>cases ry; exact PySem.EqNone.eq_bool_none (aZ I q (by simp))
 |bl j=>cases ry; exact eq_bool (aZ I q zS)
 |str j=>obtain ⟨t',rfl⟩:=ry; exact PySem.EqMixed.eq_bool_str (aZ I q (by simp))
 |_=>exact absurd (show false=true from hs) Bool.false_ne_true
|int i =>
  obtain ⟨t,rfl⟩:=rx
  cases y with
 |non=>cases ry; exact PySem.EqNone.eq_int_none (aZ I q (by simp))
 |int j=>obtain ⟨t',rfl⟩:=ry; exact eq_int (aZ I q oN)
 |str j=>obtain ⟨t',rfl⟩:=ry; exact PySem.EqMixed.eq_int_str (aZ I q (by simp))
 |_=>exact absurd (show false=true from hs) Bool.false_ne_true
|str i =>
  obtain ⟨t,rfl⟩:=rx
  cases y with
 |non=>cases ry; exact PySem.EqNone.eq_str_none (aZ I q (by simp))
 |bl j=>cases ry; exact PySem.EqMixed.eq_str_bool (aZ I q (by simp))
 |int j=>obtain ⟨t',rfl⟩:=ry; exact PySem.EqMixed.eq_str_int (aZ I q (by simp))
 |str j=>obtain ⟨t',rfl⟩:=ry; exact eq_str (aZ I q vE)
 |_=>exact absurd (show false=true from hs) Bool.false_ne_true
|byt i =>
  obtain ⟨t,rfl⟩:=rx
  cases y with
 |byt j=>obtain ⟨t',rfl⟩:=ry; exact PySem.W.eq_bytes (aZ I q CM)
 |_=>exact absurd (show false=true from hs) Bool.false_ne_true
|_=>cases y <;> exact absurd (show false=true from hs) Bool.false_ne_true
theorem YX:jG X (compareOp .NotEq) Al:=by
 intro pins s σ H x y v u Q I rx ry h
 obtain ⟨hs,q⟩:=h
 cases x with
|non =>
  cases rx
  cases y with
 |non=>cases ry; exact PySem.EqNone.ne_none_none (aZ I q (by simp))
 |bl j=>cases ry; exact PySem.EqNone.ne_none_bool (aZ I q (by simp))
 |int j=>obtain ⟨t',rfl⟩:=ry; exact PySem.EqNone.ne_none_int (aZ I q (by simp))
 |str j=>obtain ⟨t',rfl⟩:=ry; exact PySem.EqNone.ne_none_str (aZ I q (by simp))
 |_=>exact absurd (show false=true from hs) Bool.false_ne_true
|bl i =>
  cases rx
  cases y with
 |non=>cases ry; exact PySem.EqNone.ne_bool_none (aZ I q (by simp))
 |bl j=>cases ry; exact ne_bool (aZ I q (congrArg not zS))
 |str j=>obtain ⟨t',rfl⟩:=ry; exact PySem.EqMixed.ne_bool_str (aZ I q (by simp))
 |_=>exact absurd (show false=true from hs) Bool.false_ne_true
|int i =>
  obtain ⟨t,rfl⟩:=rx
  cases y with
 |non=>cases ry; exact PySem.EqNone.ne_int_none (aZ I q (by simp))
 |int j=>obtain ⟨t',rfl⟩:=ry; exact ne_int (aZ I q (congrArg not oN))
 |str j=>obtain ⟨t',rfl⟩:=ry; exact PySem.EqMixed.ne_int_str (aZ I q (by simp))
 |_=>exact absurd (show false=true from hs) Bool.false_ne_true
|str i =>
  obtain ⟨t,rfl⟩:=rx
  cases y with
 |non=>cases ry; exact PySem.EqNone.ne_str_none (aZ I q (by simp))
 |bl j=>cases ry; exact PySem.EqMixed.ne_str_bool (aZ I q (by simp))
 |int j=>obtain ⟨t',rfl⟩:=ry; exact PySem.EqMixed.ne_str_int (aZ I q (by simp))
 |str j=>obtain ⟨t',rfl⟩:=ry; exact ne_str (aZ I q (congrArg not vE))
 |_=>exact absurd (show false=true from hs) Bool.false_ne_true
|byt i =>
  obtain ⟨t,rfl⟩:=rx
  cases y with
 |byt j=>obtain ⟨t',rfl⟩:=ry; exact PySem.W.ne_bytes (aZ I q (congrArg not CM))
 |_=>exact absurd (show false=true from hs) Bool.false_ne_true
|_=>cases y <;> exact absurd (show false=true from hs) Bool.false_ne_true
theorem wO:jG X (compareOp .Lt) (KW fun i j=>.bl (decide (i < j))):=MZ fun _ _ _ _ _ _ _ q=>lt_int q
theorem QH:jG X (compareOp .LtE) (KW fun i j=>.bl (decide (i<=j))):=MZ fun _ _ _ _ _ _ _ q=>le_int q
theorem BU:jG X (compareOp .Gt) (KW fun i j=>.bl (decide (j < i))):=MZ fun _ _ _ _ _ _ _ q=>gt_int q
theorem YY:jG X (compareOp .GtE) (KW fun i j=>.bl (decide (j<=i))):=MZ fun _ _ _ _ _ _ _ q=>ge_int q
theorem TL:jG X (compareOp .Is) (fun x y H Q=>y=.non/\Q (.bl (decide (x=.non))) H):=by
 intro pins s σ H x y v u Q I rx ry h
 obtain ⟨rfl,q⟩:=h
 cases ry
 refine is_none_gen (aZ I q ?_)
 cases x <;> first
 |(cases rx; rfl)
 |(obtain ⟨t,rfl⟩:=rx; rfl)
theorem MV:jG X (compareOp .IsNot) (fun x y H Q=>y=.non/\Q (.bl (!decide (x=.non))) H):=by
 intro pins s σ H x y v u Q I rx ry h
 obtain ⟨rfl,q⟩:=h
 cases ry
 refine isnot_none_gen (aZ I q ?_)
 cases x <;> first
 |(cases rx; rfl)
 |(obtain ⟨t,rfl⟩:=rx; rfl)
theorem jG.or {f:Value->Value->Sem Value}{r r':R2} (h:jG X f r) (h':jG X f r'):jG X f (fun x y H Q=>r x y H Q∨r' x y H Q):=by
 intro pins s σ H x y v u Q I rx ry q
 rcases q with q|q
 ·exact h pins s σ H x y v u Q I rx ry q
 ·exact h' pins s σ H x y v u Q I rx ry q
theorem bB (b:Expr) {op:CmpOp} (h:op≠.In:=by decide) (h2:op≠.NotIn:=by decide):behindInMarks op b=false:=by
 have e1:(op==CmpOp.In)=false:=by cases op <;> first|rfl|exact absurd rfl h
 have e2:(op==CmpOp.NotIn)=false:=by cases op <;> first|rfl|exact absurd rfl h2
 cases b <;> simp [behindInMarks,e1,e2]
theorem oE {op:CmpOp}{r:R2} (ho:jG X (compareOp op) r) (ha:PE X a ta) (hb:PE X b tb) (hm:behindInMarks op b=false):PE X (.Compare a [op] [b] pos) (VO r ta tb):=by
 intro pins s σ H Q I h
 exact wpAny_Compare1 (VB ha hb I h fun v u s2 x y H2 I2 rx ry q=>ho pins s2 σ H2 x y v u Q I2 rx ry q) hm
noncomputable def OT (t:TE):TT:=fun σ H Q=>t σ H fun x H'=>∃ k,x=.bl k/\Q k H'
theorem aX {op:CmpOp}{r:R2} (ho:jG X (compareOp op) r) (ha:PE X a ta) (hb:PE X b tb) (hm:behindInMarks op b=false):PT X (.Compare a [op] [b] pos) (OT (VO r ta tb)):=by
 intro pins s σ H Q I h
 refine wpAny_isTrue_Compare1 (cA (ha pins s σ H _ I h) fun v s1 ⟨x,H1,I1,r1,q1⟩=>cA (hb pins s1 σ H1 _ I1 q1) fun u s2 ⟨y,H2,I2,r2,q2⟩ =>
  cA (ho pins s2 σ H2 x y v u _ I2 r1 r2 q2) fun c s3 ⟨z,H3,I3,r3,k,e,q3⟩=>?_) hm
 subst e
 cases r3
 exact wpAny_truthy_bool ⟨H3,I3,q3⟩
noncomputable def qL (K:Frag) (x:V) (H:Hp) (k:Bool):Prop:=
 match x with
|.non=>k=false
|.bl b=>k=b
|.int i=>k=(i !=0)
|.str y=>y.length<=sizeLine/\k=((y.length:Int) !=0)
|.byt y=>y.size<=sizeLine/\k=((y.size:Int) !=0)
|.ref p=>(∃ xs,bX K H p xs/\k=!xs.isEmpty)∨(∃ xs,AD K H p xs/\k=!xs.isEmpty)∨∃ kvs,H p=some (.dK kvs)/\k=!kvs.isEmpty
|_=>False
theorem zM {κ:Type}{kvs:List (κ×V)}{vs:List (κ×Value)} (r:KV kvs vs):(!vs.isEmpty)=!kvs.isEmpty:=by
 cases r <;> rfl
theorem pY {xs:List V}{its:List Value} (r:aQ xs its):(!its.toArray.isEmpty)=!xs.isEmpty:=by
 cases r <;> simp
theorem pV:(sizeLine:Nat) < 2 ^ 63:=by rw [sizeLine_eq]; decide
theorem FU:Cd X (fun x H Q=>∃ k,qL X.K x H k/\Q k H):=by
 intro pins s σ H x v Q I rx h
 obtain ⟨k,e,q⟩:=h
 have hl:=pV
 have hs:sizeLine=16777216:=sizeLine_eq
 cases x with
|non =>
  cases rx
  have e':k=false:=e
  subst e'
  exact truthy_none ⟨H,I,q⟩
|bl b =>
  cases rx
  have e':k=b:=e
  subst e'
  exact wpAny_truthy_bool ⟨H,I,q⟩
|int i =>
  obtain ⟨t,rfl⟩:=rx
  have e':k=(i !=0):=e
  subst e'
  exact PySem.P.truthy_int ⟨H,I,q⟩
|str y =>
  obtain ⟨t,rfl⟩:=rx
  obtain ⟨hy,e'⟩:y.length<=sizeLine/\k=((y.length:Int) !=0):=e
  subst e'
  exact PySem.P.truthy_str (by omega) ⟨H,I.tok _,q⟩
|byt y =>
  obtain ⟨t,rfl⟩:=rx
  obtain ⟨hy,e'⟩:y.size<=sizeLine/\k=((y.size:Int) !=0):=e
  subst e'
  exact PySem.W.truthy_bytes (by omega) ⟨H,I.tok _,q⟩
|ref p =>
  cases rx
  have e':(∃ xs,bX X.K H p xs/\k=!xs.isEmpty)∨(∃ xs,AD X.K H p xs/\k=!xs.isEmpty)∨∃ kvs,H p=some (.dK kvs)/\k=!kvs.isEmpty:=e
  rcases e' with ⟨xs,hx,e'⟩|⟨xs,hx,e'⟩|⟨kvs,hx,e'⟩
  ·subst e'
   obtain ⟨its,r,pl,hz⟩:=I.list hx
   have hlen:=r.length
   exact wpAny_truthy_list pl.isList (by simp only [size_toArray]; omega) ⟨H,I.tok _,by rw [pY r]; exact q⟩
  ·subst e'
   obtain ⟨its,r,pl,hz⟩:=I.tuple hx
   have hlen:=r.length
   exact truthy_tuple pl (by simp only [size_toArray]; omega) ⟨H,I.tok _,by rw [pY r]; exact q⟩
  ·subst e'
   obtain ⟨hz,hS,vs,r,m⟩:kvs.length<=sizeLine/\(p==sysModules)=false/\∃ vs,KV kvs vs/\s.heap.DictOf (aY X.prog X.w) p vs:=I.hok p _ hx
   have hlen:kvs.length=vs.length:=Paired.length r
   exact wpAny_truthy_dict hS m (by omega) ⟨H,I.tok _,by rw [zM r]; exact q⟩
|_=>exact (show False from e).elim
theorem HP (ha:PE X a ta) (he:∀ whole,isTrue a X.env whole=(do let v ← whole; standAt a.pos; holding [v] (truthy v))) :
  PT X a (fun σ H Q=>ta σ H fun x H'=>∃ k,qL X.K x H' k/\Q k H'):=by
 intro pins s σ H Q I h
 exact isTrue_plain (cA (ha pins s σ H _ I h) fun v s1 ⟨x,H1,I1,r1,q1⟩=>FU pins s1 σ H1 x v Q I1 r1 q1) (he _)
theorem zB:jG X (binaryOp .Add) (fun x y H Q=>∃ i j,x=.str i/\y=.str j/\i.length+j.length<=sizeLine/\Q (.str (i++j)) H):=by
 intro pins s σ H x y v u Q I rx ry h
 obtain ⟨i,j,rfl,rfl,hz,q⟩:=h
 obtain ⟨t,rfl⟩:=rx
 obtain ⟨t',rfl⟩:=ry
 exact add_str (fun t' tk=>⟨.str (i++j),H,I.tok _,⟨_,rfl⟩,q⟩) hz
theorem FQ {x:V}{us:List Value} (r:aQ [x] us):∃ u,us=[u]/\aV x u:=by
 cases r with
|cons r1 r2=>cases r2; exact ⟨_,rfl,r1⟩
theorem JZ:jJ X (.builtin "abs") (fun xs H Q=>∃ i,xs=[.int i]/\Q (.int (if i < 0 then -i else i)) H):=by
 intro pins s σ H xs us Q I r h
 obtain ⟨i,rfl,q⟩:=h
 obtain ⟨u,rfl,t,rfl⟩:=FQ r
 exact call_abs_int fun u tk=>⟨.int (if i < 0 then -i else i),H,I.tok _,⟨_,rfl⟩,q⟩
noncomputable def Ag (K:Frag) (x:V) (H:Hp) (n:Nat):Prop:=
 match x with
|.str y=>y.length<=sizeLine/\n=y.length
|.byt y=>y.size<=sizeLine/\n=y.size
|.ref p=>(∃ xs,bX K H p xs/\n=xs.length)∨∃ xs,AD K H p xs/\n=xs.length
|_=>False
theorem JY:jJ X (.builtin "len") (fun xs H Q=>∃ x n,xs=[x]/\Ag X.K x H n/\Q (.int n) H):=by
 intro pins s σ H xs us Q I r h
 obtain ⟨x,n,rfl,e,q⟩:=h
 obtain ⟨u,rfl,rx⟩:=FQ r
 have hl:=pV
 have hs:sizeLine=16777216:=sizeLine_eq
 cases x with
|str y =>
  obtain ⟨t,rfl⟩:=rx
  obtain ⟨hy,e'⟩:y.length<=sizeLine/\n=y.length:=e
  subst e'
  exact len_str (by omega) ⟨.int _,H,I.tok _,⟨_,rfl⟩,q⟩
|byt y =>
  obtain ⟨t,rfl⟩:=rx
  obtain ⟨hy,e'⟩:y.size<=sizeLine/\n=y.size:=e
  subst e'
  exact PySem.W.len_bytes (by omega) ⟨.int _,H,I.tok _,⟨_,rfl⟩,q⟩
|ref p =>
  cases rx
  have e':(∃ xs,bX X.K H p xs/\n=xs.length)∨∃ xs,AD X.K H p xs/\n=xs.length:=e
  rcases e' with ⟨xs,hx,e'⟩|⟨xs,hx,e'⟩
  ·subst e'
   obtain ⟨its,r',pl,hz⟩:=I.list hx
   have hlen:=r'.length
   exact Calls.call_len_list pl.isList (by simp only [size_toArray]; omega) ⟨.int xs.length,H,I.tok _,⟨_,by simp only [size_toArray]; rw [hlen]⟩,q⟩
  ·subst e'
   obtain ⟨its,r',pl,hz⟩:=I.tuple hx
   have hlen:=r'.length
   exact len_tuple pl (by simp only [size_toArray]; omega) ⟨.int xs.length,H,I.tok _,⟨_,by simp only [size_toArray]; rw [hlen]⟩,q⟩
|_=>exact (show False from e).elim
end
end
section
section
variable {prog:Program} {w:World} {A:Around} {E:Value -> Shared -> Prop} {s:Shared} {K:Frag} {x dx C f:Addr} {mA:Str -> Option Value} {name:Str} {v:Value}
end
theorem nH.some_of {v:V}{o:Option Value} (r:nH (some v) o):∃ u,o=some u/\aV v u:=by
 cases o with
|none=>exact (show False from r).elim
|some u=>exact ⟨u,rfl,r⟩
section
variable {P:Program} {w:World} {H H':Hp} {h h':Heap} {a C dx:Addr} {fs fs':List (Str×V)}
end
section
variable {X:Cx} {pins:List (Addr×Obj)} {σ:St} {H:Hp} {s:Shared} {a C dx:Addr} {fs:List (Str×V)} {f:Str} {v:V} {A:Around} {E:Value -> Shared -> Prop}
end
section
variable {X:Cx} {o e value:Expr} {f:Str} {pos pos' tpos:Pos} {ta tv:TE}
end
section
variable {X:Cx} {pins:List (Addr×Obj)} {σ:St} {H:Hp} {s:Shared} {A:Around} {E:Value -> Shared -> Prop} {Q:Value -> Shared -> Prop} {c:Value} {b:Bool}
end
end
section
structure eP (k:Nat) (A:Around):Prop where
 hd:A.handled=none
 dp:A.depth+3 * k+5 < recursionLimit
 un:A.units+16 * k+200 < cLine
theorem eP.mono {j k:Nat}{A:Around} (r:eP k A) (h:j<=k):eP j A:=⟨r.hd,by have:=r.dp; omega,by have:=r.un; omega⟩
theorem eP.deeper {k:Nat}{A:Around} (r:eP (k+1) A) (env:Env):eP k (A.deeper env):=
 ⟨r.hd,by have:=r.dp; show A.depth+1+3 * k+5 < _; omega,by have:=r.un; show A.units+3+16 * k+200 < _; omega⟩
theorem eP.depth {k:Nat}{A:Around} (r:eP k A):A.depth < recursionLimit:=by have:=r.dp; omega
theorem eP.units {k:Nat}{A:Around} (r:eP k A):A.units+64 < cLine:=by have:=r.un; omega
noncomputable def qQ:TA:=fun _ H Q=>Q [] H
noncomputable def nJ (ta:TE) (tr:TA):TA:=fun σ H Q=>ta σ H fun x H1=>tr σ H1 fun xs H2=>Q (x::xs) H2
section
variable {X:Cx} {e:Expr} {es:List Expr} {te:TE} {t:TA} {pos:Pos}
theorem eV:PA X [] qQ:=fun _ _ _ _ H Q I h=>Calls.spliced_nil ⟨[],H,I,.nil,h⟩
theorem cZ (ha:PE X e te) (hr:PA X es t) (hs:starEach (e::es) X.env=(false,eval e X.env)::starEach es X.env:=by rfl):PA X (e::es) (nJ te t):=by
 intro pos pins s σ H Q I h
 rw [hs]
 show wpAny _ _ (spliced ((false,eval e X.env)::backTo pos (starEach es X.env))) _ _ s
 refine Calls.spliced_cons (cA (ha pins s σ H _ I h) fun u s1 ⟨x,H1,I1,r1,q1⟩=>?_)
 exact cA (hr pos pins s1 σ H1 _ I1 q1) fun us s2 ⟨xs,H2,I2,r2,q2⟩=>⟨x::xs,H2,I2,.cons r1 r2,q2⟩
noncomputable def WE (t:TA):TE:=fun σ H Q=>t σ H fun xs H1=>xs.length<=sizeLine/\∀ p,H1 p=none->Q (.ref p) (upd H1 p (.tup xs))
noncomputable def DC (t:TA):TE:=fun σ H Q=>t σ H fun xs H1=>xs.length<=sizeLine/\∀ p,H1 p=none->Q (.ref p) (upd H1 p (.lst xs))
theorem bH {x1} (h:PA X es t):PE X (.Tuple es x1 pos) (WE t):=by
 intro pins s σ H Q I hq
 refine wpAny_Tuple_spliced (cA (h pos pins s σ H _ I hq) fun us s1 ⟨xs,H1,I1,r,z,q⟩=>⟨by rw [← r.length]; exact z,?_⟩)
 have hf:H1 s1.heap.objs.size=none:=I1.hok.fresh (le_refl _)
 refine ⟨.ref s1.heap.objs.size,upd H1 s1.heap.objs.size (.tup xs),I1.laid (t':=s1.toks) (fun b u e=>get?_push_of_some _ e) (le_refl _) ?_,rfl,q _ hf⟩
 exact ⟨⟨z,_,get?_push_size _ rfl,rfl⟩,us,r,⟨_,get?_push_size _ rfl,rfl,_,rfl⟩⟩
theorem bV (h:PA X es t):PE X (.List es pos) (DC t):=by
 intro pins s σ H Q I hq
 refine wpAny_List_spliced (cA (h pos pins s σ H _ I hq) fun us s1 ⟨xs,H1,I1,r,z,q⟩=>⟨by rw [← r.length]; exact z,?_⟩)
 have hf:H1 s1.heap.objs.size=none:=I1.hok.fresh (le_refl _)
 refine ⟨.ref s1.heap.objs.size,upd H1 s1.heap.objs.size (.lst xs),I1.laid (t':=s1.toks) (fun b u e=>get?_push_of_some _ e) (le_refl _) ?_,rfl,q _ hf⟩
 exact ⟨z,us,0,r,get?_push_size _ rfl⟩
end
noncomputable abbrev Sp:=List V->Hp->VK->XK->Prop
noncomputable abbrev FK:=List Env->Hp->Shared->XK->Value->Shared->Prop
structure OO (P:Program) (w:World) (K:Frag) (mg:Str->Option Value) (base:Heap) (A:Around) (outer:List Env) (s:Shared) (H:Hp):Prop where
 frames:A.frames=some outer
 mod:Mod K mg base
 bs:∀ b o,base.get? b=some o->s.heap.get? b=some o/\H b=none
 bsz:base.objs.size<=s.heap.objs.size
 funs:s.heap.FunFrames base outer
 frf:∀ b∈nN outer,H b=none
 hok:jK P w H s.heap
 bare:AllBare s.gens
noncomputable def CE (outer:List Env) (P:Program) (w:World) (H:Hp) (s:Shared) (Q:VK) (u:Value) (s':Shared):Prop:=
 ∃ v H',s'.os=s.os/\AllBare s'.gens/\Un (nN outer) [] H H' s.heap s'.heap/\jK P w H' s'.heap/\aV v u/\Q v H'
noncomputable def CR (CX:FK) (outer:List Env) (P:Program) (w:World) (H:Hp) (s:Shared) (Q:VK) (E:XK) (r:Result) (s':Shared):Prop:=
 match r with
|.ok (.ret u)=>CE outer P w H s Q u s'
|.ok _=>False
|.error e=>CX outer H s E e s'
structure kL (P:Program) (w:World) (K:Frag) (mg:Str->Option Value) (base:Heap) (CX:FK) (k:Nat) (f:Addr) (fd:FuncData) (ps:List Str) (sp:Sp):Prop where
 len:∀ vs H Q E,sp vs H Q E->vs.length=ps.length
 run:∀ (A:Around) (outer:List Env) (s:Shared) (H:Hp) (args:Args) (us:List Value) (vs:List V) (Q:VK) (E:XK),eP k A->OO P w K mg base A outer s H->BindsTo s fd args (ps.zip us)->aQ vs us->sp vs H Q E ->
  codeAny (model P w) A (.call (.ref f) args) (CR CX outer P w H s Q E) s
theorem kL.mono {P:Program}{w:World}{K:Frag}{mg:Str->Option Value}{base:Heap}{CX:FK}{j k:Nat}{f:Addr}{fd:FuncData}{ps:List Str}{sp:Sp} (F:kL P w K mg base CX j f fd ps sp) (h:j<=k) :
  kL P w K mg base CX k f fd ps sp:=⟨F.len,fun A outer s H args us vs Q E hr=>F.run A outer s H args us vs Q E (hr.mono h)⟩
section
variable {X:Cx} {pins:List (Addr×Obj)} {σ:St} {H:Hp} {s s':Shared}
theorem aN.env0 (I:aN X pins σ H s):OO X.prog X.w X.K X.mg X.base X.A X.stack s H:=
 ⟨I.ok.frames,I.ok.mod,I.bs,le_trans I.ok.bsz I.sz,I.stack,I.stkFree,I.hok,I.bare⟩
theorem aN.after {Q:VK}{u:Value} (I:aN X pins σ H s) (h:CE X.stack X.prog X.w H s Q u s'):EP X pins σ Q u s':=by
 obtain ⟨v,H',os,bare,un,hok,r,q⟩:=h
 obtain ⟨hh,g,d,t,os'⟩:=s'
 obtain rfl:os'=s.os:=os
 exact ⟨v,H',I.call (h':=hh) (g':=g) (d':=d) (t':=t) (ch:=[]) un hok bare (fun b z=>absurd z (by simp)),r,q⟩
end
noncomputable def rF (sp:Sp) (dvs:List V) (E:XK) (t:TA):TE:=fun σ H Q=>t σ H fun vs H1=>sp (vs++dvs) H1 Q E
noncomputable def fM (K:Frag) (fd:FuncData) (ps:List Str) (ds:List Value):Prop:=
 ∀ (s:Shared) (us:List Value),K.In s.heap->(us++ds).length=ps.length->BindsTo s fd ⟨us,[]⟩ (ps.zip (us++ds))
theorem fM.all {K:Frag}{fd:FuncData}{ps:List Str} (h:∀ us:List Value,us.length=ps.length->bindArgs fd ⟨us,[]⟩=pure (ps.zip us)):fM K fd ps []:=fun s us _ hl=>by
 rw [append_nil] at hl ⊢
 exact .of_eq (h us hl)
noncomputable def lJ (CX:FK) (X:Cx) (E:XK):Prop:=∀ (pins:List (Addr×Obj)) (σ:St) (H:Hp) (s:Shared) (e:Value) (s':Shared),aN X pins σ H s->CX X.stack H s E e s'->X.xe e s'
section
variable {X:Cx} {CX:FK} {k:Nat} {f C:Addr} {fd:FuncData} {ps:List Str} {sp:Sp} {dvs:List V} {ds:List Value} {E:XK} {x m:Str} {p pos apos:Pos} {e o:Expr} {es:List Expr} {ta:TE} {t:TA}
theorem RN {pins:List (Addr×Obj)}{σ:St}{H:Hp}{s:Shared}{Q:VK}{us:List Value}{vs:List V} (F:kL X.prog X.w X.K X.mg X.base CX k f fd ps sp) (hr:eP k X.A) (hb:fM X.K fd ps ds) (hd:aQ dvs ds) (hx:lJ CX X E)
  (I:aN X pins σ H s) (r:aQ vs us) (h:sp (vs++dvs) H Q E):wpAny (model X.prog X.w) X.A (call (.ref f) us) (EP X pins σ Q) X.xe s:=by
 have r2:aQ (vs++dvs) (us++ds):=r.append hd
 have hl:(us++ds).length=ps.length:=by rw [← r2.length]; exact F.len _ _ _ _ h
 refine wpAny_call (codeAny_mono (F.run X.A X.stack s H ⟨us,[]⟩ (us++ds) (vs++dvs) Q E hr I.env0 (hb s us I.kIn hl) r2 h) fun r s' hq=>?_)
 cases r with
|error e=>exact hx pins σ H s e s' I hq
|ok fl =>
  cases fl with
 |ret u=>exact I.after hq
 |next=>exact False.elim hq
 |brk=>exact False.elim hq
 |cont=>exact False.elim hq
theorem uN (F:kL X.prog X.w X.K X.mg X.base CX k f fd ps sp) (hr:eP k X.A) (hg:Gl X x) (hm:X.mg x=some (.ref f)) (hk:keepIn X.K (.ref f)=true) (hb:fM X.K fd ps ds) (hd:aQ dvs ds) (hx:lJ CX X E)
  (ha:PA X (e::es) t) (hdb:(x==("__debug__":Str))=false:=by decide) (he:starEach (e::es) X.env=(false,eval e X.env)::starEach es X.env:=by rfl) (hpl:(backTo pos (starEach es X.env)).any (·.1)=false:=by rfl) :
  PE X (.Call (.Name x p) (e::es) [] pos) (rF sp dvs E t):=by
 intro pins s σ H Q I h
 refine wpAny_Call_Name_kw (uV I hg hm ?_ hdb)
 refine PySem.W.callWith_K (h₀:=X.base) I.ok.mod.kin hk (cA (ha pos pins s σ H _ I h) fun us s1 ⟨vs,H1,I1,r,q⟩=>⟨I1.kIn,?_⟩) he hpl
 exact RN F hr hb hd hx I1 r q
end
section
variable {X:Cx} {CX:FK} {k:Nat} {f C:Addr} {fd:FuncData} {ps ks:List Str} {sp:Sp} {E:XK} {x m:Str} {p pos apos kpos:Pos} {e o:Expr} {es:List Expr} {kws:List Keyword} {te ta:TE} {t tk:TA} {nm:Option Str}
structure KO (K:Frag) (fd:FuncData) (ps ks:List Str) (g:List Value->List Value->List Value) (gV:List V->List V->List V):Prop where
 to:∀ (s:Shared) (us ws:List Value),K.In s.heap->(g us ws).length=ps.length->BindsTo s fd ⟨us,ks.zip ws⟩ (ps.zip (g us ws))
 rel:∀ {vs:List V} {us:List Value} {zs:List V} {ws:List Value},aQ vs us->aQ zs ws->aQ (gV vs zs) (g us ws)
variable {g:List Value -> List Value -> List Value} {gV:List V -> List V -> List V}
end
structure aO (N P:List Str) (sc:Scope):Prop where
 kind:sc.kind=.function
 co:sc.isCoroutine=false
 gen:sc.isGenerator=false
 nd:N.Nodup
 pre:N.take P.length=P
 par:∀ x∈P,sc.names.lookup x=some .local∨sc.names.lookup x=some .cell
 nofree:∀ y∈sc.names,y.2≠.free
theorem sV {kindOf:Str->Option NameKind}{x:Str}:∀ {binds:List (Str×Value)}{m:Str->Option Value},(∀ v,(x,v)∉binds)->bindL kindOf binds m x=m x
|[],_,_=>rfl
|(n,v)::r,m,h=>by
  unfold bindL
  rw [sV fun w hw=>h w (mem_cons_of_mem _ hw)]
  split
  ·have:x≠n:=by rintro rfl; exact h v mem_cons_self
   simp [this]
  ·rfl
theorem sX {kindOf:Str->Option NameKind}{x:Str}:∀ {binds:List (Str×Value)}{m:Str->Option Value},(∀ v,(x,v)∉binds)->bindC kindOf binds m x=m x
|[],_,_=>rfl
|(n,v)::r,m,h=>by
  unfold bindC
  rw [sX fun w hw=>h w (mem_cons_of_mem _ hw)]
  split
  ·rfl
  ·have:x≠n:=by rintro rfl; exact h v mem_cons_self
   simp [this]
theorem sW {kindOf:Str->Option NameKind}{x:Str}{v:Value}:∀ {P:List Str}{vs:List Value}{i:Nat}{m:Str->Option Value},P.Nodup->P[i]?=some x->vs[i]?=some v->kindOf x=some .local ->
  bindL kindOf (P.zip vs) m x=some v
|[],_,_,_,_,h,_,_=>by simp at h
|_::_,[],_,_,_,_,h,_=>by simp at h
|p::P,w::vs,0,m,nd,h1,h2,hk=>by
  simp at h1 h2; subst h1; subst h2
  show bindL kindOf ((p,w)::P.zip vs) m p=_
  unfold bindL
  rw [sV fun v hv=>(nodup_cons.mp nd).1 (of_mem_zip hv).1,if_pos hk]
  simp
|p::P,w::vs,i+1,m,nd,h1,h2,hk=>by
  show bindL kindOf ((p,w)::P.zip vs) m x=_
  unfold bindL
  exact sW (i:=i) (nodup_cons.mp nd).2 (by simpa using h1) (by simpa using h2) hk
theorem sY {kindOf:Str->Option NameKind}{x:Str}{v:Value}:∀ {P:List Str}{vs:List Value}{i:Nat}{m:Str->Option Value},P.Nodup->P[i]?=some x->vs[i]?=some v->kindOf x≠some .local ->
  bindC kindOf (P.zip vs) m x=some v
|[],_,_,_,_,h,_,_=>by simp at h
|_::_,[],_,_,_,_,h,_=>by simp at h
|p::P,w::vs,0,m,nd,h1,h2,hk=>by
  simp at h1 h2; subst h1; subst h2
  show bindC kindOf ((p,w)::P.zip vs) m p=_
  unfold bindC
  rw [sX fun v hv=>(nodup_cons.mp nd).1 (of_mem_zip hv).1,if_neg hk]
  simp
|p::P,w::vs,i+1,m,nd,h1,h2,hk=>by
  show bindC kindOf ((p,w)::P.zip vs) m x=_
  unfold bindC
  exact sY (i:=i) (nodup_cons.mp nd).2 (by simpa using h1) (by simpa using h2) hk
noncomputable def start (N:List Str) (vs:List V):St:=vs.map some++List.replicate (N.length - vs.length) none
noncomputable def mQ (CX:FK) (P:Program) (w:World) (K:Frag) (mg:Str->Option Value) (base:Heap) (N:List Str) (qual:Str) (scope:Scope) (f:Addr) (cd:Value) (A:Around) (outer:List Env) (s:Shared) (H:Hp) (E:XK):Cx where
 prog:=P
 w:=w
 K:=K
 mg:=mg
 base:=base
 A:=A.deeper (envOfC qual scope s.heap.objs.size f cd)
 N:=N
 s₀:=s
 H₀:=H
 env:=envOfC qual scope s.heap.objs.size f cd
 outer:=outer
 stack:=envOfC qual scope s.heap.objs.size f cd::outer
 ex:=[]
 calm:=true
 fn:=fun _=>true
 pn:=[]
 xe:=fun e s'=>wpAny (model P w) (A.deeper (envOfC qual scope s.heap.objs.size f cd)) (leaving (envOfC qual scope s.heap.objs.size f cd) e) (fun _ s''=>CX outer H s E e s'') (fun e' s''=>CX outer H s E e' s'') s'
theorem xP {sc:Scope}{n:Nat}{x:Str} (h:sc.names.lookup x=some .cell):∃ c,(cellsFrom n sc.names []).lookup x=some c:=by
 have q:=cellsFrom_some sc.names n [] (.inl h)
 exact Option.isSome_iff_exists.mp q
theorem EK {CX:FK}{P:Program}{w:World}{K:Frag}{mg:Str->Option Value}{base:Heap}{N ps:List Str}{qual:Str}{scope:Scope}{f:Addr}{cd:Value}{A:Around}{outer:List Env}{s s1:Shared}{H:Hp}{E:XK}{us:List Value}{vs:List V}
  (S:aO N ps scope) (hd:A.handled=none) (e0:OO P w K mg base A outer s H) (hl:vs.length=ps.length) (r:aQ vs us)
  (x:InCallC s s.heap.objs.size (bindL (envOfC qual scope s.heap.objs.size f cd).kindOf (ps.zip us) fun _=>none) (cellsFrom (s.heap.objs.size+1) scope.names []) (bindC (envOfC qual scope s.heap.objs.size f cd).kindOf (ps.zip us) fun _=>none) s1) :
  aN (mQ CX P w K mg base N qual scope f cd A outer s H E) [] (start N vs) H s1:=by
 have hpl:ps.length<=N.length:=by have:=congrArg List.length S.pre; rw [length_take] at this; omega
 obtain ⟨h1,tk,rfl,hk⟩:=x.done
 have noA:∀ b:Addr,b∉(mQ CX P w K mg base N qual scope f cd A outer s H E).ex:=fun b z=>absurd (show b∈([]:List Addr) from z) (by simp)
 refine ⟨⟨e0.mod,S.kind,rfl,rfl,le_refl _,fun y z c h1 h2=>?_,fun y hy=>?_,fun y c _ h=>?_,fun _=>hd,Around.frames_deeper e0.frames,.inr ⟨rfl,rfl⟩,fun b z=>absurd z (noA b),e0.bs,e0.bsz,fun b _ _=>noA b,fun b z=>absurd z (noA b),e0.funs,e0.frf⟩,
  rfl,e0.bare,Un.kept hk,⟨_,x.toInCall.ns,fun i y v h1 h2 h3=>?_⟩,fun y c h=>⟨_,x.cell y c h⟩,e0.hok.fresh (le_refl _),fun y c h=>?_,fun p hp=>absurd (show p∈([]:List (Addr×Obj)) from hp) (by simp),e0.hok.kept hk,?_⟩
 ·exact name_of_addr x.apart (PySem.mem_of_lookup h1) (PySem.mem_of_lookup h2)
 ·have hy:scope.names.lookup y=some .cell∨scope.names.lookup y=some .free:=hy
  rcases hy with hy|hy
  ·exact xP hy
  ·exact absurd rfl (S.nofree _ (PySem.mem_of_lookup hy))
 ·exact le_of_lt (x.above y c (PySem.mem_of_lookup h))
 ·have hi:i < vs.length:=by
   unfold start at h2
   by_cases hi:i < vs.length
   ·exact hi
   ·rw [List.getElem?_append_right (by simpa using hi)] at h2
    rw [List.getElem?_replicate] at h2
    split at h2 <;> cases h2
  have ha:vs[i]?=some v:=by
   unfold start at h2
   rw [List.getElem?_append_left (by simpa using hi),List.getElem?_map] at h2
   cases e:vs[i]? with
  |none=>rw [e] at h2; cases h2
  |some a=>rw [e] at h2; cases h2; rfl
  obtain ⟨u,hu,rv⟩:=r.get ha
  have hp:ps[i]?=some y:=by
   rw [← S.pre,List.getElem?_take_of_lt (by omega)]; exact h1
  have ndP:ps.Nodup:=by rw [← S.pre]; exact S.nd.sublist (List.take_sublist _ _)
  refine ⟨u,rv,?_⟩
  rcases S.par y (mem_of_getElem? hp) with k|k
  ·exact .inl ⟨k,sW ndP hp hu k⟩
  ·obtain ⟨c,e⟩:=xP (n:=s.heap.objs.size+1) k
   refine .inr ⟨.inl k,c,e,?_⟩
   have q:=x.cell y c e
   rw [sY ndP hp hu (by show scope.names.lookup y≠_; rw [k]; decide)] at q
   exact q
 ·exact e0.hok.fresh (le_of_lt (x.above y c (PySem.mem_of_lookup h)))
 ·unfold start
  show _=N.length
  rw [length_append,length_map,length_replicate]
  omega
theorem sQ {CX:FK}{P:Program}{w:World}{K:Frag}{mg:Str->Option Value}{base:Heap}{k:Nat}{f:Addr}{name qual:Str}{params:Arguments}{body:List Stmt}{scope:Scope}{dV kV doc pm cdv ct oc:Value}{an od:Option Addr}
  {osl:Array (Option Value)} {N ps:List Str} {sp:Sp} (lk:K.lookup f=some ⟨oc,od,.func (fnOf name qual params body scope dV kV doc pm an cdv ct),osl⟩) (hcd:PySem.W.codeIn K cdv qual=true) (S:aO N ps scope)
  (len:∀ vs H Q E,sp vs H Q E->vs.length=ps.length)
  (hbody:∀ (A:Around) (outer:List Env) (s:Shared) (H:Hp) (vs:List V) (Q:VK) (E:XK),eP k (A.deeper (envOfC qual scope s.heap.objs.size f cdv))->sp vs H Q E ->
   ∃ t,tI (mQ CX P w K mg base N qual scope f cdv A outer s H E) body t/\t { nx:=fun _ H'=>Q .non H',rt:=Q } (start N vs) H) :
  kL P w K mg base CX (k+1) f (fnOf name qual params body scope dV kV doc pm an cdv ct) ps sp:=by
 refine ⟨len,fun A outer s H args us vs Q E hr e0 hb r hsp=>?_⟩
 have hl:=len _ _ _ _ hsp
 have KX:K.In s.heap:=e0.mod.kin.keeps fun b o e=>(e0.bs b o e).1
 have lim:s.heap.NoLimit:=e0.mod.nolimit.keeps fun b o e=>(e0.bs b o e).1
 have hkind:∀ y∈ps.zip us,scope.names.lookup y.1=some .local∨(scope.names.lookup y.1=some .cell/\((cellsFrom (s.heap.objs.size+1) scope.names []).lookup y.1).isSome=true):=fun ⟨n,v⟩ hy=>by
  rcases S.par n (of_mem_zip hy).1 with q|q
  ·exact .inl q
  ·exact .inr ⟨q,cellsFrom_some _ _ _ (.inl q)⟩
 refine codeAny_call_function hr.depth (KX _ _ lk) rfl S.co S.gen rfl (PySem.W.codeRec_of KX hcd) (hb _ _ _ _ ?_)
 refine wpAny_newFunctionEnv_cells S.kind hkind fun env he s1 x=>?_
 subst he
 refine ⟨lim.keeps x.toInCall.keep,codeAny_func ?_⟩
 obtain ⟨t,ht,hq⟩:=hbody A outer s H vs Q E (hr.deeper _) hsp
 have I:aN (mQ CX P w K mg base N qual scope f cdv A outer s H E) [] (start N vs) H s1:=EK S hr.hd e0 hl r x
 refine wpAny_mono (ht [] s1 (start N vs) H _ I hq) (fun fl s' hs=>?_) fun e s' hs=>hs
 have fin:∀ {σ':St} {H':Hp} {v:V} {u:Value},aN (mQ CX P w K mg base N qual scope f cdv A outer s H E) [] σ' H' s'->aV v u->Q v H'->CE outer P w H s Q u s':=
  fun {σ' H' v u} J rv q=>⟨v,H',J.os,J.bare,J.base,J.hok,rv,q⟩
 cases fl with
|ret u =>
  obtain ⟨v,σ',H',J,rv,q⟩:=hs
  exact fin J rv q
|next =>
  obtain ⟨σ',H',J,q⟩:=hs
  exact fin (v:=V.non) (u:=Value.none) J rfl q
|brk =>
  obtain ⟨_,_,_,q⟩:=hs
  exact False.elim q
|cont =>
  obtain ⟨_,_,_,q⟩:=hs
  exact False.elim q
end
section
section
variable {X:Cx} {x:Str} {p pos:Pos} {e:Expr} {es:List Expr} {t:TA} {id T:String} {r:List V -> Hp -> VK -> Prop}
noncomputable def Ak (r:List V->Hp->VK->Prop) (t:TA):TE:=fun σ H Q=>t σ H fun vs H1=>r vs H1 Q
theorem bP (hc:jJ X (.builtin id) r) (hg:Gl X x) (hm:X.mg x=none) (hv:bootBuiltins x=some (.builtin id)) (ha:PA X (e::es) t) (hn:x≠"__name__":=by decide) (hdb:(x==("__debug__":Str))=false:=by decide)
  (he:starEach (e::es) X.env=(false,eval e X.env)::starEach es X.env:=by rfl) (hpl:(backTo pos (starEach es X.env)).any (·.1)=false:=by rfl):PE X (.Call (.Name x p) (e::es) [] pos) (Ak r t):=by
 intro pins s σ H Q I h
 refine wpAny_Call_Name_kw (jC I hg hm hv ?_ hn hdb)
 exact PyProof.Rows.callWith_builtin1 (cA (ha pos pins s σ H _ I h) fun us s1 ⟨vs,H1,I1,r1,q1⟩=>hc pins s1 σ H1 vs us Q I1 r1 q1) he hpl
theorem iJ (hc:jJ X (.type T) r) (hg:Gl X x) (hm:X.mg x=none) (hv:bootBuiltins x=some (.type T)) (ha:PA X (e::es) t) (hn:x≠"__name__":=by decide) (hdb:(x==("__debug__":Str))=false:=by decide)
  (he:starEach (e::es) X.env=(false,eval e X.env)::starEach es X.env:=by rfl) (hpl:(backTo pos (starEach es X.env)).any (·.1)=false:=by rfl):PE X (.Call (.Name x p) (e::es) [] pos) (Ak r t):=by
 intro pins s σ H Q I h
 refine wpAny_Call_Name_kw (jC I hg hm hv ?_ hn hdb)
 exact PyProof.Rows.callWith_type1 (cA (ha pos pins s σ H _ I h) fun us s1 ⟨vs,H1,I1,r1,q1⟩=>hc pins s1 σ H1 vs us Q I1 r1 q1) he hpl
end
end
end L2
namespace HT
open PySem PyProof.Rows
section
open PySem.SeqAt
open PySem.AutoSeq1 (wpAny_loadPart')
open PySem.MeetsSeq PySem.MeetsSeq2 PySem.MeetsSeq3
end
section
variable {prog:Program} {w:World} {A:Around} {E:Value -> Shared -> Prop} {s:Shared}
theorem cat_tup {t b:Addr}{vs ws:List Value}{Q:Value->Shared->Prop} (ht:IsTup s.heap t vs.toArray) (hb:IsTup s.heap b ws.toArray) (hv:vs≠[])
  (h1:ws=[]->Q (.ref t) s) (h2:ws≠[]->Q (.ref s.heap.objs.size) { s with heap:=s.heap.push { cls:=.type "tuple",data:=.seq (vs++ws).toArray } })
  (hsz:vs.length+ws.length<=sizeLine):wpAny (model prog w) A (binaryOp .Add (.ref t) (.ref b)) Q E s:=by
 obtain ⟨⟨cls,dd,data,sl⟩,ho,hc,n,hd⟩:=id ht
 obtain ⟨⟨cls2,dd2,data2,sl2⟩,ho2,hc2,n2,hd2⟩:=id hb
 simp only at hc hd hc2 hd2
 subst hc hd hc2 hd2
 have e:vs.toArray++ws.toArray=(vs++ws).toArray:=by simp
 by_cases hw:ws=[]
 ·exact concat_meets ⟨_,ho,rfl⟩ ⟨_,ho2,rfl⟩ noFill_tuple_add seq_tuple_add slot_tuple_add PySem.F.entry_tuple_add (PySem.F.args_tuple_add_2 _ _)
   (tuple_addW1 t b vs.toArray ws.toArray n n2 dd dd2 sl sl2 (by simpa using hv) (by simp [hw])) ⟨ho,ho2,h1 hw⟩
 ·refine concat_meets ⟨_,ho,rfl⟩ ⟨_,ho2,rfl⟩ noFill_tuple_add seq_tuple_add slot_tuple_add PySem.F.entry_tuple_add (PySem.F.args_tuple_add_2 _ _)
   (tuple_addW2 t b vs.toArray ws.toArray n n2 dd dd2 sl sl2 (by simpa using hv) (by simpa using hw) (by rw [size_toArray,size_toArray]; exact hsz)) ⟨ho,ho2,?_⟩
  rw [e]
  exact h2 hw
end
end HT
namespace L2
open PySem PySem.Spec PyProof.Rows
section
noncomputable abbrev TO:=St->Hp->(Option Int->Hp->Prop)->Prop
section
variable {X:Cx} {e:Expr} {te:TE} {lo hi:Option Expr} {tl th:TO} {pos p2:Pos}
noncomputable def QA (K:Frag):R2:=fun x y H Q=>∃ a b xs ys,x=.ref a/\y=.ref b/\AD K H a xs/\AD K H b ys/\xs≠[]/\xs.length+ys.length<=sizeLine /\
 (ys=[]->Q (.ref a) H)/\(ys≠[]->∀ p,H p=none->Q (.ref p) (upd H p (.tup (xs++ys))))
theorem aQ.nil_iff {xs:List V}{us:List Value} (r:aQ xs us):us=[] ↔ xs=[]:=by
 cases r with
|nil=>simp
|cons _ _=>simp
theorem MX:jG X (binaryOp .Add) (QA X.K):=by
 intro pins s σ H x y v u Q I rx ry h
 obtain ⟨a,b,xs,ys,rfl,rfl,ha,hb,hx,hz,q1,q2⟩:=h
 cases rx
 cases ry
 obtain ⟨its,r1,p1,_⟩:=I.tuple ha
 obtain ⟨its2,r2,p2,_⟩:=I.tuple hb
 refine HT.cat_tup p1 p2 (fun z=>hx (r1.nil_iff.mp z)) (fun z=>⟨.ref a,H,I,rfl,q1 (r2.nil_iff.mp z)⟩) (fun z=>?_) (by rw [← r1.length,← r2.length]; exact hz)
 refine ⟨.ref s.heap.objs.size,_,I.laid (t':=s.toks) (o:=.tup (xs++ys)) (fun b ob q=>get?_push_of_some _ q) (le_refl _) ?_,rfl,q2 (fun w=>z (r2.nil_iff.mpr w)) _ (I.hok.fresh (le_refl _))⟩
 exact ⟨⟨by rw [length_append]; exact hz,_,get?_push_size _ rfl,rfl⟩,_,r1.append r2,IsTup.new _ _⟩
end
end
section
noncomputable def VR (n:Nat) (i:Int):Option Nat:=if 0<=i then (if i < n then some i.toNat else none) else if -(n:Int)<=i then some (i+n).toNat else none
noncomputable def sZ {α:Type} (xs:List α) (i:Int):Option α:=(VR xs.length i).bind fun j=>xs[j]?
theorem NO {n:Nat}{i:Int}{j:Nat} (h:VR n i=some j):seqIndex? i n=some j/\j < n/\-(n:Int)<=i/\i < n:=by
 unfold VR at h
 by_cases h0:0<=i
 ·rw [if_pos h0] at h
  by_cases h1:i < n
  ·rw [if_pos h1] at h
   have e:i.toNat=j:=Option.some.inj h
   exact ⟨by rw [seqIndex_of h0 h1,e],by omega,by omega,h1⟩
  ·rw [if_neg h1] at h; cases h
 ·rw [if_neg h0] at h
  by_cases h1:-(n:Int)<=i
  ·rw [if_pos h1] at h
   have e:(i+n).toNat=j:=Option.some.inj h
   exact ⟨by rw [seqIndex_neg (by omega) h1,e],by omega,h1,by omega⟩
  ·rw [if_neg h1] at h; cases h
theorem vK {α:Type}{xs:List α}{i:Int}{v:α} (h:sZ xs i=some v):∃ j,seqIndex? i xs.length=some j/\xs[j]?=some v/\j < xs.length/\-(xs.length:Int)<=i/\i < xs.length:=by
 unfold sZ at h
 cases e:VR xs.length i with
|none=>rw [e] at h; cases h
|some j =>
  rw [e] at h
  obtain ⟨h1,h2,h3,h4⟩:=NO e
  exact ⟨j,h1,h,h2,h3,h4⟩
theorem fT {α:Type}{xs:List α}{j:Nat}{v:α} (h:xs[j]?=some v):sZ xs (j:Int)=some v:=by
 have hj:j < xs.length:=(List.getElem?_eq_some_iff.mp h).1
 have e:VR xs.length (j:Int)=some j:=by
  unfold VR
  rw [if_pos (by omega),if_pos (by omega)]; simp
 unfold sZ; rw [e]; exact h
noncomputable def ON (b:Expr):Prop:=∀ o i,subscripted b false o i=operate [o,i] (getItem o i)
noncomputable def KP (X:Cx) (r:R2):Prop:=
 ∀ (value slice:Expr) (pins:List (Addr×Obj)) (s:Shared) (σ:St) (H:Hp) (x y:V) (v u:Value) (Q:VK),aN X pins σ H s->aV x v->aV y u->r x y H Q ->
  subscripted slice false v u=operate [v,u] (getItem v u)->wpAny (model X.prog X.w) X.A (subscriptTail value slice v u) (EP X pins σ Q) X.xe s
noncomputable def Au (X:Cx) (id:String) (r:V->List V->Hp->VK->Prop):Prop:=
 ∀ (pins:List (Addr×Obj)) (s:Shared) (σ:St) (H:Hp) (x:V) (xs:List V) (v:Value) (us:List Value) (Q:VK),aN X pins σ H s->aV x v->aQ xs us->r x xs H Q ->
  wpAny (model X.prog X.w) X.A (call (.builtin id) (v::us)) (EP X pins σ Q) X.xe s
section
variable {X:Cx} {a b:Expr} {ta tb:TE} {pos:Pos}
theorem KP.or {r r':R2} (h:KP X r) (h':KP X r'):KP X (fun x y H Q=>r x y H Q∨r' x y H Q):=by
 intro value slice pins s σ H x y v u Q I rx ry q hs
 rcases q with q|q
 ·exact h value slice pins s σ H x y v u Q I rx ry q hs
 ·exact h' value slice pins s σ H x y v u Q I rx ry q hs
theorem cD {r:R2} (hr:KP X r) (ha:PE X a ta) (hb:PE X b tb) (hs:ON b):PE X (.Subscript a b pos) (VO r ta tb):=by
 intro pins s σ H Q I h
 exact Subscript_ (VB ha hb I h fun v u s2 x y H2 I2 rx ry q=>hr a b pins s2 σ H2 x y v u Q I2 rx ry q (hs _ _))
noncomputable def MR (K:Frag):R2:=fun x y H Q=>∃ p xs i v,x=.ref p/\y=.int i/\bX K H p xs/\sZ xs i=some v/\Q v H
noncomputable def MQ (K:Frag):R2:=fun x y H Q=>∃ p xs i v,x=.ref p/\y=.int i/\AD K H p xs/\sZ xs i=some v/\Q v H
noncomputable def SQ:R2:=fun x y H Q=>∃ z i c,x=.str z/\y=.int i/\z.length<=sizeLine/\sZ z.cps.toList i=some c/\Q (.str ⟨#[c]⟩) H
theorem NN:KP X (MR X.K):=by
 intro value slice pins s σ H x y v u Q I rx ry h hs
 obtain ⟨p,xs,i,z,rfl,rfl,hq,he,q⟩:=h
 cases rx
 obtain ⟨t,rfl⟩:=ry
 obtain ⟨its,r,pl,hz⟩:=I.list hq
 obtain ⟨j,h1,h2,h3,h4,h5⟩:=vK he
 obtain ⟨w,ew,rw'⟩:=r.get h2
 have hl:=r.length
 have hn:=pV
 have fin:EP X pins σ Q w s:=⟨z,H,I,rw',q⟩
 by_cases h0:0<=i
 ·have hj:i.toNat=j:=by
   rw [seqIndex_of h0 h5] at h1
   exact Option.some.inj h1
  exact item_listR pl.isList h0 (by omega) (by rw [hj]; simpa using ew) fin hs
 ·have hj:(i+(its.toArray.size:Int)).toNat=j:=by
   rw [seqIndex_neg (by omega) h4] at h1
   rw [size_toArray,← hl]
   exact Option.some.inj h1
  exact subscriptTail_builtinR (x:=w) pl.isList.typeIs slot_list_getitem.lookup
   (wpAny_getItem_list_neg (Q:=fun r s'=>r=w/\EP X pins σ Q r s') pl.isList (by omega) (by rw [size_toArray] <;> omega) (by omega) (by rw [hj]; simpa using ew) ⟨rfl,fin⟩) hs
theorem UG:KP X (MQ X.K):=by
 intro value slice pins s σ H x y v u Q I rx ry h hs
 obtain ⟨p,xs,i,z,rfl,rfl,hq,he,q⟩:=h
 cases rx
 obtain ⟨t,rfl⟩:=ry
 obtain ⟨its,r,pl,hz⟩:=I.tuple hq
 obtain ⟨j,h1,h2,h3,h4,h5⟩:=vK he
 obtain ⟨w,ew,rw'⟩:=r.get h2
 have hl:=r.length
 have hn:=pV
 have fin:EP X pins σ Q w s:=⟨z,H,I,rw',q⟩
 exact subscriptTail_builtinR (x:=w) pl.typeIs slot_tuple_getitem.lookup
  (getItem_tuple (j:=j) (Q:=fun r s'=>r=w/\EP X pins σ Q r s') pl (by omega) (by omega) (by rw [size_toArray,← hl]; exact h1) (by simpa using ew) ⟨rfl,fin⟩) hs
theorem UH:KP X SQ:=by
 intro value slice pins s σ H x y v u Q I rx ry h hs
 obtain ⟨z,i,c,rfl,rfl,hz,he,q⟩:=h
 obtain ⟨t,rfl⟩:=rx
 obtain ⟨t',rfl⟩:=ry
 obtain ⟨j,h1,h2,h3,h4,h5⟩:=vK he
 have hl:z.cps.toList.length=z.length:=by simp [Str.length]
 rw [hl] at h1 h4 h5
 have hn:=pV
 exact tail_any (typeIs_str s z t) slot_str_getitem.lookup (getItem_str (c:=c) (by
  have e1:decide (i < -(2 ^ 63:Int))=false:=decide_eq_false (by omega)
  have e2:decide (i ≥ 2 ^ 63)=false:=decide_eq_false (by omega)
  rw [e1,e2,Bool.or_false]) (by rw [h1]; simpa using h2) ⟨.str ⟨#[c]⟩,H,I.tok _,⟨_,rfl⟩,q⟩) hs
noncomputable def rIx (K:Frag):R2:=fun x y H Q=>MR K x y H Q∨MQ K x y H Q∨SQ x y H Q
theorem UI:KP X (rIx X.K):=NN.or (UG.or UH)
noncomputable def mM:V->Bool
|.non=>true
|.bl _=>true
|.int _=>true
|.str _=>true
|_=>false
noncomputable def NU:V->V->Bool
|.non,.non=>true
|.bl a,.bl b=>a==b
|.bl a,.int b=>(if a then 1 else 0)==b
|.int a,.bl b=>a==(if b then 1 else 0)
|.int a,.int b=>a==b
|.str a,.str b=>a==b
|_,_=>false
theorem US {A:Around}{s:Shared}{y x:V}{u v:Value} (ry:aV y u) (rx:aV x v) (fy:mM y=true) (fx:mM x=true):SeqAt.EqAt A s u v (NU y x):=by
 cases y with
|non =>
  cases ry
  cases x with
 |non=>cases rx; exact SeqAt.EqAt.same _
 |bl b=>cases rx; exact SeqAt.EqAt.none_bool b
 |int b=>obtain ⟨t,rfl⟩:=rx; exact SeqAt.EqAt.none_int b t
 |str b=>obtain ⟨t,rfl⟩:=rx; exact SeqAt.EqAt.none_str b t
 |_=>exact absurd (show false=true from fx) Bool.false_ne_true
|bl a =>
  cases ry
  cases x with
 |non=>cases rx; exact SeqAt.EqAt.bool_none a
 |bl b=>cases rx; exact SeqAt.EqAt.bool_bool a b
 |int b=>obtain ⟨t,rfl⟩:=rx; exact SeqAt.EqAt.bool_int a b t
 |str b=>obtain ⟨t,rfl⟩:=rx; exact SeqAt.EqAt.bool_str a b t
 |_=>exact absurd (show false=true from fx) Bool.false_ne_true
|int a =>
  obtain ⟨t',rfl⟩:=ry
  cases x with
 |non=>cases rx; exact SeqAt.EqAt.int_none a t'
 |bl b=>cases rx; exact SeqAt.EqAt.int_bool a t' b
 |int b=>obtain ⟨t,rfl⟩:=rx; exact SeqAt.EqAt.int_int a t' b t
 |str b=>obtain ⟨t,rfl⟩:=rx; exact SeqAt.EqAt.int_str a t' b t
 |_=>exact absurd (show false=true from fx) Bool.false_ne_true
|str a =>
  obtain ⟨t',rfl⟩:=ry
  cases x with
 |non=>cases rx; exact SeqAt.EqAt.str_none a t'
 |bl b=>cases rx; exact SeqAt.EqAt.str_bool a t' b
 |int b=>obtain ⟨t,rfl⟩:=rx; exact SeqAt.EqAt.str_int a t' b t
 |str b=>obtain ⟨t,rfl⟩:=rx; exact SeqAt.EqAt.str_str a t' b t
 |_=>exact absurd (show false=true from fx) Bool.false_ne_true
|_=>exact absurd (show false=true from fy) Bool.false_ne_true
noncomputable def NV (x:V) (u:Value):Bool:=match u with
|.none=>NU .non x
|.bool b=>NU (.bl b) x
|.int i _=>NU (.int i) x
|.str z _=>NU (.str z) x
|_=>false
theorem JQ {x y:V}{u:Value} (r:aV y u) (f:mM y=true):NV x u=NU y x:=by
 cases y with
|non=>cases r; rfl
|bl b=>cases r; rfl
|int i=>obtain ⟨t,rfl⟩:=r; rfl
|str z=>obtain ⟨t,rfl⟩:=r; rfl
|_=>exact absurd (show false=true from f) Bool.false_ne_true
theorem vN {x:V}:∀ {xs:List V}{us:List Value},aQ xs us->xs.all mM=true->us.any (NV x)=xs.any fun y=>NU y x
|_,_,.nil,_=>rfl
|y::xs,u::us,.cons r t,f=>by
  rw [all_cons,Bool.and_eq_true] at f
  rw [any_cons,any_cons,JQ r f.1,vN t f.2]
theorem pS {A:Around}{s:Shared}{x:V}{v:Value} (rx:aV x v) (fx:mM x=true):∀ {xs:List V}{us:List Value},aQ xs us->xs.all mM=true->∀ u∈us,SeqAt.EqAt A s u v (NV x u)
|_,_,.nil,_=>fun u hu=>by cases hu
|y::xs,u::us,.cons r t,f=>fun u' hu=>by
  rw [all_cons,Bool.and_eq_true] at f
  rcases mem_cons.mp hu with rfl|hu
  ·rw [JQ r f.1]; exact US r rx f.1 fx
  ·exact pS rx fx t f.2 u' hu
noncomputable def UL (x:V) (xs:List V):Bool:=xs.any fun y=>NU y x
noncomputable def rIn (K:Frag) (neg:Bool):R2:=fun x y H Q=>∃ p xs,y=.ref p/\(bX K H p xs∨AD K H p xs)/\mM x=true/\xs.all mM=true/\Q (.bl (if neg then !UL x xs else UL x xs)) H
theorem uQ:jG X (compareOp .NotIn) (rIn X.K true):=by
 intro pins s σ H x y v u Q I rx ry h
 obtain ⟨p,xs,rfl,hq,fx,fs,q⟩:=h
 cases ry
 rcases hq with hq|hq
 ·obtain ⟨its,r,pl,hz⟩:=I.list hq
  refine SeqAt.notIn_listAt (NV x) pl.isList (fun w hw=>pS rx fx r fs w (by simpa using hw)) ⟨.bl _,H,I,rfl,?_⟩
  rw [show its.toArray.any (NV x)=its.any (NV x) by simp,vN r fs]
  exact q
 ·obtain ⟨its,r,pl,hz⟩:=I.tuple hq
  refine SeqAt.notIn_tupleAt (NV x) pl (fun w hw=>pS rx fx r fs w (by simpa using hw)) ⟨.bl _,H,I,rfl,?_⟩
  rw [show its.toArray.any (NV x)=its.any (NV x) by simp,vN r fs]
  exact q
noncomputable def VZ (K:Frag) (T:String) (x:V) (H:Hp):Prop:=match x with
|.str _=>T="str"
|.int _=>T="int"
|.ref p=>(T="list"/\∃ xs,bX K H p xs)∨(T="tuple"/\∃ o,K.lookup p=some o/\o.cls=.type "tuple"/\o.dict=none) ∨
   (T="dict"/\((∃ kvs,H p=some (.dK kvs))∨∃ kvs,H p=some (.dT kvs)))∨(T="set"/\∃ S n,H p=some (.set S n))
|_=>False
theorem FT {pins:List (Addr×Obj)}{σ:St}{H:Hp}{s:Shared}{T:String}{x:V}{v:Value} (I:aN X pins σ H s) (r:aV x v) (ty:VZ X.K T x H) :
  s.TypeIs v T/\∀ a,v=.ref a->∃ ob,s.heap.get? a=some ob/\ob.dict=none:=by
 cases x with
|str z =>
  obtain ⟨t,rfl⟩:=r
  cases (show T="str" from ty)
  exact ⟨typeIs_str s z t,fun _ e=>nomatch e⟩
|int i =>
  obtain ⟨t,rfl⟩:=r
  cases (show T="int" from ty)
  exact ⟨typeIs_int s i t,fun _ e=>nomatch e⟩
|ref p =>
  cases r
  rcases ty with ⟨rfl,xs,hq⟩|⟨rfl,o,hk,hc,hd⟩|⟨rfl,hk⟩|⟨rfl,S,n,hk⟩
  ·obtain ⟨its,_,pl,_⟩:=I.list hq
   refine ⟨pl.isList.typeIs,fun a e=>?_⟩
   cases e
   obtain ⟨o,n,e,c,hd,_⟩:=pl
   exact ⟨o,e,hd⟩
  ·refine ⟨⟨o,I.kIn p o hk,hc⟩,fun a e=>?_⟩
   cases e
   exact ⟨o,I.kIn _ o hk,hd⟩
  ·have z:∃ o,s.heap.get? p=some o/\o.ExactDict:=by
    rcases hk with ⟨kvs,hk⟩|⟨kvs,hk⟩
    ·obtain ⟨_,_,_,_,o,_,_,e,ex,_⟩:=I.hok p _ hk
     exact ⟨o,e,ex⟩
    ·obtain ⟨_,_,_,_,o,_,_,e,ex,_⟩:=I.hok p _ hk
     exact ⟨o,e,ex⟩
   obtain ⟨o,e,ex⟩:=z
   refine ⟨⟨o,e,ex.1⟩,fun a e2=>?_⟩
   cases e2
   exact ⟨o,e,ex.2.1⟩
  ·obtain ⟨o,_,_,_,e,ex,_⟩:=I.hok p _ hk
   refine ⟨⟨o,e,ex.1⟩,fun a e2=>?_⟩
   cases e2
   exact ⟨o,e,ex.2.1⟩
|_=>exact False.elim ty
noncomputable def WO (K:Frag) (T:String) (r:V->List V->Hp->VK->Prop) (to:TE):TE:=fun σ H Q=>to σ H fun x H1=>VZ K T x H1/\r x [] H1 Q
noncomputable def Cn (K:Frag) (T:String) (r:V->List V->Hp->VK->Prop) (to:TE) (t:TA):TE:=fun σ H Q=>to σ H fun x H1=>VZ K T x H1/\t σ H1 fun xs H2=>r x xs H2 Q
variable {o e:Expr} {es:List Expr} {to:TE} {t:TA} {name:Str} {apos cpos:Pos} {T id:String} {r:V -> List V -> Hp -> VK -> Prop}
theorem TC (pa:PlainAttrs T) (slot:Slot T name id) (hty:typeOf (.builtin id)=pure (.type "method_descriptor")) (hm:Au X id r) (ho:PE X o to)
  (hbase:attributeBase o name X.env (eval o X.env)=eval o X.env:=by rfl) (hline:(apos.endLine==cpos.line)=true:=by rfl):PE X (.Call (.Attribute o name apos) [] [] cpos) (WO X.K T r to):=by
 intro pins s σ H Q I h
 refine wpAny_Call_method0_late hbase hline (cA (ho pins s σ H _ I h) fun v s1 ⟨x,H1,I1,r1,ty,q1⟩=>?_)
 obtain ⟨h1,h2⟩:=FT I1 r1 ty
 exact ⟨T,id,pa,slot,hty,h1,h2,Calls.callWith_builtin rfl (PySem.evalArgs_none (hm pins s1 σ H1 x [] v [] Q I1 r1 .nil q1))⟩
theorem jQ (pa:PlainAttrs T) (slot:Slot T name id) (hty:typeOf (.builtin id)=pure (.type "method_descriptor")) (hm:Au X id r) (ho:PE X o to) (ha:PA X (e::es) t)
  (hbase:attributeBase o name X.env (eval o X.env)=eval o X.env:=by rfl)
  (hfew:((backTo cpos (starEach (e::es) X.env)).all (fun x=>!x.1)&&(backToKw cpos (keywordEach [] X.env)).all (fun x=>x.1.isSome)
   && decide ((e::es).length+([]:List Keyword).length+(if ([]:List Keyword).isEmpty then 0 else 1) < 30))=true:=by rfl)
  (hline:(apos.endLine==cpos.line)=true:=by rfl) (hs:starEach (e::es) X.env=(false,eval e X.env)::starEach es X.env:=by rfl) (hplain:(backTo cpos (starEach es X.env)).any (·.1)=false:=by rfl) :
  PE X (.Call (.Attribute o name apos) (e::es) [] cpos) (Cn X.K T r to t):=by
 intro pins s σ H Q I h
 refine wpAny_Call_method_late hbase hfew hline rfl (cA (ho pins s σ H _ I h) fun v s1 ⟨x,H1,I1,r1,ty,q1⟩=>?_)
 obtain ⟨h1,h2⟩:=FT I1 r1 ty
 refine ⟨T,id,pa,slot,hty,h1,h2,?_⟩
 have hA:=ha cpos pins s1 σ H1 _ I1 q1
 rw [hs] at hA ⊢
 refine Calls.callWith_builtin (by show (false || (backTo cpos (starEach es X.env)).any (·.1))=false; rw [hplain] <;> rfl) (Calls.evalArgs_plain ?_)
 exact cA hA fun us s2 ⟨vs,H2,I2,r2,q2⟩=>hm pins s2 σ H2 x vs v us Q I2 r1 r2 q2
/- xs.append(e),list.index on a module's tuple .. are Au facts of 06m -/
end
end
section
noncomputable def Cg (X:Cx) (id:String) (r:V->List V->Hp->VK->Prop):Prop:=
 ∀ (pins:List (Addr×Obj)) (s:Shared) (σ:St) (H:Hp) (x:V) (xs:List V) (v:Value) (us:List Value) (Q:VK),aN X pins σ H s->aV x v->aQ xs us->r x xs H Q ->
  wpAny (model X.prog X.w) X.A (call (.builtin id) (v::us)) (EP X pins σ Q) X.xe s
theorem aQ.one:∀ {x:V}{us:List Value},aQ [x] us->∃ u,us=[u]/\aV x u
 :=fun h=>by cases h with|cons r h=>cases h; exact ⟨_,rfl,r⟩
theorem aQ.two:∀ {x y:V}{us:List Value},aQ [x,y] us->∃ u v,us=[u,v]/\aV x u/\aV y v
 :=fun h=>by cases h with|cons r h=>cases h with|cons q h=>cases h; exact ⟨_,_,rfl,r,q⟩
theorem aQ.zero:∀ {us:List Value},aQ [] us->us=[]
|_,.nil=>rfl
theorem aQ.dropLast {xs:List V}{us:List Value} (h:aQ xs us):aQ xs.dropLast us.dropLast:=by
 induction h with
|nil=>exact .nil
|cons r t ih =>
  cases t with
 |nil=>exact .nil
 |cons q t'=>exact .cons r ih
theorem aQ.reverse {xs:List V}{us:List Value} (h:aQ xs us):aQ xs.reverse us.reverse:=by
 induction h with
|nil=>exact .nil
|cons r t ih=>rw [reverse_cons,reverse_cons]; exact aQ.append ih (.cons r .nil)
theorem aQ.rep {xs:List V}{us:List Value} (h:aQ xs us):∀ k:Nat,aQ (List.replicate k xs).flatten (List.replicate k us).flatten
|0=>.nil
|k+1=>by
  rw [replicate_succ,replicate_succ,flatten_cons,flatten_cons]
  exact aQ.append h (aQ.rep h k)
theorem zQ {α:Type} (l:List α):l.eraseIdx (l.length - 1)=l.dropLast:=by
 induction l with
|nil=>rfl
|cons a r ih =>
  cases r with
 |nil=>rfl
 |cons b r =>
   have e:(a::b::r).length - 1=((b::r).length - 1)+1:=by
    have h1:(a::b::r).length=r.length+2:=rfl
    have h2:(b::r).length=r.length+1:=rfl
    omega
   rw [e,List.eraseIdx_cons_succ,ih]
   all_goals rfl
theorem sP (its:List Value):∀ (k:Nat) (acc:List Value),
  List.foldl (fun x1 x2=>x1++x2) acc.toArray (List.replicate k its.toArray)=(acc++(List.replicate k its).flatten).toArray
|0,acc=>by simp
|k+1,acc=>by
  have e:acc.toArray++its.toArray=(acc++its).toArray:=by simp
  have e2:(acc++its)++(List.replicate k its).flatten=acc++(List.replicate (k+1) its).flatten:=by
   rw [replicate_succ,flatten_cons,append_assoc]
  rw [← e2,← sP its k (acc++its),← e,replicate_succ,foldl_cons]
section
variable {X:Cx} {pins:List (Addr×Obj)} {σ:St} {H:Hp} {s:Shared} {l b:Addr} {xs ys zs:List V}
theorem aN.lset {its its':List Value}{n:Nat}{f:Array Value->Array Value}{t':Nat} (I:aN X pins σ H s) (hH:H l=some (.lst xs))
  (e:s.heap.get? l=some { cls:=.type "list",data:=.seq its.toArray n }) (hf:f its.toArray=its'.toArray) (hv:aQ ys its') (hz:ys.length<=sizeLine) :
  aN X pins σ (upd H l (.lst ys)) { s with heap:=s.heap.update l (Obj.mapSeq f),toks:=t' }:=by
 have q:=PySem.IsL.update e f
 rw [hf] at q
 refine I.write (x:=l) (e:=l) (by rw [hH]; exact trivial) (.inl rfl) (fun b' u hb hu=>(get?_update_other s.heap (Obj.mapSeq f) (Ne.symm hb)).trans hu) ⟨_,q⟩ ?_
 exact ⟨hz,its',_,hv,q⟩
theorem aN.lnew {its:List Value}{t':Nat} (I:aN X pins σ H s) (hv:aQ ys its) (hz:ys.length<=sizeLine) :
  aN X pins σ (upd H s.heap.objs.size (.lst ys)) { s with heap:=s.heap.push { cls:=.type "list",data:=.seq its.toArray },toks:=t' }:=
 I.laid (fun _ _ q=>get?_push_of_some _ q) (le_refl _) ⟨hz,its,0,hv,get?_push_size _ rfl⟩
theorem aN.fresh (I:aN X pins σ H s):H s.heap.objs.size=none:=I.hok.fresh (le_refl _)
theorem aN.lstM (I:aN X pins σ H s) (hH:H l=some (.lst xs)):xs.length<=sizeLine/\∃ (its:List Value) (n:Nat),aQ xs its/\xs.length=its.length/\s.heap.get? l=some { cls:=.type "list",data:=.seq its.toArray n }:=by
 obtain ⟨z,its,n,r,e⟩:=I.hok l _ hH
 exact ⟨z,its,n,r,r.length,e⟩
theorem wV {n:Nat} (h:n<=sizeLine):Builtin.List.listTooLong n=false:=by
 unfold Builtin.List.listTooLong
 exact decide_eq_false (by omega)
end
section
variable {X:Cx}
noncomputable def BL:V->List V->Hp->VK->Prop:=fun x vs H Q=>∃ l xs y,x=.ref l/\vs=[y]/\H l=some (.lst xs)/\xs.length < sizeLine/\Q .non (upd H l (.lst (xs++[y])))
theorem dZ:Cg X "list.append" BL:=by
 intro pins s σ H x vs v us Q I rx rv h
 obtain ⟨l,xs,y,rfl,rfl,hH,hz,q⟩:=h
 cases rx
 obtain ⟨u,rfl,ru⟩:=rv.one
 obtain ⟨z,its,n,r,hl,e⟩:=I.lstM hH
 refine call_meets F.slot_list_append ⟨_,e,rfl⟩ F.entry_list_append (F.args_list_append_2 _ _) (PySem.list_append l its.toArray n u (by rw [size_toArray]; omega)) ⟨e,?_⟩
 refine ⟨.non,_,I.lset (its':=its++[u]) hH e (by simp) (r.append (.cons ru .nil)) ?_,rfl,q⟩
 rw [length_append,length_singleton]
 omega
noncomputable def BK:V->List V->Hp->VK->Prop:=fun x vs H Q=>∃ l b xs zs,x=.ref l/\vs=[.ref b]/\H l=some (.lst xs)/\H b=some (.lst zs)/\xs.length+zs.length<=sizeLine/\Q .non (upd H l (.lst (xs++zs)))
theorem sJ:Cg X "list.extend" BK:=by
 intro pins s σ H x vs v us Q I rx rv h
 obtain ⟨l,b,xs,zs,rfl,rfl,hH,hB,hz,q⟩:=h
 cases rx
 obtain ⟨u,rfl,ru⟩:=rv.one
 cases ru
 obtain ⟨z,its,n,r,hl,e⟩:=I.lstM hH
 obtain ⟨z2,its2,n2,r2,hl2,e2⟩:=I.lstM hB
 have hsz:its.toArray.size+its2.toArray.size<=sizeLine:=by rw [size_toArray,size_toArray]; omega
 have hlong:¬ (!its.toArray.isEmpty&&Builtin.List.listTooLong (its.toArray.size+its2.toArray.size))=true:=by
  rw [wV hsz,Bool.and_false]
  exact Bool.false_ne_true
 refine call_meets F.slot_list_extend ⟨_,e,rfl⟩ F.entry_list_extend (F.args_list_extend_2 _ _)
  (AutoSeq1.list_extend_list_list_0 l its.toArray n b its2.toArray n2 hlong (by rw [size_toArray]; omega) (by omega)) ⟨e,e2,?_⟩
 refine ⟨.non,_,I.lset (its':=its++its2) hH e (by simp) (r.append r2) ?_,rfl,q⟩
 rw [length_append]
 omega
noncomputable def Bo:V->List V->Hp->VK->Prop:=fun x vs H Q=>∃ l xs y,x=.ref l/\vs=[]/\H l=some (.lst xs)/\xs[xs.length - 1]?=some y/\Q y (upd H l (.lst xs.dropLast))
theorem TV:Cg X "list.pop" Bo:=by
 intro pins s σ H x vs v us Q I rx rv h
 obtain ⟨l,xs,y,rfl,rfl,hH,hy,q⟩:=h
 cases rx
 have hus:=rv.zero
 subst hus
 obtain ⟨z,its,n,r,hl,e⟩:=I.lstM hH
 obtain ⟨u,hu,ru⟩:=r.get hy
 have hy':its.toArray[its.toArray.size - 1]?=some u:=by
  show its.toArray[its.length - 1]?=some u
  rw [← Array.getElem?_toList,← hl]
  exact hu
 refine call_meets F.slot_list_pop ⟨_,e,rfl⟩ F.entry_list_pop (F.args_list_pop_1 _) (MeetsSeq.list_pop_last l its.toArray n u hy' (by rw [size_toArray]; omega)) ⟨e,?_⟩
 refine ⟨y,_,I.lset (its':=its.dropLast) hH e ?_ r.dropLast ?_,ru,q⟩
 ·show its.toArray.eraseIdxIfInBounds (its.toArray.size - 1)=its.dropLast.toArray
  rw [size_toArray,List.eraseIdxIfInBounds_toArray,zQ]
 ·rw [List.length_dropLast]
  omega
noncomputable def YQ:R2:=fun x y H Q=>∃ l b xs zs,x=.ref l/\y=.ref b/\H l=some (.lst xs)/\H b=some (.lst zs)/\xs.length+zs.length<=sizeLine/\∀ p,H p=none->Q (.ref p) (upd H p (.lst (xs++zs)))
theorem TN:jG X (binaryOp .Add) YQ:=by
 intro pins s σ H x y v u Q I rx ry h
 obtain ⟨l,b,xs,zs,rfl,rfl,hH,hB,hz,q⟩:=h
 cases rx
 cases ry
 obtain ⟨z,its,n,r,hl,e⟩:=I.lstM hH
 obtain ⟨z2,its2,n2,r2,hl2,e2⟩:=I.lstM hB
 refine PySem.P.add_list e e2 ?_ (by rw [size_toArray,size_toArray]; omega)
 have ea:its.toArray++its2.toArray=(its++its2).toArray:=by simp
 rw [ea]
 exact ⟨.ref _,_,I.lnew (t':=s.toks) (r.append r2) (by rw [length_append]; omega),rfl,q _ I.fresh⟩
noncomputable def Bm:R2:=fun x y H Q=>∃ l k xs,x=.ref l/\y=.int k/\H l=some (.lst xs)/\-(2 ^ 63)<=k/\k < 2 ^ 63/\xs.length * k.toNat<=sizeLine /\
 ∀ p,H p=none->Q (.ref p) (upd H p (.lst (List.replicate k.toNat xs).flatten))
theorem NL {α:Type} (xs:List α) (k:Nat):(List.replicate k xs).flatten.length=k * xs.length:=by
 induction k with
|zero=>simp
|succ k ih=>rw [replicate_succ,flatten_cons,length_append,ih,succ_mul,Nat.add_comm]
theorem TH:jG X (binaryOp .Mult) Bm:=by
 intro pins s σ H x y v u Q I rx ry h
 obtain ⟨l,k,xs,rfl,rfl,hH,h1,h2,hz,q⟩:=h
 cases rx
 obtain ⟨t,rfl⟩:=ry
 obtain ⟨z,its,n,r,hl,e⟩:=I.lstM hH
 have hlen:its.toArray.size * k.toNat<=sizeLine:=by rw [size_toArray,← hl]; exact hz
 have hcap:¬ its.toArray.size * k.toNat > (2 ^ 63 - 1) / 8:=by
  have:(sizeLine:Nat)<=(2 ^ 63 - 1) / 8:=by decide
  omega
 have hfit:¬ (!Builtin.List.listFitsIndex k)=true:=by
  rw [fitsIndex_both h1 h2]
  exact Bool.false_ne_true
 have hlong:¬ Builtin.List.listTooLong (its.toArray.size * k.toNat)=true:=by
  rw [wV hlen]
  exact Bool.false_ne_true
 have hnew:List.foldl (fun x1 x2=>x1++x2) #[] (List.replicate (if its.toArray.isEmpty=true then 0 else k.toNat) its.toArray)=(List.replicate k.toNat its).flatten.toArray:=by
  have f0:∀ m:Nat,List.foldl (fun x1 x2=>x1++x2) #[] (List.replicate m its.toArray)=(List.replicate m its).flatten.toArray:=fun m=>by
   have:=sP its m []
   rw [nil_append] at this
   exact this
  rw [f0]
  cases its with
 |nil=>simp
 |cons a r'=>rw [if_neg (by simp)]
 refine wpAny_binaryOp_repeat_ref (T:="list") (U:="int") (by decide) ⟨_,e,rfl⟩ (fun s'=>typeIs_int s' k t) noFill_list_mul F.fills_int_mul F.slot_int_rmul repeat_list F.slot_int_index.lookup
  (call_meets F.slot_int_rmul (typeIs_int s k t) F.entry_int_rmul (F.args_int_rmul_2 _ _) (int___rmul___int_list k t l its.toArray n)
   ⟨e,rfl,⟨_,e,rfl⟩,call_meets F.slot_list_mul ⟨_,e,rfl⟩ F.entry_list_mul (F.args_list_mul_2 _ _) (AutoListH.list___mul___list_int_3 l its.toArray n k t hfit hcap hlong) ⟨e,?_⟩⟩)
 rw [hnew]
 exact ⟨.ref _,_,I.lnew (t':=s.toks) (r.rep k.toNat) (by rw [NL,mul_comm]; exact hz),rfl,q _ I.fresh⟩
end
section
variable {prog:Program} {w:World} {A:Around} {E:Value -> Shared -> Prop} {s:Shared}
end
section
variable {X:Cx}
end
end
end L2
namespace Att
open PySem PySem.W PySem.Calls PyProof.Rows
theorem nU {P:Params}{h:Heap}:∀ (ns:List Int) (vs:List Value),WellAll P h vs (ns.map WData.int)->IntsAre vs ns:=by
 intro ns
 induction ns with
|nil =>
  intro vs w
  rw [map_nil] at w
  cases w
  exact .nil
|cons n ns ih =>
  intro vs w
  rw [map_cons] at w
  cases w with
 |cons a b =>
   cases a
   exact .cons _ _ (ih _ b)
theorem DI {l:OpenLaw}{n:Nat} (hn:l.most=some n) {P:Params}{h:Heap}{args:List WData}{vals:List Value}
  (hpre:l.row.toRowW.claim.pre args=true) (hwl:WellAll P h vals args) :
  ∃ a vs ns,vals=[Value.ref a]/\args=[WData.list (ns.map WData.int)]/\h.get? a=some { cls:=.type "list",data:=.seq vs.toArray }/\IntsAre vs ns/\ns.length<=n:=by
 have hsh:WShape.hasAll [] args [.list .int]=true:=(pre_splitW hpre).1
 have hc:l.pre.holds [] { args:=args }=true:=(pre_splitW hpre).2
 obtain ⟨d,r,rfl,h1,h2⟩:=hasAllW_cons hsh
 obtain rfl:=hasAllW_nil h2
 obtain ⟨xs,rfl,h3⟩:=hasW_list h1
 obtain ⟨ns,rfl⟩:=items_int h3
 have hlen:ns.length<=n:=by
  unfold OpenLaw.pre at hc
  have h4:(WTm.not (.lt (.lit (.int (n:Int))) (.len (.arg 0)))).holds [] { args:=[.list (ns.map .int)] }=true:=by
   have h4:=(holds_andW hc).1
   rw [hn] at h4
   exact h4
  have h5:=condW_of h4 (w_not (w_lt w_lit (w_len_list (w_arg rfl))))
  rw [length_map] at h5
  refine Nat.le_of_not_lt fun q=>?_
  have q':(n:Int) < ((ns.length:Nat):Int):=by omega
  first
  |(rw [decide_eq_true q'] at h5; exact absurd h5 (by decide))
  |(simp at h5; omega)
 cases hwl with
|cons w1 w2 =>
  cases w2
  cases w1 with
 |list ho hall=>exact ⟨_,_,ns,rfl,rfl,ho,nU ns _ hall,hlen⟩
theorem DN (l:OpenLaw) (args:List WData):l.row.toRowW.claim.post args (.bool true) args=true:=
 postW_of (r:=l.row.toRowW) (X:=(true==true))
  (show WShape.has [] (.bool true) .bool=true by first|rfl|decide|simp [WShape.has,WShape.arms,WShape.armsAll])
  (show (WTm.eq .res (.lit (.bool true))).value [] { args:=args,res:=some (.bool true),after:=args }=some (.bool (true==true)) from w_eq_bool (w_res rfl) w_lit) rfl
theorem attach_call {l:OpenLaw}{n:Nat}{q:Program}{loose:List Str}{XP:(Str->Option Value)->Heap->Prop}{YP:World->Heap->Prop}{d:DefRec}
  (hn:l.most=some n) (hdf:d.params.defaults=[])
  (call:∀ (w:World) (s₀ s₁:Shared) (mg mb:Str->Option Value) (fa:Addr) (o:Obj) (pm cd doc:Value) (a:Addr) (vs:List Value) (ns:List Int),
   Ground q loose [] XP w s₀ mg mb s₁.heap->YP w s₁.heap ->
   s₁.heap.get? fa=some o->o.data=.func (docDef d.name d.params d.body d.scope pm cd doc)->s₁.heap.CodeRec cd d.name->mg d.name=some (.ref fa) ->
   s₁.heap.get? a=some { cls:=.type "list",data:=.seq vs.toArray }->IntsAre vs ns->ns.length<=n->s₁.gens=#[] ->
   codeAny (model l.prog w) callerA (.call (.ref fa) ⟨[.ref a],[]⟩) (fun r s'=>r=.ok (.ret (.bool true))/\OldK s₁.heap s'.heap/\s'.os=s₁.os/\AllBare s'.gens) s₁) :
  WalkO q loose XP YP l.row.toRowW d [] (fun f vs=>PySem.call f vs):=by
 intro w s₀ s₁ mg mb G Y fa o pm cd doc dV kV ho hd hcd hD hmg hg args vals as hpre hlay hrd hwl hlo
 obtain rfl:dV=.none:=Dflts.none hD hdf
 obtain rfl:kV=.none:=Dflts.noKw hD
 obtain ⟨a,vs,ns,rfl,rfl,hobj,hints,hlen⟩:=DI hn hpre hwl
 refine enter_call (codeAny_mono (call w s₀ s₁ mg mb fa o pm cd doc a vs ns G Y ho (fd_plain hd) hcd hmg hobj hints hlen hg) fun r s' hq=>?_)
 obtain ⟨rfl,h2,h3,h4⟩:=hq
 exact ⟨.inl ⟨.bool true,.bool true,[],rfl,fun _=>rfl,.bool true,DN l _,fun _=>⟨List.Pairwise.nil,fun _ hm=>(nomatch hm)⟩⟩,h2,h3,h4⟩
section
variable {prog:Program} {w:World} {A:Around} {E:Value -> Shared -> Prop} {s:Shared} {K:Frag}
noncomputable def noObjs (h:Heap):Heap:={ h with objs:=#[] }
theorem noObjs_get (h:Heap) (b:Addr):(noObjs h).get? b=none:=by
 cases e:(noObjs h).get? b with
|none=>rfl
|some o=>exact absurd (lt_size e) (not_lt_zero _)
noncomputable def ledger (h:Heap) (L d:Addr):List (Addr×Obj):=(List.range h.objs.size).filterMap fun a=>if a=L∨a=d then none else (h.get? a).map fun o=>(a,o)
theorem mem_ledger {h:Heap}{L d a:Addr}{o:Obj}:(a,o)∈ledger h L d ↔ a≠L/\a≠d/\h.get? a=some o:=by
 unfold ledger
 rw [mem_filterMap]
 constructor
 ·rintro ⟨b,_,e⟩
  split at e
  ·cases e
  ·rename_i hb
   obtain ⟨o',ho,e'⟩:=Option.map_eq_some_iff.mp e
   cases e'
   exact ⟨fun q=>hb (.inl q),fun q=>hb (.inr q),ho⟩
 ·rintro ⟨n1,n2,ho⟩
  refine ⟨a,mem_range.mpr (lt_size ho),?_⟩
  rw [if_neg (show ¬ (a=L∨a=d) from fun q=>q.elim n1 n2),ho] <;> rfl
end
end Att
namespace L2
open PySem PySem.Spec PyProof.Rows
section
theorem rE:∀ {vs:List Value}{ns:List Int},IntsAre vs ns->aQ (ns.map V.int) vs
|_,_,.nil=>.nil
|_,_,.cons n t h=>.cons ⟨t,rfl⟩ (rE h)
end
section
end
end L2
/- THE LAST THEOREM (shape; LID,My.* are yours):
   My.Adr: a structure of the addresses that your layer names (classes,functions); My.Txt K t: a structure (Prop) of the equations TD K;
   My.txt_mk:{K} {implicit addresses ..} (e1:nsIn K mainGlobals "law"=some (some (.ref f))) (e2:K.lookup f=some ⟨oc,od,.func (fnOf "law" "law" params body scope dV kV doc pm an cdv ct),sl⟩) (e3:codeIn K cdv "law"=true) ..:∃ t,My.Txt K t
(the tactic k_is has no namespace: write k_is) -/
namespace L2
open PySem PySem.Spec PyProof.Rows
section
noncomputable def aW (s:Stmt):Arguments:=match s with
|.FunctionDef _ a _ _ _ _ _ _ _ _=>a
|_=>{ posonlyargs:=[],args:=[],vararg:=none,kwonlyargs:=[],kw_defaults:=[],kwarg:=none,defaults:=[] }
noncomputable def aR (s:Stmt):List Stmt:=match s with
|.FunctionDef _ _ b _ _ _ _ _ _ _=>b
|_=>[]
noncomputable def aD (s:Stmt):Scope:=match s with
|.FunctionDef _ _ _ _ _ _ sc _ _ _=>sc
|_=>{ kind:=.function,names:=[],isGenerator:=false,isCoroutine:=false }
noncomputable abbrev FN:FK:=fun _ _ _ _ _ _=>False
noncomputable abbrev E0:XK:=fun _ _ _=>False
theorem YV {X:Cx}:lJ FN X E0:=fun _ _ _ _ _ _ _ h=>h.elim
structure Aw (K:Frag) (x qual:Str) (st:Stmt) (f:Addr) (fd:FuncData):Prop where
 ex:∃ (oc:Value) (od:Option Addr) (kV doc pm:Value) (an:Option Addr) (cdv ct:Value) (osl:Array (Option Value)),
  fd=fnOf x qual (aW st) (aR st) (aD st) .none kV doc pm an cdv ct/\K.lookup f=some ⟨oc,od,.func fd,osl⟩/\PySem.W.codeIn K cdv qual=true
 kp:keepIn K (.ref f)=true
section
variable {P:Program} {w:World} {K:Frag} {mg:Str -> Option Value} {base:Heap}
theorem Aw.ok {x qual:Str}{st:Stmt}{f:Addr}{fd:FuncData}{N ps:List Str}{k:Nat}{sp:Sp} (F:Aw K x qual st f fd) (S:aO N ps (aD st)) (len:∀ vs H Q E,sp vs H Q E->vs.length=ps.length)
  (hbody:∀ (cdv:Value) (A:Around) (outer:List Env) (s:Shared) (H:Hp) (vs:List V) (Q:VK) (E:XK),eP k (A.deeper (envOfC qual (aD st) s.heap.objs.size f cdv))->sp vs H Q E ->
   ∃ t,tI (mQ FN P w K mg base N qual (aD st) f cdv A outer s H E).nox (aR st) t/\t { nx:=fun _ H'=>Q .non H',rt:=Q } (start N vs) H):kL P w K mg base FN (k+1) f fd ps sp:=by
 obtain ⟨oc,od,kV,doc,pm,an,cdv,ct,osl,rfl,lk,hcd⟩:=F.ex
 refine sQ lk hcd S len fun A outer s H vs Q E hr hsp=>?_
 obtain ⟨t,h,q⟩:=hbody cdv A outer s H vs Q E hr hsp
 exact ⟨t,h.nox,q⟩
theorem UQ {x qual:Str}{st:Stmt}{f:Addr}{oc:Value}{od an:Option Addr}{osl:Array (Option Value)}{kV doc pm cdv ct:Value} (l:K.lookup f=some ⟨oc,od,.func (fnOf x qual (aW st) (aR st) (aD st) .none kV doc pm an cdv ct),osl⟩)
  (c:PySem.W.codeIn K cdv qual=true) (k:keepIn K (.ref f)=true):Aw K x qual st f (fnOf x qual (aW st) (aR st) (aD st) .none kV doc pm an cdv ct):=⟨⟨oc,od,kV,doc,pm,an,cdv,ct,osl,rfl,l,c⟩,k⟩
end
theorem eQ {n:Nat} (h:n<=1000):n < sizeLine:=lt_of_le_of_lt h (by decide)
section
variable {X:Cx}
theorem pv (i:Nat) {x:Str}{pos:Pos} (hN:X.N[i]?=some x:=by rfl) (hv:Aa X.env.scope x:=by first|exact Or.inl rfl|exact Or.inr (Or.inl rfl)|exact Or.inr (Or.inr rfl)) (hd:(x==("__debug__":Str))=false:=by decide)
  (hcd:(x==("__classdict__":Str))=false:=by decide):PE X (.Name x pos) (RH i):=SW hN hv hd hcd
end
theorem ZJ {A B:Prop} (h:B):if false=true then A else B:=by
 rw [if_neg Bool.false_ne_true]
 exact h
theorem ZI {A B:Prop} (h:A):if true=true then A else B:=by
 rw [if_pos rfl]
 exact h
noncomputable def aI (H H':Hp):Prop:=∀ b o,H b=some o->H' b=some o
theorem aI.refl (H:Hp):aI H H:=fun _ _ h=>h
theorem aI.trans {H H1 H2:Hp} (a:aI H H1) (b:aI H1 H2):aI H H2:=fun c o h=>b c o (a c o h)
theorem aI.free {H H':Hp} (e:aI H H') {l:Addr} (h:H' l=Option.none):H l=Option.none:=by
 cases q:H l with
|none=>rfl
|some o =>
  rw [e l o q] at h
  cases h
theorem aI.seq {K:Frag}{H H':Hp}{a:Addr}{xs:List V} (e:aI H H') (h:bX K H a xs):bX K H' a xs:=by
 rcases h with (h|⟨o,h⟩)|h
 ·exact .inl (.inl (e _ _ h))
 ·exact .inl (.inr ⟨o,e _ _ h⟩)
 ·exact .inr h
end
section
section
variable {κ:Type} [DecidableEq κ]
noncomputable def bA (kvs:List (κ×V)) (k:κ):Option V:=(kvs.find? fun kv=>decide (kv.1=k)).map (·.2)
noncomputable def cB (kvs:List (κ×V)) (k:κ) (v:V):List (κ×V):=
 if (kvs.any fun kv=>decide (kv.1=k))=true then kvs.map (fun kv=>if kv.1=k then (kv.1,v) else kv) else kvs++[(k,v)]
noncomputable def cJ (kvs:List (κ×V)) (k:κ):List (κ×V):=kvs.filter fun kv=>decide (kv.1≠k)
theorem dE {p:κ×V}{r:List (κ×V)}{k:κ} (e:p.1=k):bA (p::r) k=some p.2:=by simp [bA,find?_cons,e]
theorem cQ {p:κ×V}{r:List (κ×V)}{k:κ} (e:¬ p.1=k):bA (p::r) k=bA r k:=by simp [bA,find?_cons,e]
theorem vT (k:κ):∀ kvs:List (κ×V),(kvs.any fun kv=>decide (kv.1=k))=(bA kvs k).isSome
|[]=>rfl
|p::r=>by
  rw [any_cons]
  by_cases e:p.1=k
  ·simp only [dE e,decide_eq_true e,Bool.true_or,Option.isSome_some]
  ·rw [cQ e,decide_eq_false e,Bool.false_or]; exact vT k r
theorem jS (kvs:List (κ×V)) (k:κ) (v:V):(cB kvs k v).length<=kvs.length+1:=by
 unfold cB
 split
 ·rw [length_map]; omega
 ·rw [length_append,length_cons,List.length_nil]; omega
theorem nH.isSome_eq {o:Option V}{u:Option Value} (r:nH o u):o.isSome=u.isSome:=by
 cases o with
|none=>cases u with
 |none=>rfl
 |some _=>exact (show False from r).elim
|some _=>cases u with
 |none=>exact (show False from r).elim
 |some _=>rfl
theorem nH.getD {o:Option V}{u:Option Value}{d:V}{d':Value} (r:nH o u) (rd:aV d d'):aV (o.getD d) (u.getD d'):=by
 cases o with
|none=>cases u with
 |none=>exact rd
 |some _=>exact (show False from r).elim
|some _=>cases u with
 |none=>exact (show False from r).elim
 |some _=>exact r
theorem KV.val {kvs:List (κ×V)}{vs:List (κ×Value)} (r:KV kvs vs) (k:κ):nH (bA kvs k) (valueAt vs k):=by
 unfold KV at r
 induction r with
|nil=>exact True.intro
|@cons p q ps qs h t ih =>
  obtain ⟨h1,h2⟩:=h
  by_cases e:p.1=k
  ·have e':q.1=k:=h1.symm.trans e
   have b:valueAt (q::qs) k=some q.2:=by simp [valueAt,find?_cons,e']
   rw [dE e,b]; exact h2
  ·have e':¬ q.1=k:=fun z=>e (h1.trans z)
   have b:valueAt (q::qs) k=valueAt qs k:=by simp [valueAt,find?_cons,e']
   rw [cQ e,b]; exact ih
theorem KV.any {kvs:List (κ×V)}{vs:List (κ×Value)} (r:KV kvs vs) (k:κ):(kvs.any fun kv=>decide (kv.1=k))=vs.any fun kv=>decide (kv.1=k):=by
 unfold KV at r
 induction r with
|nil=>rfl
|cons h t ih=>rw [any_cons,any_cons,ih,h.1]
theorem KV.repl {kvs:List (κ×V)}{vs:List (κ×Value)} (r:KV kvs vs) (k:κ) {y:V}{u:Value} (ry:aV y u) :
  KV (kvs.map fun kv=>if kv.1=k then (kv.1,y) else kv) (vs.map fun kv=>if kv.1=k then (kv.1,u) else kv):=by
 unfold KV at r ⊢
 induction r with
|nil=>exact .nil
|@cons p q ps qs h t ih =>
  rw [map_cons,map_cons]
  refine .cons ?_ ih
  obtain ⟨h1,h2⟩:=h
  by_cases e:p.1=k
  ·rw [if_pos e,if_pos (h1.symm.trans e)]; exact ⟨h1,ry⟩
  ·rw [if_neg e,if_neg (fun z=>e (h1.trans z))]; exact ⟨h1,h2⟩
theorem KV.put {kvs:List (κ×V)}{vs:List (κ×Value)} (r:KV kvs vs) (k:κ) {y:V}{u:Value} (ry:aV y u):KV (cB kvs k y) (stored vs k u):=by
 unfold cB stored
 rw [r.any k]
 by_cases e:(vs.any fun kv=>decide (kv.1=k))=true
 ·rw [if_pos e,if_pos e]; exact r.repl k ry
 ·rw [if_neg e,if_neg e]; exact Paired.snoc r ⟨rfl,ry⟩
theorem KV.drop {kvs:List (κ×V)}{vs:List (κ×Value)} (r:KV kvs vs) (k:κ):KV (cJ kvs k) (without vs k):=by
 unfold KV at r ⊢
 unfold cJ without
 induction r with
|nil=>exact .nil
|@cons p q ps qs h t ih =>
  obtain ⟨h1,h2⟩:=h
  rw [filter_cons,filter_cons]
  by_cases e:p.1=k
  ·have a:¬ decide (p.1≠k)=true:=by simp [e]
   have b:¬ decide (q.1≠k)=true:=by simp [h1.symm.trans e]
   rw [if_neg a,if_neg b]; exact ih
  ·have e':¬ q.1=k:=fun z=>e (h1.trans z)
   have a:decide (p.1≠k)=true:=by simp [e]
   have b:decide (q.1≠k)=true:=by simp [e']
   rw [if_pos a,if_pos b]; exact .cons ⟨h1,h2⟩ ih
theorem KV.keys {kvs:List (κ×V)}{vs:List (κ×Value)} (r:KV kvs vs):kvs.map (·.1)=vs.map (·.1):=by
 unfold KV at r
 induction r with
|nil=>rfl
|cons h t ih=>rw [map_cons,map_cons,ih,h.1]
theorem KV.length {kvs:List (κ×V)}{vs:List (κ×Value)} (r:KV kvs vs):kvs.length=vs.length:=Paired.length r
theorem JV (kvs:List (κ×V)) (k:κ):(cJ kvs k).length<=kvs.length:=List.length_filter_le _ _
end
theorem mI {P:Program}{w:World}{k:aH}{u:Value} (r:aV (kV k) u):(aY P w).is k u=true:=by
 cases k with
|inl i=>obtain ⟨t,e⟩:=(show ∃ t,u=Value.int i t from r); subst e; exact xA P w i t
|inr x=>obtain ⟨t,e⟩:=(show ∃ t,u=Value.str x t from r); subst e; exact wZ P w x t
theorem sN {P:Program}{w:World}:∀ {ks:List aH}{us:List Value},aQ (ks.map kV) us->ItemsAre (aY P w) ks us
|[],_,r=>by rw [map_nil] at r; cases r; exact .nil
|k::ks,_,r=>by
  rw [map_cons] at r
  cases r with
 |cons h t=>exact .cons (mI h) (sN t)
noncomputable abbrev KT (H:Hp):List (List aH×V)->List (List aH×Addr×Value)->Prop:=Paired fun p q=>p.1=q.1/\H q.2.1=some (.tup (p.1.map kV))/\aV p.2 q.2.2
theorem KT.val {H:Hp}{kvs:List (List aH×V)}{xs:List (List aH×Addr×Value)} (r:KT H kvs xs) (k:List aH):nH (bA kvs k) ((atKey xs k).map (·.2)):=by
 induction r with
|nil=>exact True.intro
|@cons p q ps qs h t ih =>
  obtain ⟨h1,_,h2⟩:=h
  by_cases e:p.1=k
  ·have e':q.1=k:=h1.symm.trans e
   have b:atKey (q::qs) k=some q.2:=by simp [atKey,find?_cons,e']
   rw [dE e,b]; exact h2
  ·have e':¬ q.1=k:=fun z=>e (h1.trans z)
   have b:atKey (q::qs) k=atKey qs k:=by simp [atKey,find?_cons,e']
   rw [cQ e,b]; exact ih
theorem KT.repl {H:Hp}{kvs:List (List aH×V)}{xs:List (List aH×Addr×Value)} (r:KT H kvs xs) (k:List aH) {y:V}{u:Value} (ry:aV y u) :
  KT H (kvs.map fun kv=>if kv.1=k then (kv.1,y) else kv) (xs.map (putAt k u)):=by
 induction r with
|nil=>exact .nil
|@cons p q ps qs h t ih =>
  rw [map_cons,map_cons]
  refine .cons ?_ ih
  obtain ⟨h1,h2,h3⟩:=h
  unfold putAt
  by_cases e:p.1=k
  ·rw [if_pos e,if_pos (h1.symm.trans e)]; exact ⟨h1,h2,ry⟩
  ·rw [if_neg e,if_neg (fun z=>e (h1.trans z))]; exact ⟨h1,h2,h3⟩
theorem KT.put {H:Hp}{kvs:List (List aH×V)}{xs:List (List aH×Addr×Value)} (r:KT H kvs xs) (k:List aH) {b:Addr}{y:V}{u:Value} (hb:H b=some (.tup (k.map kV))) (ry:aV y u) :
  KT H (cB kvs k y) (storedH xs k b u):=by
 have e:(kvs.any fun kv=>decide (kv.1=k))=(atKey xs k).isSome:=by
  rw [vT,(r.val k).isSome_eq,Option.isSome_map]
 unfold cB storedH
 rw [e]
 by_cases q:(atKey xs k).isSome=true
 ·rw [if_pos q,if_pos q]; exact r.repl k ry
 ·rw [if_neg q,if_neg q]; exact Paired.snoc r ⟨rfl,hb,ry⟩
theorem KT.keeps {H H':Hp}{kvs:List (List aH×V)}{xs:List (List aH×Addr×Value)} (r:KT H kvs xs) (ht:∀ b ys,H b=some (.tup ys)->H' b=some (.tup ys)):KT H' kvs xs:=
 Paired.mapP r fun _ _ z=>⟨z.1,ht _ _ z.2.1,z.2.2⟩
section
variable {P:Program} {w:World} {H:Hp} {h:Heap} {a:Addr}
theorem PM {u:HO} (ok:jK P w H h) (e:Rd H a u):cF P w H h a u:=e.ok ok
theorem qG {kvs:List (aH×V)} (ok:jK P w H h) (e:Rd H a (.dK kvs)):kvs.length<=sizeLine/\(a==sysModules)=false/\∃ vs,KV kvs vs/\h.DictOf (aY P w) a vs:=
 show cF P w H h a (.dK kvs) from PM ok e
theorem CJ {kvs:List (aH×V)} (ok:jK P w H h) (e:H a=some (.dK kvs)):kvs.length<=sizeLine/\(a==sysModules)=false/\∃ vs,KV kvs vs/\h.DictOf (aY P w) a vs:=qG ok (.inl e)
theorem jT {ks:List aH} (ok:jK P w H h) (e:H a=some (.tup (ks.map kV))):(tupleKind (aY P w)).is h ks a:=by
 obtain ⟨_,its,r,o,h1,h2,n,h3⟩:=(show cF P w H h a (.tup (ks.map kV)) from ok a _ e)
 exact ⟨o,its.toArray,n,h1,h2,h3,by simpa using sN r⟩
theorem qE {kvs:List (List aH×V)} (ok:jK P w H h) (e:Rd H a (.dT kvs)):kvs.length<=sizeLine/\(a==sysModules)=false /\
  ∃ xs,KT H kvs xs/\h.DictOfH (tupleKind (aY P w)) a xs:=by
 obtain ⟨z,y,xs,r,o,es,ep,h1,h2,h3,h4,h5⟩:=(show cF P w H h a (.dT kvs) from PM ok e)
 refine ⟨z,y,xs,r,o,es,ep,h1,h2,h3,h4,fun x hx=>?_,h5⟩
 have all:∀ {l:List (List aH×V)} {m:List (List aH×Addr×Value)},KT H l m->∀ x∈m,(tupleKind (aY P w)).is h x.1 x.2.1:=by
  intro l m q
  induction q with
 |nil=>intro x hx; exact nomatch hx
 |@cons p q ps qs hq t ih =>
   intro x hx
   rcases mem_cons.mp hx with e|hx
   ·subst e
    exact jT ok (by rw [← hq.1]; exact hq.2.1)
   ·exact ih x hx
 exact all r x hx
theorem ZT {kvs:List (List aH×V)} (ok:jK P w H h) (e:H a=some (.dT kvs)):kvs.length<=sizeLine/\(a==sysModules)=false /\
  ∃ xs,KT H kvs xs/\h.DictOfH (tupleKind (aY P w)) a xs:=qE ok (.inl e)
end
noncomputable def mT (H:Hp) (a:Addr) (y:V) (r:Option V):Prop:=
 (∃ kvs k,Rd H a (.dK kvs)/\y=kV k/\r=bA kvs k)∨∃ kvs k b,Rd H a (.dT kvs)/\y=.ref b/\H b=some (.tup (k.map kV))/\r=bA kvs k
noncomputable def vP (H:Hp) (a:Addr) (y v:V) (H':Hp):Prop:=
 (∃ kvs k,H a=some (.dK kvs)/\y=kV k/\kvs.length < sizeLine/\H'=upd H a (.dK (cB kvs k v))) ∨
 ∃ kvs k b,H a=some (.dT kvs)/\y=.ref b/\H b=some (.tup (k.map kV))/\kvs.length < sizeLine/\H'=upd H a (.dT (cB kvs k v))
theorem vP.k {H:Hp}{a:Addr}{kvs:List (aH×V)}{k:aH}{v:V} (e:H a=some (.dK kvs)) (hl:kvs.length < sizeLine):vP H a (kV k) v (upd H a (.dK (cB kvs k v))):=.inl ⟨kvs,k,e,rfl,hl,rfl⟩
theorem vP.t {H:Hp}{a b:Addr}{kvs:List (List aH×V)}{k:List aH}{v:V} (e:H a=some (.dT kvs)) (eb:H b=some (.tup (k.map kV))) (hl:kvs.length < sizeLine) :
  vP H a (.ref b) v (upd H a (.dT (cB kvs k v))):=.inr ⟨kvs,k,b,e,rfl,eb,hl,rfl⟩
section
variable {X:Cx} {pins:List (Addr×Obj)} {σ:St} {H:Hp} {s:Shared} {a:Addr} {y v:V} {u r:Value} {o:Option V} {A:Around} {E:Value -> Shared -> Prop}
theorem aN.big (I:aN X pins σ H s):sysModules < s.heap.objs.size:=by
 have h:mainGlobals < s.heap.objs.size:=(I.mod.glob.keeps I.bk).lt
 exact lt_trans (by decide) h
theorem EZ {Q:Value->Shared->Prop} (hu:A.units+1 < cLine) (I:aN X pins σ H s) (g:mT H a y (some v)) (ry:aV y u) (h:∀ w' s',aN X pins σ H s'->aV v w'->Q w' s') :
  wpAny (model X.prog X.w) A (getItem (.ref a) u) Q E s:=by
 rcases g with ⟨kvs,k,e,ey,l⟩|⟨kvs,k,b,e,ey,eb,l⟩
 ·subst ey
  obtain ⟨z,hd,vs,rel,dd⟩:=qG I.hok e
  obtain ⟨w',hw,rw'⟩:=nH.some_of (v:=v) (o:=valueAt vs k) (by rw [l]; exact rel.val k)
  exact wpAny_getItem_of (mI ry) dd.mapOf hw (h w' _ (I.tok _) rw')
 ·subst ey
  cases (show u=Value.ref b from ry)
  obtain ⟨z,hd,xs,rel,dd⟩:=qE I.hok e
  obtain ⟨w',hw,rw'⟩:=nH.some_of (v:=v) (o:=(atKey xs k).map (·.2)) (by rw [l]; exact rel.val k)
  obtain ⟨p,hp,hp2⟩:=Option.map_eq_some_iff.mp hw
  refine wpAny_getItem_heap (tupleKind_room_in1 hu) (jT I.hok eb) dd hp ?_
  rw [hp2]
  exact h w' _ (I.tok _) rw'
theorem Bx {Q:Value->Shared->Prop} (hu:A.units+1 < cLine) (I:aN X pins σ H s) (g:mT H a y o) (ry:aV y u) (h:∀ s',aN X pins σ H s'->Q (.bool o.isSome) s') :
  wpAny (model X.prog X.w) A (compareOp .In u (.ref a)) Q E s:=by
 rcases g with ⟨kvs,k,e,ey,l⟩|⟨kvs,k,b,e,ey,eb,l⟩
 ·subst ey
  obtain ⟨z,hd,vs,rel,dd⟩:=qG I.hok e
  refine wpAny_in_of (mI ry) hd dd.mapOf ?_
  rw [← (rel.val k).isSome_eq,← l]
  exact h _ (I.tok _)
 ·subst ey
  cases (show u=Value.ref b from ry)
  obtain ⟨z,hd,xs,rel,dd⟩:=qE I.hok e
  refine wpAny_in_heap (tupleKind_room_in1 hu) (jT I.hok eb) hd dd ?_
  have q:=(rel.val k).isSome_eq
  rw [Option.isSome_map] at q
  rw [← q,← l]
  exact h _ (I.tok _)
theorem OC {Q:Value->Shared->Prop} (hu:A.units+1 < cLine) (I:aN X pins σ H s) (g:mT H a y o) (ry:aV y u) (h:∀ s',aN X pins σ H s'->Q (.bool (!o.isSome)) s') :
  wpAny (model X.prog X.w) A (compareOp .NotIn u (.ref a)) Q E s:=by
 rcases g with ⟨kvs,k,e,ey,l⟩|⟨kvs,k,b,e,ey,eb,l⟩
 ·subst ey
  obtain ⟨z,hd,vs,rel,dd⟩:=qG I.hok e
  refine wpAny_notIn_of (mI ry) hd dd.mapOf ?_
  rw [← (rel.val k).isSome_eq,← l]
  exact h _ (I.tok _)
 ·subst ey
  cases (show u=Value.ref b from ry)
  obtain ⟨z,hd,xs,rel,dd⟩:=qE I.hok e
  refine wpAny_notIn_heap (tupleKind_room_in1 hu) (jT I.hok eb) hd dd ?_
  have q:=(rel.val k).isSome_eq
  rw [Option.isSome_map] at q
  rw [← q,← l]
  exact h _ (I.tok _)
theorem oO {h':Heap}{t':Nat}{ob:HO} (I:aN X pins σ H s) (mu:Af (H a)) (hs:Heap.SameBut a s.heap h') (he:∃ q,h'.get? a=some q) (new:cF X.prog X.w (upd H a ob) h' a ob) :
  aN X pins σ (upd H a ob) { s with heap:=h',toks:=t' }:=
 I.write (x:=a) (e:=a) mu (.inl rfl) (fun b q hb z=>(hs.2 b hb).trans z) he new
theorem vC {P:Program}{w:World}{H':Hp}{h':Heap}{kvs:List (aH×V)}{vs:List (aH×Value)} (z:kvs.length<=sizeLine) (hd:(a==sysModules)=false) (rel:KV kvs vs) (dd:h'.DictOf (aY P w) a vs) :
  cF P w H' h' a (.dK kvs):=⟨z,hd,vs,rel,dd⟩
theorem EY {H':Hp}{Q:Unit->Shared->Prop} (hu:A.units+1 < cLine) (I:aN X pins σ H s) (g:vP H a y v H') (ry:aV y u) (rv:aV v r) (h:∀ s',aN X pins σ H' s'->Q () s') :
  wpAny (model X.prog X.w) A (setItem (.ref a) u r) Q E s:=by
 rcases g with ⟨kvs,k,e,ey,l,eH⟩|⟨kvs,k,b,e,ey,eb,l,eH⟩
 ·subst ey eH
  obtain ⟨z,hd,vs,rel,dd⟩:=CJ I.hok e
  have hz:vs.length<=sizeLine:=by rw [← rel.length]; exact z
  have hl:(cB kvs k v).length<=sizeLine:=by have:=jS kvs k v; omega
  refine wpAny_setItem_pairs (hsz:=hz) (mI ry) dd fun h' dd' hs=>h _ ?_
  have he:∃ q,h'.get? a=some q:=let ⟨q,_,_,hq,_⟩:=dd'; ⟨q,hq⟩
  exact oO I (by rw [e]; exact True.intro) hs he (vC hl hd (rel.put k rv) dd')
 ·subst ey eH
  cases (show u=Value.ref b from ry)
  obtain ⟨z,hd,xs,rel,dd⟩:=ZT I.hok e
  have hz:xs.length<=sizeLine:=by rw [← Paired.length rel]; exact z
  have hl:(cB kvs k v).length<=sizeLine:=by have:=jS kvs k v; omega
  refine wpAny_setItem_heap (hsz:=hz) (tupleKind_room_in1 hu) (jT I.hok eb) dd fun h' dd' hs=>h _ ?_
  obtain ⟨q,es,ep,hq,h2,h3,h4,_,h5⟩:=dd'
  refine oO I (by rw [e]; exact True.intro) hs ⟨q,hq⟩ ⟨hl,hd,_,(rel.put k eb rv).keeps fun c ys ec=>?_,q,es,ep,hq,h2,h3,h4,h5⟩
  rw [aJ (cP ec e (fun z=>nomatch z))]
  exact ec
end
section
variable {X:Cx} {pins:List (Addr×Obj)} {σ:St} {H:Hp} {s:Shared} {a:Addr} {kvs:List (aH×V)} {k:aH} {u:Value} {A:Around} {E:Value -> Shared -> Prop}
theorem ZV {v:V}{more:List Value}{Q:Value->Shared->Prop} (I:aN X pins σ H s) (e:H a=some (.dK kvs)) (ry:aV (kV k) u) (l:bA kvs k=some v) (hm:more=[]∨∃ x,more=[x])
  (h:∀ w' s',aN X pins σ (upd H a (.dK (cJ kvs k))) s'->aV v w'->Q w' s'):wpAny (model X.prog X.w) A (call (.builtin "dict.pop") (.ref a::u::more)) Q E s:=by
 obtain ⟨z,hd,vs,rel,dd⟩:=CJ I.hok e
 obtain ⟨w',hw,rw'⟩:=nH.some_of (v:=v) (o:=valueAt vs k) (by rw [← l]; exact rel.val k)
 have hp:(keyPart u).isSome=true:=by
  cases k with
 |inl i=>obtain ⟨t,q⟩:=(show ∃ t,u=Value.int i t from ry); subst q; rfl
 |inr x=>obtain ⟨t,q⟩:=(show ∃ t,u=Value.str x t from ry); subst q; rfl
 have ha:argsOk "dict.pop" ⟨.ref a::u::more,[]⟩:=by
  rcases hm with q|⟨x,q⟩
  ·subst q; exact PySem.F.args_dict_pop_2 _ _
  ·subst q; exact PySem.F.args_dict_pop_3 _ _ _
 refine call_meetsIn slot_dict_pop dd.typeIs PySem.F.entry_dict_pop ha (meets_dict_pop_there (aY X.prog X.w) a (mI ry) more hm hp)
  ⟨vs,w',dd,by rw [← rel.length]; exact z,hw,fun h' dd' hs=>h w' _ ?_ rw'⟩
 have he:∃ q,h'.get? a=some q:=let ⟨q,_,_,hq,_⟩:=dd'; ⟨q,hq⟩
 exact oO I (by rw [e]; exact True.intro) hs he (vC (le_trans (JV kvs k) z) hd (rel.drop k) dd')
end
noncomputable def Ae (i:Expr):Prop:=∀ ov iv,subscripted i false ov iv=operate [ov,iv] (getItem ov iv)
theorem LR {prog:Program}{w:World}{A:Around}{E:Value->Shared->Prop}{s:Shared}{env:Env}{value slice:Expr}{pos:Pos}{T id:String}{Q:Value->Shared->Prop}
  (hl:typeLookup (.type T) "__getitem__"=pure (some (.builtin id))) (hs:Ae slice)
  (h:wpAny (model prog w) A (eval value env) (fun o s₁=>wpAny (model prog w) A (eval slice env) (fun i s₂=>s₂.TypeIs o T/\wpAny (model prog w) A (getItem o i) Q E s₂) E s₁) E s) :
  wpAny (model prog w) A (eval (.Subscript value slice pos) env) Q E s:=by
 refine Subscript_ (wpAny_mono h (fun o s₁ h₁=>wpAny_mono h₁ (fun i s₂ h₂=>?_) fun _ _ x=>x) fun _ _ x=>x)
 obtain ⟨hT,h₂⟩:=h₂
 unfold subscriptTail
 refine wpAny_bind ?_
 rw [getitemInPython_of_ne hT.not_modules]
 refine wpAny_bind (wpAny_specialOf hT hl ?_)
 have fin:wpAny (model prog w) A (subscripted slice false o i) (fun r s₃=>wpAny (model prog w) A (letTemporaryGo value o r >>= fun _=>pure r) Q E s₃) E s₂:=by
  rw [hs o i]
  exact wpAny_operating (wpAny_mono h₂ (fun r s₃ h₃=>wpAny_bind (wpAny_letTemporaryGo (wpAny_pure h₃))) fun _ _ x=>x)
 first
 |exact wpAny_pure (wpAny_bind fin)
 |exact wpAny_bind (wpAny_pure (wpAny_bind fin))
 |exact wpAny_bind fin
theorem xM {X:Cx}{pins:List (Addr×Obj)}{σ:St}{H:Hp}{s:Shared}{a:Addr}{y:V}{o:Option V} (I:aN X pins σ H s) (g:mT H a y o):s.TypeIs (.ref a) "dict":=by
 rcases g with ⟨kvs,k,e,_,_⟩|⟨kvs,k,b,e,_,_,_⟩
 ·obtain ⟨_,_,vs,_,dd⟩:=qG I.hok e
  exact dd.typeIs
 ·obtain ⟨_,_,xs,_,dd⟩:=qE I.hok e
  exact dd.typeIs
noncomputable def OZ (td ty:TE):TE:=fun σ H Q=>td σ H fun x H1=>ty σ H1 fun y H2=>∃ a v,x=.ref a/\mT H2 a y (some v)/\Q v H2
noncomputable def WN (ty td:TE):TE:=fun σ H Q=>ty σ H fun y H1=>td σ H1 fun x H2=>∃ a o,x=.ref a/\mT H2 a y o/\Q (.bl o.isSome) H2
noncomputable def AM (ty td:TE):TE:=fun σ H Q=>ty σ H fun y H1=>td σ H1 fun x H2=>∃ a o,x=.ref a/\mT H2 a y o/\Q (.bl (!o.isSome)) H2
noncomputable def PL (td ty tv:TE):TS:=fun D σ H=>tv σ H fun v H1=>td σ H1 fun x H2=>ty σ H2 fun y H3=>∃ a H4,x=.ref a/\vP H3 a y v H4/\D.nx σ H4
section
variable {X:Cx} {o i e value:Expr} {pos pos' tpos:Pos} {td ty tv:TE}
theorem bL (hu:X.A.units+1 < cLine) (ho:PE X o td) (hi:PE X i ty) (hs:Ae i):PE X (.Subscript o i pos) (OZ td ty):=by
 intro pins s σ H Q I h
 refine LR PySem.F.slot_dict_getitem.lookup hs (cA (ho pins s σ H _ I h) fun u s1 ⟨x,H1,I1,rx,q1⟩=>cA (hi pins s1 σ H1 _ I1 q1) fun iv s2 ⟨y,H2,I2,ry,a,v,ex,g,q2⟩=>?_)
 subst ex
 obtain rfl:u=Value.ref a:=rx
 exact ⟨xM I2 g,EZ hu I2 g ry fun w' s3 I3 rw'=>⟨v,H2,I3,rw',q2⟩⟩
theorem yZ (hu:X.A.units+1 < cLine) (hi:PE X i ty) (ho:PE X o td):PC X .In i o (WN ty td):=by
 intro pins s σ H Q I h
 refine cA (hi pins s σ H _ I h) fun iv s1 ⟨y,H1,I1,ry,q1⟩=>cA (ho pins s1 σ H1 _ I1 q1) fun u s2 ⟨x,H2,I2,rx,a,ov,ex,g,q2⟩=>?_
 subst ex
 obtain rfl:u=Value.ref a:=rx
 exact Bx hu I2 g ry fun s3 I3=>⟨.bl ov.isSome,H2,I3,rfl,q2⟩
theorem rY (hu:X.A.units+1 < cLine) (hi:PE X i ty) (ho:PE X o td):PC X .NotIn i o (AM ty td):=by
 intro pins s σ H Q I h
 refine cA (hi pins s σ H _ I h) fun iv s1 ⟨y,H1,I1,ry,q1⟩=>cA (ho pins s1 σ H1 _ I1 q1) fun u s2 ⟨x,H2,I2,rx,a,ov,ex,g,q2⟩=>?_
 subst ex
 obtain rfl:u=Value.ref a:=rx
 exact OC hu I2 g ry fun s3 I3=>⟨.bl (!ov.isSome),H2,I3,rfl,q2⟩
theorem lZ (hu:X.A.units+1 < cLine) (ho:PE X o td) (hi:PE X i ty) (hv:PE X value tv) (hs:swapsWith value (some (.Subscript o i pos')) pos.line X.env=pure false) :
  PS X (.Assign [.Subscript o i pos'] value pos) (PL td ty tv):=by
 intro pins s σ H D I h
 refine wpAny_Assign_Subscript (cA (hv pins s σ H _ I h) fun r s1 ⟨v,H1,I1,rv,q1⟩=>cA (ho pins s1 σ H1 _ I1 q1) fun u s2 ⟨x,H2,I2,rx,q2⟩=>cA (hi pins s2 σ H2 _ I2 q2) fun iv s3 ⟨y,H3,I3,ry,a,H4,ex,g,q3⟩=>?_) hs
 subst ex
 obtain rfl:u=Value.ref a:=rx
 exact EY hu I3 g ry rv fun s4 I4=>⟨σ,H4,I4,q3⟩
end
theorem JW {P:Program}{w:World}{H:Hp} (h:Heap) (hb:sysModules < h.objs.size):cF P w H (h.push { cls:=.type "dict",data:=.dict #[] }) h.objs.size (.dK []):=
 ⟨zero_le _,beq_eq_false_iff_ne.mpr (Ne.symm (ne_of_lt hb)),[],.nil,Heap.DictOf.new h⟩
theorem JU {P:Program}{w:World}{H:Hp} (h:Heap) (hb:sysModules < h.objs.size):cF P w H (h.push { cls:=.type "dict",data:=.dict #[] }) h.objs.size (.dT []):=
 ⟨zero_le _,beq_eq_false_iff_ne.mpr (Ne.symm (ne_of_lt hb)),[],.nil,_,#[],0,get?_push_size _ rfl,⟨rfl,rfl,rfl⟩,rfl,rfl,nodup_nil⟩
noncomputable def GA:TE:=fun _ H Q=>∀ p,H p=none->Q (.ref p) (upd H p (.dK []))
noncomputable def FZ:TE:=fun _ H Q=>∀ p,H p=none->Q (.ref p) (upd H p (.dT []))
section
variable {X:Cx} {pos:Pos}
theorem mB:PE X (.Dict [] [] pos) GA:=fun pins s σ H Q I h =>
 wpAny_Dict_empty ⟨.ref s.heap.objs.size,_,I.laid (a:=s.heap.objs.size) (o:=.dK []) (t':=s.toks) (fun _ _ q=>get?_push_of_some _ q) (le_refl _) (JW s.heap I.big),rfl,h _ (I.hok.fresh (le_refl _))⟩
theorem HW:PE X (.Dict [] [] pos) FZ:=fun pins s σ H Q I h =>
 wpAny_Dict_empty ⟨.ref s.heap.objs.size,_,I.laid (a:=s.heap.objs.size) (o:=.dT []) (t':=s.toks) (fun _ _ q=>get?_push_of_some _ q) (le_refl _) (JU s.heap I.big),rfl,h _ (I.hok.fresh (le_refl _))⟩
end
noncomputable def jA (kvs more:List (aH×V)):List (aH×V):=more.foldl (fun acc kv=>cB acc kv.1 kv.2) kvs
theorem kO:∀ (more kvs:List (aH×V)),(jA kvs more).length<=kvs.length+more.length
|[],kvs=>by show kvs.length<=kvs.length+0; omega
|p::r,kvs=>by
  have h1:=kO r (cB kvs p.1 p.2)
  have h2:=jS kvs p.1 p.2
  show (jA (cB kvs p.1 p.2) r).length<=_
  rw [length_cons]; omega
structure M1 (X:Cx) (o:Expr) (m:Str) (apos:Pos) (e:Expr) (cpos:Pos):Prop where
 base:attributeBase o m X.env (eval o X.env)=eval o X.env
 few:((backTo cpos (starEach [e] X.env)).all (fun x=>!x.1)&&(backToKw cpos (keywordEach [] X.env)).all (fun x=>x.1.isSome)
  && decide (([e]:List Expr).length+([]:List Keyword).length+(if ([]:List Keyword).isEmpty then 0 else 1) < 30))=true
 line:(apos.endLine==cpos.line)=true
 trees:backTo cpos (starEach [e] X.env)=[(false,eval e X.env)]
structure M2 (X:Cx) (o:Expr) (m:Str) (apos:Pos) (e f:Expr) (cpos:Pos):Prop where
 base:attributeBase o m X.env (eval o X.env)=eval o X.env
 few:((backTo cpos (starEach [e,f] X.env)).all (fun x=>!x.1)&&(backToKw cpos (keywordEach [] X.env)).all (fun x=>x.1.isSome)
  && decide (([e,f]:List Expr).length+([]:List Keyword).length+(if ([]:List Keyword).isEmpty then 0 else 1) < 30))=true
 line:(apos.endLine==cpos.line)=true
 trees:backTo cpos (starEach [e,f] X.env)=[(false,eval e X.env),(false,eval f X.env)]
noncomputable def Ai (H:Hp) (a:Addr):Prop:=(∃ kvs,Rd H a (.dK kvs))∨∃ kvs,Rd H a (.dT kvs)
theorem IZ {X:Cx}{pins:List (Addr×Obj)}{σ:St}{H:Hp}{s:Shared}{a:Addr} (I:aN X pins σ H s) (d:Ai H a) :
  s.TypeIs (.ref a) "dict"/\(∀ b,Value.ref a=.ref b->∃ ob,s.heap.get? b=some ob/\ob.dict=none)/\(a==sysModules)=false:=by
 rcases d with ⟨kvs,e⟩|⟨kvs,e⟩
 ·obtain ⟨_,hd,vs,_,dd⟩:=qG I.hok e
  refine ⟨dd.typeIs,fun b q=>?_,hd⟩
  cases q
  obtain ⟨ob,_,_,h1,h2,_⟩:=dd
  exact ⟨ob,h1,h2.2.1⟩
 ·obtain ⟨_,hd,xs,_,dd⟩:=qE I.hok e
  refine ⟨dd.typeIs,fun b q=>?_,hd⟩
  cases q
  obtain ⟨ob,_,_,h1,h2,_⟩:=dd
  exact ⟨ob,h1,h2.2.1⟩
section
variable {X:Cx} {pins:List (Addr×Obj)} {σ:St} {H:Hp} {s:Shared} {a:Addr} {y d:V} {u r:Value} {o:Option V} {A:Around} {E:Value -> Shared -> Prop}
theorem UW {Q:Value->Shared->Prop} (hu:A.units+1 < cLine) (I:aN X pins σ H s) (g:mT H a y o) (ry:aV y u) (rd:aV d r) (h:∀ w' s',aN X pins σ H s'->aV (o.getD d) w'->Q w' s') :
  wpAny (model X.prog X.w) A (call (.builtin "dict.get") [.ref a,u,r]) Q E s:=by
 rcases g with ⟨kvs,k,e,ey,l⟩|⟨kvs,k,b,e,ey,eb,l⟩
 ·subst ey
  obtain ⟨z,hd,vs,rel,dd⟩:=qG I.hok e
  refine call_meetsIn slot_dict_get dd.typeIs entry_dict_get (PySem.F.args_dict_get_3 _ _ _) (meets_dict_get_default (aY X.prog X.w) a (mI ry) hd r) ⟨_,dd.mapOf,h _ _ (I.tok _) ?_⟩
  rw [l]
  exact (rel.val k).getD rd
 ·subst ey
  cases (show u=Value.ref b from ry)
  obtain ⟨z,hd,xs,rel,dd⟩:=qE I.hok e
  refine call_meetsIn slot_dict_get dd.typeIs entry_dict_get (PySem.F.args_dict_get_3 _ _ _) (meetsH_dict_get_default (tupleKind (aY X.prog X.w)) a b hd r) ⟨tupleKind_room_in1 hu,k,xs,jT I.hok eb,dd,h _ _ (I.tok _) ?_⟩
  rw [l]
  exact (rel.val k).getD rd
end
noncomputable def GB (td ty tx:TE):TE:=fun σ H Q=>td σ H fun x H1=>∃ a,x=.ref a/\Ai H1 a/\ty σ H1 fun y H2=>tx σ H2 fun z H3=>∃ o,mT H3 a y o/\Q (o.getD z) H3
noncomputable def FY (td ty:TE):TE:=fun σ H Q=>td σ H fun x H1=>∃ a,x=.ref a/\Ai H1 a/\ty σ H1 fun y H2=>∃ kvs k v,H2 a=some (.dK kvs)/\y=kV k/\bA kvs k=some v/\Q v (upd H2 a (.dK (cJ kvs k)))
section
variable {X:Cx} {o e f:Expr} {apos cpos:Pos} {td ty tx:TE}
theorem HX (hu:X.A.units+1 < cLine) (ho:PE X o td) (he:PE X e ty) (hf:PE X f tx) (m:M2 X o "get" apos e f cpos):PE X (.Call (.Attribute o "get" apos) [e,f] [] cpos) (GB td ty tx):=by
 intro pins s σ H Q I h
 refine wpAny_Call_method m.base m.few m.line plainAttrs_dict slot_dict_get PySem.F.type_dict_get (cA (ho pins s σ H _ I h) fun u s1 ⟨x,H1,I1,rx,a,ex,d,q1⟩=>?_)
 subst ex
 obtain rfl:u=Value.ref a:=rx
 obtain ⟨t1,t2,_⟩:=IZ I1 d
 refine ⟨t1,t2,?_⟩
 rw [m.trees]
 refine Calls.callWith_builtin rfl (Calls.evalArgs_plain (Calls.spliced_cons (cA (he pins s1 σ H1 _ I1 q1) fun iv s2 ⟨y,H2,I2,ry,q2⟩ =>
  Calls.spliced_cons (cA (hf pins s2 σ H2 _ I2 q2) fun fv s3 ⟨z,H3,I3,rz,ov,g,q3⟩=>Calls.spliced_nil ?_))))
 exact UW hu I3 g ry rz fun w' s4 I4 rw'=>⟨_,H3,I4,rw',q3⟩
theorem HV (ho:PE X o td) (he:PE X e ty) (m:M1 X o "pop" apos e cpos):PE X (.Call (.Attribute o "pop" apos) [e] [] cpos) (FY td ty):=by
 intro pins s σ H Q I h
 refine wpAny_Call_method m.base m.few m.line plainAttrs_dict slot_dict_pop PySem.F.type_dict_pop (cA (ho pins s σ H _ I h) fun u s1 ⟨x,H1,I1,rx,a,ex,d,q1⟩=>?_)
 subst ex
 obtain rfl:u=Value.ref a:=rx
 obtain ⟨t1,t2,_⟩:=IZ I1 d
 refine ⟨t1,t2,?_⟩
 rw [m.trees]
 refine Calls.callWith_builtin rfl (Calls.evalArgs_plain (Calls.spliced_cons (cA (he pins s1 σ H1 _ I1 q1) fun iv s2 ⟨y,H2,I2,ry,kvs,k,v,ea,ey,l,q2⟩=>Calls.spliced_nil ?_)))
 subst ey
 exact ZV I2 ea ry l (.inl rfl) fun w' s3 I3 rw'=>⟨v,_,I3,rw',q2⟩
end
section
variable {X:Cx} {pins:List (Addr×Obj)} {σ:St} {H:Hp} {s:Shared} {a:Addr} {kvs:List (aH×V)} {A:Around} {E:Value -> Shared -> Prop}
end
section
variable {X:Cx} {pins:List (Addr×Obj)} {σ:St} {H:Hp} {s:Shared} {a:Addr} {y:V} {u:Value} {A:Around} {E:Value -> Shared -> Prop}
end
end
section
section
variable {κ:Type} [DecidableEq κ]
theorem EU {p:κ×V}{r:List (κ×V)}{k:κ} (e:p.1=k):cJ (p::r) k=cJ r k:=by
 unfold cJ
 rw [filter_cons,if_neg (by simp [e])]
theorem EV {p:κ×V}{r:List (κ×V)}{k:κ} (e:¬ p.1=k):cJ (p::r) k=p::cJ r k:=by
 unfold cJ
 rw [filter_cons,if_pos (by simp [e])]
end
end
section
noncomputable def Sm (n:Nat) (x:Int):Prop:=x.natAbs < 2 ^ n
theorem Sm.mono {m n:Nat}{x:Int} (h:Sm m x) (l:m<=n):Sm n x:=lt_of_lt_of_le h (Nat.pow_le_pow_right (by decide) l)
theorem Sm.bits {n:Nat}{x:Int} (h:Sm n x):Builtin.Int.intBits x<=n:=by
  unfold Builtin.Int.intBits
  split
  . exact zero_le _
  . have hn:x.natAbs < 2 ^ n:=h
    rename_i hx
    have h0 : x.natAbs ≠ 0 := fun e => hx (by have : x = 0 := by omega
                                              rw [this]; rfl)
    have:x.natAbs.log2 < n:=(Nat.log2_lt h0).mpr hn
    omega
theorem Sm.mulOk {a b:Int}{m n:Nat} (ha:Sm m a) (hb:Sm n b) (h:m+n<=134217728):IntMulOk a b:=PyProof.Rows.mulOk_of_bits ha.bits hb.bits h
theorem Sm.log2 {n:Nat}{x:Int} (h:Sm n x):x.natAbs.log2 < n+1:=by
 have hn:x.natAbs < 2 ^ n:=h
 by_cases h0:x.natAbs=0
 ·rw [h0,Nat.log2_zero]; omega
 ·have:=(Nat.log2_lt h0).mpr hn
  omega
theorem Sm.of {n:Nat}{x:Int} (h1:-(2 ^ n:Nat) < x) (h2:x < (2 ^ n:Nat)):Sm n x:=by
 unfold Sm
 generalize 2 ^ n=k at *
 omega
theorem Sm.mul {a b:Int}{m n:Nat} (ha:Sm m a) (hb:Sm n b):Sm (m+n) (a * b):=by
 unfold Sm at *
 rw [Int.natAbs_mul,Nat.pow_add]
 exact Nat.mul_lt_mul'' ha hb
theorem Sm.le {a b:Int}{n:Nat} (h:a.natAbs<=b.natAbs) (hb:Sm n b):Sm n a:=lt_of_le_of_lt h hb
section
variable {X:Cx}
noncomputable def kY (_ j:Int):Prop:=j≠0/\Sm 8000 j
theorem bI:jG X (binaryOp .FloorDiv) (rI kY fun i j=>.int (i.fdiv j)):=ZB fun _ _ _ _ _ _ _ hc q=>floordiv_int hc.1 q (.inl (PyProof.noPylong_of_log2 (lt_trans hc.2.log2 (by decide))))
noncomputable def eN (i j:Int):Prop:=VN i j∨(Sm 60000000 i/\Sm 60000000 j)
theorem eN.ok {i j:Int} (h:eN i j):IntMulOk i j:=by
 rcases h with h|⟨h1,h2⟩
 ·exact h.ok
 ·exact h1.mulOk h2 (by decide)
theorem eN.l {i j:Int} (h1:-(2 ^ 64) < i) (h2:i < 2 ^ 64):eN i j:=.inl (.inl ⟨h1,h2⟩)
theorem eN.r {i j:Int} (h1:-(2 ^ 64) < j) (h2:j < 2 ^ 64):eN i j:=.inl (.inr ⟨h1,h2⟩)
theorem eN.s {i j:Int}{m n:Nat} (h1:Sm m i) (h2:Sm n j) (hm:m<=60000000) (hn:n<=60000000):eN i j:=.inr ⟨h1.mono hm,h2.mono hn⟩
theorem bE:jG X (binaryOp .Mult) (rI eN fun i j=>.int (i * j)):=ZB fun _ _ _ _ _ _ _ hc q=>mul_int q hc.ok
end
section
variable {σ:St} {H H':Hp} {Q:VK} {D:dC} {t u:TS} {te ta tb:TE} {v w x:V} {i j:Int} {b c:Bool} {X:Cx} {K:Frag}
theorem WU {n:Nat} (h:σ[n]?=some (some v)) (k:Q v H):RH n σ H Q:=⟨v,h,k⟩
theorem r_c (k:Q v H):tC v σ H Q:=k
theorem GY (k:t ⟨u D,D.rt,D.bk,D.ct⟩ σ H):WG t u D σ H:=k
theorem XE {n r b' c'} (k:n σ H):dC.nx ⟨n,r,b',c'⟩ σ H:=k
theorem Bb {n r b' c'} (k:r v H):dC.rt ⟨n,r,b',c'⟩ v H:=k
theorem Bh {n r b' c'} (k:c' σ H):dC.ct ⟨n,r,b',c'⟩ σ H:=k
theorem RV (k:D.nx σ H):OU D σ H:=k
theorem SG (k:D.ct σ H):PB D σ H:=k
theorem YH {g:TG} (k:te σ H fun x H1=>g x σ H1 D.nx):LN te g D σ H:=k
theorem MG {n:Nat}{R:St->Hp->Prop} (k:R (σ.set n (some v)) H):nM n v σ H R:=k
theorem Be {r:R2} (k:ta σ H fun x H1=>tb σ H1 fun y H2=>r x y H2 Q):VO r ta tb σ H Q:=k
theorem Az {r} (k:ta σ H fun x H1=>r x H1 Q):Ck r ta σ H Q:=k
theorem YK {g} (k:Q (g i j) H):KW g (.int i) (.int j) H Q:=⟨i,j,rfl,rfl,k⟩
theorem VP {C g} (c:C i j) (k:Q (g i j) H):rI C g (.int i) (.int j) H Q:=⟨i,j,rfl,rfl,c,k⟩
theorem r_U {g} (k:Q (g i) H):rU g (.int i) H Q:=⟨i,rfl,k⟩
noncomputable def bK (R:Bool->Hp->Prop):VK:=fun x H=>∃ k,x=.bl k/\R k H
theorem Bj {R:Bool->Hp->Prop} (k:R b H):bK R (.bl b) H:=⟨b,rfl,k⟩
theorem RO {R:Bool->Hp->Prop} (k:te σ H (bK R)):OT te σ H R:=k
theorem Ba {R:Bool->Hp->Prop} (k:te σ H (bK R)):tB te σ H R:=k
theorem XQ {tc:TT} (k:tc σ H fun b H1=>if b=true then t D σ H1 else u D σ H1):WM tc t u D σ H:=k
theorem Bg {tc:TT} (k:tc σ H fun b H1=>if b=true then ta σ H1 Q else tb σ H1 Q):Cm tc ta tb σ H Q:=k
theorem YI {ca cb:TT}{R:Bool->Hp->Prop} (k:ca σ H fun c H1=>if c=true then cb σ H1 R else R false H1):WQ ca cb σ H R:=k
theorem Bc {ca cb:TT}{R:Bool->Hp->Prop} (k:ca σ H fun c H1=>if c=true then R true H1 else cb σ H1 R):Cl ca cb σ H R:=k
theorem XF {ca:TT}{R:Bool->Hp->Prop} (k:ca σ H fun c H1=>R (!c) H1):WL ca σ H R:=k
noncomputable def ZX (tb:TE) (σ:St) (Q:VK):VK:=fun x H1=>∃ c,x=.bl c/\if c=true then tb σ H1 Q else Q (.bl false) H1
theorem SM (k:ta σ H (ZX tb σ Q)):PD ta tb σ H Q:=k
theorem SN (k:if c=true then tb σ H Q else Q (.bl false) H):ZX tb σ Q (.bl c) H:=⟨c,rfl,k⟩
theorem WZ (k:te σ H D.rt):WI te D σ H:=k
theorem SC (k:te σ H fun _ H1=>D.nx σ H1):OY te D σ H:=k
theorem PN {R:List V->Hp->Prop} (k:R [] H):qQ σ H R:=k
theorem SH {tr:TA}{R:List V->Hp->Prop} (k:ta σ H fun x H1=>tr σ H1 fun xs H2=>R (x::xs) H2):nJ ta tr σ H R:=k
noncomputable def RD (Q:VK):List V->Hp->Prop:=fun xs H1=>xs.length<=sizeLine/\∀ p,H1 p=none->Q (.ref p) (upd H1 p (.tup xs))
noncomputable def TX (Q:VK):List V->Hp->Prop:=fun xs H1=>xs.length<=sizeLine/\∀ p,H1 p=none->Q (.ref p) (upd H1 p (.lst xs))
theorem kA {n:Nat} (h:n<=1000):n<=sizeLine:=le_of_lt (eQ h)
theorem WV {tr:TA} (k:tr σ H (RD Q)):WE tr σ H Q:=k
theorem PP {tr:TA} (k:tr σ H (TX Q)):DC tr σ H Q:=k
theorem bZ {xs:List V} (k:∀ p,H p=none->Q (.ref p) (upd H p (.tup xs))) (h:xs.length<=1000:=by exact Nat.le_of_ble_eq_true rfl):RD Q xs H:=⟨kA h,k⟩
theorem cL {xs:List V} (k:∀ p,H p=none->Q (.ref p) (upd H p (.lst xs))) (h:xs.length<=1000:=by exact Nat.le_of_ble_eq_true rfl):TX Q xs H:=⟨kA h,k⟩
theorem SJ {sp:Sp}{E:XK}{tr:TA} (k:tr σ H fun vs H1=>sp vs H1 Q E):rF sp [] E tr σ H Q:=by
 show tr σ H fun vs H1=>sp (vs++[]) H1 Q E
 have e:(fun (vs:List V) H1=>sp (vs++[]) H1 Q E)=fun vs H1=>sp vs H1 Q E:=by
  funext vs H1
  rw [append_nil]
 rw [e]; exact k
theorem Bk {r}{tr:TA} (k:tr σ H fun vs H1=>r vs H1 Q):Ak r tr σ H Q:=k
theorem XA {n m:Nat}{ta:TA} (k:ta σ H fun vs H1=>∃ v w,vs=[v,w]/\D.nx ((σ.set n (some v)).set m (some w)) H1):WJ n m ta D σ H:=k
theorem XU (k:Q (.bl (decide (i=j))) H):Bp (.int i) (.int j) H Q:=⟨rfl,by rw [oN,Bool.beq_eq_decide_eq]; exact k⟩
theorem XG (k:Q (.bl (!decide (i=j))) H):Al (.int i) (.int j) H Q:=⟨rfl,by rw [oN,Bool.beq_eq_decide_eq]; exact k⟩
theorem XH (k:Q (.bl (!(b==c))) H):Al (.bl b) (.bl c) H Q:=⟨rfl,by rw [zS]; exact k⟩
theorem PR {p:Addr}{xs:List V} (h:bX K H p xs) (e:sZ xs i=some v) (k:Q v H):MR K (.ref p) (.int i) H Q:=⟨p,xs,i,v,rfl,rfl,h,e,k⟩
theorem XN {p:Addr}{xs:List V} (h:AD K H p xs) (e:sZ xs i=some v) (k:Q v H):MQ K (.ref p) (.int i) H Q:=⟨p,xs,i,v,rfl,rfl,h,e,k⟩
noncomputable def pF (K:Frag):R2:=fun x y H Q=>MR K x y H Q∨MQ K x y H Q∨SQ x y H Q
theorem eI:KP X (pF X.K):=UI
theorem fE {p:Addr}{xs:List V} (h:H p=some (.lst xs)) (e:sZ xs i=some v) (k:Q v H):pF K (.ref p) (.int i) H Q:=.inl (PR (bX.of h) e k)
theorem XL {p:Addr}{xs:List V} (h:H p=some (.tup xs)) (e:sZ xs i=some v) (k:Q v H):pF K (.ref p) (.int i) H Q:=.inr (.inl (XN (AD.of h) e k))
theorem i_T {A B:Prop} (h:A):if true=true then A else B:=ZI h
theorem i_F {A B:Prop} (h:B):if false=true then A else B:=ZJ h
theorem ZK {p A B:Prop} [Decidable p] (hp:p) (h:A):if decide p=true then A else B:=by rw [decide_eq_true hp]; exact ZI h
theorem ZL {p A B:Prop} [Decidable p] (hp:¬ p) (h:B):if decide p=true then A else B:=by rw [decide_eq_false hp]; exact ZJ h
theorem xI {p A B:Prop} [Decidable p] (h1:p->A) (h2:¬ p->B):if decide p=true then A else B:=by
 by_cases h:p
 ·exact ZK h (h1 h)
 ·exact ZL h (h2 h)
theorem UN {A B:Prop} (h:if b=true then B else A):if (!b)=true then A else B:=by cases b <;> exact h
end
noncomputable def Kp (p:Addr) (H H':Hp):Prop:=∀ b o,b≠p->H b=some o->H' b=some o
theorem Kp.refl (p:Addr) (H:Hp):Kp p H H:=fun _ _ _ h=>h
theorem Kp.trans {p:Addr}{H H1 H2:Hp} (a:Kp p H H1) (b:Kp p H1 H2):Kp p H H2:=fun c o n h=>b c o n (a c o n h)
theorem Kp.upd {p:Addr}{H:Hp}{o:HO}:Kp p H (upd H p o):=fun c u n h=>by rw [aJ n]; exact h
theorem Kp.new {p q:Addr}{H:Hp}{o:HO} (hq:H q=none):Kp p H (L2.upd H q o):=fun c u n h=>by rw [aJ (aA h hq)]; exact h
theorem aI.new {q:Addr}{H:Hp}{o:HO} (hq:H q=none):aI H (upd H q o):=fun c u h=>by rw [aJ (aA h hq)]; exact h
theorem aI.kp {p:Addr}{H H':Hp} (s:aI H H'):Kp p H H':=fun c o _ h=>s c o h
noncomputable def Ct (H:Hp) (p:Addr) (n:Int):Prop:=∃ a b c:Int,H p=some (.lst [.int a,.int b,.int c])/\0<=a/\0<=b/\b<=n
structure Df (K:Frag) (mg:Str->Option Value) (x:Str) (st:Stmt) (ps:List Str):Prop where
 ex:∃ (f:Addr) (fd:FuncData),(∃ (oc:Value) (od:Option Addr) (dV kV doc pm:Value) (an:Option Addr) (cdv ct:Value) (osl:Array (Option Value)),
  fd=fnOf x x (aW st) (aR st) (aD st) dV kV doc pm an cdv ct/\K.lookup f=some ⟨oc,od,.func fd,osl⟩/\PySem.W.codeIn K cdv x=true)/\keepIn K (.ref f)=true/\mg x=some (.ref f)/\fM K fd ps []
structure bJ (P:Program) (w:World) (K:Frag) (mg:Str->Option Value) (base:Heap) (k:Nat) (x:Str) (ps:List Str) (sp:Sp):Prop where
 ex:∃ (f:Addr) (fd:FuncData),mg x=some (.ref f)/\keepIn K (.ref f)=true/\fM K fd ps []/\kL P w K mg base FN k f fd ps sp
theorem bJ.mono {P:Program}{w:World}{K:Frag}{mg:Str->Option Value}{base:Heap}{j k:Nat}{x:Str}{ps:List Str}{sp:Sp} (o:bJ P w K mg base j x ps sp) (h:j<=k):bJ P w K mg base k x ps sp:=
 let ⟨f,fd,a,b,c,d⟩:=o.ex; ⟨f,fd,a,b,c,d.mono h⟩
theorem bJ.of {P:Program}{w:World}{K:Frag}{mg:Str->Option Value}{base:Heap}{k:Nat}{x:Str}{st:Stmt}{N ps:List Str}{sp:Sp} (d:Df K mg x st ps) (S:aO N ps (aD st)) (len:∀ vs H Q E,sp vs H Q E->vs.length=ps.length)
  (hbody:∀ (f:Addr) (cdv:Value) (A:Around) (outer:List Env) (s:Shared) (H:Hp) (vs:List V) (Q:VK) (E:XK),eP k (A.deeper (envOfC x (aD st) s.heap.objs.size f cdv))->sp vs H Q E ->
   ∃ t,tI (mQ FN P w K mg base N x (aD st) f cdv A outer s H E).nox (aR st) t/\t { nx:=fun _ H'=>Q .non H',rt:=Q } (start N vs) H):bJ P w K mg base (k+1) x ps sp:=by
 obtain ⟨f,fd,⟨oc,od,dV,kV,doc,pm,an,cdv,ct,osl,rfl,lk,hcd⟩,kp,a,b⟩:=d.ex
 refine ⟨f,_,a,kp,b,sQ lk hcd S len fun A outer s H vs Q E hr hsp=>?_⟩
 obtain ⟨t,h,q⟩:=hbody f cdv A outer s H vs Q E hr hsp
 exact ⟨t,h.nox,q⟩
theorem ZU {K:Frag}{mg:Str->Option Value}{h:Heap}{x:Str}{st:Stmt}{ps:List Str}{f:Addr}{oc:Value}{od an:Option Addr}{osl:Array (Option Value)}{dV kV doc pm cdv ct:Value} (X:K.In h) (G:h.Ns mainGlobals mg)
  (a:nsIn K mainGlobals x=some (some (.ref f))) (l:K.lookup f=some ⟨oc,od,.func (fnOf x x (aW st) (aR st) (aD st) dV kV doc pm an cdv ct),osl⟩)
  (c:PySem.W.codeIn K cdv x=true) (k:keepIn K (.ref f)=true)
  (b:∀ us:List Value,us.length=ps.length->bindArgs (fnOf x x (aW st) (aR st) (aD st) dV kV doc pm an cdv ct) ⟨us,[]⟩=pure (ps.zip us)):Df K mg x st ps:=
 ⟨f,_,⟨oc,od,dV,kV,doc,pm,an,cdv,ct,osl,rfl,l,c⟩,k,mg_of X G a,.all b⟩
structure VY (K:Frag) (mg:Str->Option Value) (x:Str) (st:Stmt) (ps:List Str) (dvs:List V):Prop where
 ex:∃ (f:Addr) (fd:FuncData),(∃ (oc:Value) (od:Option Addr) (dV kV doc pm:Value) (an:Option Addr) (cdv ct:Value) (osl:Array (Option Value)),
  fd=fnOf x x (aW st) (aR st) (aD st) dV kV doc pm an cdv ct/\K.lookup f=some ⟨oc,od,.func fd,osl⟩/\PySem.W.codeIn K cdv x=true)/\keepIn K (.ref f)=true/\mg x=some (.ref f)/\fM K fd ps []/\∃ ds,aQ dvs ds/\fM K fd ps ds
structure lK (P:Program) (w:World) (K:Frag) (mg:Str->Option Value) (base:Heap) (k:Nat) (x:Str) (ps:List Str) (dvs:List V) (sp:Sp):Prop where
 ex:∃ (f:Addr) (fd:FuncData),mg x=some (.ref f)/\keepIn K (.ref f)=true/\fM K fd ps []/\(∃ ds,aQ dvs ds/\fM K fd ps ds)/\kL P w K mg base FN k f fd ps sp
theorem lK.mono {P:Program}{w:World}{K:Frag}{mg:Str->Option Value}{base:Heap}{j k:Nat}{x:Str}{ps:List Str}{dvs:List V}{sp:Sp} (o:lK P w K mg base j x ps dvs sp) (h:j<=k):lK P w K mg base k x ps dvs sp:=
 let ⟨f,fd,a,b,c,e,d⟩:=o.ex; ⟨f,fd,a,b,c,e,d.mono h⟩
theorem lK.f {P:Program}{w:World}{K:Frag}{mg:Str->Option Value}{base:Heap}{k:Nat}{x:Str}{ps:List Str}{dvs:List V}{sp:Sp} (o:lK P w K mg base k x ps dvs sp):bJ P w K mg base k x ps sp:=
 let ⟨f,fd,a,b,c,_,d⟩:=o.ex; ⟨f,fd,a,b,c,d⟩
theorem lK.of {P:Program}{w:World}{K:Frag}{mg:Str->Option Value}{base:Heap}{k:Nat}{x:Str}{st:Stmt}{N ps:List Str}{dvs:List V}{sp:Sp} (d:VY K mg x st ps dvs) (S:aO N ps (aD st)) (len:∀ vs H Q E,sp vs H Q E->vs.length=ps.length)
  (hbody:∀ (f:Addr) (cdv:Value) (A:Around) (outer:List Env) (s:Shared) (H:Hp) (vs:List V) (Q:VK) (E:XK),eP k (A.deeper (envOfC x (aD st) s.heap.objs.size f cdv))->sp vs H Q E ->
   ∃ t,tI (mQ FN P w K mg base N x (aD st) f cdv A outer s H E).nox (aR st) t/\t { nx:=fun _ H'=>Q .non H',rt:=Q } (start N vs) H):lK P w K mg base (k+1) x ps dvs sp:=by
 obtain ⟨f,fd,⟨oc,od,dV,kV,doc,pm,an,cdv,ct,osl,rfl,lk,hcd⟩,kp,a,b,b2⟩:=d.ex
 refine ⟨f,_,a,kp,b,b2,sQ lk hcd S len fun A outer s H vs Q E hr hsp=>?_⟩
 obtain ⟨t,h,q⟩:=hbody f cdv A outer s H vs Q E hr hsp
 exact ⟨t,h.nox,q⟩
theorem JX {K:Frag}{mg:Str->Option Value}{h:Heap}{x:Str}{st:Stmt}{ps:List Str}{f T:Addr}{oc:Value}{od an:Option Addr}{osl:Array (Option Value)}{kV doc pm cdv ct:Value}{o:Obj}{items:Array Value}{n:Nat}{dvs:List V}{ds:List Value} (X:K.In h) (G:h.Ns mainGlobals mg)
  (a:nsIn K mainGlobals x=some (some (.ref f))) (l:K.lookup f=some ⟨oc,od,.func (fnOf x x (aW st) (aR st) (aD st) (.ref T) kV doc pm an cdv ct),osl⟩)
  (c:PySem.W.codeIn K cdv x=true) (k:keepIn K (.ref f)=true) (t:K.lookup T=some o) (ho:o.data=.seq items n)
  (b:∀ (s:Shared) (us:List Value),s.heap.get? T=some o->us.length=ps.length->BindsTo s (fnOf x x (aW st) (aR st) (aD st) (.ref T) kV doc pm an cdv ct) ⟨us,[]⟩ (ps.zip us)) (hv:aQ dvs ds)
  (b2:∀ (s:Shared) (us:List Value),s.heap.get? T=some o->(us++ds).length=ps.length->BindsTo s (fnOf x x (aW st) (aR st) (aD st) (.ref T) kV doc pm an cdv ct) ⟨us,[]⟩ (ps.zip (us++ds))):VY K mg x st ps dvs:=
 ⟨f,_,⟨oc,od,.ref T,kV,doc,pm,an,cdv,ct,osl,rfl,l,c⟩,k,mg_of X G a,fun s us KI hl=>by rw [append_nil] at hl ⊢; exact b s us (KI T o t) hl,ds,hv,fun s us KI hl=>b2 s us (KI T o t) hl⟩
section
variable {X:Cx} {k:Nat} {x:Str} {ps:List Str} {dvs:List V} {sp:Sp} {p pos:Pos} {e:Expr} {es:List Expr} {t:TA}
theorem MN {σ:St}{H:Hp}{Q:VK}{E:XK}{tr:TA} (k:tr σ H fun vs H1=>sp (vs++dvs) H1 Q E):rF sp dvs E tr σ H Q:=k
end
section
variable {X:Cx} {k:Nat} {x:Str} {ps:List Str} {sp:Sp} {p pos:Pos} {e:Expr} {es:List Expr} {t:TA}
theorem aG (o:bJ X.prog X.w X.K X.mg X.base k x ps sp) (hr:eP k X.A) (hg:Gl X x) (ha:PA X (e::es) t) (hdb:(x==("__debug__":Str))=false:=by decide)
  (he:starEach (e::es) X.env=(false,eval e X.env)::starEach es X.env:=by rfl) (hpl:(backTo pos (starEach es X.env)).any (·.1)=false:=by rfl) :
  PE X (.Call (.Name x p) (e::es) [] pos) (rF sp [] E0 t):=by
 obtain ⟨f,fd,a,b,c,d⟩:=o.ex
 exact uN d hr hg a b c .nil YV ha hdb he hpl
end
section
variable {σ:St} {H:Hp} {Q:VK} {D:dC} {v:V} {i j:Int} {K:Frag}
theorem XM {p:Addr}{xs:List V} (h:bX K H p xs) (e:sZ xs i=some v) (k:Q v H):pF K (.ref p) (.int i) H Q:=.inl (PR h e k)
theorem PO (h:0 < j) (k:Q (.int (i % j)) H):rI (fun _ j=>0 < j) (fun i j=>.int (i % j)) (.int i) (.int j) H Q:=VP h k
theorem kN (h:eN i j) (k:Q (.int (i * j)) H):rI eN (fun i j=>.int (i * j)) (.int i) (.int j) H Q:=VP h k
theorem kY.of (h0:0 < j) (h1:j < 2 ^ 64):kY i j:=⟨by omega,Sm.mono (m:=64) (Sm.of (by omega) (by omega)) (by decide)⟩
theorem iF (h:kY i j) (k:Q (.int (i.fdiv j)) H):rI kY (fun i j=>.int (i.fdiv j)) (.int i) (.int j) H Q:=VP h k
theorem RS (k:Q (.int 1000000000) H):rI VM (fun i j=>.int (i ^ j.toNat)) (.int 10) (.int 9) H Q:=VP ⟨by decide,by decide,by decide⟩ k
theorem RT {n m:Nat}{w:V} (k:D.nx ((σ.set n (some v)).set m (some w)) H):∃ v' w',[v,w]=[v',w']/\D.nx ((σ.set n (some v')).set m (some w')) H:=⟨v,w,rfl,k⟩
end
theorem OH:bootBuiltins "list"=some (.type "list"):=by decide +kernel
theorem vJ:bootBuiltins "dict"=some (.type "dict"):=by decide +kernel
theorem KA:bootBuiltins "set"=some (.type "set"):=by decide +kernel
theorem vI:bootBuiltins "enumerate"=some (.type "enumerate"):=by decide +kernel
theorem UY:bootBuiltins "zip"=some (.type "zip"):=by decide +kernel
theorem xR:bootBuiltins "reversed"=some (.type "reversed"):=by decide +kernel
theorem gM:bootBuiltins "len"=some (.builtin "len"):=by decide +kernel
theorem KB:bootBuiltins "abs"=some (.builtin "abs"):=by decide +kernel
theorem UZ:bootBuiltins "min"=some (.builtin "min"):=by decide +kernel
theorem nF:bootBuiltins "sorted"=some (.builtin "sorted"):=by decide +kernel
structure Bl (mg:Str->Option Value):Prop where
 z_int:mg "int"=none
 z_bool:mg "bool"=none
 z_str:mg "str"=none
 z_list:mg "list"=none
 z_tuple:mg "tuple"=none
 z_dict:mg "dict"=none
 z_set:mg "set"=none
 z_range:mg "range"=none
 z_enumerate:mg "enumerate"=none
 z_zip:mg "zip"=none
 z_reversed:mg "reversed"=none
 z_len:mg "len"=none
 z_abs:mg "abs"=none
 z_max:mg "max"=none
 z_min:mg "min"=none
 z_isinstance:mg "isinstance"=none
 z_sorted:mg "sorted"=none
 z_all:mg "all"=none
 z_any:mg "any"=none
 z_sum:mg "sum"=none
section
variable {K:Frag} {H:Hp} {Q:VK}
end
section
variable {X:Cx} {K:Frag} {σ:St} {H:Hp} {Q:VK} {D:dC} {i j:Int} {b:Bool}
noncomputable def YR:List V->Hp->VK->Prop:=fun xs H Q=>∃ i,xs=[.int i]/\Q (.int (if i < 0 then -i else i)) H
theorem QW:jJ X (.builtin "abs") YR:=JZ
theorem YJ (k:Q (.int (if i < 0 then -i else i)) H):YR [.int i] H Q:=⟨i,rfl,k⟩
noncomputable def MP (K:Frag):List V->Hp->VK->Prop:=fun xs H Q=>∃ x n,xs=[x]/\Ag K x H n/\Q (.int n) H
theorem jV:jJ X (.builtin "len") (MP X.K):=JY
theorem HH {p:Addr}{xs:List V} (h:bX K H p xs) (k:Q (.int xs.length) H):MP K [.ref p] H Q:=⟨_,_,rfl,.inl ⟨xs,h,rfl⟩,k⟩
theorem HG {p:Addr}{xs:List V} (h:H p=some (.lst xs)) (k:Q (.int xs.length) H):MP K [.ref p] H Q:=HH (bX.of h) k
theorem uB {x:Str} (h:x.length<=sizeLine) (k:Q (.int x.length) H):MP K [.str x] H Q:=⟨_,_,rfl,⟨h,rfl⟩,k⟩
noncomputable def xJ (g:TG) (tb:TS) (D:dC) (σ:St):It->Hp->Prop:=fun J H1=>∃ W:Nat->Nat->St->Hp->Prop,(∃ m,W 0 m σ H1)/\∀ i m σ H,W i m σ H ->
 (J.stop i H/\D.nx σ H)∨(J.go i H/\∃ N:St->Hp->Prop,(∀ σ' H',N σ' H'->∃ m',m' < m/\W (i+1) m' σ' H')/\∀ x H',J.yld i H x H'->g x σ H' fun σ2 H2=>tb { D with nx:=N,ct:=N,bk:=D.nx } σ2 H2)
theorem XR {wi:TI}{g:TG}{tb:TS} (k:wi σ H (xJ g tb D σ)):LM wi g tb D σ H:=k
noncomputable def WT (R:It->Hp->Prop):List V->Hp->Prop:=fun vs H1=>∃ j:Int,vs=[.int j]/\-(2 ^ 62)<=j/\j < 2 ^ 62/\R (LG 0 j.toNat) H1
noncomputable def WS (R:It->Hp->Prop):List V->Hp->Prop:=fun vs H1=>∃ i j:Int,vs=[.int i,.int j]/\(-(2 ^ 62)<=i/\i < 2 ^ 62/\-(2 ^ 62)<=j/\j < 2 ^ 62)/\R (LG i (j - i).toNat) H1
theorem RQ {ta:TA}{R:It->Hp->Prop} (k:ta σ H (WT R)):QO ta σ H R:=k
theorem RP {ta:TA}{R:It->Hp->Prop} (k:ta σ H (WS R)):QN ta σ H R:=k
theorem uC {lo:Int}{n:Nat}{g:TG}{tb:TS} (Pv:Nat->St->Hp->Prop) (h0:Pv 0 σ H)
  (hs:∀ i σ H,i < n->Pv i σ H->g (.int (lo+i)) σ H fun σ2 H2=>tb ⟨Pv (i+1),D.rt,D.nx,Pv (i+1)⟩ σ2 H2) (hd:∀ σ H,Pv n σ H->D.nx σ H):xJ g tb D σ (LG lo n) H:=EO Pv h0 hs hd
noncomputable def QK (K:Frag) (R:It->Hp->Prop):VK:=fun x H1=>∃ a,x=.ref a/\(∃ xs,bX K H1 a xs)/\R (LH K a) H1
theorem MD {tl:TE}{R:It->Hp->Prop} (k:tl σ H (QK K R)):QP K tl σ H R:=k
theorem cG {a:Addr}{xs:List V}{R:It->Hp->Prop} (h:bX K H a xs) (k:R (LH K a) H):QK K R (.ref a) H:=⟨a,rfl,⟨xs,h⟩,k⟩
theorem nC {a:Addr}{xs:List V}{g:TG}{tb:TS} (Pv:Nat->St->Hp->Prop) (h0:Pv 0 σ H) (hl:∀ i σ H,i<=xs.length->Pv i σ H->bX K H a xs)
  (hs:∀ i x σ H,xs[i]?=some x->Pv i σ H->g x σ H fun σ2 H2=>tb ⟨Pv (i+1),D.rt,D.nx,Pv (i+1)⟩ σ2 H2) (hd:∀ σ H,Pv xs.length σ H->D.nx σ H):xJ g tb D σ (LH K a) H:=JK Pv h0 hl hs hd
end
end
end L2
namespace L2
open PySem
noncomputable def sg (t b:Int):Int:=if b < 0 then 0 - (Int.gcd t b:Int) else (Int.gcd t b:Int)
noncomputable def eO (t b:Int):Int:=t.fdiv (sg t b)
noncomputable def eA (t b:Int):Int:=b.fdiv (sg t b)
theorem mJ {t b:Int} (h:b≠0):0 < Int.gcd t b:=Nat.pos_of_ne_zero fun e=>h (Int.gcd_eq_zero_iff.mp e).2
theorem GJ {t b:Int} (h:b≠0):sg t b≠0:=by
 have:=mJ (t:=t) h
 unfold sg
 split <;> omega
theorem GL (t b:Int):sg t b ∣ t:=by
 unfold sg
 split
 ·exact (Int.zero_sub _ ▸ Int.neg_dvd.mpr (Int.gcd_dvd_left ..))
 ·exact Int.gcd_dvd_left ..
theorem GK (t b:Int):sg t b ∣ b:=by
 unfold sg
 split
 ·exact (Int.zero_sub _ ▸ Int.neg_dvd.mpr (Int.gcd_dvd_right ..))
 ·exact Int.gcd_dvd_right ..
theorem mO {a g:Int} (hg:g≠0) (h:g ∣ a):a.fdiv g * g=a:=by
 obtain ⟨c,rfl⟩:=h
 rw [Int.mul_fdiv_cancel_left _ hg,Int.mul_comm]
theorem pT {t b:Int} (h:b≠0):eO t b * sg t b=t:=mO (GJ h) (GL t b)
theorem mH {t b:Int} (h:b≠0):eA t b * sg t b=b:=mO (GJ h) (GK t b)
theorem rQ (t b:Int):(sg t b).natAbs=Int.gcd t b:=by
 unfold sg
 split <;> omega
theorem pU {t b:Int} (h:b≠0):0 < eA t b:=by
 have e:=mH (t:=t) h
 have hp:=mJ (t:=t) h
 by_cases hb:b < 0
 ·have hs:sg t b < 0:=by unfold sg; rw [if_pos hb]; omega
  rcases Int.lt_or_le 0 (eA t b) with q|q
  ·exact q
  ·have:0<=eA t b * sg t b:=Int.mul_nonneg_of_nonpos_of_nonpos q (Int.le_of_lt hs)
   omega
 ·have hs:0 < sg t b:=by unfold sg; rw [if_neg hb]; omega
  rcases Int.lt_or_le 0 (eA t b) with q|q
  ·exact q
  ·have:eA t b * sg t b<=0:=Int.mul_nonpos_of_nonpos_of_nonneg q (Int.le_of_lt hs)
   omega
theorem BX {t b:Int} (h:b≠0):Int.gcd (eO t b) (eA t b)=1:=by
 have e1:=pT (t:=t) h
 have e2:=mH (t:=t) h
 have hp:=mJ (t:=t) h
 have e:Int.gcd (eO t b * sg t b) (eA t b * sg t b)=Int.gcd (eO t b) (eA t b) * (sg t b).natAbs:=Int.gcd_mul_right ..
 rw [e1,e2,rQ] at e
 have:1 * Int.gcd t b=Int.gcd (eO t b) (eA t b) * Int.gcd t b:=by omega
 exact (Nat.eq_of_mul_eq_mul_right hp this).symm
theorem EB {t b:Int} (h:b≠0):t * eA t b=b * eO t b:=by
 have e1:=pT (t:=t) h
 have e2:=mH (t:=t) h
 calc t * eA t b=(eO t b * sg t b) * eA t b:=by rw [e1]
  _=(eA t b * sg t b) * eO t b:=by rw [Int.mul_assoc,Int.mul_comm (sg t b),← Int.mul_assoc,Int.mul_comm (eO t b),Int.mul_assoc,Int.mul_comm (eO t b),← Int.mul_assoc]
  _=b * eO t b:=by rw [e2]
theorem eW {a g c:Int} (hg:g≠0) (e:a * g=c):a.natAbs<=c.natAbs:=by
 rw [← e,Int.natAbs_mul]
 exact Nat.le_mul_of_pos_right _ (by omega)
theorem JI {one other:Int} (h:0 < other):Int.gcd other (one % other)=Int.gcd one other:=by
 have e:one % other=one - (one / other) * other:=by rw [Int.emod_def,Int.mul_comm]
 rw [e,Int.gcd_comm other,Int.gcd_sub_mul_right_left]
theorem EN {one other:Int} (h:other≠0):Int.gcd other (one.fmod other)=Int.gcd one other:=by
 have e:one.fmod other=one - (one.fdiv other) * other:=by rw [Int.fmod_def,Int.mul_comm]
 rw [e,Int.gcd_comm other,Int.gcd_sub_mul_right_left]
theorem CI {k n m:Int} (h:k ∣ n * m) (g:Int.gcd k n=1):k ∣ m:=by
 have q:=Int.dvd_gcd_mul_iff_dvd_mul.mpr h
 rw [g] at q
 simpa using q
theorem IP {a b c d:Int} (hb:0 < b) (hd:0 < d) (h1:Int.gcd a b=1) (h2:Int.gcd c d=1) (e:a * d=c * b):a=c/\b=d:=by
 have k1:b ∣ d:=by
  have:b ∣ a * d:=⟨c,by rw [e,Int.mul_comm]⟩
  exact CI this (by rw [Int.gcd_comm]; exact h1)
 have k2:d ∣ b:=by
  have:d ∣ c * b:=⟨a,by rw [← e,Int.mul_comm]⟩
  exact CI this (by rw [Int.gcd_comm]; exact h2)
 have eb:b=d:=by
  have:=Int.le_of_dvd hd k1
  have:=Int.le_of_dvd hb k2
  omega
 subst eb
 exact ⟨Int.eq_of_mul_eq_mul_right (by omega) e,rfl⟩
theorem Bq {ns:List Int}{i:Int} (h0:0<=i) (h1:i < ns.length):∃ z,z∈ns/\sZ (ns.map V.int) i=some (.int z):=by
 have hk:i.toNat < ns.length:=by omega
 have ek:i=((i.toNat:Nat):Int):=by omega
 have q:sZ (ns.map V.int) ((i.toNat:Nat):Int)=some (.int ns[i.toNat]):=fT (by rw [List.getElem?_map,List.getElem?_eq_getElem hk] <;> rfl)
 rw [← ek] at q
 exact ⟨ns[i.toNat],List.getElem_mem hk,q⟩
theorem RW {i j:Int}{H:Hp}{Q:VK} (h:j≠0) (k:Q (.int (i.fmod j)) H):rI (fun _ j=>j≠0) (fun i j=>.int (i.fmod j)) (.int i) (.int j) H Q:=VP h k
theorem NP {a b:Int} (h:b≠0):(a.fmod b).natAbs < b.natAbs:=by
 have e:=Int.fmod_eq_emod (a:=a) (b:=b)
 have h1:=Int.emod_nonneg a h
 have h2:=Int.emod_lt a h
 rw [e]
 by_cases hc:0<=b∨b ∣ a
 ·rw [if_pos hc]
  omega
 ·rw [if_neg hc]
  have h3:a % b≠0:=fun z=>hc (.inr (Int.dvd_of_emod_eq_zero z))
  omega
theorem sK {t b:Int} (h:b≠0):eO t b * b=t * eA t b:=by rw [EB h,Int.mul_comm]
theorem TY {t b f g:Int} (hb:b≠0) (hg:0 < g) (hc:Int.gcd f g=1) (e:f * b=t * g):f=eO t b/\g=eA t b:=by
 have e1:=sK (t:=t) hb
 have hp:=pU (t:=t) hb
 refine IP hg hp hc (BX hb) ?_
 have:(f * eA t b) * b=(eO t b * g) * b:=by
  have a1:(f * eA t b) * b=(f * b) * eA t b:=by rw [Int.mul_assoc,Int.mul_comm (eA t b),← Int.mul_assoc]
  have a2:(eO t b * g) * b=(eO t b * b) * g:=by rw [Int.mul_assoc,Int.mul_comm g,← Int.mul_assoc]
  rw [a1,a2,e,e1,Int.mul_assoc,Int.mul_comm g,← Int.mul_assoc]
 exact Int.eq_of_mul_eq_mul_right hb this
end L2
namespace L2
open PySem PySem.Spec PyProof.Rows
section
inductive Dt where
|non|bl (b:Bool)|int (i:Int)|str (x:Str)|tup (xs:List Dt)|lst (xs:List Dt)
mutual
noncomputable def kX (H:Hp):Dt->V->Prop
|.non,v=>v=.non
|.bl b,v=>v=.bl b
|.int i,v=>v=.int i
|.str x,v=>v=.str x
|.tup ds,v=>∃ p vs,v=.ref p/\H p=some (.tup vs)/\fV H ds vs
|.lst ds,v=>∃ p vs,v=.ref p/\H p=some (.lst vs)/\fV H ds vs
noncomputable def fV (H:Hp):List Dt->List V->Prop
|[],vs=>vs=[]
|d::ds,vs=>∃ v r,vs=v::r/\kX H d v/\fV H ds r
end
mutual
noncomputable def vD:Dt->Dt->Bool
|.non,.non=>true
|.bl a,.bl b=>a==b
|.bl a,.int b=>(if a then 1 else 0)==b
|.int a,.bl b=>a==(if b then 1 else 0)
|.int a,.int b=>a==b
|.str a,.str b=>a==b
|.tup xs,.tup ys=>mP xs ys
|.lst xs,.lst ys=>mP xs ys
|_,_=>false
noncomputable def mP:List Dt->List Dt->Bool
|[],[]=>true
|x::xs,y::ys=>vD x y&&mP xs ys
|_,_=>false
end
mutual
noncomputable def sU:Dt->Nat
|.tup xs=>gI xs+1
|.lst xs=>gI xs+1
|_=>0
noncomputable def gI:List Dt->Nat
|[]=>0
|x::xs=>max (sU x) (gI xs)
end
theorem fV.length {H:Hp}:∀ {ds:List Dt}{vs:List V},fV H ds vs->ds.length=vs.length
|[],vs,h=>by rw [show vs=[] from h]; rfl
|d::ds,vs,h=>by
  obtain ⟨v,r,rfl,_,t⟩:=h
  rw [length_cons,length_cons,fV.length t]
mutual
theorem kX.same_eq {H:Hp}:∀ (d e:Dt) {x:V},kX H d x->kX H e x->vD d e=true
|.tup ds,.tup es,x,h1,h2=>by
  obtain ⟨p,vs,rfl,a,b⟩:=h1
  obtain ⟨q,ws,e1,c,d⟩:=h2
  cases e1
  rw [a] at c
  cases c
  exact fV.same_eq ds es b d
|.lst ds,.lst es,x,h1,h2=>by
  obtain ⟨p,vs,rfl,a,b⟩:=h1
  obtain ⟨q,ws,e1,c,d⟩:=h2
  cases e1
  rw [a] at c
  cases c
  exact fV.same_eq ds es b d
|.tup ds,.lst es,x,h1,h2=>by
  obtain ⟨p,vs,rfl,a,b⟩:=h1
  obtain ⟨q,ws,e1,c,d⟩:=h2
  cases e1
  rw [a] at c
  cases c
|.lst ds,.tup es,x,h1,h2=>by
  obtain ⟨p,vs,rfl,a,b⟩:=h1
  obtain ⟨q,ws,e1,c,d⟩:=h2
  cases e1
  rw [a] at c
  cases c
|.non,e,x,h1,h2=>by
  have h1:x=.non:=h1
  subst h1
  cases e <;> first|rfl|(have h2:V.non=_:=h2; cases h2)|(obtain ⟨_,_,z,_⟩:=h2; cases z)
|.bl b,e,x,h1,h2=>by
  have h1:x=.bl b:=h1
  subst h1
  cases e <;> first|(have h2:V.bl b=_:=h2; cases h2; exact beq_self_eq_true b)|(have h2:V.bl b=_:=h2; cases h2; done)|(obtain ⟨_,_,z,_⟩:=h2; cases z)
|.int b,e,x,h1,h2=>by
  have h1:x=.int b:=h1
  subst h1
  cases e <;> first|(have h2:V.int b=_:=h2; cases h2; exact beq_self_eq_true b)|(have h2:V.int b=_:=h2; cases h2; done)|(obtain ⟨_,_,z,_⟩:=h2; cases z)
|.str b,e,x,h1,h2=>by
  have h1:x=.str b:=h1
  subst h1
  cases e <;> first|(have h2:V.str b=_:=h2; cases h2; exact beq_self_eq_true b)|(have h2:V.str b=_:=h2; cases h2; done)|(obtain ⟨_,_,z,_⟩:=h2; cases z)
|.tup ds,.non,x,h1,h2=>by obtain ⟨p,vs,rfl,_⟩:=h1; have h2:V.ref p=_:=h2; cases h2
|.tup ds,.bl _,x,h1,h2=>by obtain ⟨p,vs,rfl,_⟩:=h1; have h2:V.ref p=_:=h2; cases h2
|.tup ds,.int _,x,h1,h2=>by obtain ⟨p,vs,rfl,_⟩:=h1; have h2:V.ref p=_:=h2; cases h2
|.tup ds,.str _,x,h1,h2=>by obtain ⟨p,vs,rfl,_⟩:=h1; have h2:V.ref p=_:=h2; cases h2
|.lst ds,.non,x,h1,h2=>by obtain ⟨p,vs,rfl,_⟩:=h1; have h2:V.ref p=_:=h2; cases h2
|.lst ds,.bl _,x,h1,h2=>by obtain ⟨p,vs,rfl,_⟩:=h1; have h2:V.ref p=_:=h2; cases h2
|.lst ds,.int _,x,h1,h2=>by obtain ⟨p,vs,rfl,_⟩:=h1; have h2:V.ref p=_:=h2; cases h2
|.lst ds,.str _,x,h1,h2=>by obtain ⟨p,vs,rfl,_⟩:=h1; have h2:V.ref p=_:=h2; cases h2
theorem fV.same_eq {H:Hp}:∀ (ds es:List Dt) {xs:List V},fV H ds xs->fV H es xs->mP ds es=true
|[],[],xs,_,_=>rfl
|[],e::es,xs,h1,h2=>by
  have h1:xs=[]:=h1
  subst h1
  obtain ⟨_,_,z,_⟩:=h2
  cases z
|d::ds,[],xs,h1,h2=>by
  have h2:xs=[]:=h2
  subst h2
  obtain ⟨_,_,z,_⟩:=h1
  cases z
|d::ds,e::es,xs,h1,h2=>by
  obtain ⟨v,r,rfl,a,b⟩:=h1
  obtain ⟨v',r',z,a',b'⟩:=h2
  cases z
  show (vD d e&&mP ds es)=true
  rw [kX.same_eq d e a a',fV.same_eq ds es b b']
  rfl
end
noncomputable def IJ (ds es:List Dt) (j:Nat):Bool:=match ds[j]?,es[j]? with
|some d,some e=>vD d e
|_,_=>false
theorem dJ:∀ (ds es:List Dt),((List.range (min ds.length es.length)).all (IJ ds es)&&ds.length==es.length)=mP ds es
|[],[]=>rfl
|[],e::es=>by show (_&&(0==es.length+1))=false; simp
|d::ds,[]=>by show (_&&(ds.length+1==0))=false; simp
|d::ds,e::es=>by
  have ih:=dJ ds es
  show _=(vD d e&&mP ds es)
  rw [← ih]
  have h1:min (d::ds).length (e::es).length=min ds.length es.length+1:=by simp only [length_cons]; omega
  rw [h1,List.range_succ_eq_map,all_cons,List.all_map]
  have h2:(IJ (d::ds) (e::es)) ∘ Nat.succ=IJ ds es:=by funext j; rfl
  rw [h2]
  have h3:IJ (d::ds) (e::es) 0=vD d e:=rfl
  rw [h3]
  have h4:((d::ds).length==(e::es).length)=(ds.length==es.length):=by simp
  rw [h4,Bool.and_assoc]
section
variable {X:Cx} {pins:List (Addr×Obj)} {σ:St} {H:Hp} {s:Shared}
theorem fY (I:aN X pins σ H s) {p:Addr}{vs:List V} (h:H p=some (.tup vs)):∃ its:List Value,aQ vs its/\s.heap.IsTuple p its.toArray:=by
 obtain ⟨_,its,r,q⟩:=(show cF X.prog X.w H s.heap p (.tup vs) from I.hok p _ h)
 exact ⟨its,r,q⟩
theorem fP (I:aN X pins σ H s) {p:Addr}{vs:List V} (h:H p=some (.lst vs)):∃ its:List Value,aQ vs its/\s.heap.IsList p its.toArray:=by
 obtain ⟨_,its,n,r,q⟩:=(show cF X.prog X.w H s.heap p (.lst vs) from I.hok p _ h)
 exact ⟨its,r,_,q,rfl,_,rfl⟩
theorem uY {A:Around}{ds:List Dt} (h:A.units+sU (.tup ds) < cLine):A.in1.units+gI ds < cLine:=by
 have e:sU (.tup ds)=gI ds+1:=by simp [sU]
 show A.units+1+gI ds < cLine
 omega
theorem uZ {A:Around}{ds:List Dt} (h:A.units+sU (.lst ds) < cLine):A.in1.units+gI ds < cLine:=by
 have e:sU (.lst ds)=gI ds+1:=by simp [sU]
 show A.units+1+gI ds < cLine
 omega
mutual
theorem JR (I:aN X pins σ H s):∀ (d e:Dt) {x y:V}{u v:Value}{A:Around},kX H d x->kX H e y->aV x u->aV y v->A.units+sU d < cLine->SeqAt.EqAt A s u v (vD d e)
|.tup ds,e,x,y,u,v,A,h1,h2,rx,ry,hu=>by
  obtain ⟨p,vs,rfl,a,b⟩:=h1
  cases rx
  obtain ⟨its,r,t⟩:=fY I a
  have hu':A.units < cLine:=by omega
  cases e with
 |tup es =>
   obtain ⟨q,ws,rfl,a',b'⟩:=id h2
   cases ry
   by_cases hne:p=q
   ·subst hne
    have:=kX.same_eq (.tup ds) (.tup es) (x:=.ref p) ⟨p,vs,rfl,a,b⟩ h2
    rw [this]
    exact SeqAt.EqAt.same _
   ·obtain ⟨its',r',t'⟩:=fY I a'
    have z:=SeqAt.RcAt.tuples (e:=IJ ds es) t t' hu' (fun j g1 g2=>lE I ds es b b' r r' (uY hu) j (by simpa using g1) (by simpa using g2))
    have l1:its.length=ds.length:=by rw [b.length,r.length]
    have l2:its'.length=es.length:=by rw [b'.length,r'.length]
    rw [size_toArray,size_toArray,l1,l2,dJ] at z
    exact SeqAt.EqAt.of_refs hne z
 |lst es =>
   obtain ⟨q,ws,rfl,a',b'⟩:=id h2
   cases ry
   obtain ⟨its',r',t'⟩:=fP I a'
   exact SeqAt.EqAt.tuple_list t t' hu'
 |non=>cases (show y=.non from h2); cases ry; exact SeqAt.EqAt.tuple_none t hu'
 |bl b=>cases (show y=.bl b from h2); cases ry; exact SeqAt.EqAt.tuple_bool b t hu'
 |int b=>cases (show y=.int b from h2); obtain ⟨tk,rfl⟩:=ry; exact SeqAt.EqAt.tuple_int b tk t hu'
 |str b=>cases (show y=.str b from h2); obtain ⟨tk,rfl⟩:=ry; exact SeqAt.EqAt.tuple_str b tk t hu'
|.lst ds,e,x,y,u,v,A,h1,h2,rx,ry,hu=>by
  obtain ⟨p,vs,rfl,a,b⟩:=h1
  cases rx
  obtain ⟨its,r,t⟩:=fP I a
  have hu':A.units < cLine:=by omega
  cases e with
 |lst es =>
   obtain ⟨q,ws,rfl,a',b'⟩:=id h2
   cases ry
   by_cases hne:p=q
   ·subst hne
    have:=kX.same_eq (.lst ds) (.lst es) (x:=.ref p) ⟨p,vs,rfl,a,b⟩ h2
    rw [this]
    exact SeqAt.EqAt.same _
   ·obtain ⟨its',r',t'⟩:=fP I a'
    have l1:its.length=ds.length:=by rw [b.length,r.length]
    have l2:its'.length=es.length:=by rw [b'.length,r'.length]
    by_cases hl:ds.length=es.length
    ·have z:=SeqAt.RcAt.lists (e:=IJ ds es) t t' (by rw [size_toArray,size_toArray,l1,l2,hl]) hu' (fun j g1 g2=>lE I ds es b b' r r' (uZ hu) j (by simpa using g1) (by simpa using g2))
     have e1:=dJ ds es
     rw [hl,min_self,beq_self_eq_true,Bool.and_true] at e1
     rw [size_toArray,l1,hl,e1] at z
     exact SeqAt.EqAt.of_refs hne z
    ·have z:=SeqAt.RcAt.lists_lengths t t' (by rw [size_toArray,size_toArray,l1,l2]; simpa using hl) hu'
     have e1:=dJ ds es
     rw [show (ds.length==es.length)=false from by simpa using hl,Bool.and_false] at e1
     have e2:vD (.lst ds) (.lst es)=false:=by show mP ds es=false; exact e1.symm
     rw [e2]
     exact SeqAt.EqAt.of_refs hne z
 |tup es =>
   obtain ⟨q,ws,rfl,a',b'⟩:=id h2
   cases ry
   obtain ⟨its',r',t'⟩:=fY I a'
   exact SeqAt.EqAt.list_tuple t t' hu'
 |non=>cases (show y=.non from h2); cases ry; exact SeqAt.EqAt.list_none t hu'
 |bl b=>cases (show y=.bl b from h2); cases ry; exact SeqAt.EqAt.list_bool b t hu'
 |int b=>cases (show y=.int b from h2); obtain ⟨tk,rfl⟩:=ry; exact SeqAt.EqAt.list_int b tk t hu'
 |str b=>cases (show y=.str b from h2); obtain ⟨tk,rfl⟩:=ry; exact SeqAt.EqAt.list_str b tk t hu'
|.non,e,x,y,u,v,A,h1,h2,rx,ry,hu=>by
  cases (show x=.non from h1); cases rx
  have hu':A.units < cLine:=by omega
  cases e with
 |tup es=>obtain ⟨q,ws,rfl,a',b'⟩:=id h2; cases ry; obtain ⟨its',r',t'⟩:=fY I a'; exact SeqAt.EqAt.none_tuple t' hu'
 |lst es=>obtain ⟨q,ws,rfl,a',b'⟩:=id h2; cases ry; obtain ⟨its',r',t'⟩:=fP I a'; exact SeqAt.EqAt.none_list t' hu'
 |non=>cases (show y=.non from h2); cases ry; exact SeqAt.EqAt.same _
 |bl b=>cases (show y=.bl b from h2); cases ry; exact SeqAt.EqAt.none_bool b
 |int b=>cases (show y=.int b from h2); obtain ⟨tk,rfl⟩:=ry; exact SeqAt.EqAt.none_int b tk
 |str b=>cases (show y=.str b from h2); obtain ⟨tk,rfl⟩:=ry; exact SeqAt.EqAt.none_str b tk
|.bl c,e,x,y,u,v,A,h1,h2,rx,ry,hu=>by
  cases (show x=.bl c from h1); cases rx
  have hu':A.units < cLine:=by omega
  cases e with
 |tup es=>obtain ⟨q,ws,rfl,a',b'⟩:=id h2; cases ry; obtain ⟨its',r',t'⟩:=fY I a'; exact SeqAt.EqAt.bool_tuple c t' hu'
 |lst es=>obtain ⟨q,ws,rfl,a',b'⟩:=id h2; cases ry; obtain ⟨its',r',t'⟩:=fP I a'; exact SeqAt.EqAt.bool_list c t' hu'
 |non=>cases (show y=.non from h2); cases ry; exact SeqAt.EqAt.bool_none c
 |bl b=>cases (show y=.bl b from h2); cases ry; exact SeqAt.EqAt.bool_bool c b
 |int b=>cases (show y=.int b from h2); obtain ⟨tk,rfl⟩:=ry; exact SeqAt.EqAt.bool_int c b tk
 |str b=>cases (show y=.str b from h2); obtain ⟨tk,rfl⟩:=ry; exact SeqAt.EqAt.bool_str c b tk
|.int c,e,x,y,u,v,A,h1,h2,rx,ry,hu=>by
  cases (show x=.int c from h1); obtain ⟨tc,rfl⟩:=rx
  have hu':A.units < cLine:=by omega
  cases e with
 |tup es=>obtain ⟨q,ws,rfl,a',b'⟩:=id h2; cases ry; obtain ⟨its',r',t'⟩:=fY I a'; exact SeqAt.EqAt.int_tuple c tc t' hu'
 |lst es=>obtain ⟨q,ws,rfl,a',b'⟩:=id h2; cases ry; obtain ⟨its',r',t'⟩:=fP I a'; exact SeqAt.EqAt.int_list c tc t' hu'
 |non=>cases (show y=.non from h2); cases ry; exact SeqAt.EqAt.int_none c tc
 |bl b=>cases (show y=.bl b from h2); cases ry; exact SeqAt.EqAt.int_bool c tc b
 |int b=>cases (show y=.int b from h2); obtain ⟨tk,rfl⟩:=ry; exact SeqAt.EqAt.int_int c tc b tk
 |str b=>cases (show y=.str b from h2); obtain ⟨tk,rfl⟩:=ry; exact SeqAt.EqAt.int_str c tc b tk
|.str c,e,x,y,u,v,A,h1,h2,rx,ry,hu=>by
  cases (show x=.str c from h1); obtain ⟨tc,rfl⟩:=rx
  have hu':A.units < cLine:=by omega
  cases e with
 |tup es=>obtain ⟨q,ws,rfl,a',b'⟩:=id h2; cases ry; obtain ⟨its',r',t'⟩:=fY I a'; exact SeqAt.EqAt.str_tuple c tc t' hu'
 |lst es=>obtain ⟨q,ws,rfl,a',b'⟩:=id h2; cases ry; obtain ⟨its',r',t'⟩:=fP I a'; exact SeqAt.EqAt.str_list c tc t' hu'
 |non=>cases (show y=.non from h2); cases ry; exact SeqAt.EqAt.str_none c tc
 |bl b=>cases (show y=.bl b from h2); cases ry; exact SeqAt.EqAt.str_bool c tc b
 |int b=>cases (show y=.int b from h2); obtain ⟨tk,rfl⟩:=ry; exact SeqAt.EqAt.str_int c tc b tk
 |str b=>cases (show y=.str b from h2); obtain ⟨tk,rfl⟩:=ry; exact SeqAt.EqAt.str_str c tc b tk
theorem lE (I:aN X pins σ H s):∀ (ds es:List Dt) {xs ys:List V}{us vs:List Value}{A:Around},fV H ds xs->fV H es ys->aQ xs us->aQ ys vs->A.units+gI ds < cLine ->
  ∀ (j:Nat) (g1:j < us.length) (g2:j < vs.length),SeqAt.EqAt A s us[j] vs[j] (IJ ds es j)
|[],es,xs,ys,us,vs,A,h1,h2,r1,r2,hu=>fun j g1 g2=>by
  have h1:xs=[]:=h1
  subst h1
  cases r1
  exact absurd g1 (not_lt_zero _)
|d::ds,[],xs,ys,us,vs,A,h1,h2,r1,r2,hu=>fun j g1 g2=>by
  have h2:ys=[]:=h2
  subst h2
  cases r2
  exact absurd g2 (not_lt_zero _)
|d::ds,e::es,xs,ys,us,vs,A,h1,h2,r1,r2,hu=>fun j g1 g2=>by
  obtain ⟨x,xr,rfl,a,b⟩:=h1
  obtain ⟨y,yr,rfl,a',b'⟩:=h2
  cases r1 with
 |cons rx r1 =>
   cases r2 with
  |cons ry r2 =>
    have hd:gI (d::ds)=max (sU d) (gI ds):=by simp [gI]
    cases j with
   |zero=>exact JR I d e a a' rx ry (by omega)
   |succ j=>exact lE I ds es b b' r1 r2 (by omega) j (by simpa using g1) (by simpa using g2)
end
noncomputable def YO:R2:=fun x y H Q=>∃ d e,kX H d x/\kX H e y/\sU d<=60/\((∃ ds es,d=.tup ds/\e=.tup es)∨∃ ds es,d=.lst ds/\e=.lst es)/\Q (.bl (vD d e)) H
noncomputable def YM:R2:=fun x y H Q=>∃ d e,kX H d x/\kX H e y/\sU d<=60/\((∃ ds es,d=.tup ds/\e=.tup es)∨∃ ds es,d=.lst ds/\e=.lst es)/\Q (.bl (!vD d e)) H
theorem TM (hu:X.A.units+64 < cLine):jG X (compareOp .Eq) YO:=by
 intro pins s σ H x y v u Q I rx ry h
 obtain ⟨d,e,h1,h2,hd,k,q⟩:=h
 rcases k with ⟨ds,es,rfl,rfl⟩|⟨ds,es,rfl,rfl⟩
 ·obtain ⟨p,vs,rfl,a,b⟩:=h1
  obtain ⟨p',ws,rfl,a',b'⟩:=h2
  cases rx
  cases ry
  obtain ⟨its,r,t⟩:=fY I a
  obtain ⟨its',r',t'⟩:=fY I a'
  have z:=SeqAt.RcAt.tuples (A:=X.A) (e:=IJ ds es) t t' (by omega) (fun j g1 g2=>lE I ds es b b' r r' (uY (by omega)) j (by simpa using g1) (by simpa using g2))
  have l1:its.length=ds.length:=by rw [b.length,r.length]
  have l2:its'.length=es.length:=by rw [b'.length,r'.length]
  rw [size_toArray,size_toArray,l1,l2,dJ] at z
  exact z _ _ _ _ ⟨.bl _,H,I,rfl,q⟩
 ·obtain ⟨p,vs,rfl,a,b⟩:=h1
  obtain ⟨p',ws,rfl,a',b'⟩:=h2
  cases rx
  cases ry
  obtain ⟨its,r,t⟩:=fP I a
  obtain ⟨its',r',t'⟩:=fP I a'
  have l1:its.length=ds.length:=by rw [b.length,r.length]
  have l2:its'.length=es.length:=by rw [b'.length,r'.length]
  by_cases hl:ds.length=es.length
  ·have z:=SeqAt.RcAt.lists (A:=X.A) (e:=IJ ds es) t t' (by rw [size_toArray,size_toArray,l1,l2,hl]) (by omega) (fun j g1 g2=>lE I ds es b b' r r' (uZ (by omega)) j (by simpa using g1) (by simpa using g2))
   have e1:=dJ ds es
   rw [hl,min_self,beq_self_eq_true,Bool.and_true] at e1
   rw [size_toArray,l1,hl,e1] at z
   exact z _ _ _ _ ⟨.bl _,H,I,rfl,q⟩
  ·have z:=SeqAt.RcAt.lists_lengths (A:=X.A) t t' (by rw [size_toArray,size_toArray,l1,l2]; simpa using hl) (by omega)
   have e1:=dJ ds es
   rw [show (ds.length==es.length)=false from by simpa using hl,Bool.and_false] at e1
   have e2:vD (.lst ds) (.lst es)=false:=by show mP ds es=false; exact e1.symm
   rw [e2] at q
   exact z _ _ _ _ ⟨.bl _,H,I,rfl,q⟩
theorem TJ (hu:X.A.units+64 < cLine):jG X (compareOp .NotEq) YM:=by
 intro pins s σ H x y v u Q I rx ry h
 obtain ⟨d,e,h1,h2,hd,k,q⟩:=h
 rcases k with ⟨ds,es,rfl,rfl⟩|⟨ds,es,rfl,rfl⟩
 ·obtain ⟨p,vs,rfl,a,b⟩:=h1
  obtain ⟨p',ws,rfl,a',b'⟩:=h2
  cases rx
  cases ry
  obtain ⟨its,r,t⟩:=fY I a
  obtain ⟨its',r',t'⟩:=fY I a'
  have z:=SeqAt.RcNeAt.tuples (A:=X.A) (e:=IJ ds es) t t' (by omega) (fun j g1 g2=>lE I ds es b b' r r' (uY (by omega)) j (by simpa using g1) (by simpa using g2))
  have l1:its.length=ds.length:=by rw [b.length,r.length]
  have l2:its'.length=es.length:=by rw [b'.length,r'.length]
  rw [size_toArray,size_toArray,l1,l2,dJ] at z
  exact z _ _ _ _ ⟨.bl _,H,I,rfl,q⟩
 ·obtain ⟨p,vs,rfl,a,b⟩:=h1
  obtain ⟨p',ws,rfl,a',b'⟩:=h2
  cases rx
  cases ry
  obtain ⟨its,r,t⟩:=fP I a
  obtain ⟨its',r',t'⟩:=fP I a'
  have l1:its.length=ds.length:=by rw [b.length,r.length]
  have l2:its'.length=es.length:=by rw [b'.length,r'.length]
  by_cases hl:ds.length=es.length
  ·have z:=SeqAt.RcNeAt.lists (A:=X.A) (e:=IJ ds es) t t' (by rw [size_toArray,size_toArray,l1,l2,hl]) (by omega) (fun j g1 g2=>lE I ds es b b' r r' (uZ (by omega)) j (by simpa using g1) (by simpa using g2))
   have e1:=dJ ds es
   rw [hl,min_self,beq_self_eq_true,Bool.and_true] at e1
   rw [size_toArray,l1,hl,e1] at z
   exact z _ _ _ _ ⟨.bl _,H,I,rfl,q⟩
  ·have z:=SeqAt.RcNeAt.lists_lengths (A:=X.A) t t' (by rw [size_toArray,size_toArray,l1,l2]; simpa using hl) (by omega)
   have e1:=dJ ds es
   rw [show (ds.length==es.length)=false from by simpa using hl,Bool.and_false] at e1
   have e2:vD (.lst ds) (.lst es)=false:=by show mP ds es=false; exact e1.symm
   rw [e2] at q
   exact z _ _ _ _ ⟨.bl _,H,I,rfl,q⟩
noncomputable def DL:R2:=fun x y H Q=>Bp x y H Q∨YO x y H Q
noncomputable def yS:R2:=fun x y H Q=>Al x y H Q∨YM x y H Q
theorem pO (hu:X.A.units+64 < cLine):jG X (compareOp .Eq) DL:=YZ.or (TM hu)
theorem pN (hu:X.A.units+64 < cLine):jG X (compareOp .NotEq) yS:=YX.or (TJ hu)
end
section
variable {H:Hp} {Q:VK} {i j:Int} {b c:Bool} {x y:Str} {u v:V}
theorem QV (k:Q (.bl (decide (i=j))) H):DL (.int i) (.int j) H Q:=.inl (XU k)
theorem ZG (k:Q (.bl (!decide (i=j))) H):yS (.int i) (.int j) H Q:=.inl (XG k)
theorem Br (k:Q (.bl (!(b==c))) H):yS (.bl b) (.bl c) H Q:=.inl (XH k)
theorem ZS (k:Q (.bl (x==y)) H):DL (.str x) (.str y) H Q:=.inl ⟨rfl,by rw [vE]; exact k⟩
theorem ZR {ds es:List Dt} (h1:kX H (.tup ds) u) (h2:kX H (.tup es) v) (hd:gI ds<=50) (k:Q (.bl (mP ds es)) H):DL u v H Q:=
 .inr ⟨_,_,h1,h2,by simp [sU]; omega,.inl ⟨_,_,rfl,rfl⟩,k⟩
theorem ZD {ds es:List Dt} (h1:kX H (.tup ds) u) (h2:kX H (.tup es) v) (hd:gI ds<=50) (k:Q (.bl (!mP ds es)) H):yS u v H Q:=
 .inr ⟨_,_,h1,h2,by simp [sU]; omega,.inl ⟨_,_,rfl,rfl⟩,k⟩
theorem ZF {ds es:List Dt} (h1:kX H (.lst ds) u) (h2:kX H (.lst es) v) (hd:gI ds<=50) (k:Q (.bl (!mP ds es)) H):yS u v H Q:=
 .inr ⟨_,_,h1,h2,by simp [sU]; omega,.inr ⟨_,_,rfl,rfl⟩,k⟩
theorem EX {p:Addr}{a b:Int} (h:H p=some (.tup [.int a,.int b])):kX H (.tup [.int a,.int b]) (.ref p):=⟨p,_,rfl,h,_,_,rfl,rfl,_,_,rfl,rfl,rfl⟩
theorem UV (a b c d:Int):mP [.int a,.int b] [.int c,.int d]=decide (a=c/\b=d):=by
 show ((a==c)&&((b==d)&&true))=_
 rw [Bool.and_true,Bool.decide_and,Bool.beq_eq_decide_eq,Bool.beq_eq_decide_eq]
theorem Cr {p q:Addr}{a b c d:Int} (h1:H p=some (.tup [.int a,.int b])) (h2:H q=some (.tup [.int c,.int d])) (k:Q (.bl (decide (a=c/\b=d))) H):DL (.ref p) (.ref q) H Q:=
 ZR (EX h1) (EX h2) (by simp [gI,sU]) (by rw [UV]; exact k)
theorem n_2 {p q:Addr}{a b c d:Int} (h1:H p=some (.tup [.int a,.int b])) (h2:H q=some (.tup [.int c,.int d])) (k:Q (.bl (!decide (a=c/\b=d))) H):yS (.ref p) (.ref q) H Q:=
 ZD (EX h1) (EX h2) (by simp [gI,sU]) (by rw [UV]; exact k)
end
end
section
section
variable {X:Cx} {K:Frag} {H H':Hp} {Q:VK} {i j:Int} {σ:St}
noncomputable def QB:R2:=fun x y H Q=>∃ i j,x=.str i/\y=.str j/\i.length+j.length<=sizeLine/\Q (.str (i++j)) H
theorem MY:jG X (binaryOp .Add) QB:=zB
noncomputable def BM (K:Frag):R2:=fun x y H Q=>KW (fun i j=>.int (i+j)) x y H Q∨YQ x y H Q∨QA K x y H Q∨QB x y H Q
theorem bY:jG X (binaryOp .Add) (BM X.K):=TQ.or (TN.or (MX.or MY))
theorem ZZ (k:Q (.int (i+j)) H):BM K (.int i) (.int j) H Q:=.inl (YK k)
theorem QX {p q:Addr}{xs ys:List V} (h1:H p=some (.lst xs)) (h2:H q=some (.lst ys)) (hl:xs.length+ys.length<=1000) (k:∀ l,H l=none->Q (.ref l) (upd H l (.lst (xs++ys)))):BM K (.ref p) (.ref q) H Q:=
 .inr (.inl ⟨p,q,xs,ys,rfl,rfl,h1,h2,kA hl,k⟩)
theorem ZY {x y:Str} (hl:x.length+y.length<=1000) (k:Q (.str (x++y)) H):BM K (.str x) (.str y) H Q:=.inr (.inr (.inr ⟨x,y,rfl,rfl,kA hl,k⟩))
theorem aL {H:Hp}{q b:Addr}{o u:HO} (hq:H q=none) (h:H b=some u):upd H q o b=some u:=by rw [aJ (aA h hq)]; exact h
end
end
section
noncomputable def cM (X:Cx) (scope:Scope) (cl:List (Str×Addr)) (N:List Str) (C:Addr) (s0:Shared) (H0:Hp) (ex:List Addr):Cx:=
 { X with N:=N,s₀:=s0,H₀:=H0,env:=compEnvC scope cl C X.env,outer:=X.stack,stack:=X.stack,ex:=ex,fn:=fun _=>false,pn:=[],xe:=fun _ _=>False }
noncomputable def bC (env:Env) (names:List Str):List (Str×Addr):=names.filterMap fun n=>(env.cells.lookup n).map fun c=>(n,c)
theorem jE {env:Env}:∀ {names:List Str}{x:Str}{c:Addr},(bC env names).lookup x=some c->env.cells.lookup x=some c
|[],x,c,h=>by simp [bC] at h
|n::r,x,c,h=>by
  unfold bC at h
  rw [filterMap_cons] at h
  cases e:env.cells.lookup n with
 |none =>
   rw [e] at h
   exact jE (names:=r) h
 |some d =>
   rw [e] at h
   have h':List.lookup x ((n,d)::bC env r)=some c:=h
   rw [lookup_cons] at h'
   by_cases hx:x=n
   ·subst hx
    rw [beq_self_eq_true] at h'
    cases h'
    exact e
   ·rw [beq_eq_false_iff_ne.mpr hx] at h'
    exact jE (names:=r) h'
theorem lG {env:Env}:∀ {names:List Str}{x:Str}{c:Addr},x∈names->env.cells.lookup x=some c->(bC env names).lookup x=some c
|[],x,c,h,_=>by cases h
|n::r,x,c,h,e=>by
  unfold bC
  rw [filterMap_cons]
  by_cases hx:x=n
  ·subst hx
   rw [e]
   show List.lookup x ((x,c)::_)=some c
   rw [lookup_cons,beq_self_eq_true]
  ·have hr:x∈r:=(mem_cons.mp h).resolve_left hx
   have ih:=lG (env:=env) hr e
   cases e2:env.cells.lookup n with
  |none=>exact ih
  |some d =>
    show List.lookup x ((n,d)::bC env r)=some c
    rw [lookup_cons,beq_eq_false_iff_ne.mpr hx]
    exact ih
noncomputable def lH (σ:St) (is:List Nat):St:=is.map fun i=>(σ[i]?).join
noncomputable def qH (te:TE) (tc:Option TT) (g:TG) (ts:St) (caps:St) (Q:VK):It->Hp->Prop:=fun J H1=>∀ acc,H1 acc=none ->
 ∃ W:Nat->Nat->List V->Hp->Prop,(∃ m,W 0 m [] (upd H1 acc (.lst [])))/\∀ i m ys H,W i m ys H ->
  H acc=some (.lst ys)/\((J.stop i H/\Q (.ref acc) H)∨(ys.length < sizeLine/\J.go i H/\∀ (us:St) x H',us.length=ts.length->J.yld i H x H'->g x (us++caps) H' fun σ2 H2 =>
   (∃ us2,us2.length=ts.length/\σ2=us2++caps) /\
   let made:=te σ2
   let next:=fun y H3=>H3 acc=some (.lst ys)/\∃ m',m' < m/\W (i+1) m' (ys++[y]) (upd H3 acc (.lst (ys++[y])))
   match tc with
  |none=>made H2 next
   | some c=>c σ2 H2 fun b H3=>if b=true then made H3 next else ∃ m',m' < m/\W (i+1) m' ys H3))
noncomputable def AN (wi:TI) (te:TE) (tc:Option TT) (g:TG) (k:Nat) (is:List Nat):TE:=fun σ H Q=>wi σ H (qH te tc g (List.replicate k none) (lH σ is) Q)
section
variable {X:Cx} {scope:Scope} {N tn names:List Str} {is:List Nat} {elt iter tg:Expr} {ifs:List Expr} {pos:Pos} {wi:TI} {te:TE} {tc:Option TT} {g:TG}
structure nI (X:Cx) (scope:Scope) (tn names:List Str) (is:List Nat):Prop where
 cls:(∀ x∈names,∃ c,X.env.cells.lookup x=some c)->closureFor scope X.env=pure (bC X.env names)
 nocell:∀ y∈scope.names,y.2≠.cell
 kind:scope.kind=.function
 nms:∀ y∈scope.names,y.2=.local->scope.names.lookup y.1=some .local
 slots:∀ (j i:Nat) (x:Str),is[j]?=some i->names[j]?=some x->X.N[i]?=some x
 len:is.length=names.length
 outk:∀ x∈names,X.env.kindOf x=some .cell∨X.env.kindOf x=some .free
 ink:∀ x∈names,(relabel scope X.env).names.lookup x=some .cell∨(relabel scope X.env).names.lookup x=some .free
 free:∀ x,((relabel scope X.env).names.lookup x=some .cell∨(relabel scope X.env).names.lookup x=some .free)->x∈names
theorem lF {env:Env}:∀ (l:List (Str×NameKind)) (acc:List (Str×Addr)),(∀ x∈(l.filter fun y=>y.2==.free).map (·.1),∃ c,env.cells.lookup x=some c) ->
  (forIn l acc fun (x:Str×NameKind) (cs:List (Str×Addr))=>(if (x.2==.free)=true then (do let a ← cellOf env x.1; pure (ForInStep.yield ((x.1,a)::cs))) else pure (ForInStep.yield cs)):Sem (List (Str×Addr)))
   = pure ((((l.filter fun y=>y.2==.free).map (·.1)).reverse.filterMap fun n=>(env.cells.lookup n).map fun c=>(n,c))++acc)
|[],acc,_=>rfl
|(n,k)::r,acc,h=>by
  rw [forIn_cons]
  by_cases hk:(k==NameKind.free)=true
  ·have hf:((n,k)::r).filter (fun y=>y.2==.free)=(n,k)::r.filter fun y=>y.2==.free:=by rw [filter_cons]; exact if_pos hk
   rw [hf] at h ⊢
   obtain ⟨c,e⟩:=h n (by simp)
   have e1:cellOf env n=pure c:=by unfold cellOf; rw [e]
   show (((if (k==NameKind.free)=true then (do let a ← cellOf env n; pure (ForInStep.yield ((n,a)::acc))) else pure (ForInStep.yield acc)):Sem _) >>= _)=_
   rw [if_pos hk,e1]
   have ih:=lF r ((n,c)::acc) fun x hx=>h x (by simp at hx ⊢; exact .inr hx)
   have e2:(((n,k)::r.filter fun y=>y.2==.free).map (·.1)).reverse.filterMap (fun n=>(env.cells.lookup n).map fun c=>(n,c))=((r.filter fun y=>y.2==.free).map (·.1)).reverse.filterMap (fun n=>(env.cells.lookup n).map fun c=>(n,c))++[(n,c)]:=by
    rw [map_cons,reverse_cons,List.filterMap_append,filterMap_cons,e]
    rfl
   rw [e2,append_assoc]
   exact ih
  ·have hf:((n,k)::r).filter (fun y=>y.2==.free)=r.filter fun y=>y.2==.free:=by rw [filter_cons]; exact if_neg hk
   rw [hf] at h ⊢
   show (((if (k==NameKind.free)=true then (do let a ← cellOf env n; pure (ForInStep.yield ((n,a)::acc))) else pure (ForInStep.yield acc)):Sem _) >>= _)=_
   rw [if_neg hk]
   exact lF r acc h
theorem nV {scope:Scope}{env:Env}{names:List Str} (hn:((scope.names.filter fun y=>y.2==.free).map (·.1)).reverse=names) (h:∀ x∈names,∃ c,env.cells.lookup x=some c) :
  closureFor scope env=pure (bC env names):=by
 unfold closureFor bC
 have q:=lF (env:=env) scope.names [] fun x hx=>h x (by rw [← hn]; exact List.mem_reverse.mpr hx)
 rw [hn,append_nil] at q
 show (_ >>= fun r=>pure r)=_
 have q2:(forIn scope.names ([]:List (Str×Addr)) fun (x:Str×NameKind) (cs:List (Str×Addr))=>match x with
   | (name,kind)=>(if (kind==.free)=true then (do let a ← cellOf env name; pure (ForInStep.yield ((name,a)::cs))) else pure (ForInStep.yield cs)):Sem (List (Str×Addr)))=pure (names.filterMap fun n=>(env.cells.lookup n).map fun c=>(n,c)):=q
 first
 |exact (congrArg (fun z=>z >>= fun r=>pure r) q2)
 |simpa using q2
noncomputable def BF (scope sc:Scope):Scope:={ scope with names:=scope.names.map fun (n,k)=>if (k==.free&&sc.kind==.function&&sc.names.lookup n==some .cell) then (n,.cell) else (n,k) }
theorem dA {X:Cx}{scope sc:Scope}{N tn names:List Str}{is:List Nat} (hsc:X.env.scope=sc) (hN:X.N=N) (h1:((scope.names.filter fun y=>y.2==.free).map (·.1)).reverse=names) (h2:∀ y∈scope.names,y.2≠.cell) (h3:scope.kind=.function)
  (h4:∀ y∈scope.names,y.2=.local->scope.names.lookup y.1=some .local) (h5:(is.map fun i=>N[i]?)=names.map some) (h6:∀ x∈names,sc.names.lookup x=some .cell∨sc.names.lookup x=some .free)
  (h7:∀ x∈names,(BF scope sc).names.lookup x=some .cell∨(BF scope sc).names.lookup x=some .free) (h8:∀ y∈(BF scope sc).names,(y.2=.cell∨y.2=.free)->y.1∈names):nI X scope tn names is:=by
 subst hsc hN
 have hr:relabel scope X.env=BF scope X.env.scope:=rfl
 refine ⟨nV h1,h2,h3,h4,fun j i x e1 e2=>?_,?_,h6,?_,fun x hx=>?_⟩
 ·have q:=congrArg (fun l=>l[j]?) h5
  simp only [List.getElem?_map,e1,e2,Option.map_some] at q
  exact Option.some.inj q
 ·have q:=congrArg List.length h5
  simpa using q
 ·rw [hr]; exact h7
 ·rw [hr] at hx
  have mem:∀ {l:List (Str×NameKind)} {k:NameKind},l.lookup x=some k->(x,k)∈l:=fun {l} {k}=>by
   induction l with
  |nil=>intro e; cases e
  |cons y r ih =>
    intro e
    obtain ⟨n,k'⟩:=y
    rw [lookup_cons] at e
    by_cases hx:x=n
    ·subst hx
     rw [beq_self_eq_true] at e
     cases e
     exact mem_cons_self
    ·rw [beq_eq_false_iff_ne.mpr hx] at e
     exact mem_cons_of_mem _ (ih e)
  rcases hx with hx|hx
  ·exact h8 _ (mem hx) (.inl rfl)
  ·exact h8 _ (mem hx) (.inr rfl)
theorem OE {X:Cx}{scope:Scope}{tn names:List Str}{is:List Nat} (C:nI X scope tn names is) {pins:List (Addr×Obj)}{σ:St}{H:Hp}{s:Shared} (I:aN X pins σ H s) {acc:Addr}{fp:List Addr}
  {s3:Shared} {h1:Heap} {t4:Nat} (I3:aN X pins σ (upd H acc (.lst [])) s3) (hf:∀ b∈fp,nX X pins H b) (hfl:∀ b∈fp,b < s3.heap.objs.size) (hacc:∀ b∈fp,b≠acc)
  (ns:h1.Ns s3.heap.objs.size fun _=>none) (kp:∀ b o,s3.heap.get? b=some o->h1.get? b=some o) :
  aN (cM X scope (bC X.env names) (tn++names) s3.heap.objs.size s3 (upd H acc (.lst [])) fp) [] (List.replicate tn.length none++lH σ is) (upd H acc (.lst [])) { s3 with heap:=h1,toks:=t4 }:=by
 have ok:=I3.ok
 have hC:∀ x c,(bC X.env names).lookup x=some c->X.env.cells.lookup x=some c:=fun x c h=>jE h
 have cellLt:∀ x c,X.env.cells.lookup x=some c->c < s3.heap.objs.size:=fun x c e=>let ⟨v,z⟩:=I3.cell x c e; z.lt
 refine ⟨⟨ok.mod,?_,ok.glob,ok.blt,le_refl _,fun x y c a b=>ok.inj x y c (hC _ _ a) (hC _ _ b),fun x hx=>?_,fun _ _ z=>absurd z (by simp [cM]),ok.hd,ok.frames,.inl rfl,fun b hb=>?_,fun b o e=>I3.bs b o e,le_trans ok.bsz I3.sz,fun b o e hb=>?_,fun b hb z=>?_,I3.stack,fun b hb=>I3.stkFree b hb⟩,
  rfl,I3.bare,Un.kept kp,⟨_,ns,fun i x v e1 e2 e3=>?_⟩,fun x c e=>?_,?_,fun x c e=>I3.freeC x c (hC _ _ e),fun p hp=>absurd hp (by simp [cM]),I3.hok.kept kp,?_⟩
 ·show (relabel scope X.env).kind=.function
  exact C.kind
 ·have hm:=C.free x hx
  obtain ⟨c,e⟩:=ok.has x (C.outk x hm)
  exact ⟨c,lG hm e⟩
 ·refine ⟨ne_of_lt (hfl b hb),fun x c e=>(hf b hb).2.2.2.2.1 x c (hC _ _ e)⟩
 ·rcases (hf b hb).2.2.2.1 with z|z
  ·exact ok.noex b o e z
  ·have:=lt_of_lt_of_le (lt_size e) ok.bsz
   omega
 ·have:=I3.stkSub b z
  rcases mem_cons.mp this with q|q
  ·exact (hf b hb).2.1 q
  ·exact (hf b hb).2.2.1 q
 ·by_cases hi:i < tn.length
  ·rw [List.getElem?_append_left (by rw [length_replicate]; exact hi),List.getElem?_replicate] at e2
   rw [if_pos hi] at e2
   cases e2
  ·have e1:(tn++names)[i]?=some x:=e1
   rw [List.getElem?_append_right (by omega)] at e1
   rw [List.getElem?_append_right (by rw [length_replicate]; omega),length_replicate] at e2
   generalize hj:i - tn.length=j at e1 e2
   unfold lH at e2
   rw [List.getElem?_map] at e2
   cases e4:is[j]? with
  |none=>rw [e4] at e2; cases e2
  |some i0 =>
    rw [e4] at e2
    have e5:(σ[i0]?).join=some v:=Option.some.inj e2
    have e6:σ[i0]?=some (some v):=by
     cases q:σ[i0]? with
    |none=>rw [q] at e5; cases e5
    |some o=>rw [q] at e5; exact congrArg some e5
    have hx:x∈names:=mem_of_getElem? e1
    obtain ⟨m,hm,look⟩:=I3.loc
    have hv:Aa X.env.scope x:=by
     rcases C.outk x hx with q|q
     ·exact .inr (.inl q)
     ·exact .inr (.inr q)
    obtain ⟨u,ru,lk⟩:=look i0 x v (C.slots j i0 x e4 e1) e6 hv
    refine ⟨u,ru,.inr ⟨C.ink x hx,?_⟩⟩
    rcases lk with ⟨q,_⟩|⟨_,c,ec,z⟩
    ·rcases C.outk x hx with q'|q' <;> (rw [q] at q'; cases q')
    ·exact ⟨c,lG hx ec,let ⟨o,a,b⟩:=z; ⟨o,kp _ _ a,b⟩⟩
 ·obtain ⟨v,o,a,b⟩:=I3.cell x c (hC _ _ e)
  exact ⟨v,o,kp _ _ a,b⟩
 ·exact I3.hok.fresh (le_refl _)
 ·show (List.replicate tn.length none++lH σ is).length=(tn++names).length
  rw [length_append,length_append,length_replicate]
  unfold lH
  rw [length_map,C.len]
theorem vF {prog:Program}{w:World}{A:Around}{R:Result->Shared->Prop}{s:Shared}{elt target iter:Expr}{ifs:List Expr}{scope:Scope}{pos:Pos}{it acc:Value}{env:Env} (I:Nat->Shared->Prop)
  (turn:∀ n s,I n s->wpAny (model prog w) A (pyNext it) (fun r s₁=>match r with
  |none=>R (.ok .next) s₁
   | some v=>wpAny (model prog w) A (letOwnedTupleGo target it v) (fun _ s₁'=>wpAny (model prog w) A (assign target env v) (fun _ s₂ =>
     wpAny (model prog w) A (forIn ifs true fun c r=>if r=true then do let ok ← isTrue c env (eval c env); pure (ForInStep.yield ok) else pure (ForInStep.yield r)) (fun ok s₃ =>
      if ok=true then wpAny (model prog w) A (eval elt env) (fun x s₄ =>
       wpAny (model prog w) A (call (.builtin "list.append") [acc,x]) (fun _ s₅=>∃ m,m < n/\I m s₅) (fun _ _=>False) s₄) (fun _ _=>False) s₃
      else ∃ m,m < n/\I m s₃) (fun _ _=>False) s₂) (fun _ _=>False) s₁') (fun _ _=>False) s₁) (fun _ _=>False) s)
  (n:Nat) (h:I n s) :
  codeAny (model prog w) A (.compLoop (.ListComp elt [⟨target,iter,ifs,0⟩] scope pos) 0 it acc env) R s:=by
 refine codeAny_loop rfl I (fun n s hI=>?_) n h
 show wpAny _ A ((compTurn (.ListComp elt [⟨target,iter,ifs,0⟩] scope pos) 0 it acc env).onRaise (fun x=>do noteFrame x env; theTreesLotGoes x)) _ _ s
 refine wpAny_noted ?_
 rw [compTurn_list]
 refine wpAny_bind (wpAny_standAt (wpAny_bind (wpAny_mono (turn n s hI) (fun r s₁ h₁=>?_) fun _ _ h'=>h'.elim)))
 cases r with
|none=>exact wpAny_pure h₁
|some v =>
  refine wpAny_bind (wpAny_mono h₁ (fun _ s₁' h₁'=>?_) fun _ _ h'=>h'.elim)
  refine wpAny_bind (wpAny_mono h₁' (fun _ s₂ h₂=>wpAny_bind (wpAny_mono h₂ (fun ok s₃ h₃=>?_) fun _ _ h'=>h'.elim)) fun _ _ h'=>h'.elim)
  cases ok with
 |false=>exact wpAny_pure ⟨rfl,h₃⟩
 |true =>
   exact wpAny_bind (wpAny_bind (wpAny_mono h₃ (fun x s₄ h₄=>wpAny_bind (wpAny_mono h₄ (fun _ s₅ h₅=>wpAny_pure (wpAny_pure ⟨rfl,h₅⟩)) fun _ _ h'=>h'.elim)) fun _ _ h'=>h'.elim))
noncomputable def VL (X':Cx) (ifs:List Expr) (tc:Option TT):Prop:=match ifs,tc with
|[],none=>True
|[c],some t=>PT X' c t
|_,_=>False
theorem cV {X':Cx}:VL X' [] none:=trivial
theorem BN {X':Cx}{c:Expr}{t:TT} (h:PT X' c t):VL X' [c] (some t):=h
structure Ab (ok:Cx->Prop) (P:Program) (w:World) (K:Frag) (tg:Expr) (J:It) (fp:List Addr) (it:Addr) (tn:Nat->Heap->Prop):Prop where
 mem:it∈fp
 obj:∀ i h,tn i h->∀ b∈fp,∃ o,h.get? b=some o/\∀ v,o.data≠.cell v
 keep:∀ i h h',tn i h->(∀ b∈fp,∀ o,h.get? b=some o->h'.get? b=some o)->tn i h'
 item:∀ (X:Cx),X.prog=P->X.w=w->X.K=K->ok X->∀ (i:Nat) (pins:List (Addr×Obj)) (s:Shared) (σ:St) (H:Hp) (E:Value->Shared->Prop),aN X pins σ H s->(∀ b∈fp,nX X pins H b)->tn i s.heap->J.go i H ->
  wpAny (model P w) X.A (pyNext (.ref it)) (fun r s1=>∃ u,r=some u/\wpAny (model P w) X.A (letOwnedTupleGo tg (.ref it) u) (fun _ s2=>∃ x H',aN X pins σ H' s2/\aV x u/\J.yld i H x H'/\tn (i+1) s2.heap/\∀ b∈fp,H' b=none) E s1) E s
 done:∀ (X:Cx),X.prog=P->X.w=w->X.K=K->ok X->∀ (i:Nat) (pins:List (Addr×Obj)) (s:Shared) (σ:St) (H:Hp) (E:Value->Shared->Prop),aN X pins σ H s->(∀ b∈fp,nX X pins H b)->tn i s.heap->J.stop i H ->
  wpAny (model P w) X.A (pyNext (.ref it)) (fun r s1=>r=none/\aN X pins σ H s1) E s
 self:∀ (A:Around) (i:Nat) (s:Shared) (Q:Value->Shared->Prop) (E:Value->Shared->Prop),tn i s.heap->Q (.ref it) s->wpAny (model P w) A (pyIter (.ref it)) Q E s
noncomputable def Ad (ok:Cx->Prop) (X:Cx) (pins:List (Addr×Obj)) (σ:St) (tg:Expr) (R:It->Hp->Prop) (itv:Value) (s2:Shared):Prop:=
 ∃ (it:Addr) (fp:List Addr) (tn:Nat->Heap->Prop) (J:It) (H':Hp),itv=.ref it/\aN X pins σ H' s2/\Ab ok X.prog X.w X.K tg J fp it tn/\tn 0 s2.heap/\(∀ b∈fp,nX X pins H' b)/\R J H'
theorem QE {X:Cx}{pins:List (Addr×Obj)}{σ:St}{tg:Expr}{R:It->Hp->Prop}{itv:Value}{s2:Shared} (h:Cf X pins σ tg R itv s2):Ad (fun X=>X.calm=true) X pins σ tg R itv s2:=
 let ⟨it,fp,tn,J,H',a,b,T,c,d,e⟩:=h; ⟨it,fp,tn,J,H',a,b,⟨T.mem,T.obj,T.keep,T.item,T.done,T.self⟩,c,d,e⟩
theorem xN {X:Cx}{ok:Cx->Prop}{scope:Scope}{tn names:List Str}{is:List Nat} (ck:nI X scope tn names is) (hc:∀ C s0 H0 ex,ok (cM X scope (bC X.env names) (tn++names) C s0 H0 ex)) {elt tg iter:Expr}{ifs:List Expr}{pos:Pos}{te:TE}{tc:Option TT}{g:TG}
  (hg:∀ C s0 H0 ex,PG (cM X scope (bC X.env names) (tn++names) C s0 H0 ex) tg g) (he:∀ C s0 H0 ex,PE (cM X scope (bC X.env names) (tn++names) C s0 H0 ex) elt te)
  (ht:∀ C s0 H0 ex,VL (cM X scope (bC X.env names) (tn++names) C s0 H0 ex) ifs tc)
  {pins:List (Addr×Obj)} {σ:St} {Q:VK} {s2:Shared} {itv:Value} {E:Value->Shared->Prop} (h2:Ad ok X pins σ tg (qH te tc g (List.replicate tn.length none) (lH σ is) Q) itv s2) {RR:Value->Addr->Result->Shared->Prop}
  (fin:∀ (acc C:Addr) (H':Hp) (s':Shared) (m:Str->Option Value),aN X pins σ H' s'->s'.heap.Ns C m->H' C=none->C≠X.env.locals->(∀ x c,X.env.cells.lookup x=some c->c≠C)->(∀ p∈X.pn++pins,p.1≠C)->X.s₀.heap.objs.size<=C->Q (.ref acc) H' ->
   RR (.ref acc) C (.ok .next) s') :
  wpAny (model X.prog X.w) X.A (newList []) (fun acc s₃=>wpAny (model X.prog X.w) X.A (newFunctionEnv scope X.env.globals (bC X.env names) [] X.env.qual none .none (some X.env)) (fun cenv s₄ =>
   codeAny (model X.prog X.w) X.A (.compStart (.ListComp elt [⟨tg,iter,ifs,0⟩] scope pos) 0 itv acc { cenv with scope:=relabel scope X.env }) (RR acc cenv.locals) s₄) E s₃) E s2:=by
 obtain ⟨it,fp,tnx,J,H2,rfl,I2,T,st2,f2,hK⟩:=h2
 have facc:H2 s2.heap.objs.size=none:=I2.hok.fresh (le_refl _)
 refine wpAny_newObj_type ?_ (by show 0<=sizeLine; decide)
 have fpl:∀ b∈fp,b < s2.heap.objs.size:=fun b hb=>let ⟨o,e,_⟩:=T.obj 0 _ st2 b hb; lt_size e
 generalize hs3:({ s2 with heap:=s2.heap.push { cls:=.type "list",data:=.seq ([]:List Value).toArray } }:Shared)=s3
 have hsz3:s3.heap.objs.size=s2.heap.objs.size+1:=by rw [← hs3]; exact size_push ..
 have keep23:∀ b o,s2.heap.get? b=some o->s3.heap.get? b=some o:=fun b o e=>by rw [← hs3]; exact get?_push_of_some _ e
 have I3:aN X pins σ (upd H2 s2.heap.objs.size (.lst [])) s3:=by
  rw [← hs3]
  exact I2.laid (t':=s2.toks) (fun b u e=>get?_push_of_some _ e) (le_refl _) ⟨zero_le _,[],0,.nil,get?_push_size _ rfl⟩
 refine wpAny_newFunctionEnv ck.nocell (by intro y hy; simp at hy) (fun h1 ns sb=>?_) ck.kind
 have kp:∀ b o,s3.heap.get? b=some o->h1.get? b=some o:=fun b o e=>sb.extBut b o (ne_of_lt (lt_size e)) (get?_push_of_some _ e)
 have lt3:∀ b:Addr,b < s2.heap.objs.size->b < s3.heap.objs.size:=fun b hb=>lt_of_lt_of_le hb (by rw [hsz3]; exact le_succ _)
 have ns':h1.Ns s3.heap.objs.size fun _=>none:=ns
 have I4:=OE (t4:=s3.toks+([]:List (Str×Value)).length) ck I2 I3 f2 (fun b hb=>lt3 b (fpl b hb)) (fun b hb=>ne_of_lt (fpl b hb)) ns' kp
 generalize hX':cM X scope (bC X.env names) (tn++names) s3.heap.objs.size s3 (upd H2 s2.heap.objs.size (.lst [])) fp=X' at I4
 have hA:X'.A=X.A:=by rw [← hX']; rfl
 have hP:X'.prog=X.prog:=by rw [← hX']; rfl
 have hW:X'.w=X.w:=by rw [← hX']; rfl
 have hKK:X'.K=X.K:=by rw [← hX']; rfl
 have hcm:ok X':=by rw [← hX']; exact hc _ _ _ _
 have hfs:X'.fs=nN X.stack:=by rw [← hX']; rfl
 have hex:X'.ex=fp:=by rw [← hX']; rfl
 have hloc:X'.env.locals=s3.heap.objs.size:=by rw [← hX']; rfl
 have hs0:X'.s₀=s3:=by rw [← hX']; rfl
 have hH0:X'.H₀=upd H2 s2.heap.objs.size (.lst []):=by rw [← hX']; rfl
 have hxe:X'.xe=fun _ _=>False:=by rw [← hX']; rfl
 have henv:X'.env=compEnvC scope (bC X.env names) s3.heap.objs.size X.env:=by rw [← hX']; rfl
 have hg':PG X' tg g:=by rw [← hX']; exact hg _ _ _ _
 have he':PE X' elt te:=by rw [← hX']; exact he _ _ _ _
 have ht':VL X' ifs tc:=by rw [← hX']; exact ht _ _ _ _
 have cells':∀ x c,X'.env.cells.lookup x=some c->X.env.cells.lookup x=some c:=fun x c e=>by rw [henv] at e; exact jE e
 obtain ⟨W,⟨m0,w0⟩,turn⟩:=hK _ facc
 have stat:∀ {H':Hp},(∀ b∈fp,H' b=none)->∀ b∈fp,nX X' [] H' b:=fun {H'} hn b hb=>by
  refine ⟨hn b hb,?_,?_,.inl (by rw [hex]; exact hb),fun x c e=>(f2 b hb).2.2.2.2.1 x c (cells' x c e),fun p hp=>?_⟩
  ·rw [hloc]; exact ne_of_lt (lt3 b (fpl b hb))
  ·rw [hfs]
   intro z
   rcases mem_cons.mp (I2.stkSub b z) with q|q
   ·exact (f2 b hb).2.1 q
   ·exact (f2 b hb).2.2.1 q
  ·rw [← hX'] at hp
   exact absurd hp (by simp [cM])
 have loop:∀ s4:Shared,aN X' [] (List.replicate tn.length none++lH σ is) (upd H2 s2.heap.objs.size (.lst [])) s4->tnx 0 s4.heap ->
   codeAny (model X.prog X.w) X.A (.compLoop (.ListComp elt [⟨tg,iter,ifs,0⟩] scope pos) 0 (.ref it) (.ref s2.heap.objs.size) X'.env) (RR (.ref s2.heap.objs.size) s3.heap.objs.size) s4:=by
  intro s4 J4 st4
  refine vF (fun n s'=>∃ i ys ts H',aN X' [] (ts++lH σ is) H' s'/\ts.length=tn.length/\tnx i s'.heap/\(∀ b∈fp,H' b=none)/\W i n ys H') ?_ m0
   ⟨0,[],_,_,J4,length_replicate ..,st4,fun b hb=>by rw [aJ (ne_of_lt (fpl b hb))]; exact (f2 b hb).1,w0⟩
  rintro n s5 ⟨i,ys,ts,H5,I5,hts,st5,fr5,w5⟩
  obtain ⟨hacc5,hcase⟩:=turn i n ys H5 w5
  have hrun:∀ {α:Type} {m:Sem α} {Q':α->Shared->Prop} {s':Shared},wpAny (model X'.prog X'.w) X'.A m Q' (fun _ _=>False) s'->wpAny (model X.prog X.w) X.A m Q' (fun _ _=>False) s':=fun {α m Q' s'} z=>by
   rw [hP,hW,hA] at z; exact z
  rcases hcase with ⟨stop,qn⟩|⟨hlen,go,step⟩
  ·have z:=T.done X' hP hW hKK hcm i [] s5 _ H5 (fun _ _=>False) I5 (stat fr5) st5 stop
   rw [hA] at z
   refine cA z fun r s6 ⟨hr,I6⟩=>?_
   subst hr
   -- the frame around,behind the block
   have u23:Un (nN X.stack) fp H2 (upd H2 s2.heap.objs.size (.lst [])) s2.heap s3.heap:=Un.laid keep23 (le_refl _) facc
   have u36:Un (nN X.stack) fp (upd H2 s2.heap.objs.size (.lst [])) H5 s3.heap s6.heap:=by
    have b:=I6.base
    rw [hfs,hex,hs0,hH0] at b
    exact b
   have hos:s6.os=s2.os:=by
    have b:=I6.os
    rw [hs0,← hs3] at b
    exact b
   have IO:aN X pins σ H5 s6:=I2.call' hos (u23.trans u36) (by have b:=I6.hok; rw [hP,hW] at b; exact b) I6.bare fun b hb=>by
    obtain ⟨_,f1,f2',f3,f4,f5⟩:=f2 b hb
    exact ⟨f3,f1,fun x c e=>f4 x c e,fun p hp=>f5 p hp⟩
   obtain ⟨m,hm,_⟩:=I6.loc
   rw [hloc] at hm
   have fC:H5 s3.heap.objs.size=none:=by have b:=I6.free; rw [hloc] at b; exact b
   refine fin _ _ H5 s6 m IO hm fC ?_ (fun x c e=>?_) (fun p hp=>?_) ?_ qn
   ·exact ne_of_gt (lt_of_lt_of_le I2.lt (by omega))
   ·obtain ⟨v,z⟩:=I2.cell x c e
    exact ne_of_lt (lt3 c z.lt)
   ·exact ne_of_lt (lt3 p.1 (lt_size (I2.pin p hp).1))
   ·exact le_trans I2.sz (by omega)
  ·have z:=T.item X' hP hW hKK hcm i [] s5 _ H5 (fun _ _=>False) I5 (stat fr5) st5 go
   rw [hA] at z
   refine cA z fun r s6 ⟨u,hr,h6⟩=>?_
   subst hr
   refine cA h6 fun _ s7 ⟨x,H7,I7,r7,y7,st7,fr7⟩=>?_
   have I7':=I7.pinned (stat fr7) (T.obj _ _ st7)
   have zg:=hg' _ s7 _ H7 x u _ I7' r7 (step ts x H7 (by rw [hts,length_replicate]) y7)
   rw [hxe] at zg
   refine cA (hrun zg) fun _ s8 ⟨σ8,H8,I8,⟨us2,hus,e8⟩,q8⟩=>?_
   subst e8
   rw [length_replicate] at hus
   have back:∀ {s9:Shared} {H9:Hp},aN X' ([]++lD fp s7.heap) (us2++lH σ is) H9 s9->tnx (i+1) s9.heap/\∀ b∈fp,H9 b=none:=fun {s9 H9} I9=>by
    refine ⟨T.keep _ _ _ st7 fun b hb o e=>(I9.pin (b,o) (mem_append_right _ (mem_append_right _ (jB hb e)))).1,fun b hb=>?_⟩
    obtain ⟨o,e,d⟩:=T.obj _ _ st7 b hb
    exact (I9.pin (b,o) (mem_append_right _ (mem_append_right _ (jB hb e)))).2.1
   have made:∀ {s9:Shared} {H9:Hp},aN X' ([]++lD fp s7.heap) (us2++lH σ is) H9 s9->te (us2++lH σ is) H9 (fun y H3=>H3 s2.heap.objs.size=some (.lst ys)/\∃ m',m' < n/\W (i+1) m' (ys++[y]) (upd H3 s2.heap.objs.size (.lst (ys++[y])))) ->
     wpAny (model X.prog X.w) X.A (eval elt X'.env) (fun x s₄=>wpAny (model X.prog X.w) X.A (call (.builtin "list.append") [.ref s2.heap.objs.size,x]) (fun _ s₅=>∃ m,m < n/\∃ i ys ts H',aN X' [] (ts++lH σ is) H' s₅/\ts.length=tn.length/\tnx i s₅.heap/\(∀ b∈fp,H' b=none)/\W i m ys H') (fun _ _=>False) s₄) (fun _ _=>False) s9:=fun {s9 H9} I9 q9=>by
    have ze:=he' _ s9 _ H9 _ I9 q9
    rw [hxe] at ze
    refine cA (hrun ze) fun y s10 ⟨yv,H10,I10,ry,ha10,m',hm',w10⟩=>?_
    have za:=(dZ (X:=X')) ([]++lD fp s7.heap) s10 (us2++lH σ is) H10 (.ref s2.heap.objs.size) [yv] (.ref s2.heap.objs.size) [y] (fun v H'=>v=.non/\H'=upd H10 s2.heap.objs.size (.lst (ys++[yv]))) I10 rfl (.cons ry .nil)
     ⟨_,ys,yv,rfl,rfl,ha10,hlen,rfl,rfl⟩
    rw [hxe] at za
    refine cA (hrun za) fun _ s11 ⟨_,H11,I11,_,_,e11⟩=>?_
    subst e11
    obtain ⟨b1,b2⟩:=back I11
    exact ⟨m',hm',i+1,_,us2,_,I11.unpinned,hus,b1,b2,w10⟩
   cases ifs with
  |nil =>
    cases tc with
   |some t=>exact ht'.elim
   |none=>exact wpAny_tests_nil (by rw [if_pos rfl]; exact made I8 q8)
  |cons c0 dH =>
    cases dH with
   |cons _ _=>cases tc <;> exact ht'.elim
   |nil =>
     cases tc with
    |none=>exact ht'.elim
    |some t =>
      have zt:=(show PT X' c0 t from ht') _ s8 _ H8 _ I8 q8
      rw [hxe] at zt
      refine wpAny_tests_one (cA (hrun zt) fun ok s9 ⟨H9,I9,q9⟩=>?_)
      cases ok with
     |true=>rw [if_pos rfl]; rw [if_pos rfl] at q9; exact made I9 q9
     |false =>
       rw [if_neg Bool.false_ne_true]
       rw [if_neg Bool.false_ne_true] at q9
       obtain ⟨m',hm',w9⟩:=q9
       obtain ⟨b1,b2⟩:=back I9
       exact ⟨m',hm',i+1,_,us2,_,I9.unpinned,hus,b1,b2,w9⟩
 have st4:tnx 0 h1:=T.keep _ _ _ st2 fun b hb o e=>kp b o (keep23 b o e)
 have goal0:=loop _ I4 st4
 rw [henv] at goal0
 refine codeAny_compStart_list goal0 (T.self X.A 0 _ _ _ st4 goal0)
theorem eZ (ck:nI X scope tn names is) (hc:X.calm=true) (hi:PI X tg iter wi)
  (hg:∀ C s0 H0 ex,PG (cM X scope (bC X.env names) (tn++names) C s0 H0 ex) tg g) (he:∀ C s0 H0 ex,PE (cM X scope (bC X.env names) (tn++names) C s0 H0 ex) elt te)
  (ht:∀ C s0 H0 ex,VL (cM X scope (bC X.env names) (tn++names) C s0 H0 ex) ifs tc) (hs:∀ x,foldedSetIterable iter X.env x=pure x:=by intro _; rfl) :
  PE X (.ListComp elt [⟨tg,iter,ifs,0⟩] scope pos) (AN wi te tc g tn.length is):=by
 intro pins s σ H Q I h
 rw [eval_ListComp]
 refine wpAny_comprehension_free (use:=none) rfl hs (ck.cls fun x hx=>I.ok.has x (ck.outk x hx)) ck.kind ck.nms (cA (hi pins s σ H _ I h) fun v s1 h1=>cA h1 fun itv s2 h2=>?_)
 refine xN (RR:=fun acc C=>compPost (model X.prog X.w) X.A X.xe none (EP X pins σ Q) acc C) (ok:=fun X=>X.calm=true) ck (fun _ _ _ _=>hc) hg he ht (QE h2) fun acc C H' s' m I' hn hC hL hcl hpn hsz q=>?_
 refine ⟨m,hn,fun h' sb=>⟨.ref acc,H',?_,rfl,q⟩⟩
 exact I'.turned (t':=s'.toks) (fun b o hb e=>sb.extBut b o hb e) hC hL (.inr hsz) hcl hpn
theorem MS {i:Nat}{x:Str}{pos' spos:Pos} (hN:X.N.Nodup) (hi':X.N[i]?=some x) (hx:VT X.env.scope x) (ck:nI X scope tn names is) (hc:X.calm=true) (hi:PI X tg iter wi)
  (hg:∀ C s0 H0 ex,PG (cM X scope (bC X.env names) (tn++names) C s0 H0 ex) tg g) (he:∀ C s0 H0 ex,PE (cM X scope (bC X.env names) (tn++names) C s0 H0 ex) elt te)
  (ht:∀ C s0 H0 ex,VL (cM X scope (bC X.env names) (tn++names) C s0 H0 ex) ifs tc) (hs:∀ x,foldedSetIterable iter X.env x=pure x:=by intro _; rfl)
  (hsw:swapsWith (.ListComp elt [⟨tg,iter,ifs,0⟩] scope pos) (some (.Name x pos')) spos.line X.env=pure true:=by rfl) (hf:X.fn x=true∨X.env.scope.names.lookup x=some .local:=by first|exact .inl rfl|exact .inr rfl|assumption) :
  PS X (.Assign [.Name x pos'] (.ListComp elt [⟨tg,iter,ifs,0⟩] scope pos) spos) (LN (AN wi te tc g tn.length is) (nM i)):=by
 intro pins s σ H D I h
 rw [exec_Assign_Name_used _ _ _ _ hsw]
 refine wpAny_bind (wpAny_standAt (wpAny_bind ?_))
 show wpAny _ X.A (do let _ ← comprehension (.ListComp elt [⟨tg,iter,ifs,0⟩] scope pos) scope X.env _ (newList []) false (eval iter X.env) (some (assign (.Name x pos') X.env))) _ _ s
 refine wpAny_bind (wpAny_mono (wpAny_comprehension_free (use:=some (assign (.Name x pos') X.env)) (Q:=fun _ s'=>SP X pins D .next s') rfl hs (ck.cls fun x hx=>I.ok.has x (ck.outk x hx)) ck.kind ck.nms
  (cA (hi pins s σ H _ I h) fun v s1 h1=>cA h1 fun itv s2 h2=>?_)) (fun _ s' hq=>wpAny_pure (wpAny_pure hq)) fun _ _ e=>e)
 refine xN (RR:=fun acc C=>compPost (model X.prog X.w) X.A X.xe (some (assign (.Name x pos') X.env)) (fun _ s'=>SP X pins D .next s') acc C) (ok:=fun X=>X.calm=true) ck (fun _ _ _ _=>hc) hg he ht (QE h2) fun acc C H' s' m I' hn hC hL hcl hpn hsz q=>?_
 show wpAny _ X.A (assign (.Name x pos') X.env (.ref acc)) _ _ s'
 refine wpAny_assign_Name (rJ I' hN hi' hx (v:=.ref acc) rfl (fun s'' I'' sb=>?_) hf)
 obtain ⟨a,sb,ha⟩:=sb
 have hne:C≠a:=by
  rcases ha with rfl|ha
  ·exact hL
  ·exact fun z=>hcl x a ha z.symm
 refine ⟨m,hn.sameBut sb hne,fun h' sb'=>⟨_,H',I''.turned (t':=s''.toks) (fun b o hb e=>sb'.extBut b o hb e) hC hL (.inr hsz) hcl hpn,q⟩⟩
end
section
variable {te:TE} {Q:VK} {H:Hp} {σ caps:St} {wi:TI} {tc:TT} {K:Frag}
theorem SI {o:Option TT}{g:TG}{k:Nat}{is:List Nat} (h:wi σ H (qH te o g (List.replicate k none) (lH σ is) Q)):AN wi te o g k is σ H Q:=h
theorem UB {us:St} (h:us.length=1):∃ o,us=[o]:=by
 cases us with
|nil=>cases h
|cons o r =>
  cases r with
 |nil=>exact ⟨o,rfl⟩
 |cons _ _=>simp at h
noncomputable def cW (n:Nat) (acc:Addr) (Pv:Nat->List V->Hp->Prop):Nat->Nat->List V->Hp->Prop:=fun i m ys H1=>m=n - i/\i<=n/\ys.length=i/\H1 acc=some (.lst ys)/\Pv i ys H1
noncomputable def CP (n:Nat) (acc:Addr) (Pv:Nat->List V->Hp->Prop) (ys:List V) (i:Nat):VK:=fun y H3=>H3 acc=some (.lst ys)/\∃ m',m' < n - i/\cW n acc Pv (i+1) m' (ys++[y]) (upd H3 acc (.lst (ys++[y])))
theorem gJ {n:Nat}{acc:Addr}{Pv:Nat->List V->Hp->Prop}{ys:List V}{i:Nat}{y:V}{H3:Hp} (hlt:i < n) (hl:ys.length=i) (ha:H3 acc=some (.lst ys)) (p:Pv (i+1) (ys++[y]) (upd H3 acc (.lst (ys++[y])))):CP n acc Pv ys i y H3:=
 ⟨ha,n - (i+1),by omega,rfl,hlt,by rw [length_append,hl]; rfl,aB,p⟩
theorem gZ {a:Addr}{xs:List V} (hn:xs.length<=1000) (Pv:Addr->Nat->List V->Hp->Prop) (h0:∀ acc,H acc=none->Pv acc 0 [] (upd H acc (.lst []))) (hl':∀ acc i ys H1,H acc=none->i<=xs.length->Pv acc i ys H1->bX K H1 a xs)
  (hs:∀ acc i ys H1 x,H acc=none->xs[i]?=some x->ys.length=i->H1 acc=some (.lst ys)->Pv acc i ys H1->te (some x::caps) H1 (CP xs.length acc (Pv acc) ys i))
  (hd:∀ acc ys H1,H acc=none->H1 acc=some (.lst ys)->ys.length=xs.length->Pv acc xs.length ys H1->Q (.ref acc) H1):qH te none (nM 0) (List.replicate 1 none) caps Q (LH K a) H:=by
 intro acc hacc
 refine ⟨cW xs.length acc (Pv acc),⟨xs.length,by simp,zero_le _,rfl,aB,h0 acc hacc⟩,?_⟩
 rintro i m ys H1 ⟨rfl,hi,hl,ha,p⟩
 have q:=hl' acc i ys H1 hacc hi p
 refine ⟨ha,?_⟩
 by_cases hlt:i < xs.length
 ·refine .inr ⟨eQ (by omega),⟨xs,xs[i],q,by simp [hlt]⟩,fun us x H' hu y=>?_⟩
  obtain ⟨e,y⟩:=y
  subst e
  obtain ⟨o,rfl⟩:=UB hu
  exact ⟨⟨[some x],rfl,rfl⟩,hs acc i ys _ x hacc (y xs q) hl ha p⟩
 ·have e:i=xs.length:=by omega
  subst e
  exact .inl ⟨⟨xs,q,le_refl _⟩,hd acc ys H1 hacc ha hl p⟩
end
end
end L2
namespace L2
open PySem
section
variable {H:Hp} {Q:VK} {u v:V} {a b c d:Int} {m n:Nat} {K:Frag}
end
end L2
namespace L2
theorem CN {x y z:Int} (h1:Int.gcd x y=1) (h2:Int.gcd x z=1):Int.gcd x (y * z)=1:=by
 unfold Int.gcd at *
 rw [Int.natAbs_mul]
 exact Nat.Coprime.mul_right h1 h2
theorem oP {x x' y:Int} (h:x' ∣ x) (h1:Int.gcd x y=1):Int.gcd x' y=1:=by
 unfold Int.gcd at *
 exact Nat.Coprime.coprime_dvd_left (Int.natAbs_dvd_natAbs.mpr h) h1
theorem GW {t b f g:Int} (hb:b≠0) (hg:0 < g) (hc:Int.gcd f g=1) (e:f * b=t * g):(Rat.divInt t b).num=f/\((Rat.divInt t b).den:Int)=g:=by
 obtain ⟨n,rfl⟩:∃ n:Nat,g=n:=⟨g.toNat,by omega⟩
 have h1:Rat.divInt t b=Rat.divInt f n:=(Rat.divInt_eq_divInt_iff hb (by omega)).mpr e.symm
 have h2:Rat.divInt f n=Rat.mk' f n (by omega) hc:=Rat.num_divInt_den (Rat.mk' f n (by omega) hc)
 rw [h1,h2]
 exact ⟨rfl,rfl⟩
theorem qC {a g:Int} (hg:g≠0) (h:g ∣ a):a.fdiv g * g=a:=by
 obtain ⟨c,rfl⟩:=h
 rw [Int.mul_fdiv_cancel_left _ hg,Int.mul_comm]
theorem qD {k n m:Int} (h:k ∣ n * m) (g:Int.gcd k n=1):k ∣ m:=by
 have q:=Int.dvd_gcd_mul_iff_dvd_mul.mpr h
 rw [g] at q
 simpa using q
theorem qA {x y:Int} (h:∀ k:Int,k ∣ x->k ∣ y->k ∣ 1):Int.gcd x y=1:=by
 have h1:=h (Int.gcd x y) (Int.gcd_dvd_left ..) (Int.gcd_dvd_right ..)
 have:=Int.le_of_dvd (by decide) h1
 have h0:Int.gcd x y≠0:=by
  intro z
  rw [z] at h1
  simp at h1
 omega
theorem FG {a b c d s k f u v:Int} (hb:0 < b) (hd:0 < d) (h1:Int.gcd a b=1) (h2:Int.gcd c d=1) (hs:s=(Int.gcd b d:Int)) (hu:u=d.fdiv s) (hv:v=b.fdiv s)
  (hk:k=(Int.gcd (a * u+c * v) s:Int)) (hf:f=(a * u+c * v).fdiv k) :
  0 < s/\0 < k/\s<=b/\k<=s/\(0 < b.fdiv k * u/\Int.gcd f (b.fdiv k * u)=1/\f * (b * d)=(a * d+c * b) * (b.fdiv k * u)) /\
   u.natAbs<=d.natAbs/\v.natAbs<=b.natAbs/\f.natAbs<=(a * u+c * v).natAbs/\(b.fdiv k).natAbs<=b.natAbs:=by
 have le_of_mul:∀ {a g c:Int},g≠0->a * g=c->a.natAbs<=c.natAbs:=fun {a g c} hg e=>by
  rw [← e,Int.natAbs_mul]
  exact Nat.le_mul_of_pos_right _ (by omega)
 have s0:0 < s:=by
  rw [hs]
  have:Int.gcd b d≠0:=fun e=>by
   have:=(Int.gcd_eq_zero_iff.mp e).1
   omega
  omega
 have sb:s ∣ b:=hs ▸ Int.gcd_dvd_left ..
 have sd:s ∣ d:=hs ▸ Int.gcd_dvd_right ..
 have eu:u * s=d:=hu ▸ qC (by omega) sd
 have ev:v * s=b:=hv ▸ qC (by omega) sb
 have k0:0 < k:=by
  rw [hk]
  have:Int.gcd (a * u+c * v) s≠0:=fun e=>by
   have:=(Int.gcd_eq_zero_iff.mp e).2
   omega
  omega
 have kt:k ∣ a * u+c * v:=hk ▸ Int.gcd_dvd_left ..
 have ks:k ∣ s:=hk ▸ Int.gcd_dvd_right ..
 have ef:f * k=a * u+c * v:=hf ▸ qC (by omega) kt
 obtain ⟨m,em⟩:=ks
 have m0:0 < m:=by
  rcases Int.lt_or_le 0 m with q|q
  ·exact q
  ·have:k * m<=0:=Int.mul_nonpos_of_nonneg_of_nonpos (by omega) q
   omega
 have u0:0 < u:=by
  rcases Int.lt_or_le 0 u with q|q
  ·exact q
  ·have:u * s<=0:=Int.mul_nonpos_of_nonpos_of_nonneg q (by omega)
   omega
 have v0:0 < v:=by
  rcases Int.lt_or_le 0 v with q|q
  ·exact q
  ·have:v * s<=0:=Int.mul_nonpos_of_nonpos_of_nonneg q (by omega)
   omega
 have ebk:b.fdiv k=v * m:=by
  have:b=k * (v * m):=by rw [← ev,em]; grind
  rw [this,Int.mul_fdiv_cancel_left _ (by omega)]
 have cuv:Int.gcd u v=1:=by
  have e:Int.gcd (u * s) (v * s)=Int.gcd u v * s.natAbs:=Int.gcd_mul_right ..
  rw [eu,ev,Int.gcd_comm] at e
  have:s.natAbs=Int.gcd b d:=by omega
  rw [this] at e
  have h0:0 < Int.gcd b d:=by omega
  have:1 * Int.gcd b d=Int.gcd u v * Int.gcd b d:=by omega
  exact (Nat.eq_of_mul_eq_mul_right h0 this).symm
 have cu:Int.gcd (a * u+c * v) u=1:=by
  refine qA fun z h3 h4=>?_
  have h5:z ∣ c * v:=(Int.dvd_add_right (Int.dvd_mul_of_dvd_right h4)).mp h3
  have h6:Int.gcd z c=1:=oP (Int.dvd_trans h4 ⟨s,eu.symm⟩) (by rw [Int.gcd_comm]; exact h2)
  have h7:z ∣ v:=qD h5 h6
  have:=Int.dvd_coe_gcd h4 h7
  rw [cuv] at this
  exact this
 have cv:Int.gcd (a * u+c * v) v=1:=by
  refine qA fun z h3 h4=>?_
  have h5:z ∣ a * u:=(Int.dvd_add_left (Int.dvd_mul_of_dvd_right h4)).mp h3
  have h6:Int.gcd z a=1:=oP (Int.dvd_trans h4 ⟨s,ev.symm⟩) (by rw [Int.gcd_comm]; exact h1)
  have h7:z ∣ u:=qD h5 h6
  have:=Int.dvd_coe_gcd h7 h4
  rw [cuv] at this
  exact this
 have cm:Int.gcd f m=1:=by
  have e:Int.gcd (f * k) (m * k)=Int.gcd f m * k.natAbs:=Int.gcd_mul_right ..
  have:m * k=s:=by rw [em,Int.mul_comm]
  rw [ef,this] at e
  have h3:k.natAbs=Int.gcd (a * u+c * v) s:=by omega
  rw [h3] at e
  have h0:0 < Int.gcd (a * u+c * v) s:=by omega
  have:1 * Int.gcd (a * u+c * v) s=Int.gcd f m * Int.gcd (a * u+c * v) s:=by omega
  exact (Nat.eq_of_mul_eq_mul_right h0 this).symm
 have fd:f ∣ a * u+c * v:=⟨k,ef.symm⟩
 refine ⟨s0,k0,Int.le_of_dvd hb sb,Int.le_of_dvd s0 ⟨m,em⟩,⟨?_,?_,?_⟩,le_of_mul (by omega) eu,le_of_mul (by omega) ev,le_of_mul (by omega) ef,le_of_mul (g:=k) (by omega) (by rw [ebk,← ev,em]; grind)⟩
 ·rw [ebk]; exact Int.mul_pos (Int.mul_pos v0 m0) u0
 ·rw [ebk]
  exact CN (CN (oP fd cv) cm) (oP fd cu)
 ·rw [ebk]
  have e1:a * d+c * b=(f * k) * s:=by rw [ef,← eu,← ev]; grind
  rw [e1,← eu,← ev]
  have:f * (v * s * (u * s))=f * s * v * u * s:=by grind
  rw [this]
  have:f * k * s * (v * m * u)=f * s * v * u * (k * m):=by grind
  rw [this,← em]
noncomputable def Sz (n:Nat) (q:Rat):Prop:=q.num.natAbs < 2 ^ n/\q.den < 2 ^ n
theorem AA (q r:Rat):q+r=Rat.divInt (q.num * r.den+r.num * q.den) (q.den * r.den):=by
 have h1:(q.den:Int)≠0:=by have:=q.den_pos; omega
 have h2:(r.den:Int)≠0:=by have:=r.den_pos; omega
 have:=Rat.divInt_add_divInt q.num r.num h1 h2
 rw [Rat.num_divInt_den,Rat.num_divInt_den] at this
 exact this
theorem Sz.neg {n:Nat}{q:Rat} (h:Sz n q):Sz n (-q):=⟨by rw [Rat.neg_num,Int.natAbs_neg]; exact h.1,h.2⟩
theorem IS (q r:Rat):decide (q.num * r.den < r.num * q.den)=decide (q < r):=by
 by_cases h:q < r
 ·rw [decide_eq_true h,decide_eq_true ((Rat.lt_iff q r).mp h)]
 ·rw [decide_eq_false h,decide_eq_false (fun z=>h ((Rat.lt_iff q r).mpr z))]
end L2
namespace L2
noncomputable def Bd (D M:Nat) (q:Rat):Prop:=q.den ∣ D/\-((M:Nat):Rat)<=q/\q<=((M:Nat):Rat)
theorem BZ {a b:Int} (ha:0<=a) (hb:1<=b):a<=a * b:=by
 have:=Int.mul_le_mul_of_nonneg_left hb ha
 omega
theorem OA {t b:Int} (hb:b≠0):((Rat.divInt t b).den:Int) ∣ b:=by
 have e:Rat.divInt (Rat.divInt t b).num (Rat.divInt t b).den=Rat.divInt t b:=Rat.num_divInt_den _
 have hd:((Rat.divInt t b).den:Int)≠0:=by have:=(Rat.divInt t b).den_pos; omega
 rw [Rat.divInt_eq_divInt_iff hd hb] at e
 have hc:Int.gcd (Rat.divInt t b).num (Rat.divInt t b).den=1:=(Rat.divInt t b).reduced
 exact qD (n:=(Rat.divInt t b).num) ⟨t,by rw [e,Int.mul_comm]⟩ (by rw [Int.gcd_comm]; exact hc)
theorem TD {D:Nat}{q:Rat} (h:q.den ∣ D) (hD:D≠0):∃ a:Int,q=Rat.divInt a D:=by
 obtain ⟨m,e⟩:=h
 refine ⟨q.num * m,?_⟩
 have hq:=q.den_pos
 have e1:Rat.divInt (q.num * m) D=Rat.divInt q.num q.den:=by
  rw [Rat.divInt_eq_divInt_iff (by omega) (by omega),e]
  push_cast
  grind
 rw [e1,Rat.num_divInt_den]
theorem OB {D:Nat}{q r:Rat} (hD:D≠0) (h1:q.den ∣ D) (h2:r.den ∣ D):(q+r).den ∣ D:=by
 obtain ⟨a,rfl⟩:=TD h1 hD
 obtain ⟨b,rfl⟩:=TD h2 hD
 rw [Rat.divInt_add_divInt a b (by omega) (by omega)]
 have e:Rat.divInt (a * D+b * D) (D * D)=Rat.divInt (a+b) D:=by
  rw [Rat.divInt_eq_divInt_iff (Int.mul_ne_zero (by omega) (by omega)) (by omega)]
  grind
 rw [e]
 exact Int.natCast_dvd_natCast.mp (OA (by omega))
theorem Bd.add {D M N:Nat}{q r:Rat} (hD:D≠0) (h1:Bd D M q) (h2:Bd D N r):Bd D (M+N) (q+r):=by
 obtain ⟨a1,a2,a3⟩:=h1
 obtain ⟨b1,b2,b3⟩:=h2
 refine ⟨OB hD a1 b1,?_,?_⟩
 ·have e:(((M+N:Nat)):Rat)=(M:Rat)+(N:Rat):=by push_cast; rfl
  rw [e]
  grind
 ·have e:(((M+N:Nat)):Rat)=(M:Rat)+(N:Rat):=by push_cast; rfl
  rw [e]
  grind
theorem Bd.mono {D M N:Nat}{q:Rat} (h:Bd D M q) (l:M<=N):Bd D N q:=by
 obtain ⟨a1,a2,a3⟩:=h
 have e:(M:Rat)<=(N:Rat):=by
  rw [Rat.le_iff]
  simp
  omega
 exact ⟨a1,by grind,by grind⟩
theorem Bd.sz {D M n:Nat}{q:Rat} (h:Bd D M q) (hD:D≠0) (h1:D < 2 ^ n) (h2:M * D < 2 ^ n):Sz n q:=by
 obtain ⟨a1,a2,a3⟩:=h
 have hle:=le_of_dvd (by omega) a1
 have k1:q.num<=M * q.den:=by
  have:=(Rat.le_iff q (M:Rat)).mp a3
  simpa using this
 have k2:-(M * q.den:Int)<=q.num:=by
  have:=(Rat.le_iff (-(M:Rat)) q).mp a2
  have e1:(-(M:Rat)).num=-(M:Int):=by rw [Rat.neg_num]; simp
  have e2:(-(M:Rat)).den=1:=by rw [Rat.neg_den]; simp
  rw [e1,e2] at this
  simp at this
  have e3:-(M:Int) * q.den=-((M:Int) * q.den):=by grind
  omega
 refine ⟨?_,by omega⟩
 have k3:M * q.den<=M * D:=mul_le_mul_left _ hle
 have k4:((M * q.den:Nat):Int)=(M:Int) * q.den:=by push_cast; rfl
 omega
theorem Bd.of {q:Rat}{M:Nat} (h:q.num.natAbs<=M):Bd q.den M q:=by
 have hp:=q.den_pos
 refine ⟨Nat.dvd_refl _,?_,?_⟩
 ·rw [Rat.le_iff]
  have e1:(-(M:Rat)).num=-(M:Int):=by rw [Rat.neg_num]; simp
  have e2:(-(M:Rat)).den=1:=by rw [Rat.neg_den]; simp
  rw [e1,e2]
  have:(M:Int)<=(M:Int) * q.den:=BZ (by omega) (by omega)
  have e3:-(M:Int) * q.den=-((M:Int) * q.den):=by grind
  simp
  omega
 ·rw [Rat.le_iff]
  have:(M:Int)<=(M:Int) * q.den:=BZ (by omega) (by omega)
  simp
  omega
theorem Bd.dvd {D E M:Nat}{q:Rat} (h:Bd D M q) (d:D ∣ E):Bd E M q:=⟨Nat.dvd_trans h.1 d,h.2⟩
end L2
namespace L2
open PySem
noncomputable def tD (xs:Array Nat):Prop:=xs.toList.Pairwise (· < ·)
theorem tD.lt {xs:Array Nat} (h:tD xs) {i j:Nat} (hij:i < j) (hj:j < xs.size):xs[i]'(lt_trans hij hj) < xs[j]:=by
 have:=List.pairwise_iff_getElem.mp h i j (by simpa using lt_trans hij hj) (by simpa using hj) hij
 simpa using this
theorem tD.le {xs:Array Nat} (h:tD xs) {i j:Nat} (hij:i<=j) (hj:j < xs.size):xs[i]'(lt_of_le_of_lt hij hj)<=xs[j]:=by
 rcases Nat.lt_or_eq_of_le hij with h1|h1
 ·exact le_of_lt (h.lt h1 hj)
 ·subst h1
  exact le_refl _
noncomputable def xV (xs:Array Nat) (j r:Nat):Prop:=r<=xs.size/\(∀ k (hk:k < xs.size),k < r->xs[k] < j)/\∀ k (hk:k < xs.size),r<=k->j<=xs[k]
theorem qK {xs:Array Nat}{j:Nat} (h:tD xs):∀ (fuel lo hi:Nat),hi - lo<=fuel->lo<=hi->hi<=xs.size->(∀ k (hk:k < xs.size),k < lo->xs[k] < j)->(∀ k (hk:k < xs.size),hi<=k->j<=xs[k])->xV xs j (SetTable.below.go xs j fuel lo hi)
|0,lo,hi,hf,hl,hh,h1,h2=>by
  have:lo=hi:=by omega
  subst this
  unfold SetTable.below.go
  exact ⟨hh,h1,h2⟩
|fuel+1,lo,hi,hf,hl,hh,h1,h2=>by
  unfold SetTable.below.go
  by_cases hlt:lo < hi
  ·rw [if_pos hlt]
   have hm:(lo+hi) / 2 < xs.size:=by omega
   have eg:xs.getD ((lo+hi) / 2) j=xs[(lo+hi) / 2]:=by simp [Array.getD,hm]
   show xV xs j (if xs.getD ((lo+hi) / 2) j < j then SetTable.below.go xs j fuel ((lo+hi) / 2+1) hi else SetTable.below.go xs j fuel lo ((lo+hi) / 2))
   rw [eg]
   by_cases c:xs[(lo+hi) / 2] < j
   ·rw [if_pos c]
    exact qK h fuel ((lo+hi) / 2+1) hi (by omega) (by omega) hh (fun k hk hk'=>lt_of_le_of_lt (h.le (show k<=(lo+hi) / 2 by omega) hm) c) h2
   ·rw [if_neg c]
    exact qK h fuel lo ((lo+hi) / 2) (by omega) (by omega) (by omega) h1 fun k hk hk'=>le_trans (Nat.le_of_not_lt c) (h.le hk' hk)
  ·rw [if_neg hlt]
   have:lo=hi:=by omega
   subst this
   exact ⟨hh,h1,h2⟩
theorem fK {xs:Array Nat} (j:Nat) (h:tD xs):xV xs j (SetTable.below xs j):=
 qK h xs.size 0 xs.size (by omega) (zero_le _) (le_refl _) (fun _ _ z=>absurd z (not_lt_zero _)) fun k hk z=>absurd hk (not_lt.mpr z)
theorem mW {xs:Array Nat}{j r r':Nat} (h:xV xs j r) (h':xV xs j r'):r=r':=by
 rcases lt_trichotomy r r' with c|c|c
 ·have hk:r < xs.size:=lt_of_lt_of_le c h'.1
  exact absurd (h'.2.1 r hk c) (not_lt.mpr (h.2.2 r hk (le_refl _)))
 ·exact c
 ·have hk:r' < xs.size:=lt_of_lt_of_le c h.1
  exact absurd (h.2.1 r' hk c) (not_lt.mpr (h'.2.2 r' hk (le_refl _)))
theorem zX {xs:Array Nat} (h:tD xs):SetTable.below xs 0=0:=
 mW (fK 0 h) ⟨zero_le _,fun _ _ z=>absurd z (not_lt_zero _),fun _ _ _=>zero_le _⟩
theorem zY {xs:Array Nat} (h:tD xs) {i:Nat} (hi:i < xs.size):SetTable.below xs (xs[i]+1)=i+1:=
 mW (fK _ h) ⟨hi,fun k hk z=>Nat.lt_succ_of_le (h.le (Nat.le_of_lt_succ z) hi),fun k hk z=>Nat.succ_le_of_lt (h.lt z hk)⟩
theorem BD {xs:Array Nat}{j:Nat} (h:tD xs) (hn:xs[SetTable.below xs j]?≠some j):tD (SetTable.insertAt xs (SetTable.below xs j) j):=by
 have st:=fK j h
 generalize SetTable.below xs j=p at st hn
 unfold tD
 rw [SetTable.toList_insertAt]
 have h1:∀ a∈xs.toList.take p,a < j:=fun a ha=>by
  obtain ⟨k,hk,e⟩:=List.getElem_of_mem ha
  rw [length_take] at hk
  rw [List.getElem_take,Array.getElem_toList] at e
  rw [← e]
  exact st.2.1 k (by simp at hk; omega) (by omega)
 have h2:∀ a∈xs.toList.drop p,j < a:=fun a ha=>by
  obtain ⟨k,hk,e⟩:=List.getElem_of_mem ha
  rw [length_drop,Array.length_toList] at hk
  rw [List.getElem_drop,Array.getElem_toList] at e
  have hp:p < xs.size:=by omega
  have h0:=st.2.2 p hp (le_refl _)
  have h3:xs[p]≠j:=fun z=>hn (by rw [Array.getElem?_eq_getElem hp,z])
  have h4:=h.le (show p<=p+k by omega) (by omega)
  rw [← e]
  omega
 refine List.pairwise_append.mpr ⟨h.sublist (List.take_sublist ..),List.pairwise_cons.mpr ⟨h2,h.sublist (List.drop_sublist ..)⟩,fun a ha b hb=>?_⟩
 rcases mem_cons.mp hb with rfl|hb
 ·exact h1 a ha
 ·exact lt_trans (h1 a ha) (h2 b hb)
noncomputable def Tb (w:World) (t:SetTable) (_n:Nat):Prop:=t.led=!(w.params.followText "set-order")/\tD t.place/\t.dummies=#[]
theorem jY (n:Nat):tD (Array.range n):=by
 unfold tD
 rw [Array.toList_range]
 exact List.pairwise_lt_range
theorem oK (j:Nat):SetTable.has #[] j=false:=by
 unfold SetTable.has
 simp
theorem pH {t:SetTable}{f:Nat->Int}{h:Int} (ht:t.dummies=#[]):∀ (fuel:Nat) (p:SetTable.Probe) (j:Nat) (d:Option Nat),SetTable.probe.go t f h fuel p=some (.empty j d)->p.dummy=none->t.slot j=.empty/\d=none
|0,p,j,d,e,hd=>nomatch e
|fuel+1,p,j,d,e,hd=>by
  have adv:(t.advance p).dummy=none:=by
   unfold SetTable.advance
   split
   ·exact hd
   ·exact hd
  unfold SetTable.probe.go at e
  cases hs:t.slot p.j with
 |empty =>
   rw [hs] at e
   have e:=Option.some.inj e
   injection e with e1 e2
   exact ⟨by rw [← e1]; exact hs,by rw [← e2]; exact hd⟩
 |dummy =>
   exfalso
   unfold SetTable.slot at hs
   dsimp only at hs
   rw [ht,oK,if_neg Bool.false_ne_true] at hs
   split at hs <;> cases hs
 |live i =>
   rw [hs] at e
   dsimp only at e
   split at e
   ·exact nomatch Option.some.inj e
   ·exact pH ht fuel _ j d e adv
theorem rO {t:SetTable}{j:Nat} (h:t.slot j=.empty):t.place[SetTable.below t.place j]?≠some j:=fun e=>by
 unfold SetTable.slot at h
 dsimp only at h
 rw [e,if_pos (by simp)] at h
 cases h
theorem EF {w:World}{t:SetTable}{n m:Nat} (es:Array (Int×Value)) (h:Int) (x:Value) (ht:Tb w t n):Tb w (layNew t es h x).2.1 m:=by
 obtain ⟨h1,h2,h3⟩:=ht
 unfold layNew
 split
 ·rename_i slot wd e
  dsimp only
  have hp:Tb w (t.put slot).1 m:=by
   have hs:t.place[SetTable.below t.place slot]?≠some slot:=by
    unfold SetTable.freeSlot at e
    split at e
    ·rename_i j d e'
     have:=pH h3 _ _ _ _ e' rfl
     rw [this.2] at e
     have e:=Option.some.inj e
     have e1:j=slot:=congrArg Prod.fst e
     rw [← e1]
     exact rO this.1
    ·cases e
   unfold SetTable.put
   refine ⟨h1,BD h2 hs,?_⟩
   show (if SetTable.has t.dummies slot then _ else t.dummies)=#[]
   rw [h3,oK,if_neg Bool.false_ne_true]
  unfold SetTable.orStandIn
  split
  ·exact hp
  ·exact ⟨h1,jY _,rfl⟩
 ·exact ⟨h1,jY _,rfl⟩
theorem GV {w:World}{t:SetTable}{n m:Nat} (es:Array (Int×Value)) (k:Nat) (ht:Tb w t n):Tb w (relayAll t es k).2.1 m:=by
 obtain ⟨h1,h2,h3⟩:=ht
 unfold relayAll
 split
 ·rename_i t' order e
  unfold SetTable.relaid SetTable.laid at e
  cases hc:SetTable.layClean (SetTable.sizeAbove k - 1) (Array.map (fun x=>x.fst) es) with
 |none =>
   rw [hc] at e
   exact nomatch e
 |some ow =>
  rw [hc] at e
  have e3:=congrArg Prod.fst (Option.some.inj e)
  dsimp only at e3
  subst e3
  dsimp only
  split
  ·refine ⟨h1,?_,rfl⟩
   unfold tD
   dsimp only
   refine pairwise_map.mpr (List.pairwise_filterMap.mpr (List.pairwise_lt_range.imp fun {a b} hab x hx y hy=>?_))
   simp only [Option.map_eq_some_iff] at hx hy
   obtain ⟨_,_,rfl⟩:=hx
   obtain ⟨_,_,rfl⟩:=hy
   exact hab
  ·exact ⟨h1,jY _,rfl⟩
 ·exact ⟨h1,jY _,rfl⟩
section
variable {prog:Program} {w:World} {K:Type} [DecidableEq K] {knd:KeyKind prog w K} {A:Around} {E:Value -> Shared -> Prop} {s:Shared}
theorem KH {a:Addr}{o:Obj}{es:Array (Int×Value)}{ep:Nat}{t:SetTable}{x:Value}{k:K}{Q:Bool->Shared->Prop} (hsc:x.scannable=true) (hkey:knd.is k x=true) (ho:s.heap.get? a=some o) (hex:o.ExactSet) (hd:o.data=.set es ep t)
  (hel:ElemsOf knd es.toList) (hb:es.size+1 < scanBound) (hf:t.fits es.size=true) (ht:Tb w t es.size)
  (h1:(∃ e∈es.toList,knd.is k e.2=true)->Q false s)
  (h2:(∀ e∈es.toList,knd.is k e.2=false)->∀ (h':Heap) (es':Array (Int×Value)) (t':SetTable) (ep':Nat),Heap.SameBut a s.heap h'->h'.get? a=some { o with data:=.set es' ep' t' }->List.Perm es'.toList (es.toList++[(knd.hash k,x)]) ->
   t'.fits es'.size=true->Tb w t' es'.size->Q true { s with heap:=h' }):wpAny (model prog w) A (setAddHashed a x (knd.hash k)) Q E s:=by
 unfold setAddHashed setAddHashedIn
 refine wpAny_holding (wpAny_bind (wpAny_setState_of ho hd hf ?_))
 dsimp only
 rw [byScan_of hsc (by omega) hel,if_pos rfl]
 unfold setAddByScan
 refine wpAny_bind (wpAny_bind (wpAny_rule (wpAny_bind (wpAny_setScan_of hkey ho hd hf hel ?_))))
 cases hr:List.findIdx? (fun e=>knd.is k e.2) es.toList with
|some j =>
  obtain ⟨hj,hpj,_⟩:=List.findIdx?_eq_some_iff_getElem.mp hr
  exact wpAny_pure (wpAny_pure (h1 ⟨_,List.getElem_mem hj,hpj⟩))
|none =>
  have hno:=List.findIdx?_eq_none_iff.mp hr
  have gw:∀ (b:Bool) {s₁:Shared} {Q':Unit->Shared->Prop},Q' () s₁->wpAny (model prog w) A (match b with|true=>rule "set.scan.the-table-gave-way"|false=>pure ()) Q' E s₁:=fun b _ _ hq=>by
   cases b
   ·exact wpAny_pure hq
   ·exact wpAny_rule hq
  dsimp only
  have p1:=layNew_perm t es (knd.hash k) x
  have f1:=layNew_fits t es (knd.hash k) x
  have l1:=fun m=>EF (m:=m) es (knd.hash k) x ht
  generalize layNew t es (knd.hash k) x=L at p1 f1 l1 ⊢
  obtain ⟨es1,t1,wd,gave⟩:=L
  dsimp only at p1 f1 l1 ⊢
  rw [Array.toList_push] at p1
  have hz:es1.size=es.size+1:=by
   have:=p1.length_eq
   simpa using this
  refine wpAny_bind (gw _ ?_)
  have fin:∀ t2:SetTable,t2.fits es1.size=true->(∀ m,Tb w t2 m)->wpAny (model prog w) A (do
    storeSet a es1 t2
    if (!wd&&t2.tooFull)=true then do
      (match (relayAll t2 es1 (SetTable.grown es1.size)).2.2 with|true=>rule "set.scan.the-table-gave-way"|false=>pure ())
      storeSet a (relayAll t2 es1 (SetTable.grown es1.size)).1 (relayAll t2 es1 (SetTable.grown es1.size)).2.1
      pure (some true)
     else pure (some true)) (fun r s₁=>wpAny (model prog w) A (match r with | some added=>pure added | none=>setAddHashedIn a x (knd.hash k) 99999) Q E s₁) E s:=by
   intro t2 f2 l2
   refine wpAny_bind (wpAny_storeSet_of ho hd ?_ (fits_of_scanBound (by omega)))
   have g1:(s.heap.update a (Obj.putSet es1 t2)).get? a=some { o with data:=.set es1 (ep+1) t2 }:=by
    have z:=get?_update_self (Obj.putSet es1 t2) ho (by rw [putSet_of es1 t2 hd]; rfl)
    rw [putSet_of es1 t2 hd] at z
    exact z
   have sb1:=Heap.SameBut.update s.heap a (Obj.putSet es1 t2)
   split
   ·have p2:=relayAll_perm t2 es1 (SetTable.grown es1.size)
    have f3:=relayAll_fits t2 es1 (SetTable.grown es1.size)
    have l3:=fun m=>GV (m:=m) es1 (SetTable.grown es1.size) (l2 0)
    generalize relayAll t2 es1 (SetTable.grown es1.size)=R at p2 f3 l3 ⊢
    obtain ⟨es2,t3,gave2⟩:=R
    dsimp only at p2 f3 l3 ⊢
    have hz2:es2.size=es1.size:=by
     have:=p2.length_eq
     simpa using this
    refine wpAny_bind (gw _ ?_)
    refine wpAny_bind (wpAny_storeSet_of g1 rfl ?_ (fits_of_scanBound (by omega)))
    have g2:((s.heap.update a (Obj.putSet es1 t2)).update a (Obj.putSet es2 t3)).get? a=some { o with data:=.set es2 (ep+1+1) t3 }:=by
     have z:=get?_update_self (Obj.putSet es2 t3) g1 (by rw [putSet_of es2 t3 rfl]; rfl)
     rw [putSet_of es2 t3 rfl] at z
     exact z
    exact wpAny_pure (wpAny_pure (h2 hno _ es2 t3 _ (sb1.trans (Heap.SameBut.update _ a _)) g2 (p2.trans p1) f3 (l3 _)))
   ·exact wpAny_pure (wpAny_pure (h2 hno _ es1 t2 _ sb1 g1 p1 f2 (l2 _)))
  split
  ·refine wpAny_bind ?_
   rw [hashByValue_scannable 8 hsc]
   refine wpAny_pure ?_
   cases plainKind x with
  |true =>
    rw [if_pos rfl]
    exact fin t1 f1 l1
  |false =>
    rw [if_neg Bool.false_ne_true]
    exact fin _ (SetTable.fits_plain_off f1) l1
  ·refine wpAny_bind (wpAny_pure ?_)
   rw [if_pos rfl]
   exact fin t1 f1 l1
end
end L2
namespace L2
open PySem
section
variable {prog:Program} {w:World} {A:Around} {E:Value -> Shared -> Prop} {s:Shared}
theorem EW {M:Model}{src:Source}{n:Nat}{Q:Nat->Shared->Prop} (hn:n≠0) (h:∀ i d,i < n->Q i { s with drawn:=d }):wpAny M A (choose src n) Q E s:=by
 intro Γ p _
 show Sem.wp M Γ (.choose src n .pure) _ _ p s
 rw [Sem.wp_choose]
 exact ⟨hn,by rw [Sem.wp]; exact h _ _ (mod_lt _ (Nat.pos_of_ne_zero hn))⟩
theorem jD {α:Type}:∀ {l:List α}{i:Nat}{x:α},l[i]?=some x->(x::l.eraseIdx i).Perm l
|[],i,x,h=>by simp at h
|a::l,0,x,h=>by simp at h; subst h; exact .refl _
|a::l,i+1,x,h=>by
  have ih:=jD (l:=l) (i:=i) (x:=x) (by simpa using h)
  show (x::a::l.eraseIdx i).Perm (a::l)
  exact (List.Perm.swap ..).trans (ih.cons a)
theorem rZ {M:Model}{α:Type}:∀ (n:Nat) (xs:List α) (s:Shared) (Q:List α->Shared->Prop),xs.length=n->(∀ ys d,ys.Perm xs->Q ys { s with drawn:=d })->wpAny M A (drawOrder n xs) Q E s
|0,xs,s,Q,hl,h=>by
  have:xs=[]:=length_eq_zero_iff.mp hl
  subst this
  exact wpAny_pure (h [] s.drawn (.refl _))
|n+1,[],s,Q,hl,h=>by cases hl
|n+1,x::xs,s,Q,hl,h=>by
  unfold drawOrder
  refine wpAny_bind (EW (by simp) fun i d hi=>?_)
  obtain ⟨y,hy⟩:∃ y,(x::xs)[i]?=some y:=⟨_,List.getElem?_eq_getElem hi⟩
  rw [hy]
  refine wpAny_bind (rZ n _ _ _ ?_ fun ys d' hp=>wpAny_pure (h _ d' ?_))
  ·have:=(jD hy).length_eq
   simp at this hl ⊢
   omega
  ·exact (hp.cons y).trans (jD hy)
theorem BS {α:Type} (next:Nat->Nat):∀ (fuel k:Nat) (left:List α) (out:Array α),left.length=fuel->(pickOrder.go next fuel k left out).toList.Perm (out.toList++left)
|0,k,left,out,hl=>by
  have:left=[]:=length_eq_zero_iff.mp hl
  subst this
  unfold pickOrder.go
  simp
|fuel+1,k,left,out,hl=>by
  unfold pickOrder.go
  have hlt:next k % left.length < left.length:=mod_lt _ (by omega)
  obtain ⟨y,hy⟩:∃ y,left[next k % left.length]?=some y:=⟨_,List.getElem?_eq_getElem hlt⟩
  rw [hy]
  dsimp only
  have hp:=jD hy
  have ih:=BS next fuel (k+1) (left.eraseIdx (next k % left.length)) (out.push y) (by
   have:=hp.length_eq
   simp at this
   omega)
  refine ih.trans ?_
  rw [Array.toList_push,append_assoc]
  exact List.Perm.append_left _ hp
theorem DO {α:Type} (next:Nat->Nat) (xs:Array α):(pickOrder next xs).toList.Perm xs.toList:=by
 unfold pickOrder
 have:=BS next xs.size 0 xs.toList #[] (by simp)
 simpa using this
theorem fQ:Slot "set_iterator" "__next__" "set_iterator.__next__":=
 .of (owner:="set_iterator") (n:="__next__") (by rw [typeLookup_type,builtinLookup_eq_fast]; kernel_rfl) (by decide +kernel) (by decide +kernel) (by decide +kernel) (by first|exact .inl (by decide +kernel)|exact .inr (by decide +kernel)) (by rw [isSubtype_type]; kernel_rfl)
theorem qZ:entryFor table "set_iterator.__next__"=some Builtin.«set_iterator.__next__»:=entryFor_of_tree (by kernel_rfl)
theorem vB:entryFor table "set.__iter__"=some Builtin.«frozenset.__iter__»:=entryFor_alias (id':="frozenset.__iter__") (by kernel_rfl) rfl (by decide +kernel) (by kernel_rfl)
theorem vL (a:Value):argsOk "set_iterator.__next__" ⟨[a],[]⟩:=by
 unfold argsOk
 kernel_rfl
end
end L2
namespace L2
open PySem
noncomputable def bM (es:Array (Int×Value)) (ep:Nat) (t:SetTable):Obj:={ cls:=.type "set",dict:=none,data:=.set es ep t,slots:=#[] }
noncomputable def kK (h:Heap) (it:Addr) (first:Value) (i:Nat) (a:Addr) (n ep:Nat):Prop:=
 ∃ o,h.get? it=some o/\o.cls=.type "set_iterator"/\o.data=.fields #[first,.int i 0,.ref a,.int n 0,.int ep 0]
theorem kK.typeIs {s:Shared}{it a:Addr}{first:Value}{i n ep:Nat} (x:kK s.heap it first i a n ep):s.TypeIs (.ref it) "set_iterator":=let ⟨o,ho,hc,_⟩:=x; ⟨o,ho,hc⟩
section
variable {prog:Program} {w:World} {A:Around} {E:Value -> Shared -> Prop} {s:Shared}
theorem oB {it:Addr}{Q:Option Value->Shared->Prop} (hT:s.TypeIs (.ref it) "set_iterator")
  (h:wpAny (model prog w) A.in1 (Builtin.«set_iterator.__next__» ⟨[.ref it],[]⟩) (fun fin s'=>∃ v,fin=.done (.ret v)/\Q (some v) s') (fun e s'=>wpAny (model prog w) A (do if ← isInstance e (.type "StopIteration") then pure none else throw e) Q E s') s) :
  wpAny (model prog w) A (pyNext (.ref it)) Q E s:=by
 unfold pyNext
 have hc:wpAny (model prog w) A (callSpecial? (.ref it) (Str.ofString "__next__")) (fun r s'=>∃ v,r=some v/\Q (some v) s') (fun e s'=>wpAny (model prog w) A (do if ← isInstance e (.type "StopIteration") then pure none else throw e) Q E s') s:=
  wpAny_callSpecial?_slot (name:=Str.ofString "__next__") hT fQ (wpAny_call_entry fQ hT qZ (wpAny_mono h (fun fin s' ⟨v,e,q⟩=>⟨v,e,v,rfl,q⟩) fun _ _ e=>e) (vL _))
 refine wpAny_bind (wpAny_attempt (wpAny_mono hc (fun r s' hr=>?_) fun e s' he=>he))
 obtain ⟨v,rfl,q⟩:=hr
 exact wpAny_pure q
theorem AY {e:Value}{Q:Option Value->Shared->Prop} (hT:s.TypeIs e "StopIteration") (h:Q none s):wpAny (model prog w) A (do if ← isInstance e (.type "StopIteration") then pure none else throw e) Q E s:=by
 refine wpAny_bind (wpAny_isInstance hT isSubtype_stop ?_)
 exact wpAny_pure h
theorem wB {α:Type}{Q:α->Shared->Prop} (hh:A.handled=none) (h:∀ e h',(∀ b o,s.heap.get? b=some o->h'.get? b=some o)->Shared.TypeIs { s with heap:=h' } e "StopIteration"->E e { s with heap:=h' }) :
  wpAny (model prog w) A (do raiseNew (← newExc (.type "StopIteration") []):Sem α) Q E s:=by
 refine wpAny_bind ?_
 simp only [newExc,newTuple]
 refine wpAny_bind (wpAny_newObj_type ?_ (by size_fits))
 refine wpAny_bind (m:=firstArgMember _ _) (wpAny_of_eq (a:=Value.none) (by first|rfl|(simp only [firstArgMember]; rfl)) ?_)
 refine wpAny_newObj_type ?_ (by size_fits)
 simp only [raiseNew]
 refine wpAny_bind (wpAny_handled ?_)
 rw [hh]
 refine wpAny_bind (wpAny_pure (wpAny_throw ?_))
 exact h (.ref _) _ (fun b o e=>get?_push_of_some _ (get?_push_of_some _ e)) ⟨_,get?_push_size _ rfl,rfl⟩
variable {a it:Addr} {es:Array (Int×Value)} {ep i n:Nat} {t:SetTable} {first:Value}
theorem oA {Q:Fin->Shared->Prop} (hi:kK s.heap it first i a es.size ep) (ha:s.heap.get? a=some (bM es ep t)) (hf:t.fits es.size=true)
  (h:wpAny (model prog w) A (if let .int slot _:=first then do
    match ← setNext a slot.toNat i ep with
   |some (x,next) =>
     setField (.ref it) 0 (rawInt next)
     setField (.ref it) 1 (rawInt ((i:Int)+1))
     ret x
   |none=>setField (.ref it) 2 .none; raiseNew (← newExc (.type "StopIteration") [])
   else do
    let some places ← seqItems? first|unsupported "internal:set_iterator"
    match places[i]? with
   |some (.int place _) =>
     let x ← setNextDrawn a place.toNat ep
     setField (.ref it) 1 (rawInt ((i:Int)+1))
     ret x
   |some _=>unsupported "internal:set_iterator"
    | none=>setField (.ref it) 0 (rawInt 0); setField (.ref it) 2 .none; raiseNew (← newExc (.type "StopIteration") [])) Q E s) :
  wpAny (model prog w) A (Builtin.«set_iterator.__next__» ⟨[.ref it],[]⟩) Q E s:=by
 obtain ⟨o,ho,hc,hd⟩:=hi
 unfold Builtin.«set_iterator.__next__»
 refine wpAny_bind (m:=slotArgs _ _ _) (wpAny_pure ?_)
 refine wpAny_bind (wpAny_fieldsOf ho hd ?_)
 dsimp only
 refine wpAny_bind (wpAny_setEntries_of ha rfl hf ?_)
 rw [if_neg (by simp)]
 exact h
theorem tP {o:Obj}{vs:Array Value}{k:Nat}{v:Value} (h:Heap) (ho:h.get? it=some o) (hd:o.data=.fields vs):(h.update it (Obj.mapFields (·.setIfInBounds k v))).get? it=some (o.mapFields (·.setIfInBounds k v)):=
 get?_update_self _ ho (Obj.isFreed_of_fields (Obj.data_mapFields hd _))
theorem DF {tp:Addr}{places:List Nat}{p:Nat}{x:Int×Value}{Q:Option Value->Shared->Prop} (hi:kK s.heap it (.ref tp) i a es.size ep) (ha:s.heap.get? a=some (bM es ep t)) (hf:t.fits es.size=true) (hta:it≠a) (htt:it≠tp)
    (ht:∃ o k,s.heap.get? tp=some o/\o.data=.seq (places.map fun j=>rawInt (j:Nat)).toArray k) (hp:places[i]?=some p) (hx:es[p]?=some x)
    (h:∀ h',kK h' it (.ref tp) (i+1) a es.size ep->Heap.SameBut it s.heap h'->Q (some x.2) { s with heap:=h' }):wpAny (model prog w) A (pyNext (.ref it)) Q E s:=by
  refine oB hi.typeIs (oA hi ha hf ?_)
  obtain ⟨o,ho,hc,hd⟩:=hi
  obtain ⟨ot,kt,h1,h2⟩:=ht
  show wpAny (model prog w) A.in1 (do
        let some places ← seqItems? (.ref tp)|unsupported "internal:set_iterator"
        match places[i]? with
       |some (.int place _) =>
          let x ← setNextDrawn a place.toNat ep
          setField (.ref it) 1 (rawInt ((i:Int)+1))
          ret x
       |some _=>unsupported "internal:set_iterator"
        | none=>setField (.ref it) 0 (rawInt 0); setField (.ref it) 2 .none; raiseNew (← newExc (.type "StopIteration") [])) _ _ s
  unfold seqItems?
  refine wpAny_bind (wpAny_bind (wpAny_load h1 ?_))
  rw [h2]
  refine wpAny_pure ?_
  have e1:(places.map fun j=>rawInt (j:Nat)).toArray[i]?=some (rawInt (p:Nat)):=by simp [hp]
  dsimp only
  rw [e1]
  show wpAny (model prog w) A.in1 (do
          let x ← setNextDrawn a ((p:Int)).toNat ep
          setField (.ref it) 1 (rawInt ((i:Int)+1))
          ret x) _ _ s
  unfold setNextDrawn
  refine wpAny_bind (wpAny_bind (wpAny_setState_of ha rfl hf ?_))
  dsimp only
  rw [if_neg (by simp),Int.toNat_natCast,hx]
  refine wpAny_pure ?_
  refine wpAny_bind (wpAny_setField ho hd (by simp) ?_)
  refine wpAny_pure ⟨_,rfl,h _ ⟨_,tP s.heap ho hd,(Obj.cls_mapFields ..).trans hc,?_⟩ (Heap.SameBut.update ..)⟩
  rw [Obj.data_mapFields hd]
  simp [rawInt]
theorem GI {tp:Addr}{places:List Nat}{Q:Option Value->Shared->Prop} (hh:A.handled=none) (hi:kK s.heap it (.ref tp) i a es.size ep) (ha:s.heap.get? a=some (bM es ep t)) (hf:t.fits es.size=true)
    (ht:∃ o k,s.heap.get? tp=some o/\o.data=.seq (places.map fun j=>rawInt (j:Nat)).toArray k) (hp:places[i]?=none)
    (h:∀ h',Heap.ExtBut it s.heap h'->Q none { s with heap:=h' }):wpAny (model prog w) A (pyNext (.ref it)) Q E s:=by
  refine oB hi.typeIs (oA hi ha hf ?_)
  obtain ⟨o,ho,hc,hd⟩:=hi
  obtain ⟨ot,kt,h1,h2⟩:=ht
  show wpAny (model prog w) A.in1 (do
        let some places ← seqItems? (.ref tp)|unsupported "internal:set_iterator"
        match places[i]? with
       |some (.int place _) =>
          let x ← setNextDrawn a place.toNat ep
          setField (.ref it) 1 (rawInt ((i:Int)+1))
          ret x
       |some _=>unsupported "internal:set_iterator"
        | none=>setField (.ref it) 0 (rawInt 0); setField (.ref it) 2 .none; raiseNew (← newExc (.type "StopIteration") [])) _ _ s
  unfold seqItems?
  refine wpAny_bind (wpAny_bind (wpAny_load h1 ?_))
  rw [h2]
  refine wpAny_pure ?_
  have e1:(places.map fun j=>rawInt (j:Nat)).toArray[i]?=none:=by simpa using hp
  dsimp only
  rw [e1]
  refine wpAny_bind (wpAny_setField ho hd (by simp) ?_)
  have g1:=tP (k:=0) (v:=rawInt 0) s.heap ho hd
  refine wpAny_bind (wpAny_setField g1 (Obj.data_mapFields hd _) (by simp) ?_)
  refine wB (by simpa using hh) fun e h' k hT=>?_
  refine AY hT (h h' fun b o' hb e'=>k b o' ?_)
  exact (get?_update_other _ _ (Ne.symm hb)).trans ((get?_update_other _ _ (Ne.symm hb)).trans e')
theorem rP {slot next:Nat}{x:Value}{Q:Option Value->Shared->Prop} (hi:kK s.heap it (.int slot 0) i a es.size ep) (ha:s.heap.get? a=some (bM es ep t)) (hf:t.fits es.size=true)
    (hn:∀ (A:Around) (E:Value->Shared->Prop) (Q:Option (Value×Nat)->Shared->Prop),Q (some (x,next)) s->wpAny (model prog w) A (setNext a slot i ep) Q E s)
    (h:∀ h',kK h' it (.int next 0) (i+1) a es.size ep->Heap.SameBut it s.heap h'->Q (some x) { s with heap:=h' }):wpAny (model prog w) A (pyNext (.ref it)) Q E s:=by
  refine oB hi.typeIs (oA hi ha hf ?_)
  obtain ⟨o,ho,hc,hd⟩:=hi
  show wpAny (model prog w) A.in1 (do
        match ← setNext a ((slot:Int)).toNat i ep with
       |some (x,next) =>
          setField (.ref it) 0 (rawInt next)
          setField (.ref it) 1 (rawInt ((i:Int)+1))
          ret x
        | none=>setField (.ref it) 2 .none; raiseNew (← newExc (.type "StopIteration") [])) _ _ s
  rw [Int.toNat_natCast]
  refine wpAny_bind (hn _ _ _ ?_)
  refine wpAny_bind (wpAny_setField ho hd (by simp) ?_)
  have g1:=tP (k:=0) (v:=rawInt next) s.heap ho hd
  refine wpAny_bind (wpAny_setField g1 (Obj.data_mapFields hd _) (by simp) ?_)
  refine wpAny_pure ⟨_,rfl,h _ ⟨_,tP _ g1 (Obj.data_mapFields hd _),(Obj.cls_mapFields ..).trans ((Obj.cls_mapFields ..).trans hc),?_⟩ ((Heap.SameBut.update ..).trans (Heap.SameBut.update ..))⟩
  rw [Obj.data_mapFields (Obj.data_mapFields hd _)]
  simp [rawInt]
theorem wC {slot:Nat}{Q:Option Value->Shared->Prop} (hh:A.handled=none) (hi:kK s.heap it (.int slot 0) i a es.size ep) (ha:s.heap.get? a=some (bM es ep t)) (hf:t.fits es.size=true)
    (hn:∀ (A:Around) (E:Value->Shared->Prop) (Q:Option (Value×Nat)->Shared->Prop),Q none s->wpAny (model prog w) A (setNext a slot i ep) Q E s)
    (h:∀ h',Heap.ExtBut it s.heap h'->Q none { s with heap:=h' }):wpAny (model prog w) A (pyNext (.ref it)) Q E s:=by
  refine oB hi.typeIs (oA hi ha hf ?_)
  obtain ⟨o,ho,hc,hd⟩:=hi
  show wpAny (model prog w) A.in1 (do
        match ← setNext a ((slot:Int)).toNat i ep with
       |some (x,next) =>
          setField (.ref it) 0 (rawInt next)
          setField (.ref it) 1 (rawInt ((i:Int)+1))
          ret x
        | none=>setField (.ref it) 2 .none; raiseNew (← newExc (.type "StopIteration") [])) _ _ s
  rw [Int.toNat_natCast]
  refine wpAny_bind (hn _ _ _ ?_)
  refine wpAny_bind (wpAny_setField ho hd (by simp) ?_)
  refine wB (by simpa using hh) fun e h' k hT=>?_
  refine AY hT (h h' fun b o' hb e'=>k b o' ?_)
  exact (get?_update_other _ _ (Ne.symm hb)).trans e'
end
end L2
namespace L2
open PySem
section
variable {prog:Program} {w:World} {A:Around} {E:Value -> Shared -> Prop} {s:Shared} {a it:Addr} {es:Array (Int×Value)} {ep i n:Nat} {t:SetTable}
theorem kD {Q:Bool->Shared->Prop} (h:Q (w.params.followText "set-order") s):wpAny (model prog w) A setsByText Q E s:=by
 unfold setsByText
 exact wpAny_bind (wpAny_askSetting (wpAny_pure h))
theorem sF {slot:Nat} (ht:w.params.followText "set-order"=true) (ha:s.heap.get? a=some (bM es ep t)) (hf:t.fits es.size=true) {Q:Option (Value×Nat)->Shared->Prop}
  (h:Q (((pickOrder (w.params.setOrder a ep) es)[i]?).map fun e=>(e.2,slot)) s):wpAny (model prog w) A (setNext a slot i ep) Q E s:=by
 unfold setNext
 refine wpAny_bind (wpAny_setState_of ha rfl hf ?_)
 dsimp only
 refine wpAny_bind (kD ?_)
 rw [ht,if_pos rfl,if_neg (by simp)]
 unfold setWalk
 refine wpAny_bind (wpAny_bind (wpAny_setState_of ha rfl hf ?_))
 dsimp only
 refine wpAny_bind (kD ?_)
 rw [ht,if_pos rfl]
 exact wpAny_bind (wpAny_askSetting (wpAny_pure (wpAny_pure h)))
theorem wX {slot:Nat} (ht:w.params.followText "set-order"=false) (hl:t.led=true) (hd:(!t.plain&&decide (es.size > 1))=false) (ha:s.heap.get? a=some (bM es ep t)) (hf:t.fits es.size=true) {Q:Option (Value×Nat)->Shared->Prop}
  (h:Q (match es[SetTable.below t.place slot]?,t.place[SetTable.below t.place slot]? with|some (_,x),some j=>some (x,j+1)|_,_=>none) s):wpAny (model prog w) A (setNext a slot i ep) Q E s:=by
 unfold setNext
 refine wpAny_bind (wpAny_setState_of ha rfl hf ?_)
 dsimp only
 refine wpAny_bind (kD ?_)
 rw [ht,if_neg Bool.false_ne_true]
 show wpAny (model prog w) A (if (!t.plain&&decide (es.size > 1))=true then _ else _) Q E s
 rw [if_neg (by rw [hd]; exact Bool.false_ne_true)]
 refine wpAny_bind ?_
 show wpAny (model prog w) A (if (!t.led&&!es.isEmpty)=true then unsupported "set:maker-not-led" else pure ()) _ _ s
 rw [if_neg (by rw [hl]; simp)]
 exact wpAny_pure (wpAny_pure h)
structure oQ (prog:Program) (w:World) (A:Around) (it:Addr) (fp:List Addr) (ord:List Value) (St:Nat->Heap->Prop):Prop where
 ws:Walks prog w A it fp [it] ord.length (fun i v=>ord[i]?=some v) St
 ty:∀ i (s:Shared),St i s.heap->s.TypeIs (.ref it) "set_iterator"
theorem tQ {first:Value}{Q:Value->Shared->Prop} (hi:kK s.heap it first i a n ep) (h:Q (.ref it) s) (slot:Slot "set_iterator" "__iter__" "set_iterator.__iter__") (entry:entryFor table "set_iterator.__iter__"=some Builtin.«dict_keyiterator.__iter__»)
  (args:argsOk "set_iterator.__iter__" ⟨[.ref it],[]⟩):wpAny (model prog w) A (pyIter (.ref it)) Q E s:=by
 refine wpAny_pyIter_slot hi.typeIs slot (wpAny_call_entry slot hi.typeIs entry ?_ args)
 show wpAny _ _ (ret (.ref it)) _ _ s
 exact wpAny_pure ⟨_,rfl,"set_iterator",_,hi.typeIs,fQ.lookup,h⟩
end
theorem iS:Slot "set_iterator" "__iter__" "set_iterator.__iter__":=
 .of (owner:="set_iterator") (n:="__iter__") (by rw [typeLookup_type,builtinLookup_eq_fast]; kernel_rfl) (by decide +kernel) (by decide +kernel) (by decide +kernel) (by first|exact .inl (by decide +kernel)|exact .inr (by decide +kernel)) (by rw [isSubtype_type]; kernel_rfl)
theorem iG:entryFor table "set_iterator.__iter__"=some Builtin.«dict_keyiterator.__iter__»:=entryFor_alias (id':="dict_keyiterator.__iter__") (by kernel_rfl) rfl (by decide +kernel) (by kernel_rfl)
theorem jF (a:Value):argsOk "set_iterator.__iter__" ⟨[a],[]⟩:=by
 unfold argsOk
 kernel_rfl
section
variable {prog:Program} {w:World} {A:Around} {E:Value -> Shared -> Prop} {s:Shared} {a it:Addr} {es:Array (Int×Value)} {ep i n:Nat} {t:SetTable}
theorem kK.at {h h':Heap}{first:Value} (x:kK h it first i a n ep) (e:∀ o,h.get? it=some o->h'.get? it=some o):kK h' it first i a n ep:=let ⟨o,ho,r⟩:=x; ⟨o,e _ ho,r⟩
theorem CT (hh:A.handled=none) (hne:a≠it) (ht:w.params.followText "set-order"=true) (hf:t.fits es.size=true) :
  oQ prog w A it [it,a] ((pickOrder (w.params.setOrder a ep) es).toList.map (·.2)) (fun i h=>kK h it (.int (0:Nat) 0) i a es.size ep/\h.get? a=some (bM es ep t)) where
 ws:={
  sub:=fun b hb=>by simp at hb; simp [hb]
  frame:=fun _ _ _ st hk=>⟨st.1.at fun o e=>hk it (by simp) o e,hk a (by simp) _ st.2⟩
  item:=fun i s Q E hi st hQ=>by
   have hlt:i < (pickOrder (w.params.setOrder a ep) es).size:=by simpa using hi
   refine rP (slot:=0) (next:=0) (x:=((pickOrder (w.params.setOrder a ep) es)[i]).2) st.1 st.2 hf (fun A E Q q=>sF ht st.2 hf (by simpa [hlt] using q)) fun h' hit sb=>?_
   exact hQ _ h' s.toks (by simp [hlt]) ⟨hit,(sb.2 a hne).trans st.2⟩ fun b o hb e=>(sb.2 b (by simpa using hb)).trans e
  done:=fun s Q E st hQ=>by
   refine wC (slot:=0) hh st.1 st.2 hf (fun A E Q q=>sF ht st.2 hf (by simpa using q)) fun h' eb=>?_
   exact hQ h' s.toks fun b o hb e=>eb b o (by simpa using hb) e
  self:=fun _ _ _ _ st hQ=>tQ st.1 hQ iS iG (jF _) }
 ty:=fun _ _ st=>st.1.typeIs
theorem FP (hh:A.handled=none) (hne:a≠it) (ht:w.params.followText "set-order"=false) (hl:t.led=true) (hd:(!t.plain&&decide (es.size > 1))=false) (hr:tD t.place) (hf:t.fits es.size=true) :
  oQ prog w A it [it,a] (es.toList.map (·.2)) (fun i h=>(∃ slot:Nat,kK h it (.int slot 0) i a es.size ep/\SetTable.below t.place slot=i)/\h.get? a=some (bM es ep t)) where
 ws:={
  sub:=fun b hb=>by simp at hb; simp [hb]
  frame:=fun _ _ _ ⟨⟨sl,st,r⟩,st2⟩ hk=>⟨⟨sl,st.at fun o e=>hk it (by simp) o e,r⟩,hk a (by simp) _ st2⟩
  item:=fun i s Q E hi st hQ=>by
   obtain ⟨⟨sl,st1,z1⟩,st2⟩:=st
   have hlt:i < es.size:=by simpa using hi
   have hps:i < t.place.size:=by
    have:=hf
    unfold SetTable.fits at this
    simp at this
    omega
   refine rP (slot:=sl) (next:=t.place[i]+1) (x:=es[i].2) st1 st2 hf (fun A E Q q=>wX ht hl hd st2 hf ?_) fun h' hit sb=>?_
   ·rw [z1,Array.getElem?_eq_getElem hlt,Array.getElem?_eq_getElem hps]
    exact q
   ·exact hQ _ h' s.toks (by simp [hlt]) ⟨⟨_,hit,zY hr hps⟩,(sb.2 a hne).trans st2⟩ fun b o hb e=>(sb.2 b (by simpa using hb)).trans e
  done:=fun s Q E st hQ=>by
   obtain ⟨⟨sl,st1,z1⟩,st2⟩:=st
   rw [length_map,Array.length_toList] at st1 z1
   refine wC (slot:=sl) hh st1 st2 hf (fun A E Q q=>wX ht hl hd st2 hf ?_) fun h' eb=>?_
   ·rw [z1,Array.getElem?_eq_none (le_refl _)]
    exact q
   ·exact hQ h' s.toks fun b o hb e=>eb b o (by simpa using hb) e
  self:=fun _ _ _ _ ⟨⟨_,st,_⟩,_⟩ hQ=>tQ st hQ iS iG (jF _) }
 ty:=fun _ _ ⟨⟨_,st,_⟩,_⟩=>st.typeIs
theorem yB {tp:Addr}{places:List Nat} (hh:A.handled=none) (hne:a≠it) (hnt:tp≠it) (hf:t.fits es.size=true) (hp:∀ p∈places,p < es.size) :
  oQ prog w A it [it,a,tp] (places.map fun p=>((es[p]?).getD (0,.none)).2) (fun i h=>kK h it (.ref tp) i a es.size ep/\h.get? a=some (bM es ep t)/\∃ o k,h.get? tp=some o/\o.data=.seq (places.map fun j=>rawInt (j:Nat)).toArray k) where
 ws:={
  sub:=fun b hb=>by simp at hb; simp [hb]
  frame:=fun _ _ _ ⟨st,st2,o,k,e,d⟩ hk=>⟨st.at fun o e=>hk it (by simp) o e,hk a (by simp) _ st2,o,k,hk tp (by simp) _ e,d⟩
  item:=fun i s Q E hi st hQ=>by
   have hlt:i < places.length:=by simpa using hi
   have hps:=hp _ (List.getElem_mem hlt)
   obtain ⟨st1,st2,o,k,e,d⟩:=st
   refine DF (p:=places[i]) (x:=es[places[i]]) st1 st2 hf hne.symm hnt.symm ⟨o,k,e,d⟩ (by simp [hlt]) (by simp [hps]) fun h' hit sb=>?_
   exact hQ _ h' s.toks (by simp [hlt,hps]) ⟨hit,(sb.2 a hne).trans st2,o,k,(sb.2 tp hnt).trans e,d⟩ fun b o hb e=>(sb.2 b (by simpa using hb)).trans e
  done:=fun s Q E st hQ=>by
   obtain ⟨st1,st2,o,k,e,d⟩:=st
   rw [length_map] at st1
   refine GI hh st1 st2 hf ⟨o,k,e,d⟩ (by simp) fun h' eb=>?_
   exact hQ h' s.toks fun b o hb e=>eb b o (by simpa using hb) e
  self:=fun _ _ _ _ st hQ=>tQ st.1 hQ iS iG (jF _) }
 ty:=fun _ _ st=>st.1.typeIs
end
end L2
namespace L2
open PySem
theorem qV {α:Type} (es:Array α) (d:α):(List.range es.size).map (fun p=>(es[p]?).getD d)=es.toList:=by
 apply ext_getElem
 ·simp
 ·intro i h1 h2
  simp at h1 h2 ⊢
  simp [h1]
section
variable {prog:Program} {w:World} {A A₂:Around} {E:Value -> Shared -> Prop} {s:Shared} {a it:Addr} {es:Array (Int×Value)} {ep i n:Nat} {t:SetTable}
theorem rR (ha:s.heap.get? a=some (bM es ep t)):s.TypeIs (.ref a) "set":=⟨_,ha,rfl⟩
theorem IY (hh:A₂.handled=none) (ha:s.heap.get? a=some (bM es ep t)) (hf:t.fits es.size=true) (ht:Tb w t es.size) (hb:es.size<=sizeLine) {Q:Value->Shared->Prop}
  (h:∀ it h' d fp ord St,oQ prog w A₂ it fp ord St->ord.Perm (es.toList.map (·.2))->St 0 h'->(∀ b o,s.heap.get? b=some o->h'.get? b=some o)->(∀ b∈fp,(b=a∨s.heap.objs.size<=b)/\b < h'.objs.size)->it∈fp->it≠a ->
   Q (.ref it) { s with heap:=h',drawn:=d }):wpAny (model prog w) A (pyIter (.ref a)) Q E s:=by
 have hT:=rR ha
 have hlt:a < s.heap.objs.size:=lt_size ha
 refine wpAny_pyIter_slot hT F.slot_set_iter (wpAny_call_entry F.slot_set_iter hT vB ?_ (F.args_set_iter_1 _))
 unfold Builtin.«frozenset.__iter__»
 refine wpAny_bind (m:=Builtin.Frozenset.slot0 _ _) (wpAny_pure ?_)
 refine wpAny_bind ?_
 show wpAny _ _ (do return (← setEntries a).size) _ _ s
 refine wpAny_bind (wpAny_setEntries_of ha rfl hf (wpAny_pure ?_))
 refine wpAny_bind ?_
 unfold setDrawn
 refine wpAny_bind (wpAny_setState_of ha rfl hf ?_)
 dsimp only
 refine wpAny_bind (kD (wpAny_pure ?_))
 have fin:∀ (first:Value) (s1:Shared),s1.heap.get? a=some (bM es ep t)->(∀ (h2:Q (.ref s1.heap.objs.size) { s1 with heap:=s1.heap.push { cls:=.type "set_iterator",data:=.fields #[first,.int (0:Nat) 0,.ref a,.int es.size 0,.int ep 0] } }),
   wpAny (model prog w) A.in1 (do ret (← newFields "set_iterator" [first,rawInt 0,.ref a,rawInt es.size,rawInt (← setEpoch a)])) (fun fin s'=>∃ v,fin=.done (.ret v)/\∃ T' r,s'.TypeIs v T'/\typeLookup (.type T') "__next__"=pure (some r)/\Q v s') E s1):=fun first s1 h1 h2=>by
  refine wpAny_bind (wpAny_setEpoch_of h1 rfl hf ?_)
  refine wpAny_bind (wpAny_newObj_type (wpAny_pure ⟨_,rfl,"set_iterator",_,⟨_,get?_push_size _ rfl,rfl⟩,fQ.lookup,?_⟩))
  exact h2
 by_cases hbt:w.params.followText "set-order"=true
 ·rw [hbt,if_neg (by simp)]
  refine wpAny_bind (wpAny_pure (fin _ s ha ?_))
  have W:=CT (prog:=prog) (w:=w) (A:=A₂) (a:=a) (it:=s.heap.objs.size) (es:=es) (ep:=ep) (t:=t) hh (ne_of_lt hlt) hbt hf
  refine h _ (s.heap.push _) s.drawn _ _ _ W ?_ ⟨⟨_,get?_push_size _ rfl,rfl,rfl⟩,get?_push_of_some _ ha⟩ (fun b o e=>get?_push_of_some _ e) (fun b hb=>?_) (by simp) (ne_of_gt hlt)
  ·exact (DO _ es).map _
  ·rw [size_push]
   simp at hb
   rcases hb with rfl|rfl
   ·exact ⟨.inr (le_refl _),lt_succ_self _⟩
   ·exact ⟨.inl rfl,lt_succ_of_lt hlt⟩
 ·have hbf:w.params.followText "set-order"=false:=by simpa using hbt
  rw [hbf]
  have hled:t.led=true:=by rw [ht.1,hbf]; rfl
  show wpAny _ _ (if (!false&&(!t.plain&&decide (es.size > 1)))=true then _ else _) _ _ s
  by_cases h1:(!t.plain&&decide (es.size > 1))=false
  ·have e0:(!false&&(!t.plain&&decide (es.size > 1)))=false:=by rw [h1]; rfl
   rw [if_neg (by rw [e0]; exact Bool.false_ne_true)]
   refine wpAny_bind (wpAny_pure (fin _ s ha ?_))
   have W:=FP (prog:=prog) (w:=w) (A:=A₂) (a:=a) (it:=s.heap.objs.size) (es:=es) (ep:=ep) (t:=t) hh (ne_of_lt hlt) hbf hled h1 ht.2.1 hf
   refine h _ (s.heap.push _) s.drawn _ _ _ W (.refl _) ⟨⟨0,⟨_,get?_push_size _ rfl,rfl,rfl⟩,zX ht.2.1⟩,get?_push_of_some _ ha⟩ (fun b o e=>get?_push_of_some _ e) (fun b hb=>?_) (by simp) (ne_of_gt hlt)
   rw [size_push]
   simp at hb
   rcases hb with rfl|rfl
   ·exact ⟨.inr (le_refl _),lt_succ_self _⟩
   ·exact ⟨.inl rfl,lt_succ_of_lt hlt⟩
  ·have e0:(!false&&(!t.plain&&decide (es.size > 1)))=true:=by rw [Bool.not_false,Bool.true_and]; simpa using h1
   rw [if_pos e0]
   refine wpAny_bind (rZ es.size (List.range es.size) s _ (by simp) fun ys d hp=>?_)
   unfold newTuple
   refine wpAny_bind (wpAny_newObj_type ?_ ?hs)
   case hs =>
    show (List.map (fun (i:Nat)=>rawInt i) ys).toArray.size<=sizeLine
    have:=hp.length_eq
    simp at this ⊢
    omega
   refine fin (.ref s.heap.objs.size) _ (get?_push_of_some _ ha) ?_
   have hys:∀ p∈ys,p < es.size:=fun p hm=>by simpa using hp.mem_iff.mp hm
   have W:=yB (prog:=prog) (w:=w) (A:=A₂) (a:=a) (it:=(s.heap.push { cls:=.type "tuple",data:=.seq (List.map (fun (i:Nat)=>rawInt i) ys).toArray }).objs.size) (tp:=s.heap.objs.size) (es:=es) (ep:=ep) (t:=t) (places:=ys) hh
    (by rw [size_push]; exact ne_of_lt (lt_succ_of_lt hlt)) (by rw [size_push]; exact ne_of_lt (lt_succ_self _)) hf hys
   refine h _ _ d _ _ _ W ?_ ⟨⟨_,get?_push_size _ rfl,rfl,rfl⟩,get?_push_of_some _ (get?_push_of_some _ ha),_,0,get?_push_of_some _ (get?_push_size _ rfl),rfl⟩ (fun b o e=>get?_push_of_some _ (get?_push_of_some _ e)) (fun b hb=>?_) (by simp) (by rw [size_push]; exact ne_of_gt (lt_succ_of_lt hlt))
   ·have q:=hp.map (fun p=>((es[p]?).getD (0,.none)).2)
    have e1:(List.range es.size).map (fun p=>((es[p]?).getD (0,.none)).2)=es.toList.map (·.2):=by
     have:=congrArg (List.map (·.2)) (qV es (0,Value.none))
     rw [map_map] at this
     exact this
    rw [e1] at q
    exact q
   ·rw [size_push,size_push]
    simp at hb
    rcases hb with rfl|rfl|rfl
    ·exact ⟨.inr (le_succ _),lt_succ_self _⟩
    ·exact ⟨.inl rfl,lt_succ_of_lt (lt_succ_of_lt hlt)⟩
    ·exact ⟨.inr (le_refl _),lt_succ_of_lt (lt_succ_self _)⟩
end
end L2
namespace L2
open PySem
theorem vV:splitId "set.__len__"=some ("set","__len__"):=by kernel_rfl
theorem LO:isSubtype (.type "set") (.type "set")=pure true:=by rw [isSubtype_type]; kernel_rfl
section
variable {prog:Program} {w:World} {A A₂:Around} {E:Value -> Shared -> Prop} {s:Shared} {a it:Addr} {es:Array (Int×Value)} {ep i n:Nat} {t:SetTable}
theorem JF {Q:Bool->Shared->Prop} (ha:s.heap.get? a=some (bM es ep t)) (h:Q false s):wpAny (model prog w) A (Builtin.List.listLengthHint (.ref a)) Q E s:=by
 unfold Builtin.List.listLengthHint
 have hT:=rR ha
 refine wpAny_bind (wpAny_specialOf hT F.slot_set_len.lookup ?_)
 dsimp only
 rw [vV]
 dsimp only
 refine wpAny_bind (wpAny_isInstance hT LO ?_)
 rw [if_neg (by simp)]
 show wpAny (model prog w) A (if true=true then _ else _) Q E s
 rw [if_pos rfl]
 refine wpAny_bind (wpAny_typeOf hT ?_)
 exact wpAny_pure h
theorem nO {Q:List Value->Shared->Prop} (hh:A.handled=none) (ha:s.heap.get? a=some (bM es ep t)) (hf:t.fits es.size=true) (ht:Tb w t es.size) (hb:es.size<=sizeLine)
  (h:∀ vs h' d tk,vs.Perm (es.toList.map (·.2))->(∀ b o,s.heap.get? b=some o->h'.get? b=some o)->s.heap.objs.size<=h'.objs.size->Q vs { s with heap:=h',drawn:=d,toks:=tk }):wpAny (model prog w) A (collect (.ref a)) Q E s:=by
 have hlt:a < s.heap.objs.size:=lt_size ha
 unfold collect
 refine wpAny_bind (wpAny_runValue (codeAny_builtin F.entry_proto_collect ?_))
 rw [Around.under_plainId F.plain_proto_collect _]
 show wpAny _ A.in1 (newList [] >>= fun l=>again (.builtin "list.__iadd__" ⟨[l,.ref a],[]⟩)) _ _ s
 refine wpAny_bind (wpAny_newObj_type ?_)
 refine wpAny_pure ⟨plainId_quiet F.plain_list_iadd _,codeAny_builtin F.entry_list_iadd ?_⟩
 rw [Around.under_plainId F.plain_list_iadd _]
 generalize hN:s.heap.objs.size=S at *
 have g0:(s.heap.push { cls:=.type "list",data:=.seq ([]:List Value).toArray }).get? S=some { cls:=.type "list",data:=.seq ([]:List Value).toArray }:=hN ▸ get?_push_size _ rfl
 have kp0:∀ b o,s.heap.get? b=some o->(s.heap.push { cls:=.type "list",data:=.seq ([]:List Value).toArray }).get? b=some o:=fun b o e=>get?_push_of_some _ e
 have z0:(s.heap.push { cls:=.type "list",data:=.seq ([]:List Value).toArray }).objs.size=S+1:=by rw [size_push,hN]
 generalize s.heap.push { cls:=.type "list",data:=.seq ([]:List Value).toArray }=h0 at g0 kp0 z0 ⊢
 show wpAny _ A.in1 (Builtin.List.listExtendWith (.ref S) (.ref a) (.ref S)) _ _ _
 unfold Builtin.List.listExtendWith
 have hT0:Shared.TypeIs { s with heap:=h0 } (.ref a) "set":=⟨_,kp0 _ _ ha,rfl⟩
 refine wpAny_bind (wpAny_typeOf hT0 ?_)
 have h1:Builtin.List.listSameRef (.ref S) (.ref a)=false:=by
  simp [Builtin.List.listSameRef]
  exact ne_of_gt hlt
 have h2:(Value.type "set"==Value.type "list")=false:=by decide
 have h3:(Value.type "set"==Value.type "tuple")=false:=by decide
 simp only [h1,h2,h3,Bool.or_false,Bool.false_eq_true,if_false]
 refine wpAny_bind (IY (A₂:=A.in1) (by simpa using hh) (show (Shared.heap { s with heap:=h0 }).get? a=_ from kp0 _ _ ha) hf ht hb fun it h' d fp ord St W hp st kp fpo hit hia=>?_)
 have hz:ord.length=es.size:=by
  have:=hp.length_eq
  simpa using this
 have ha':h'.get? a=some (bM es ep t):=kp _ _ (kp0 _ _ ha)
 have gS:h'.get? S=some { cls:=.type "list",data:=.seq ([]:List Value).toArray }:=kp _ _ g0
 have hSf:S∉fp:=fun hm=>by
  rcases (fpo S hm).1 with e|e
  ·exact ne_of_gt hlt e
  ·have e:S+1<=S:=z0 ▸ e
   exact Nat.not_succ_le_self _ e
 refine wpAny_bind (wpAny_holding (JF ha' ?_))
 show wpAny _ A.in1 (if (false || _)=true then _ else _) _ _ _
 rw [if_pos (by first|rfl|decide)]
 refine wpAny_bind (wpAny_rule ?_)
 refine wpAny_bind ?_
 show wpAny _ A.in1 (updateSeq S (·.push .none) >>= fun _=>updateSeq S (·.pop)) _ _ _
 refine wpAny_bind (wpAny_updateSeq gS rfl ?_)
 have gS2:=get?_update_self (Obj.mapSeq (·.push Value.none)) gS rfl
 refine wpAny_updateSeq gS2 rfl ?_
 have gS3:=get?_update_self (Obj.mapSeq (·.pop)) gS2 rfl
 have oth:∀ b o,b≠S->h'.get? b=some o->((h'.update S (Obj.mapSeq (·.push Value.none))).update S (Obj.mapSeq (·.pop))).get? b=some o:=
  fun b o hb e=>(get?_update_other _ _ (Ne.symm hb)).trans ((get?_update_other _ _ (Ne.symm hb)).trans e)
 generalize (h'.update S (Obj.mapSeq (·.push Value.none))).update S (Obj.mapSeq (·.pop))=h3 at gS3 oth ⊢
 refine wpAny_pure ⟨plainId_quiet F.plain_extend_loop _,codeAny_extend_loopS W.ws.toS (by omega) S hSf _ ord.length 0 _ _ _ rfl (zero_le _)
  (W.ws.frame 0 h' h3 st fun b hb o e=>oth b o (fun z=>hSf (z ▸ hb)) e) gS3 (ItemsOf.nil _) fun s' acc' c' hm hS' hacc=>?_⟩
 show wpAny _ A (load S >>= _) _ _ s'
 refine wpAny_bind (wpAny_load hS' ?_)
 refine wpAny_pure ?_
 obtain ⟨h4,g4,d4,t4,o4⟩:=s'
 have eg:g4=s.gens:=hm.gens
 have ed:d4=d:=hm.drawn
 have eo:o4=s.os:=hm.os
 subst eg ed eo
 have ev:acc'.toList=ord:=by
  apply ext_getElem?
  intro j
  by_cases hj:j < acc'.size
  ·have:=hacc.2 j acc'[j] (by simp [hj])
   rw [this]
   simp [hj]
  ·have e1:acc'.toList[j]?=none:=by simp; omega
   have e2:ord[j]?=none:=by
    have:=hacc.1
    simp
    omega
   rw [e1,e2]
 rw [ev]
 refine h ord h4 d4 t4 hp (fun b o e=>?_) (le_of_lt (lt_size hS'))
 have hbS:b≠S:=ne_of_lt (hN ▸ lt_size e)
 have hbi:b≠it:=fun z=>by
  subst z
  rcases (fpo b hit).1 with e2|e2
  ·exact hia e2
  ·have e2:S+1<=b:=z0 ▸ e2
   have e3:b < S:=hN ▸ lt_size e
   exact lt_irrefl _ (lt_of_lt_of_le e3 (Nat.le_of_succ_le e2))
 exact hm.heap b o (by simp [hbS,hbi]) (oth b o hbS (kp _ _ (kp0 _ _ e)))
end
end L2
namespace L2
open PySem
noncomputable def yC (prog:Program) (w:World):KeyKind prog w Str where
 is:=Value.isStrOf
 hash:=hashStr w
 inj:=Value.isStrOf_inj
 byValue:=fun k v h=>by obtain ⟨t,rfl⟩:=Value.isStrOf_shape h; rfl
 pyHash:=fun hv h=>by obtain ⟨t,rfl⟩:=Value.isStrOf_shape hv; exact wpAny_pyHash_str h
 eqBool:=fun hu hv h=>by
  obtain ⟨t,rfl⟩:=Value.isStrOf_shape hu
  obtain ⟨u,rfl⟩:=Value.isStrOf_shape hv
  exact wpAny_eqBool_str h
 «strs»:=fun k x t v h=>by
  obtain ⟨u,e⟩:=Value.isStrOf_shape h
  cases e
  cases v <;> rfl
noncomputable def vU:Value->Str
|.str x _=>x
|_=>⟨#[]⟩
noncomputable def gO (w:World) (h:Heap) (a:Addr) (xs:List Str):Prop:=
 ∃ es ep t,h.get? a=some (bM es ep t)/\(∀ e∈es.toList,∃ y u,e=(hashStr w y,Value.str y u))/\es.toList.map (fun e=>vU e.2)=xs/\xs.Nodup/\es.size < scanBound/\t.fits es.size=true/\Tb w t es.size
theorem gO.at {w:World}{h h':Heap}{a:Addr}{xs:List Str} (x:gO w h a xs) (e:∀ o,h.get? a=some o->h'.get? a=some o):gO w h' a xs:=
 let ⟨es,ep,t,g,r⟩:=x; ⟨es,ep,t,e _ g,r⟩
section
variable {prog:Program} {w:World} {A:Around} {E:Value -> Shared -> Prop} {s:Shared} {a:Addr}
theorem VE {xs:List Str}{y:Str}{tk:Tok}{Q:Bool->Shared->Prop} (hx:gO w s.heap a xs) (hb:xs.length+1 < scanBound)
  (h1:y∈xs->Q false s) (h2:y∉xs->∀ h' xs',Heap.SameBut a s.heap h'->xs'.Perm (xs++[y])->gO w h' a xs'->Q true { s with heap:=h' }):wpAny (model prog w) A (setAddHashed a (.str y tk) (hashStr w y)) Q E s:=by
 obtain ⟨es,ep,t,g,hel,hxs,hnd,hsz,hf,ht⟩:=hx
 have hl:xs.length=es.size:=by rw [← hxs]; simp
 have hE:ElemsOf (yC prog w) es.toList:=fun e he=>by
  obtain ⟨z,u,rfl⟩:=hel e he
  exact ⟨⟨z,by show Value.isStrOf z (.str z u)=true; simp [Value.isStrOf],rfl⟩,rfl⟩
 have his:∀ e∈es.toList,((yC prog w).is y e.2=true ↔ vU e.2=y):=fun e he=>by
  obtain ⟨z,u,rfl⟩:=hel e he
  constructor
  ·intro q
   obtain ⟨u',q'⟩:=Value.isStrOf_shape (show Value.isStrOf y (.str z u)=true from q)
   cases q'
   rfl
  ·intro q
   have q:z=y:=q
   subst q
   show Value.isStrOf z (.str z u)=true
   simp [Value.isStrOf]
 refine KH (knd:=yC prog w) (k:=y) rfl (by show Value.isStrOf y (.str y tk)=true; simp [Value.isStrOf]) g ⟨rfl,rfl,rfl⟩ rfl hE (by omega) hf ht (fun ⟨e,he,q⟩=>h1 ?_) fun hno h' es' t' ep' sb g' hp hf' ht'=>h2 ?_ h' (es'.toList.map fun e=>vU e.2) sb ?_ ⟨es',ep',t',g',?_,rfl,?_,?_,hf',ht'⟩
 ·rw [← hxs]
  exact mem_map.mpr ⟨e,he,(his e he).mp q⟩
 ·intro hm
  rw [← hxs] at hm
  obtain ⟨e,he,q⟩:=mem_map.mp hm
  have:=hno e he
  rw [(his e he).mpr q] at this
  cases this
 ·have q:=hp.map fun e=>vU e.2
  rw [map_append,hxs] at q
  exact q
 ·intro e he
  rcases mem_append.mp (hp.mem_iff.mp he) with q|q
  ·exact hel e q
  ·rw [mem_singleton] at q
   exact ⟨y,tk,q⟩
 ·have q:=hp.map fun e=>vU e.2
  rw [map_append,hxs] at q
  refine q.nodup_iff.mpr (nodup_append.mpr ⟨hnd,by simp,fun z hz z' hz'=>?_⟩)
  have hz':z'=y:=by simpa [vU] using hz'
  subst hz'
  rintro rfl
  rw [← hxs] at hz
  obtain ⟨e,he,q⟩:=mem_map.mp hz
  have:=hno e he
  rw [(his e he).mpr q] at this
  cases this
 ·have:=hp.length_eq
  simp at this
  omega
end
section
variable {prog:Program} {w:World} {A:Around} {R:Result -> Shared -> Prop} {I:Addr} {fp wr:List Addr} {G:Array GenState -> Array GenState -> Prop} {n:Nat} {P:Nat -> Value -> Prop} {St:Nat -> Shared -> Prop}
theorem fA:entryFor table "set.update.loop"=some Builtin.«set.update.loop»:=entryFor_of_tree (by kernel_rfl)
theorem bR:plainId "set.update.loop"=true:=by decide +kernel
theorem NQ (W:WalksS prog w A.in1 I fp wr G n P St) (S:Addr) (hSf:S∉fp) (val:Nat->Str) (hval:∀ i v,P i v->∃ t,v=.str (val i) t) (hb:n+1 < scanBound) :
  ∀ (k i:Nat) (s:Shared) (xs:List Str),n - i=k->i<=n->St i s->gO w s.heap S xs->xs.length<=i->(∀ z,z∈xs ↔ ∃ j,j < i/\val j=z) ->
   (∀ s' xs',Moved (S::wr) G s s'->gO w s'.heap S xs'->(∀ z,z∈xs' ↔ ∃ j,j < n/\val j=z)->R (.ok (.ret .none)) s') ->
   codeAny (model prog w) A (.builtin "set.update.loop" ⟨[.ref S,.ref I],[]⟩) R s:=by
 have hSw:S∉wr:=fun h=>hSf (W.sub _ h)
 have sub:∀ b∈wr,b∈S::wr:=fun b hb=>mem_cons_of_mem _ hb
 intro k
 induction k with
|zero =>
  intro i s xs hk hi hst hS hl hm hR
  have:i=n:=by omega
  subst this
  refine codeAny_builtin fA ?_
  rw [Around.under_plainId bR _]
  show wpAny _ A.in1 (pyNext (.ref I) >>= _) _ _ s
  refine wpAny_bind (W.done s _ _ hst fun s' mv=>wpAny_pure (hR s' xs (mv.mono sub) (hS.at fun o e=>mv.heap S _ hSw e) hm))
|succ k ih =>
  intro i s xs hk hi hst hS hl hm hR
  have hlt:i < n:=by omega
  refine codeAny_builtin fA ?_
  rw [Around.under_plainId bR _]
  show wpAny _ A.in1 (pyNext (.ref I) >>= _) _ _ s
  refine wpAny_bind (W.item i s _ _ hlt hst fun v s' hP hst' mv=>?_)
  obtain ⟨tk,rfl⟩:=hval i v hP
  have hS':gO w s'.heap S xs:=hS.at fun o e=>mv.heap S _ hSw e
  show wpAny _ A.in1 (holding [Value.str (val i) tk] (setAdd S (.str (val i) tk)) >>= _) _ _ s'
  refine wpAny_bind (wpAny_holding ?_)
  unfold setAdd
  refine wpAny_holding (wpAny_bind (wpAny_pyHash_str ?_))
  have go:∀ (s2:Shared) (xs2:List Str),Moved (S::wr) G s s2->St (i+1) s2->gO w s2.heap S xs2->xs2.length<=i+1->(∀ z,z∈xs2 ↔ z∈xs∨z=val i)->codeAny (model prog w) A (.builtin "set.update.loop" ⟨[.ref S,.ref I],[]⟩) R s2:=fun s2 xs2 mv2 st2 t2 l2 m2=>by
   refine ih (i+1) s2 xs2 (by omega) (by omega) st2 t2 l2 (fun z=>?_) fun s3 xs3 mv3 t3 m3=>hR s3 xs3 (Moved.trans W.gtrans mv2 mv3) t3 m3
   rw [m2,hm]
   constructor
   ·rintro (⟨j,hj,e⟩|rfl)
    ·exact ⟨j,by omega,e⟩
    ·exact ⟨i,by omega,rfl⟩
   ·rintro ⟨j,hj,e⟩
    by_cases q:j < i
    ·exact .inl ⟨j,q,e⟩
    ·have:j=i:=by omega
     subst this
     exact .inr e.symm
  refine VE (s:={ s' with toks:=s'.toks+1 }) hS' (by omega) (fun hin=>?_) fun hout h' xs' sb hp ht=>?_
  ·refine wpAny_pure ⟨plainId_quiet bR _,go _ xs ((mv.mono sub).then_heap (le_succ _) fun b o _ e=>e) ?_ hS' (by omega) fun z=>⟨.inl,fun q=>q.elim id fun e=>e ▸ hin⟩⟩
   exact W.frame _ s' _ _ hst' (le_succ _) fun b _ o e=>e
  ·refine wpAny_pure ⟨plainId_quiet bR _,go _ xs' ((mv.mono sub).then_heap (le_succ _) fun b o hb e=>?_) ?_ ht ?_ fun z=>?_⟩
   ·rw [sb.2 b (fun q:b=S=>hb (by rw [q]; exact mem_cons_self))]; exact e
   ·exact W.frame _ s' _ _ hst' (le_succ _) fun b hb o e=>by rw [sb.2 b (fun q:b=S=>hSf (by rw [← q]; exact hb))]; exact e
   ·have:=hp.length_eq
    simp at this
    omega
   ·rw [hp.mem_iff]
    simp
end
end L2
namespace L2
open PySem
section
variable {prog:Program} {w:World} {A:Around} {E:Value -> Shared -> Prop} {s:Shared}
noncomputable abbrev aU (w:World):Obj:=bM #[] 0 (.fresh 0 0 (!(w.params.followText "set-order")))
theorem wD (a:Value) {Q₁:Value->Shared->Prop} (h:Q₁ (.ref s.heap.objs.size) { s with heap:=s.heap.push (aU w) }) :
  codeAny (model prog w) A (.call (.builtin "set.__new__") ⟨[.type "set",a],[]⟩) (wants Q₁ E) s:=by
 refine codeAny_of_tree ?_
 show wpAny _ A.in1 (checkBuiltinCall "set.__new__" ⟨[.type "set",a],[]⟩ >>= fun _=>again (.builtin "set.__new__" ⟨[.type "set",a],[]⟩)) _ _ s
 refine wpAny_bind (wpAny_of_eq (F.newCall_set_1 a) (wpAny_pure ⟨plainId_quiet F.plain_set_new _,codeAny_builtin F.entry_set_new ?_⟩))
 rw [Around.under_plainId F.plain_set_new _]
 unfold Builtin.«set.__new__» Builtin.Frozenset.newClass
 have hsub:=sub_set_self
 obtain ⟨hp,g,d,tk,os⟩:=s
 dsimp only
 wp_walk
 refine wpAny_askSetting (wpAny_pure ?_)
 dsimp only
 simp only [newObj]
 exact wpAny_bind (wpAny_alloc (wpAny_pure (wpAny_pure h)))
theorem CU {h:Heap}{a:Addr} (g:h.get? a=some (aU w)):gO w h a []:=
 ⟨#[],0,_,g,fun e he=>by simp at he,rfl,nodup_nil,by decide,rfl,rfl,List.Pairwise.nil,rfl⟩
set_option maxRecDepth 100000 in
set_option maxHeartbeats 3200000 in
theorem DG {l:Addr}{items:Array Value}{xs:List Str}{Q:Value->Shared->Prop} (hh:A.handled=none) (hl:s.heap.IsList l items) (hi:∀ (i:Nat) (v:Value),items[i]?=some v->∃ t,v=.str (xs.getD i ⟨#[]⟩) t) (hlen:items.size=xs.length) (hb:xs.length+1 < scanBound)
  (h:∀ h' tk ys,gO w h' s.heap.objs.size ys->(∀ z,z∈ys ↔ z∈xs)->(∀ b o,b < s.heap.objs.size->s.heap.get? b=some o->h'.get? b=some o)->Q (.ref s.heap.objs.size) { s with heap:=h',toks:=tk }) :
  wpAny (model prog w) A (call (.type "set") [.ref l]) Q E s:=by
 obtain ⟨c,tl,hmro⟩:=F.called_set.mro
 have hmade:=F.called_set.made
 have hsub:=F.called_set.sub
 refine wpAny_call (codeAny_of_tree ?_)
 show wpAny _ _ (callAny (.type "set") _) _ _ _
 refine wpAny_pure ⟨Code.quiet_builtin _ (by decide +kernel),codeAny_builtin F.entry_type_call ?_⟩
 rw [Around.under_plain (weight_type_call_type "set" [.ref l] []) rfl]
 have h1:=F.called_set.notType
 have h2:=F.called_set.canCreate
 have hct:=F.typeCall_set_1 (.ref l)
 repeat (any_goals (first|assumption|wp_step))
 refine codeAny_mono (wD (.ref l) (E:=E) (Q₁:=fun obj s₁=>obj=.ref s.heap.objs.size/\s₁={ s with heap:=s.heap.push (aU w) }) ⟨rfl,rfl⟩) fun r s₁ hr=>?_
 cases r with
|error e=>exact hr
|ok fl =>
  cases fl with
 |ret obj =>
   obtain ⟨rfl,rfl⟩:=hr
   have hS:(s.heap.push (aU w)).get? s.heap.objs.size=some (aU w):=get?_push_size _ rfl
   have hT:Shared.TypeIs { s with heap:=s.heap.push (aU w) } (.ref s.heap.objs.size) "set":=⟨_,hS,rfl⟩
   have hli:=F.called_set.init.lookup
   have hbi:=F.called_set.init.bind (.ref s.heap.objs.size)
   repeat (any_goals (first|assumption|wp_step))
   refine codeAny_mono (codeAny_call_builtin (R:=wants (fun r s₂=>r=.none/\∃ h' tk ys,s₂={ s with heap:=h',toks:=tk }/\gO w h' s.heap.objs.size ys/\(∀ z,z∈ys ↔ z∈xs) /\
     (∀ b o,b < s.heap.objs.size->s.heap.get? b=some o->h'.get? b=some o)) E) F.called_set.init.plain F.entry_set_init (check_set_init_1 hT ?_)) fun r₂ s₂ hr₂=>?_
   ·obtain ⟨ol,hol,hcl,nl,hdl⟩:=hl
    obtain ⟨ocls,odict,odata,oslots⟩:=ol
    simp only at hcl hdl
    subst hcl; subst hdl
    have hol':(s.heap.push (aU w)).get? l=some { cls:=.type "list",dict:=odict,data:=.seq items nl,slots:=oslots }:=get?_push_of_some _ hol
    have hsls:=F.sub_list_set
    have hslf:=F.sub_list_frozenset
    have hne:(Value.type "list"==Value.type "dict")=false:=by decide
    have hl1:(s.heap.push (aU w)).IsList l items:=⟨_,hol',rfl,nl,rfl⟩
    unfold Builtin.«set.__init__» noKeywords Builtin.Frozenset.updateFrom
    generalize hPI:pyIter=PI
    wp_walk
    subst hPI
    refine wpAny_pyIter_list hl1 ?_
    refine wpAny_bind (wpAny_runValue ?_)
    have hlS:l < s.heap.objs.size:=lt_size hol
    have hh3:A.in1.in1.in1.handled=none:=by simp [hh]
    have zP:(s.heap.push (aU w)).objs.size=s.heap.objs.size+1:=size_push ..
    have hneI:l≠(s.heap.push (aU w)).objs.size:=by rw [zP]; exact ne_of_lt (lt_succ_of_lt hlS)
    have hSf:s.heap.objs.size∉[(s.heap.push (aU w)).objs.size,l]:=by
     rw [zP]
     simp only [mem_cons,not_mem_nil,or_false,not_or]
     exact ⟨ne_of_lt (lt_succ_self _),ne_of_gt hlS⟩
    refine NQ ((Walks.list hh3 _ l hneI items).toS) s.heap.objs.size hSf (fun i=>xs.getD i ⟨#[]⟩) hi (by rw [hlen]; exact hb) (items.size - 0) 0 _ [] (by omega) (zero_le _)
     ⟨⟨_,get?_push_size _ rfl,rfl,rfl⟩,(hl1.push _)⟩ (CU (get?_push_of_some _ hS)) (le_refl _) (fun z=>by simp) fun s' ys hm hS' hmem=>?_
    obtain ⟨h',g',d',tk',os'⟩:=s'
    have eg:g'=s.gens:=hm.gens
    have ed:d'=s.drawn:=hm.drawn
    have eo:os'=s.os:=hm.os
    subst eg ed eo
    refine wpAny_pure ?_
    refine wpAny_pure ⟨rfl,h',tk',ys,rfl,hS',fun z=>?_,fun b o hb e=>?_⟩
    ·rw [hmem,hlen]
     constructor
     ·rintro ⟨j,hj,rfl⟩
      have:xs.getD j ⟨#[]⟩=xs[j]:=by simp [List.getD,hj]
      rw [this]
      exact List.getElem_mem hj
     ·intro hz
      obtain ⟨j,hj,e⟩:=List.getElem_of_mem hz
      exact ⟨j,hj,by simp [List.getD,hj,e]⟩
    ·have hb1:b≠s.heap.objs.size:=ne_of_lt hb
     have hb2:b≠(s.heap.push (aU w)).objs.size:=by rw [zP]; exact ne_of_lt (lt_succ_of_lt hb)
     exact hm.heap b o (by simp only [mem_cons,not_mem_nil,or_false,not_or]; exact ⟨hb1,hb2⟩) (get?_push_of_some _ (get?_push_of_some _ e))
   ·cases r₂ with
   |error e=>exact hr₂
   |ok fl₂ =>
     cases fl₂ with
    |ret r =>
      obtain ⟨rfl,h',tk,ys,rfl,q1,q2,q3⟩:=hr₂
      repeat (any_goals (first|assumption|wp_step))
      exact h _ _ _ q1 q2 q3
    |_=>exact hr₂.elim
 |_=>exact hr.elim
end
end L2
namespace L2
open PySem PyProof.Rows
theorem oW:∀ {vs:List Value} ,(∀ v∈vs,∃ y u,v=.str y u)->StrsAre vs (vs.map vU)
|[],_=>.nil
|v::vs,h=>by
  obtain ⟨y,u,rfl⟩:=h v (mem_cons_self ..)
  exact .cons y u (oW fun x hx=>h x (mem_cons_of_mem _ hx))
section
variable {prog:Program} {w:World} {A:Around} {E:Value -> Shared -> Prop} {s:Shared}
theorem lA {a:Addr}{xs:List Str}{Q:Value->Shared->Prop} (h64:xs.length < 64)
  (hc:∀ (A':Around) (Q':List Value->Shared->Prop),A'.handled=A.handled->(∀ vs h' d tk,(∃ ss,StrsAre vs ss/\ss.Perm xs)->(∀ b o,s.heap.get? b=some o->h'.get? b=some o)->s.heap.objs.size<=h'.objs.size->Q' vs { s with heap:=h',drawn:=d,toks:=tk })->wpAny (model prog w) A' (collect (.ref a)) Q' E s)
  (h:∀ h' d tk L its ys n,s.heap.objs.size<=L->StrsAre its ys->ys.Perm xs->sortedS ys=true->h'.get? L=some (seqObj "list" its.toArray n)->(∀ b o,s.heap.get? b=some o->h'.get? b=some o)->Q (.ref L) { s with heap:=h',drawn:=d,toks:=tk }) :
  wpAny (model prog w) A (call (.builtin "sorted") [.ref a]) Q E s:=by
 refine Calls.call_function_entry kind_sorted plain_sorted entry_sorted (args_sorted1 _) ?_
 unfold Builtin.«sorted»
 refine wpAny_bind (m:=checkCount "sorted" 1 1 _) (wpAny_pure ?_)
 refine wpAny_bind (hc _ _ (by simp) fun vs h1 d tk ⟨ss,hS,hp⟩ kp hge=>?_)
 have hv:vs.length=xs.length:=by rw [← hp.length_eq,← hS.strs,length_map]
 refine wpAny_bind (wpAny_newList ?_ (by rw [sizeLine_eq]; omega))
 have g0:(h1.push (seqObj "list" vs.toArray 0)).get? h1.objs.size=some (seqObj "list" vs.toArray 0):=get?_push_size _ rfl
 show wpAny _ _ _ _ _ { s with heap:=h1.push (seqObj "list" vs.toArray 0),drawn:=d,toks:=tk }
 refine wpAny_bind (wpAny_holding (wpAny_call_entry slot_list_sort ⟨_,g0,rfl⟩ entry_list_sort (list_sort_treeK strKind_oneLt g0 hS.keysOf (fun v₁ v₂ dH e=>keyKind_strs (by rw [← e]; exact hS)) (by omega) fun st' a1 a2=>⟨_,rfl,?_⟩) (args_list_sort _)))
 refine wpAny_pure ⟨_,rfl,?_⟩
 obtain ⟨ys,q1,q2,q3⟩:=sorted_out_str hS a1 a2
 obtain ⟨e,he⟩:=sortedHeap_at (vs:=vs) (out:=(arrOf st').map (·.2)) g0
 refine h _ d tk h1.objs.size _ ys e hge q1 (q2.trans hp) q3 (by rw [Array.toArray_toList]; exact he) fun b o eb=>?_
 have hb1:=lt_size (kp b o eb)
 rw [sortedHeap_old (ne_of_lt hb1) (by rw [size_push']; exact lt_succ_of_lt hb1)]
 exact get?_push_of_some _ (kp b o eb)
theorem DE {a:Addr}{xs:List Str}{Q:Value->Shared->Prop} (hh:A.handled=none) (hx:gO w s.heap a xs) (h64:xs.length < 64)
  (h:∀ h' d tk L its ys n,s.heap.objs.size<=L->StrsAre its ys->ys.Perm xs->sortedS ys=true->h'.get? L=some (seqObj "list" its.toArray n)->(∀ b o,s.heap.get? b=some o->h'.get? b=some o)->Q (.ref L) { s with heap:=h',drawn:=d,toks:=tk }) :
  wpAny (model prog w) A (call (.builtin "sorted") [.ref a]) Q E s:=by
 refine lA h64 (fun A' Q' hA q=>?_) h
 obtain ⟨es,ep,t,g,hel,hxs,hnd,hsz,hf,ht⟩:=hx
 refine nO (hA.trans hh) g hf ht (fits_of_scanBound hsz) fun vs h' d tk hp kp hge=>q vs h' d tk ⟨_,oW fun v hv=>?_,?_⟩ kp hge
 ·obtain ⟨e,he,rfl⟩:=mem_map.mp (hp.mem_iff.mp hv)
  obtain ⟨y,u,rfl⟩:=hel e he
  exact ⟨y,u,rfl⟩
 ·have:=hp.map vU
  rw [map_map] at this
  rw [← hxs]
  exact this
end
end L2
namespace L2
open PySem PyProof.Rows
theorem vW:splitId "dict.__len__"=some ("dict","__len__"):=by kernel_rfl
theorem LP:isSubtype (.type "dict") (.type "dict")=pure true:=by rw [isSubtype_type]; kernel_rfl
section
variable {prog:Program} {w:World} {K:Type} [DecidableEq K] {knd:KeyKind prog w K} {A A₂:Around} {E:Value -> Shared -> Prop} {s:Shared} {a it:Addr} {kvs:List (K×Value)} {ep:Nat}
theorem EL {Q:Bool->Shared->Prop} (hT:s.TypeIs (.ref a) "dict") (h:Q false s):wpAny (model prog w) A (Builtin.List.listLengthHint (.ref a)) Q E s:=by
 unfold Builtin.List.listLengthHint
 refine wpAny_bind (wpAny_specialOf hT F.slot_dict_len.lookup ?_)
 dsimp only
 rw [vW]
 dsimp only
 refine wpAny_bind (wpAny_isInstance hT LP ?_)
 rw [if_neg (by simp)]
 show wpAny (model prog w) A (if true=true then _ else _) Q E s
 rw [if_pos rfl]
 refine wpAny_bind (wpAny_typeOf hT ?_)
 exact wpAny_pure h
theorem vG {Q:List Value->Shared->Prop} (hh:A.handled=none) (hd:(a==sysModules)=false) (hm:s.heap.DictAt knd a kvs ep) (hb:kvs.length<=sizeLine)
  (h:∀ vs h' tk,vs.length=kvs.length->(∀ (i:Nat) (v:Value),vs[i]?=some v->∃ k x,kvs[i]?=some (k,x)/\knd.is k v=true)->(∀ b o,s.heap.get? b=some o->h'.get? b=some o)->s.heap.objs.size<=h'.objs.size->Q vs { s with heap:=h',toks:=tk }) :
  wpAny (model prog w) A (collect (.ref a)) Q E s:=by
 have hlt:a < s.heap.objs.size:=hm.lt_size
 unfold collect
 refine wpAny_bind (wpAny_runValue (codeAny_builtin F.entry_proto_collect ?_))
 rw [Around.under_plainId F.plain_proto_collect _]
 show wpAny _ A.in1 (newList [] >>= fun l=>again (.builtin "list.__iadd__" ⟨[l,.ref a],[]⟩)) _ _ s
 refine wpAny_bind (wpAny_newObj_type ?_)
 refine wpAny_pure ⟨plainId_quiet F.plain_list_iadd _,codeAny_builtin F.entry_list_iadd ?_⟩
 rw [Around.under_plainId F.plain_list_iadd _]
 generalize hN:s.heap.objs.size=S at *
 have g0:(s.heap.push { cls:=.type "list",data:=.seq ([]:List Value).toArray }).get? S=some { cls:=.type "list",data:=.seq ([]:List Value).toArray }:=hN ▸ get?_push_size _ rfl
 have kp0:∀ b o,s.heap.get? b=some o->(s.heap.push { cls:=.type "list",data:=.seq ([]:List Value).toArray }).get? b=some o:=fun b o e=>get?_push_of_some _ e
 have z0:(s.heap.push { cls:=.type "list",data:=.seq ([]:List Value).toArray }).objs.size=S+1:=by rw [size_push,hN]
 generalize s.heap.push { cls:=.type "list",data:=.seq ([]:List Value).toArray }=h0 at g0 kp0 z0 ⊢
 have hm0:h0.DictAt knd a kvs ep:=hm.keep kp0
 show wpAny _ A.in1 (Builtin.List.listExtendWith (.ref S) (.ref a) (.ref S)) _ _ _
 unfold Builtin.List.listExtendWith
 have hT0:Shared.TypeIs { s with heap:=h0 } (.ref a) "dict":=hm0.dictOf.typeIs
 refine wpAny_bind (wpAny_typeOf hT0 ?_)
 have h1:Builtin.List.listSameRef (.ref S) (.ref a)=false:=by
  simp [Builtin.List.listSameRef]
  exact ne_of_gt hlt
 have h2:(Value.type "dict"==Value.type "list")=false:=by decide
 have h3:(Value.type "dict"==Value.type "tuple")=false:=by decide
 simp only [h1,h2,h3,Bool.or_false,Bool.false_eq_true,if_false]
 refine wpAny_bind (wpAny_pyIter_dict (s:={ s with heap:=h0 }) hd hm0 ?_)
 have hni:a≠h0.objs.size:=by rw [z0]; exact ne_of_lt (lt_succ_of_lt hlt)
 have W:=Walks.dictKeys (prog:=prog) (w:=w) (knd:=knd) (A:=A.in1) (by simpa using hh) h0.objs.size a hni kvs ep
 have st:(h0.push { cls:=.type "dict_keyiterator",data:=.fields #[.ref a,.int (0:Nat) 0,.int kvs.length 0,.int ep 0] }).IsKeyIter h0.objs.size a 0 kvs.length ep /\
   (h0.push { cls:=.type "dict_keyiterator",data:=.fields #[.ref a,.int (0:Nat) 0,.int kvs.length 0,.int ep 0] }).DictAt knd a kvs ep:=⟨⟨_,get?_push_size _ rfl,rfl,rfl⟩,hm0.push _⟩
 have kp1:∀ b o,h0.get? b=some o->(h0.push { cls:=.type "dict_keyiterator",data:=.fields #[.ref a,.int (0:Nat) 0,.int kvs.length 0,.int ep 0] }).get? b=some o:=fun b o e=>get?_push_of_some _ e
 show wpAny _ A.in1 _ _ _ { s with heap:=h0.push { cls:=.type "dict_keyiterator",data:=.fields #[.ref a,.int (0:Nat) 0,.int kvs.length 0,.int ep 0] } }
 generalize h0.push { cls:=.type "dict_keyiterator",data:=.fields #[.ref a,.int (0:Nat) 0,.int kvs.length 0,.int ep 0] }=h' at st kp1 ⊢
 have gS:h'.get? S=some { cls:=.type "list",data:=.seq ([]:List Value).toArray }:=kp1 _ _ g0
 have hSf:S∉[h0.objs.size,a]:=by
  rw [z0]
  simp only [mem_cons,not_mem_nil,or_false,not_or]
  exact ⟨ne_of_lt (lt_succ_self _),ne_of_gt hlt⟩
 refine wpAny_bind (wpAny_holding (EL (show Shared.TypeIs { s with heap:=h' } (.ref a) "dict" from st.2.dictOf.typeIs) ?_))
 show wpAny _ A.in1 (if (false || _)=true then _ else _) _ _ _
 rw [if_pos (by first|rfl|decide)]
 refine wpAny_bind (wpAny_rule ?_)
 refine wpAny_bind ?_
 show wpAny _ A.in1 (updateSeq S (·.push .none) >>= fun _=>updateSeq S (·.pop)) _ _ _
 refine wpAny_bind (wpAny_updateSeq gS rfl ?_)
 have gS2:=get?_update_self (Obj.mapSeq (·.push Value.none)) gS rfl
 refine wpAny_updateSeq gS2 rfl ?_
 have gS3:=get?_update_self (Obj.mapSeq (·.pop)) gS2 rfl
 have oth:∀ b o,b≠S->h'.get? b=some o->((h'.update S (Obj.mapSeq (·.push Value.none))).update S (Obj.mapSeq (·.pop))).get? b=some o:=
  fun b o hb e=>(get?_update_other _ _ (Ne.symm hb)).trans ((get?_update_other _ _ (Ne.symm hb)).trans e)
 generalize (h'.update S (Obj.mapSeq (·.push Value.none))).update S (Obj.mapSeq (·.pop))=h3 at gS3 oth ⊢
 refine wpAny_pure ⟨plainId_quiet F.plain_extend_loop _,codeAny_extend_loopS W.toS hb S hSf _ kvs.length 0 _ _ _ rfl (zero_le _)
  (W.frame 0 h' h3 st fun b hb o e=>oth b o (fun z=>hSf (z ▸ hb)) e) gS3 (ItemsOf.nil _) fun s' acc' c' mv hS' hacc=>?_⟩
 show wpAny _ A (load S >>= _) _ _ s'
 refine wpAny_bind (wpAny_load hS' ?_)
 refine wpAny_pure ?_
 obtain ⟨h4,g4,d4,t4,o4⟩:=s'
 have eg:g4=s.gens:=mv.gens
 have ed:d4=s.drawn:=mv.drawn
 have eo:o4=s.os:=mv.os
 subst eg ed eo
 refine h acc'.toList h4 t4 (by rw [Array.length_toList]; exact hacc.1) (fun i v hv=>hacc.2 i v (by simpa using hv)) (fun b o e=>?_) (le_of_lt (lt_size hS'))
 have hbS:b < S:=hN ▸ lt_size e
 exact mv.heap b o (by
  rw [z0]
  simp only [mem_cons,not_mem_nil,or_false,not_or]
  exact ⟨ne_of_lt hbS,ne_of_lt (lt_succ_of_lt hbS)⟩) (oth b o (ne_of_lt hbS) (kp1 _ _ (kp0 _ _ e)))
end
end L2
namespace L2
open PySem PyProof.Rows
theorem uT:typeLookup (.type "list") "keys"=pure none:=by rw [typeLookup_type,builtinLookup_eq_fast]; kernel_rfl
theorem kR:entryFor table "dict.update.loop"=some Builtin.«dict.update.loop»:=entryFor_of_tree (by kernel_rfl)
theorem eY:plainId "dict.update.loop"=true:=by decide +kernel
section
variable {prog:Program} {w:World} {A:Around} {E:Value -> Shared -> Prop} {s:Shared}
theorem EH {l:Addr}{xs:Array Value}{k:Nat}{Q:Option Value->Shared->Prop} (hx:s.heap.get? l=some { cls:=.type "list",data:=.seq xs k }) (hA:A.handled=none)
  (h:∀ h' tk,(∀ b o,s.heap.get? b=some o->h'.get? b=some o)->Q none { s with heap:=h',toks:=tk }):wpAny (model prog w) A (getAttr? (.ref l) "keys") Q E s:=by
 obtain ⟨hp,g,d,tk,os⟩:=s
 have hT:∀ tk',(⟨hp,g,d,tk',os⟩:Shared).TypeIs (.ref l) "list":=fun _=>⟨_,hx,rfl⟩
 have f1:=sub_AttributeError
 have f3:=F.slot_list_getattribute.lookup
 have f4:=F.slot_list_getattribute.bind (.ref l)
 have f5:=am_list_getattr_none
 unfold getAttr? getAttrBy? getAttrBy
 repeat (any_goals (first|assumption|exact hT _|((with_reducible show wpAny _ _ (call (Value.builtin "list.__getattribute__") _ _) _ _ _); refine call_meets F.slot_list_getattribute (hT _) am_entry_list_getattribute (F.args_list_getattribute_2 _ _) (meets_getattribute_miss_list l xs k #[] (Str.ofString "keys") _ uT (by decide)) ⟨hx,by simpa using hA,fun h' tk' e hx'=>?_⟩)|wp_step))
 obtain ⟨t',u',he⟩:=hx'.there
 show wpAny _ _ (getattributeRaised _ _ _ _ _ _ _) _ _ _
 unfold getattributeRaised
 repeat (any_goals (first|assumption|wp_step))
 exact h h' tk' fun b o eb=>hx'.keeps b o eb
variable {K:Type} [DecidableEq K] {knd:KeyKind prog w K}
noncomputable def oJ (kvs:List (K×Value)) (ps:List (K×Value)):List (K×Value):=ps.foldl (fun m p=>stored m p.1 p.2) kvs
theorem DS {R:Result->Shared->Prop}{I l D:Addr}{items:Array Value}{ps:List (K×Value)} (hh:A.handled=none) (hI:l≠I) (hDI:D≠I) (hDl:D≠l) (hlen:items.size=ps.length)
  (hps:∀ (h:Heap) (i:Nat) (v:Value),items[i]?=some v->(∀ b o,s.heap.get? b=some o->b≠I->b≠D->h.get? b=some o)->∃ a key k x,v=.ref a/\h.IsTuple a #[key,x]/\ps[i]?=some (k,x)/\knd.is k key=true) (hsz:ps.length<=1000) :
  ∀ (n i:Nat) (h:Heap) (tk:Nat) (kvs:List (K×Value)),items.size - i=n->i<=items.size->h.IsListIter I l i->h.IsList l items->h.DictOf knd D kvs->kvs.length<=i->(∀ b o,s.heap.get? b=some o->b≠I->b≠D->h.get? b=some o) ->
   (∀ h' tk',h'.DictOf knd D (oJ kvs (ps.drop i))->(∀ b o,s.heap.get? b=some o->b≠I->b≠D->h'.get? b=some o)->R (.ok (.ret .none)) { s with heap:=h',toks:=tk' }) ->
   codeAny (model prog w) A (.builtin "dict.update.loop" ⟨[.ref D,.ref I,rawInt (i:Nat),.none],[]⟩) R { s with heap:=h,toks:=tk }:=by
 intro n
 induction n with
|zero =>
  intro i h tk kvs hn hi hit hl hD hk kp hR
  have:i=items.size:=by omega
  subst this
  refine codeAny_builtin kR ?_
  rw [Around.under_plainId eY _]
  show wpAny _ A.in1 (pyNext (.ref I) >>= _) _ _ _
  refine wpAny_bind (wpAny_pyNext_list_end (by simpa using hh) hit hl (by simp) fun h' eb=>?_)
  show wpAny _ A.in1 (Builtin.Dict.addKeywords D [] >>= _) _ _ _
  refine wpAny_bind (wpAny_pure (wpAny_pure (hR h' tk ?_ fun b o e h1 h2=>eb b o h1 (kp b o e h1 h2))))
  rw [hlen,List.drop_length]
  obtain ⟨o,es,ep,g,r⟩:=hD
  exact ⟨o,es,ep,eb _ _ hDI g,r⟩
|succ n ih =>
  intro i h tk kvs hn hi hit hl hD hk kp hR
  have hlt:i < items.size:=by omega
  refine codeAny_builtin kR ?_
  rw [Around.under_plainId eY _]
  show wpAny _ A.in1 (pyNext (.ref I) >>= _) _ _ _
  obtain ⟨v,hv⟩:∃ v,items[i]?=some v:=⟨_,Array.getElem?_eq_getElem hlt⟩
  refine wpAny_bind (wpAny_pyNext_list_item hit hl hv fun h' hit' sb=>?_)
  have kp':∀ b o,s.heap.get? b=some o->b≠I->b≠D->h'.get? b=some o:=fun b o e h1 h2=>(sb.2 b h1).trans (kp b o e h1 h2)
  obtain ⟨a,key,k,x,rfl,ht,hp,hkey⟩:=hps h' i v hv kp'
  have hD':h'.DictOf knd D kvs:=by
   obtain ⟨o,es,ep,g,r⟩:=hD
   exact ⟨o,es,ep,(sb.2 _ hDI).trans g,r⟩
  have hl':h'.IsList l items:=by
   obtain ⟨o,g,r⟩:=hl
   exact ⟨o,(sb.2 _ hI).trans g,r⟩
  refine wpAny_bind (wpAny_holding ?_)
  refine wpAny_bind (wpAny_tryCatch (wpAny_mono (Q:=fun r s'=>r=[key,x]/\s'={ s with heap:=h',toks:=tk }) (E:=fun _ _=>False) ?_ (fun r s' q=>?_) fun _ _ z=>z.elim))
  ·unfold Builtin.Dict.pairItems
   obtain ⟨ot,g,hc,nt,hd⟩:=ht
   refine wpAny_bind (wpAny_typeOf (T:="tuple") ⟨ot,g,hc⟩ ?_)
   rw [if_pos (by decide)]
   unfold seqItems?
   refine wpAny_bind (wpAny_bind (wpAny_load g ?_))
   rw [hd]
   exact wpAny_pure (wpAny_pure ⟨rfl,rfl⟩)
  ·obtain ⟨rfl,rfl⟩:=q
   show wpAny _ A.in1 (holding [key,x] (dictSet D key x)) _ _ _
   refine wpAny_holding (wpAny_dictSet_pairs hkey hD' (fun h2 hD2 sb2=>?_) (by rw [sizeLine_eq]; omega))
   have eD:ps.drop i=(k,x)::ps.drop (i+1):=by
    have hlt':i < ps.length:=by omega
    rw [List.drop_eq_getElem_cons hlt']
    have:ps[i]=(k,x):=by
     have:=hp
     rw [List.getElem?_eq_getElem hlt'] at this
     exact Option.some.inj this
    rw [this]
   refine wpAny_pure ⟨plainId_quiet eY _,?_⟩
   have:=ih (i+1) h2 (tk+1) (stored kvs k x) (by omega) (by omega) (by
     obtain ⟨o,g,r⟩:=hit'
     exact ⟨o,(sb2.2 _ hDI.symm).trans g,r⟩) (by
     obtain ⟨o,g,r⟩:=hl'
     exact ⟨o,(sb2.2 _ hDl.symm).trans g,r⟩) hD2 (by
     have:(stored kvs k x).length<=kvs.length+1:=by unfold stored; split <;> simp
     omega) (fun b o e h1 h2'=>(sb2.2 b h2').trans (kp' b o e h1 h2')) fun h3 WC hD3 kp3=>hR h3 WC (by rw [eD]; exact hD3) kp3
   exact this
theorem zR {Q:Value->Shared->Prop}{l:Addr}{items:Array Value}{k:Nat}{ps:List (K×Value)} (hh:A.handled=none) (hl:s.heap.get? l=some { cls:=.type "list",data:=.seq items k }) (hlen:items.size=ps.length)
  (hps:∀ (h:Heap) (i:Nat) (v:Value),items[i]?=some v->(∀ b o,s.heap.get? b=some o->h.get? b=some o)->∃ a key k x,v=.ref a/\h.IsTuple a #[key,x]/\ps[i]?=some (k,x)/\knd.is k key=true) (hsz:ps.length<=1000)
  (h:∀ h' tk,h'.DictOf knd s.heap.objs.size (oJ [] ps)->(∀ b o,s.heap.get? b=some o->h'.get? b=some o)->Q (.ref s.heap.objs.size) { s with heap:=h',toks:=tk }):wpAny (model prog w) A (call (.type "dict") [.ref l]) Q E s:=by
 refine callType_codes (Q₁:=fun obj s₁=>obj=.ref s.heap.objs.size/\s₁={ s with heap:=s.heap.push { cls:=.type "dict",data:=.dict #[] } }) F.kt_called_dict (F.kt_typeCall_dict_1 _) F.entry_dict_init (kt_code_dict_new _ ⟨rfl,rfl⟩) ?_
 rintro obj s₁ ⟨rfl,rfl⟩
 have hlt:l < s.heap.objs.size:=lt_size hl
 have z0:(s.heap.push { cls:=.type "dict",data:=.dict #[] }).objs.size=s.heap.objs.size+1:=size_push ..
 have hnew:(s.heap.push { cls:=.type "dict",data:=.dict #[] }).DictOf knd s.heap.objs.size []:=Heap.DictOf.new s.heap
 have hl0:(s.heap.push { cls:=.type "dict",data:=.dict #[] }).get? l=some { cls:=.type "list",data:=.seq items k }:=get?_push_of_some _ hl
 have kp0:∀ b o,s.heap.get? b=some o->(s.heap.push { cls:=.type "dict",data:=.dict #[] }).get? b=some o:=fun b o e=>get?_push_of_some _ e
 generalize s.heap.push { cls:=.type "dict",data:=.dict #[] }=h0 at z0 hnew hl0 kp0 ⊢
 refine ⟨hnew.typeIs,F.args_dict_init_2 _ _,?_⟩
 unfold Builtin.«dict.__init__»
 refine wpAny_bind ?_
 unfold Builtin.Dict.selfAndRest
 refine wpAny_bind (wpAny_notOrdered_dict hnew.typeIs ?_)
 show wpAny _ _ (pure (s.heap.objs.size,[Value.ref l])) _ _ _
 refine wpAny_pure ?_
 show wpAny _ _ (Builtin.Dict.updateFrom "dict.__init__" s.heap.objs.size (.ref l) [] .none) _ _ _
 unfold Builtin.Dict.updateFrom
 refine wpAny_bind (wpAny_typeOf (T:="list") ⟨_,hl0,rfl⟩ ?_)
 rw [if_pos (by decide)]
 refine wpAny_bind (EH hl0 (by simpa using hh) fun h1 tk1 kp1=>?_)
 rw [if_pos (by rfl)]
 refine wpAny_bind (wpAny_rule ?_)
 have hl1:h1.get? l=some { cls:=.type "list",data:=.seq items k }:=kp1 _ _ hl0
 have hD1:h1.DictOf knd s.heap.objs.size []:=by
  obtain ⟨o,es,ep,g,r⟩:=hnew
  exact ⟨o,es,ep,kp1 _ _ g,r⟩
 have hg1:s.heap.objs.size < h1.objs.size:=by
  obtain ⟨o,es,ep,g,r⟩:=hD1
  exact lt_size g
 refine wpAny_bind (wpAny_pyIter_list ⟨_,hl1,rfl,k,rfl⟩ ?_)
 refine wpAny_pure ⟨plainId_quiet eY _,?_⟩
 have key:=DS (A:=A.in1) (knd:=knd) (s:=s) (R:=wants (fun r s₂=>r=.none/\Q (.ref s.heap.objs.size) s₂) E) (I:=h1.objs.size) (l:=l) (D:=s.heap.objs.size) (items:=items) (ps:=ps) (by simpa using hh) (ne_of_lt (lt_trans hlt hg1)) (ne_of_lt hg1) (ne_of_gt hlt) hlen
  (fun h i v hv kp=>hps h i v hv fun b o e=>kp b o e (ne_of_lt (lt_trans (lt_size e) hg1)) (ne_of_lt (lt_size e))) hsz items.size 0 (h1.push { cls:=.type "list_iterator",data:=.fields #[.ref l,.int 0 0] }) tk1 [] rfl (zero_le _)
  ⟨_,get?_push_size _ rfl,rfl,rfl⟩ ⟨_,get?_push_of_some _ hl1,rfl,k,rfl⟩ (hD1.push _) (zero_le _) (fun b o e _ _=>get?_push_of_some _ (kp1 _ _ (kp0 _ _ e)))
  fun h' tk' hD' kp'=>⟨rfl,h h' tk' (by simpa using hD') fun b o e=>kp' b o e (ne_of_lt (lt_trans (lt_size e) hg1)) (ne_of_lt (lt_size e))⟩
 exact key
end
end L2
namespace L2
open PySem PyProof.Rows
section
variable {prog:Program} {w:World} {K:Type} [DecidableEq K] {knd:KeyKind prog w K} {A:Around} {E:Value -> Shared -> Prop} {s:Shared} {d:Addr} {kvs:List (K×Value)} {k:K} {key dflt:Value}
theorem tS {Q:Value->Shared->Prop} (hkey:knd.is k key=true) (hm:s.heap.DictOf knd d kvs) (hsz:kvs.length<=sizeLine)
  (h1:∀ v,valueAt kvs k=some v->Q v { s with toks:=s.toks+1 }) (h2:valueAt kvs k=none->∀ h',h'.DictOf knd d (kvs++[(k,dflt)])->Heap.SameBut d s.heap h'->Q dflt { s with heap:=h',toks:=s.toks+1 }) :
  wpAny (model prog w) A (dictSetDefault d key dflt) Q E s:=by
 obtain ⟨o,es,ep,ho,hc0,hd,hk0,hf⟩:=hm.mapOf
 obtain ⟨o',es',ep',ho',hc,hd',hk,hp,hn⟩:=hm
 rw [ho] at ho'
 cases ho'
 rw [hd] at hd'
 cases hd'
 have hes:es.size<=sizeLine:=by
  have e1:=hp.length
  simp at e1
  omega
 unfold dictSetDefault
 refine wpAny_holding (wpAny_bind (knd.pyHash hkey ?_))
 refine wpAny_bind (wpAny_dictFind_of (s:={ s with toks:=s.toks+1 }) hkey ho hd hk ?_)
 have hidx:(es.findIdx? fun e=>knd.is k e.key)=kvs.findIdx? fun kv=>decide (kv.1=k):=by
  rw [← hp.findIdx k]
  obtain ⟨l⟩:=es
  simp
 have hfk:=hf k
 rw [findBy_of_findIdx?] at hfk
 cases hi:es.findIdx? fun e=>knd.is k e.key with
|some i =>
  rw [hi] at hfk
  have hlt:i < es.size:=(Array.findIdx?_eq_some_iff_findIdx_eq.mp hi).1
  have hge:es[i]?=some es[i]:=Array.getElem?_eq_getElem hlt
  refine wpAny_bind (wpAny_dictEntries (s:={ s with toks:=s.toks+1 }) ho hd ?_)
  rw [hge]
  refine wpAny_bind (wpAny_rule (wpAny_pure (h1 _ ?_)))
  rw [← hfk]
  simp [hge]
|none =>
  rw [hi] at hfk
  have hnot:k∉kvs.map (·.1):=not_mem_of_findIdx_none (hidx ▸ hi)
  refine wpAny_bind (wpAny_rule (wpAny_bind (wpAny_updateDictKeys (hz:=hes) (s:={ s with toks:=s.toks+1 }) ho hd (wpAny_pure (h2 hfk.symm _ ⟨_,_,ep+1,get?_update_self _ ho (Obj.isFreed_of_dict (Obj.data_mapDictKeys hd _)),
   hc.mapDictKeys _,Obj.data_mapDictKeys hd _,hk.push hkey _,?_,?_⟩ (Heap.SameBut.update ..))))))
  ·have:=hp.append hkey (knd.hash k) dflt
   obtain ⟨l⟩:=es
   simpa using this
  ·rw [map_append,nodup_append]
   refine ⟨hn,by simp,fun a ha b hb=>?_⟩
   have hb:b=k:=by simpa using hb
   subst hb
   exact fun e=>hnot (e ▸ ha)
theorem xQ {Q:Value->Shared->Prop} (hkey:knd.is k key=true) (hs:(d==sysModules)=false) (hm:s.heap.DictOf knd d kvs) (hsz:kvs.length<=sizeLine)
  (h1:∀ v,valueAt kvs k=some v->Q v { s with toks:=s.toks+1 }) (h2:valueAt kvs k=none->∀ h',h'.DictOf knd d (kvs++[(k,dflt)])->Heap.SameBut d s.heap h'->Q dflt { s with heap:=h',toks:=s.toks+1 }) :
  wpAny (model prog w) A (call (.builtin "dict.setdefault") [.ref d,key,dflt]) Q E s:=by
 refine wpAny_call_entry F.slot_dict_setdefault hm.typeIs F.entry_dict_setdefault ?_ (F.args_dict_setdefault_3 _ _ _)
 unfold Builtin.«dict.setdefault»
 refine wpAny_bind ?_
 unfold Builtin.Dict.keyAndDefault
 refine wpAny_bind (wpAny_notOrdered_dict hm.typeIs ?_)
 show wpAny _ _ (pure (d,key,some dflt)) _ _ s
 refine wpAny_pure ?_
 show wpAny _ _ (if (d==sysModules)=true then _ else _) _ _ s
 rw [if_neg (by rw [hs]; exact Bool.false_ne_true)]
 refine wpAny_bind (tS hkey hm hsz (fun v e=>wpAny_pure ⟨_,rfl,h1 v e⟩) fun e h' hd' sb=>wpAny_pure ⟨_,rfl,h2 e h' hd' sb⟩)
end
end L2
namespace L2
open PySem PyProof.Rows
end L2
namespace L2
open PySem PySem.Spec PyProof.Rows
section
noncomputable def melt (a:Addr) (H:Hp):Hp:=fun b=>if b=a then (match H a with|some (.frz _ u)=>some u|o=>o) else H b
theorem mG {a b:Addr}{H:Hp} (h:b≠a):melt a H b=H b:=by unfold melt; rw [if_neg h]
theorem uS {a:Addr}{H:Hp}{o:Obj}{u:HO} (h:H a=some (.frz o u)):melt a H a=some u:=by unfold melt; rw [if_pos rfl,h]
theorem iM {a b:Addr}{H:Hp} (h:H b=none):melt a H b=none:=by
 unfold melt
 split
 ·rename_i e
  subst e
  rw [h]
 ·exact h
theorem fI {a b:Addr}{H:Hp}{o:HO} (hn:∀ ob u,o≠.frz ob u) (h:H b=some o):melt a H b=some o:=by
 unfold melt
 split
 ·rename_i e
  subst e
  rw [h]
  cases o <;> first|rfl|exact absurd rfl (hn _ _)
 ·exact h
theorem xB {a:Addr}{H:Hp}{o:Obj}{u:HO} (h:H a=some (.frz o u)):melt a H=upd H a u:=by
 funext b
 by_cases hb:b=a
 ·subst hb; rw [uS h,aB]
 ·rw [mG hb,aJ hb]
section
variable {X:Cx} {pins:List (Addr×Obj)} {σ:St} {H:Hp} {s:Shared} {a:Addr}
theorem aN.melt (I:aN X pins σ H s) (h0:∀ o u,X.H₀ a≠some (.frz o u)):aN X pins σ (L2.melt a H) s:=by
 refine ⟨I.ok,I.os,I.bare,⟨I.base.keep,I.base.slot,fun b o e n hx=>iM (I.base.free b o e n hx),I.base.there,fun b xs e=>fI (fun _ _ z=>nomatch z) (I.base.tups b xs e),fun b o u e=>?_,fun b ps e=>?_⟩,
  I.loc,I.cell,iM I.free,fun x c e=>iM (I.freeC x c e),fun p hp=>?_,fun b u e=>?_,I.len⟩
 ·have hb:b≠a:=fun z=>by subst z; exact h0 _ _ e
  rw [mG hb]
  exact I.base.frzs b o u e
 ·obtain ⟨more,q⟩:=I.base.tbls b ps e
  exact ⟨more,fI (fun _ _ z=>nomatch z) q⟩
 ·obtain ⟨e,n,r⟩:=I.pin p hp
  exact ⟨e,iM n,r⟩
 ·have st:∀ {v:HO},cF X.prog X.w H s.heap b v->cF X.prog X.w (L2.melt a H) s.heap b v:=fun {v} x =>
   x.stay (fun _ _ _ q=>q) (fun c q=>fI (fun _ _ z=>nomatch z) q) fun c xs q=>fI (fun _ _ z=>nomatch z) q
  by_cases hb:b=a
  ·subst hb
   cases q:H b with
  |none=>rw [iM q] at e; cases e
  |some z =>
    have hz:=I.hok b z q
    by_cases hf:∃ o v,z=.frz o v
    ·obtain ⟨o,v,rfl⟩:=hf
     rw [uS q] at e
     cases e
     exact st hz.2
    ·rw [fI (fun o v w=>hf ⟨o,v,w⟩) q] at e
     cases e
     exact st hz
  ·rw [mG hb] at e
   exact st (I.hok b u e)
theorem aN.freeze {kvs:List (aH×V)}{o:Obj} (I:aN X pins σ H s) (h:H a=some (.dK kvs)) (hg:s.heap.get? a=some o):aN X pins σ (upd H a (.frz o (.dK kvs))) s:=by
 have ne:∀ {b:Addr} {u:HO},H b=some u->u≠.dK kvs->b≠a:=fun {b u} e z w=>by subst w; rw [h] at e; exact z (Option.some.inj e).symm
 have nn:∀ {b:Addr},H b=none->upd H a (.frz o (.dK kvs)) b=none:=fun {b} e=>by rw [aJ (fun w=>by subst w; rw [h] at e; cases e)]; exact e
 have old:∀ {b:Addr} {u:HO},H b=some u->u≠.dK kvs->upd H a (.frz o (.dK kvs)) b=some u:=fun {b u} e z=>by rw [aJ (ne e z)]; exact e
 refine ⟨I.ok,I.os,I.bare,⟨I.base.keep,I.base.slot,fun b o e n hx=>nn (I.base.free b o e n hx),I.base.there,fun b xs e=>old (I.base.tups b xs e) (fun z=>nomatch z),fun b o u e=>old (I.base.frzs b o u e) (fun z=>nomatch z),fun b ps e=>?_⟩,
  I.loc,I.cell,nn I.free,fun x c e=>nn (I.freeC x c e),fun p hp=>?_,fun b u e=>?_,I.len⟩
 ·obtain ⟨more,q⟩:=I.base.tbls b ps e
  exact ⟨more,old q (fun z=>nomatch z)⟩
 ·obtain ⟨e,n,r⟩:=I.pin p hp
  exact ⟨e,nn n,r⟩
 ·have st:∀ {v:HO},cF X.prog X.w H s.heap b v->cF X.prog X.w (upd H a (.frz o (.dK kvs))) s.heap b v:=fun {v} x =>
   x.stay (fun _ _ _ q=>q) (fun c q=>old q (fun z=>nomatch z)) fun c xs q=>old q (fun z=>nomatch z)
  by_cases hb:b=a
  ·subst hb
   rw [aB] at e
   cases e
   exact ⟨hg,st (I.hok b _ h)⟩
  ·rw [aJ hb] at e
   exact st (I.hok b u e)
end
noncomputable def VV (a:Addr) (o:Obj) (kvs:List (aH×V)):It:=
 ⟨fun i H=>H a=some (.frz o (.dK kvs))/\i < kvs.length,fun i H x H'=>H'=H/\∃ k v,kvs[i]?=some (k,v)/\x=kV k,fun i H=>H a=some (.frz o (.dK kvs))/\kvs.length<=i⟩
theorem QM {κ:Type}:∀ {kvs:List (κ×V)}{vs:List (κ×Value)}{i:Nat}{k:κ}{v:V},KV kvs vs->kvs[i]?=some (k,v)->∃ u,vs[i]?=some (k,u)
|_,_,_,_,_,.nil,e=>by simp at e
|_,_,0,k,v,.cons (b:=q) r _,e=>by
  simp at e
  subst e
  exact ⟨q.2,by simp; exact Prod.ext r.1.symm rfl⟩
|_,_,i+1,k,v,.cons _ t,e=>by
  obtain ⟨u,h⟩:=QM (i:=i) (k:=k) (v:=v) t (by simpa using e)
  exact ⟨u,by simpa using h⟩
theorem uX {P:Program}{w:World}{k:aH}{u:Value} (h:(aY P w).is k u=true):aV (kV k) u:=by
 rcases bS h with ⟨i,t,rfl,rfl⟩|⟨x,t,rfl,rfl⟩
 ·exact ⟨t,rfl⟩
 ·exact ⟨t,rfl⟩
section
variable {X:Cx} {tg:Expr}
theorem oM {pins:List (Addr×Obj)}{σ:St}{H:Hp}{s:Shared}{a:Addr}{kvs:List (aH×V)}{o:Obj} (I:aN X pins σ H s) (h:H a=some (.frz o (.dK kvs))) :
  (a==sysModules)=false/\∃ vs es ep,KV kvs vs/\o.data=.dict es ep/\s.heap.DictAt (aY X.prog X.w) a vs ep:=by
 obtain ⟨g,hz⟩:=I.hok a _ h
 obtain ⟨_,hd,vs,rel,o',es,ep,e,r⟩:=hz
 rw [g] at e
 cases e
 exact ⟨hd,vs,es,ep,rel,r.2.1,o,es,g,r⟩
theorem CY {P:Program}{w:World}{K:Frag} (a it:Addr) (o:Obj) (kvs:List (aH×V)):FH P w K tg (VV a o kvs) [it] it (fun i h=>∃ es ep,o.data=.dict es ep/\h.IsKeyIter it a i kvs.length ep) where
 mem:=by simp
 obj:=fun i h st b hb=>by
  have e:b=it:=by simpa using hb
  subst e
  obtain ⟨_,_,_,o,e,c,d⟩:=st
  exact ⟨o,e,fun v z=>by rw [d] at z; cases z⟩
 keep:=fun i h h' ⟨es,ep,q,st⟩ k=>⟨es,ep,q,st.at fun o e=>k it (by simp) o e⟩
 item:=by
  intro X hP hw hK hc i pins s σ H E I hf st hg
  subst hP hw hK
  obtain ⟨ha,hi⟩:=hg
  obtain ⟨hd,vs,es,ep,rel,ed,dd⟩:=oM I ha
  obtain ⟨es',ep',ed',st⟩:=st
  rw [ed] at ed'
  cases ed'
  obtain ⟨f0,f1,f2,f3,f4,f5⟩:=hf it (by simp)
  obtain ⟨⟨k,v⟩,hx⟩:∃ p,kvs[i]?=some p:=⟨_,List.getElem?_eq_getElem hi⟩
  obtain ⟨u,hu⟩:=QM rel hx
  rw [rel.length] at st
  refine wpAny_pyNext_dict_item st dd hu fun key h' hkey hit' sb=>?_
  rw [← rel.length] at hit'
  have I1:aN X pins σ H { s with heap:=h' }:=I.turned (t':=s.toks) (fun b o hb e=>(sb.2 b hb).trans e) f0 f1 f3 f4 f5
  obtain ⟨oi,e,c,d⟩:=id hit'
  exact ⟨key,rfl,JH (s:={ s with heap:=h' }) e c d (by decide) ⟨kV k,H,I1,uX hkey,⟨rfl,k,v,hx,rfl⟩,⟨es,ep,ed,hit'⟩,fun b hb=>(hf b hb).1⟩⟩
 done:=by
  intro X hP hw hK hc i pins s σ H E I hf st hg
  subst hP hw hK
  obtain ⟨ha,hi⟩:=hg
  obtain ⟨hd,vs,es,ep,rel,ed,dd⟩:=oM I ha
  obtain ⟨es',ep',ed',st⟩:=st
  rw [ed] at ed'
  cases ed'
  obtain ⟨f0,f1,f2,f3,f4,f5⟩:=hf it (by simp)
  rw [rel.length] at st hi
  exact wpAny_pyNext_dict_end (I.ok.hd hc) st dd (by simpa using hi) fun h' eb=>⟨rfl,I.turned (t':=s.toks) (fun b o hb e=>eb b o hb e) f0 f1 f3 f4 f5⟩
 self:=fun _ _ _ _ _ ⟨_,_,_,st⟩ h=>wpAny_pyIter_keyiter st h
noncomputable def JE (a:Addr) (tl:TE):TI:=fun σ H R=>tl σ H fun x H1=>x=.ref a/\∃ kvs,H1 a=some (.dK kvs)/\∀ o,R (VV a o kvs) (upd H1 a (.frz o (.dK kvs)))
theorem BT {l:Expr}{tl:TE} (a:Addr) (hl:PE X l tl):PI X tg l (JE a tl):=by
 intro pins s σ H R I h
 refine cA (hl pins s σ H _ I h) fun v s1 ⟨x,H1,I1,r1,q1⟩=>?_
 obtain ⟨e,kvs,hk,q⟩:=q1
 subst e
 cases r1
 obtain ⟨_,hd,vs,rel,o,es,ep,g,r⟩:=I1.hok a _ hk
 have I2:=I1.freeze hk g
 refine wpAny_pyIter_dict hd ⟨o,es,g,r⟩ ?_
 refine ⟨s1.heap.objs.size,[s1.heap.objs.size],_,_,_,rfl,I2.kept (t':=s1.toks) fun b o e=>get?_push_of_some _ e,CY a _ o kvs,⟨es,ep,r.2.1,?_⟩,fun b hb=>?_,q o⟩
 ·rw [rel.length]
  exact ⟨_,get?_push_size _ rfl,rfl,rfl⟩
 ·have e:b=s1.heap.objs.size:=by simpa using hb
  subst e
  exact I2.fpOk (le_refl _) (I2.hok.fresh (le_refl _))
noncomputable def Dm (a:Addr) (D:dC):dC:=⟨fun σ H=>D.nx σ (melt a H),fun v H=>D.rt v (melt a H),fun σ H=>D.bk σ (melt a H),fun σ H=>D.ct σ (melt a H)⟩
noncomputable def iA (H:Hp) (a:Addr):Prop:=∀ o u,H a≠some (.frz o u)
noncomputable def OW (tl:TE) (g:TG) (tb:TS):TS:=fun D σ H=>∃ a,iA H a/\LM (JE a tl) g tb (Dm a D) σ H
theorem BO {iter:Expr}{body:List Stmt}{tl:TE}{g:TG}{tb:TS}{pos:Pos} (hp:PassesOwn (model X.prog X.w) X.A X.env X.xe) (hc:X.calm=true) (hi:PE X iter tl) (hg:PG X tg g) (hb:tI X body tb)
  (hs:∀ x,foldedSetIterable iter X.env x=pure x:=by intro _; rfl):PS X (.For tg iter body [] pos) (OW tl g tb):=by
 intro pins s σ H D I h
 obtain ⟨a,nf,h⟩:=h
 have h0:∀ o u,X.H₀ a≠some (.frz o u):=fun o u e=>nf _ _ (I.base.frzs a o u e)
 refine cA (dS hp hc (BT a hi) hg hb hs pins s σ H (Dm a D) I h) fun f s' q=>?_
 cases f with
|next=>obtain ⟨σ',H',I',q⟩:=q; exact ⟨σ',_,I'.melt h0,q⟩
|brk=>obtain ⟨σ',H',I',q⟩:=q; exact ⟨σ',_,I'.melt h0,q⟩
|cont=>obtain ⟨σ',H',I',q⟩:=q; exact ⟨σ',_,I'.melt h0,q⟩
|ret u=>obtain ⟨v,σ',H',I',r,q⟩:=q; exact ⟨v,σ',_,I'.melt h0,r,q⟩
variable {scope:Scope} {tn names:List Str} {is:List Nat} {elt iter:Expr} {ifs:List Expr} {pos:Pos} {tl te:TE} {tc:Option TT} {g:TG}
noncomputable def GC (tl:TE) (te:TE) (tc:Option TT) (g:TG) (k:Nat) (is:List Nat):TE:=fun σ H Q=>∃ a,iA H a/\AN (JE a tl) te tc g k is σ H fun v H'=>Q v (melt a H')
theorem pJ (ck:nI X scope tn names is) (hc:X.calm=true) (hi:PE X iter tl)
  (hg:∀ C s0 H0 ex,PG (cM X scope (bC X.env names) (tn++names) C s0 H0 ex) tg g) (he:∀ C s0 H0 ex,PE (cM X scope (bC X.env names) (tn++names) C s0 H0 ex) elt te)
  (ht:∀ C s0 H0 ex,VL (cM X scope (bC X.env names) (tn++names) C s0 H0 ex) ifs tc) (hs:∀ x,foldedSetIterable iter X.env x=pure x:=by intro _; rfl) :
  PE X (.ListComp elt [⟨tg,iter,ifs,0⟩] scope pos) (GC tl te tc g tn.length is):=by
 intro pins s σ H Q I h
 obtain ⟨a,nf,h⟩:=h
 have h0:∀ o u,X.H₀ a≠some (.frz o u):=fun o u e=>nf _ _ (I.base.frzs a o u e)
 refine cA (eZ ck hc (BT a hi) hg he ht hs pins s σ H _ I h) fun u s' ⟨v,H',I',r,q⟩=>⟨v,_,I'.melt h0,r,q⟩
end
end
section
section
variable {X:Cx} {pins:List (Addr×Obj)} {σ:St} {H:Hp} {s:Shared} {tg:Expr}
theorem aN.dr (I:aN X pins σ H s) (d:Drawn):aN X pins σ H { s with drawn:=d }:=⟨I.ok,I.os,I.bare,I.base,I.loc,I.cell,I.free,I.freeC,I.pin,I.hok,I.len⟩
noncomputable def VU (K:Frag) (a:Addr):It:=
 ⟨fun i H=>∃ xs x,bX K H a xs/\xs[i]?=some x,fun i H v H'=>∃ T x,v=.ref T/\H T=none/\H'=upd H T (.tup [.int i,x])/\∀ xs,bX K H a xs->xs[i]?=some x,fun i H=>∃ xs,bX K H a xs/\xs.length<=i⟩
theorem CW {P:Program}{w:World}{K:Frag}{elts:List Expr}{k1:Nat}{tpos:Pos} (a e it:Addr) (hei:e≠it) :
  FH P w K (.Tuple elts k1 tpos) (VU K a) [e,it] e (fun i h=>(∃ old,IsEnum h e it i old)/\h.IsListIter it a i) where
 mem:=by simp
 obj:=fun i h st b hb=>by
  obtain ⟨⟨old,he⟩,o,e1,c,d⟩:=st
  rcases mem_cons.mp hb with rfl|hb
  ·exact ⟨_,he,fun v z=>nomatch z⟩
  ·have hb:b=it:=by simpa using hb
   subst hb
   exact ⟨o,e1,fun v z=>by rw [d] at z; cases z⟩
 keep:=fun i h h' ⟨⟨old,he⟩,st⟩ k=>⟨⟨old,k e (by simp) _ he⟩,st.at fun o q=>k it (by simp) o q⟩
 item:=by
  intro X hP hw hK hc i pins s σ H E I hf st hg
  subst hP hw hK
  obtain ⟨xs,x,hq,hx⟩:=hg
  obtain ⟨its,rv,p,hz⟩:=I.list hq
  obtain ⟨u,hu,ru⟩:=rv.get hx
  obtain ⟨⟨old,he⟩,hit⟩:=st
  obtain ⟨f0,f1,f2,f3,f4,f5⟩:=hf e (by simp)
  obtain ⟨g0,g1,g2,g3,g4,g5⟩:=hf it (by simp)
  refine wpAny_pyNext_enum_item he hit p.isList (by simpa using hu) hei fun h' ho hit' hT hsz hk=>?_
  refine ⟨_,rfl,wpAny_letOwnedTupleGo_enum (s:={ s with heap:=h',toks:=s.toks+1 }) ho fun h2 he2 sb=>?_⟩
  have hTn:H s.heap.objs.size=none:=I.hok.fresh (le_refl _)
  have hTe:s.heap.objs.size≠e:=ne_of_gt (lt_size he)
  have hTi:s.heap.objs.size≠it:=by obtain ⟨_,q,_⟩:=hit; exact ne_of_gt (lt_size q)
  have k2:∀ b o,b≠e->b≠it->s.heap.get? b=some o->h2.get? b=some o:=fun b o n1 n2 q=>(sb.2 b n1).trans (hk b o n1 n2 q)
  -- first the iterators turn,then the tuple is tracked
  have I1:aN X pins σ H { s with heap:=h2,toks:=s.toks+1 }:=by
   refine I.step (g':=s.gens) (d':=s.drawn) (t':=s.toks+1) (ch:=[e,it]) (fun b hb=>?_) (fun b o _ _ hb q _=>k2 b o (fun z=>hb (by simp [z])) (fun z=>hb (by simp [z])) q) (fun b o _ _ hb q _=>⟨o.slots,k2 b o (fun z=>hb (by simp [z])) (fun z=>hb (by simp [z])) q⟩)
    (fun b o _ _ q=>q) (fun b o hb q=>⟨o,k2 b o (fun z=>hb (by simp [z])) (fun z=>hb (by simp [z])) q⟩) (fun _ _ q=>q) (fun _ _ _ q=>q) (fun _ ps q=>⟨#[],by simpa using q⟩) (fun m hm=>?_) ?_ I.bare
   ·rcases mem_cons.mp hb with rfl|hb
    ·exact ⟨f3,f1,f4,f5⟩
    ·have hb:b=it:=by simpa using hb
     subst hb
     exact ⟨g3,g1,g4,g5⟩
   ·obtain ⟨o,es,ep,q,r⟩:=hm
    exact ⟨o,es,ep,k2 _ _ (Ne.symm f1) (Ne.symm g1) q,r⟩
   ·intro b u q
    refine (I.hok b u q).stay (fun c v hc r=>k2 c v ?_ ?_ r) (fun _ q=>q) fun _ _ q=>q
    ·rintro rfl
     rcases hc with rfl|hc
     ·rw [f0] at q; cases q
     ·rw [f0] at hc; cases hc
    ·rintro rfl
     rcases hc with rfl|hc
     ·rw [g0] at q; cases q
     ·rw [g0] at hc; cases hc
  have hT2:h2.get? s.heap.objs.size=some { cls:=.type "tuple",data:=.seq #[.int i s.toks,u] }:=(sb.2 _ hTe).trans hT
  have I2:aN X pins σ (upd H s.heap.objs.size (.tup [.int i,x])) { s with heap:=h2,toks:=s.toks+1 }:=by
   have nn:∀ {b:Addr},b < s.heap.objs.size->H b=none->upd H s.heap.objs.size (.tup [.int i,x]) b=none:=fun {b} hb e=>by rw [aJ (ne_of_lt hb)]; exact e
   have old:∀ {b:Addr} {o:HO},H b=some o->upd H s.heap.objs.size (.tup [.int i,x]) b=some o:=fun {b o} e=>by rw [aJ (aA e hTn)]; exact e
   refine ⟨I1.ok,I1.os,I1.bare,⟨I1.base.keep,I1.base.slot,fun b o q n hx=>nn ?_ (I1.base.free b o q n hx),I1.base.there,fun b ys q=>old (I1.base.tups b ys q),fun b o v q=>old (I1.base.frzs b o v q),fun b ps q=>?_⟩,I1.loc,I1.cell,nn I.lt I1.free,fun y c q=>nn ?_ (I1.freeC y c q),fun p hp=>?_,fun b o q=>?_,I1.len⟩
   ·exact lt_of_lt_of_le (lt_size q) I.sz
   ·obtain ⟨more,z⟩:=I1.base.tbls b ps q
    exact ⟨more,old z⟩
   ·obtain ⟨v,z⟩:=I.cell y c q
    exact z.lt
   ·obtain ⟨z1,z2,z3⟩:=I1.pin p hp
    exact ⟨z1,nn (lt_size (I.pin p hp).1) z2,z3⟩
   ·by_cases hb:b=s.heap.objs.size
    ·subst hb
     rw [aB] at q
     cases q
     exact ⟨⟨by rw [sizeLine_eq]; simp,_,hT2,rfl⟩,[.int i s.toks,u],.cons ⟨_,rfl⟩ (.cons ru .nil),_,hT2,rfl,_,rfl⟩
    ·rw [aJ hb] at q
     exact (I1.hok b o q).stay (fun _ _ _ z=>z) (fun c z=>old z) fun c ys z=>old z
  exact ⟨.ref s.heap.objs.size,_,I2,rfl,⟨s.heap.objs.size,x,rfl,hTn,rfl,fun ys hy=>by rw [I.list_inj hy hq]; exact hx⟩,⟨⟨u,by simpa using he2⟩,hit'.at fun o q=>(sb.2 it (Ne.symm hei)).trans q⟩,fun b hb=>by
   rcases mem_cons.mp hb with rfl|hb
   ·rw [aJ (Ne.symm hTe)]; exact f0
   ·have hb:b=it:=by simpa using hb
    subst hb
    rw [aJ (Ne.symm hTi)]; exact g0⟩
 done:=by
  intro X hP hw hK hc i pins s σ H E I hf st hg
  subst hP hw hK
  obtain ⟨xs,hq,hx⟩:=hg
  obtain ⟨its,rv,p,hz⟩:=I.list hq
  obtain ⟨⟨old,he⟩,hit⟩:=st
  obtain ⟨g0,g1,g2,g3,g4,g5⟩:=hf it (by simp)
  have hl:=rv.length
  exact wpAny_pyNext_enum_end (I.ok.hd hc) he hit p.isList (by simp; omega) fun h' eb=>⟨rfl,I.turned (t':=s.toks) (fun b o hb e=>eb b o hb e) g0 g1 g3 g4 g5⟩
 self:=fun _ _ _ _ _ ⟨⟨_,he⟩,_⟩ h=>wpAny_pyIter_enum he h
noncomputable def QQ (K:Frag) (tl:TA):TI:=fun σ H R=>tl σ H fun vs H1=>∃ a,vs=[.ref a]/\(∃ xs,bX K H1 a xs)/\R (VU K a) H1
theorem uM {l:Expr}{tl:TA}{elts:List Expr}{k1:Nat}{tpos p pos:Pos} (hg:Gl X "enumerate") (hm:X.mg "enumerate"=none) (ha:PA X [l] tl) (hs:starEach [l] X.env=[(false,eval l X.env)]:=by rfl) :
  PI X (.Tuple elts k1 tpos) (.Call (.Name "enumerate" p) [l] [] pos) (QQ X.K tl):=by
 intro pins s σ H R I h
 refine Call_ (jC I hg hm vI (PyProof.Rows.callWith_type1 (cA (ha pos pins s σ H _ I h) fun us s1 ⟨vs,H1,I1,r1,q1⟩=>?_) hs rfl))
 obtain ⟨a,e,⟨xs,hq⟩,q⟩:=q1
 subst e
 cases r1 with
|cons r rr =>
  cases rr
  cases r
  obtain ⟨its,rv,p,hz⟩:=I1.list hq
  refine call_enumerate_list p.isList fun h' he hit hsz kp=>?_
  refine wpAny_pyIter_enum he ?_
  have I2:aN X pins σ H1 { s1 with heap:=h' }:=I1.kept (t':=s1.toks) kp
  refine ⟨_,[s1.heap.objs.size+1,s1.heap.objs.size],_,_,H1,rfl,I2,CW a _ _ (ne_of_gt (lt_succ_self _)),⟨⟨_,he⟩,hit⟩,fun b hb=>?_,q⟩
  rcases mem_cons.mp hb with rfl|hb
  ·exact I1.fpOk (le_succ _) (I1.hok.fresh (le_succ _))
  ·have hb:b=s1.heap.objs.size:=by simpa using hb
   subst hb
   exact I1.fpOk (le_refl _) (I1.hok.fresh (le_refl _))
noncomputable def OM (w:World) (a:Addr) (xs:List Str):HO:=.ext fun h=>gO w h a xs
theorem mU:∀ {xs:List Str}{us:List Value},aQ (xs.map V.str) us->StrsAre us xs
|[],_,.nil=>.nil
|x::xs,_,.cons r t=>by
  obtain ⟨tk,rfl⟩:=r
  exact .cons x tk (mU t)
theorem rG:∀ {us:List Value}{xs:List Str},StrsAre us xs->aQ (xs.map V.str) us
|_,_,.nil=>.nil
|_,_,.cons x t h=>.cons ⟨t,rfl⟩ (rG h)
noncomputable def YL (w:World):List V->Hp->VK->Prop:=fun vs H Q=>∃ (p:Addr) (xs:List Str),vs=[.ref p]/\H p=some (.lst (xs.map V.str))/\xs.length<=4000/\∀ (l:Addr) (ys:List Str),H l=none->ys.Nodup->(∀ z,z∈ys ↔ z∈xs)->Q (.ref l) (upd H l (OM w l ys))
theorem FB (hc:X.calm=true):jJ X (.type "set") (YL X.w):=by
 intro pins s σ H vs us Q I r h
 obtain ⟨p,xs,rfl,hp,hl,q⟩:=h
 obtain ⟨u,rfl,ru⟩:=r.one
 cases ru
 obtain ⟨z,its,n,rv,hlen,e⟩:=I.lstM hp
 have hst:=mU rv
 refine DG (items:=its.toArray) (xs:=xs) (I.ok.hd hc) ⟨_,e,rfl,n,rfl⟩ (fun i v hv=>?_) (by rw [size_toArray,← hlen,length_map]) (by unfold scanBound; omega) fun h' tk ys ht hm kp=>?_
 ·have hv:its[i]?=some v:=by simpa using hv
  have hi:i < xs.length:=by
   have:=(List.getElem?_eq_some_iff.mp hv).1
   rw [← hlen,length_map] at this
   exact this
  obtain ⟨u,e1,r1⟩:=rv.get (i:=i) (x:=.str xs[i]) (by simp [hi])
  rw [hv] at e1
  cases e1
  obtain ⟨t,rfl⟩:=r1
  exact ⟨t,by simp [List.getD,hi]⟩
 ·have hnd:ys.Nodup:=by obtain ⟨_,_,_,_,_,_,nd,_⟩:=ht; exact nd
  have hex:∃ o,h'.get? s.heap.objs.size=some o:=by obtain ⟨es,ep,t,g,_⟩:=ht; exact ⟨_,g⟩
  refine ⟨.ref s.heap.objs.size,_,I.laid (o:=OM X.w s.heap.objs.size ys) (fun b o e=>kp b o (lt_size e) e) (le_refl _) ⟨ht,hex,fun h1 h2 x k=>x.at k⟩,rfl,q _ ys (I.hok.fresh (le_refl _)) hnd hm⟩
noncomputable def VH (w:World) (H:Hp) (p:Addr) (xs:List Str):Prop:=H p=some (OM w p xs)∨H p=some (.lst (xs.map V.str))∨∃ kvs:List (aH×V),H p=some (.dK kvs)/\kvs.map (·.1)=xs.map Sum.inr
noncomputable def SO (w:World):List V->Hp->VK->Prop:=fun vs H Q=>∃ (p:Addr) (xs:List Str),vs=[.ref p]/\VH w H p xs/\xs.length < 64/\∀ (l:Addr) (ys:List Str),H l=none->ys.Perm xs->sortedS ys=true->Q (.ref l) (upd H l (.lst (ys.map V.str)))
theorem zU (hc:X.calm=true):jJ X (.builtin "sorted") (SO X.w):=by
 intro pins s σ H vs us Q I r h
 obtain ⟨p,xs,rfl,hp,hl,q⟩:=h
 obtain ⟨u,rfl,ru⟩:=r.one
 cases ru
 have fin:∀ h' d tk L its ys n,s.heap.objs.size<=L->StrsAre its ys->ys.Perm xs->sortedS ys=true->h'.get? L=some (seqObj "list" its.toArray n)->(∀ b o,s.heap.get? b=some o->h'.get? b=some o)->EP X pins σ Q (.ref L) { s with heap:=h',drawn:=d,toks:=tk }:=fun h' d tk L its ys n hL hS hP hO g kp=>by
  have I1:=(I.dr d).laid (h':=h') (a:=L) (o:=.lst (ys.map V.str)) (t':=tk) kp hL ⟨by
   have:=hP.length_eq
   rw [length_map,sizeLine_eq]
   omega,its,n,rG hS,g⟩
  exact ⟨.ref L,_,I1,rfl,q L ys (I.hok.fresh hL) hP hO⟩
 rcases hp with hp|hp|⟨kvs,hp,hk⟩
 ·exact DE (I.ok.hd hc) (show gO X.w s.heap p xs from (I.hok p _ hp).1) hl fin
 ·obtain ⟨z,its,n,rv,hlen,e⟩:=I.lstM hp
  refine lA hl (fun A' Q' hA k=>collect_list (vs:=its) ⟨_,e,rfl,n,rfl⟩ ?_ (by rw [← hlen]; exact z)) fin
  refine k its _ s.drawn s.toks ⟨xs,mU rv,.refl _⟩ (fun b o q=>?_) ?_
  ·have hb:b≠s.heap.objs.size:=ne_of_lt (lt_size q)
   exact (get?_update_other _ _ (Ne.symm hb)).trans (get?_push_of_some _ q)
  ·rw [size_update,size_push']
   exact le_succ _
 ·obtain ⟨z,hd,vs',rel,dd⟩:=CJ I.hok hp
  obtain ⟨ep,dd⟩:=dd.dictAt
  refine lA hl (fun A' Q' hA k=>vG (hA.trans (I.ok.hd hc)) hd dd (by rw [← rel.length]; exact z) fun vs h' tk hn hv kp hge=>?_) fin
  refine k vs h' s.drawn tk ⟨xs,?_,.refl _⟩ kp hge
  have hxl:xs.length=vs.length:=by
   have:=congrArg List.length hk
   rw [length_map,length_map] at this
   rw [hn,← rel.length,this]
  have all:∀ (i:Nat) (v:Value),vs[i]?=some v->∃ x t,xs[i]?=some x/\v=.str x t:=fun i v e=>by
   obtain ⟨k',x',e1,e2⟩:=hv i v e
   have e3:(vs'.map (·.1))[i]?=some k':=by rw [List.getElem?_map,e1]; rfl
   rw [← rel.keys,hk,List.getElem?_map] at e3
   cases e4:xs[i]? with
  |none=>rw [e4] at e3; cases e3
  |some y =>
    rw [e4] at e3
    have e5:Sum.inr y=k':=Option.some.inj e3
    subst e5
    obtain ⟨t,rfl⟩:=uX e2
    exact ⟨y,t,rfl,rfl⟩
  have go:∀ (us:List Value) (ys:List Str),ys.length=us.length->(∀ (i:Nat) (v:Value),us[i]?=some v->∃ x t,ys[i]?=some x/\v=.str x t)->StrsAre us ys:=by
   intro us
   induction us with
  |nil =>
    intro ys hl _
    have:ys=[]:=length_eq_zero_iff.mp hl
    subst this
    exact .nil
  |cons u us ih =>
    intro ys hl ha
    cases ys with
   |nil=>cases hl
   |cons y ys =>
     obtain ⟨x,t,e1,rfl⟩:=ha 0 u rfl
     cases e1
     exact .cons y t (ih ys (by simpa using hl) fun i v e=>by simpa using ha (i+1) v (by simpa using e))
  exact go vs xs hxl all
noncomputable abbrev mS (H:Hp):List V->List (aH×V)->Prop:=Paired fun v kv=>∃ a,v=.ref a/\H a=some (.tup [kV kv.1,kv.2])
noncomputable def SR:List V->Hp->VK->Prop:=fun vs H Q=>∃ (p:Addr) (ts:List V) (kvs:List (aH×V)),vs=[.ref p]/\H p=some (.lst ts)/\mS H ts kvs/\ts.length<=1000/\∀ l:Addr,H l=none->Q (.ref l) (upd H l (.dK (jA [] kvs)))
theorem Paired.at {α β:Type}{F:α->β->Prop}:∀ {xs:List α}{ys:List β}{i:Nat}{x:α},Paired F xs ys->xs[i]?=some x->∃ y,ys[i]?=some y/\F x y
|_,_,_,_,.nil,e=>by simp at e
|_,_,0,_,.cons r _,e=>by simp at e; subst e; exact ⟨_,rfl,r⟩
|_,_,i+1,x,.cons _ t,e=>by
  obtain ⟨y,h1,h2⟩:=Paired.at (i:=i) (x:=x) t (by simpa using e)
  exact ⟨y,by simpa using h1,h2⟩
theorem pL {H:Hp}{h:Heap}{P:Program}{w:World} (ok:jK P w H h):∀ {ts:List V}{kvs:List (aH×V)}{its:List Value},mS H ts kvs->aQ ts its ->
  ∃ ps:List (aH×Value),KV kvs ps/\Paired (fun v p=>∃ a key,v=Value.ref a/\h.IsTuple a #[key,p.2]/\(aY P w).is p.1 key=true) its ps
|_,_,_,.nil,.nil=>⟨[],.nil,.nil⟩
|_,_,_,.cons (b:=kv) ⟨a,e,g⟩ t,.cons r rt=>by
  obtain ⟨ps,h1,h2⟩:=pL ok t rt
  subst e
  cases r
  obtain ⟨_,its,rv,tp⟩:=ok a _ g
  cases rv with
 |cons r1 rv =>
   cases rv with
  |cons r2 rv =>
    cases rv
    rename_i k1 x1
    exact ⟨(kv.1,x1)::ps,.cons ⟨rfl,r2⟩ h1,.cons ⟨a,k1,rfl,tp,mI r1⟩ h2⟩
theorem pX:∀ {kvs:List (aH×V)}{ps:List (aH×Value)}{m:List (aH×V)}{n:List (aH×Value)},KV kvs ps->KV m n->KV (jA m kvs) (oJ n ps)
|_,_,_,_,.nil,r=>r
|_,_,m,n,.cons (a:=p) (b:=q) ⟨e,rv⟩ t,r=>by
  show KV (jA (cB m p.1 p.2) _) (oJ (stored n q.1 q.2) _)
  refine pX t ?_
  rw [← e]
  exact r.put p.1 rv
theorem lI (hc:X.calm=true):jJ X (.type "dict") SR:=by
 intro pins s σ H vs us Q I r h
 obtain ⟨p,ts,kvs,rfl,hp,hpr,hl,q⟩:=h
 obtain ⟨u,rfl,ru⟩:=r.one
 cases ru
 obtain ⟨z,its,n,rv,hlen,e⟩:=I.lstM hp
 obtain ⟨ps,h1,h2⟩:=pL I.hok hpr rv
 have hps:its.length=ps.length:=h2.length
 refine zR (knd:=aY X.prog X.w) (ps:=ps) (I.ok.hd hc) e (by rw [size_toArray]; exact hps) (fun h' i v hv kp=>?_) (by rw [← hps,← hlen]; exact hl) fun h' tk hd kp=>?_
 ·obtain ⟨y,e1,a,key,rfl,tp,hk⟩:=Paired.at h2 (show its[i]?=some v by simpa using hv)
  obtain ⟨o,g,r⟩:=tp
  exact ⟨a,key,y.1,y.2,rfl,⟨o,kp _ _ g,r⟩,e1,hk⟩
 ·have rel:=pX h1 (.nil:KV [] [])
  refine ⟨.ref s.heap.objs.size,_,I.laid (o:=.dK (jA [] kvs)) kp (le_refl _) (vC ?_ (beq_eq_false_iff_ne.mpr (Ne.symm (ne_of_lt I.big))) rel hd),rfl,q _ (I.hok.fresh (le_refl _))⟩
  have h3:=kO kvs []
  have h4:ts.length=kvs.length:=hpr.length
  simp at h3
  rw [sizeLine_eq]
  omega
end
end
section
section
variable {X:Cx}
noncomputable def BJ:V->List V->Hp->VK->Prop:=fun x vs H Q=>∃ (a:Addr) (kvs:List (aH×V)) (k:aH) (d:V),x=.ref a/\vs=[kV k,d]/\H a=some (.dK kvs)/\kvs.length<=1000/\(∀ v,bA kvs k=some v->Q v H)/\(bA kvs k=none->Q d (upd H a (.dK (kvs++[(k,d)]))))
theorem sI:Au X "dict.setdefault" BJ:=by
 intro pins s σ H x vs v us Q I rx rv h
 obtain ⟨a,kvs,k,d,rfl,rfl,ha,hl,h1,h2⟩:=h
 cases rx
 obtain ⟨u1,u2,rfl,r1,r2⟩:=aQ.two rv
 obtain ⟨z,hs,ws,rel,dd⟩:=CJ I.hok ha
 have hrel:=rel.val k
 refine xQ (mI r1) hs dd (by rw [← rel.length]; exact z) (fun w e=>?_) fun e h' dd' sb=>?_
 ·rw [e] at hrel
  cases ev:bA kvs k with
 |none=>rw [ev] at hrel; exact hrel.elim
 |some v =>
   rw [ev] at hrel
   exact ⟨v,H,I.tok _,hrel,h1 v ev⟩
 ·rw [e] at hrel
  have ev:bA kvs k=none:=by
   cases ev:bA kvs k with
  |none=>rfl
  |some v=>rw [ev] at hrel; exact hrel.elim
  have he:∃ q,h'.get? a=some q:=let ⟨q,_,_,hq,_⟩:=dd'; ⟨q,hq⟩
  refine ⟨d,_,oO (t':=s.toks+1) I (by rw [ha]; exact True.intro) sb he (vC ?_ hs (show KV (kvs++[(k,d)]) (ws++[(k,u2)]) from ?_) dd'),r2,h2 ev⟩
  ·rw [length_append,length_singleton,sizeLine_eq]
   omega
  ·have:∀ {p:List (aH×V)} {q:List (aH×Value)},KV p q->KV (p++[(k,d)]) (q++[(k,u2)]):=fun {p q} r=>by
    induction r with
   |nil=>exact .cons ⟨rfl,r2⟩ .nil
   |cons r _ ih=>exact .cons r ih
   exact this rel
end
end
end L2
namespace L2
section
variable {α:Type} [DecidableEq α]
noncomputable abbrev eL (α:Type):=α×α×Rat
noncomputable abbrev dX (α:Type):=Rat×Option (Nat×α)
noncomputable abbrev AL (α β:Type):=List (α×β)
noncomputable def cE {β:Type} (l:AL α β) (k:α):Option β:=(l.find? fun kv=>decide (kv.1=k)).map (·.2)
noncomputable def fU {β:Type} (l:AL α β) (k:α) (v:β):AL α β:=if (l.any fun kv=>decide (kv.1=k)) then l.map (fun kv=>if kv.1=k then (kv.1,v) else kv) else l++[(k,v)]
noncomputable def gN {β:Type} (l:AL α β) (k:α):AL α β:=l.filter fun kv=>decide (kv.1≠k)
theorem eK {β:Type}{l:AL α β}{k:α}{v:β} (h:cE l k=some v):(k,v)∈l:=by
 unfold cE at h
 rw [Option.map_eq_some_iff] at h
 obtain ⟨kv,h1,h2⟩:=h
 have h3:=List.find?_some h1
 have h4:=List.mem_of_find?_eq_some h1
 simp at h3
 obtain ⟨a,b⟩:=kv
 simp at h2 h3
 subst h2 h3
 exact h4
theorem nG {β:Type}{l:AL α β}{k:α} (h:cE l k=none):∀ v,(k,v)∉l:=by
 intro v hm
 unfold cE at h
 rw [Option.map_eq_none_iff,List.find?_eq_none] at h
 have:=h _ hm
 simp at this
theorem cI {β:Type}{l:AL α β}{k:α}{v:β} (nd:(l.map (·.1)).Nodup) (h:(k,v)∈l):cE l k=some v:=by
 cases e:cE l k with
|none=>exact absurd h (nG e v)
|some u =>
  have h2:=eK e
  induction l with
 |nil=>cases h
 |cons x r ih =>
   rw [map_cons,nodup_cons] at nd
   rcases mem_cons.mp h with rfl|h'
   ·rcases mem_cons.mp h2 with h3|h3
    ·cases h3; rfl
    ·exact absurd (mem_map.mpr ⟨_,h3,rfl⟩) nd.1
   ·rcases mem_cons.mp h2 with h3|h3
    ·subst h3
     exact absurd (mem_map.mpr ⟨_,h',rfl⟩) nd.1
    ·have e':cE r k=some u:=by
      unfold cE at e ⊢
      rw [find?_cons] at e
      have:(decide (x.1=k))=false:=by
       apply decide_eq_false
       intro z
       subst z
       exact nd.1 (mem_map.mpr ⟨_,h',rfl⟩)
      rw [this] at e
      exact e
     exact ih nd.2 h' e' h3
theorem iK {β:Type}{l:AL α β}{k:α}{v:β}{x:α}{y:β} (h:(x,y)∈fU l k v):(x=k/\y=v)∨(x≠k/\(x,y)∈l):=by
 unfold fU at h
 split at h
 ·rw [mem_map] at h
  obtain ⟨kv,h1,h2⟩:=h
  split at h2
  ·rename_i e
   cases h2
   exact .inl ⟨e,rfl⟩
  ·rename_i e
   subst h2
   exact .inr ⟨e,h1⟩
 ·rename_i e
  rcases mem_append.mp h with h1|h1
  ·refine .inr ⟨?_,h1⟩
   rintro rfl
   apply e
   rw [any_eq_true]
   exact ⟨_,h1,by simp⟩
  ·rw [mem_singleton] at h1
   cases h1
   exact .inl ⟨rfl,rfl⟩
theorem xT {β:Type}{l:AL α β}{k:α}{v:β}:(k,v)∈fU l k v:=by
 unfold fU
 split
 ·rename_i e
  rw [any_eq_true] at e
  obtain ⟨kv,h1,h2⟩:=e
  rw [mem_map]
  refine ⟨kv,h1,?_⟩
  have:=of_decide_eq_true h2
  rw [if_pos this,this]
 ·exact mem_append_right _ (mem_singleton.mpr rfl)
theorem KF {β:Type}{l:AL α β}{k:α}{v:β}{x:α}{y:β} (hx:x≠k) (h:(x,y)∈l):(x,y)∈fU l k v:=by
 unfold fU
 split
 ·rw [mem_map]
  exact ⟨_,h,by rw [if_neg hx]⟩
 ·exact mem_append_left _ h
theorem vM {β:Type}{l:AL α β}{k:α}{v:β} (nd:(l.map (·.1)).Nodup):((fU l k v).map (·.1)).Nodup:=by
 unfold fU
 split
 ·rw [map_map]
  have:((fun x=>x.1) ∘ fun (kv:α×β)=>if kv.1=k then (kv.1,v) else kv)=fun kv=>kv.1:=by
   funext kv
   simp only [Function.comp]
   split <;> rfl
  rw [this]
  exact nd
 ·rename_i e
  rw [map_append,nodup_append]
  refine ⟨nd,by simp,?_⟩
  intro a ha b hb
  simp at hb
  subst hb
  rintro rfl
  apply e
  rw [mem_map] at ha
  obtain ⟨kv,h1,h2⟩:=ha
  rw [any_eq_true]
  exact ⟨kv,h1,by simp [h2]⟩
theorem FD {β:Type}{l:AL α β}{k:α}{v:β}{x:α} (h:x∈(fU l k v).map (·.1)):x=k∨x∈l.map (·.1):=by
 rw [mem_map] at h
 obtain ⟨⟨a,b⟩,h1,rfl⟩:=h
 rcases iK h1 with ⟨e,_⟩|⟨_,e⟩
 ·exact .inl e
 ·exact .inr (mem_map.mpr ⟨_,e,rfl⟩)
theorem iL {β:Type}{l:AL α β}{k:α}{x:α×β}:x∈gN l k ↔ x∈l/\x.1≠k:=by
 unfold gN
 rw [mem_filter]
 simp
theorem KG {β:Type}{l:AL α β}{k:α} (nd:(l.map (·.1)).Nodup):((gN l k).map (·.1)).Nodup:=by
 unfold gN
 exact nd.sublist (List.filter_sublist.map _)
theorem xU {β:Type} (l:AL α β) (k j:α) (v:β):cE (fU l k v) j=if j=k then some v else cE l j:=by
 by_cases e:j=k
 ·subst e
  rw [if_pos rfl]
  unfold cE fU
  split
  ·rename_i h
   induction l with
  |nil=>simp at h
  |cons x r ih =>
    rw [map_cons,find?_cons]
    by_cases hx:x.1=j
    ·simp [hx]
    ·rw [if_neg hx]
     simp only [hx,decide_false]
     apply ih
     rw [any_cons] at h
     simpa [hx] using h
  ·rename_i h
   induction l with
  |nil=>simp
  |cons x r ih =>
    rw [any_cons] at h
    have hx:¬ x.1=j:=fun z=>h (by simp [z])
    rw [cons_append,find?_cons]
    simp only [hx,decide_false]
    exact ih (by simpa [hx] using h)
 ·rw [if_neg e]
  unfold cE fU
  split
  ·rename_i h
   clear h
   induction l with
  |nil=>rfl
  |cons x r ih =>
    rw [map_cons,find?_cons,find?_cons]
    by_cases hx:x.1=k
    ·rw [if_pos hx]
     have:¬ x.1=j:=fun z=>e (z.symm.trans hx)
     simp only [this,decide_false]
     exact ih
    ·rw [if_neg hx]
     by_cases hj:x.1=j
     ·simp [hj]
     ·simp only [hj,decide_false]
      exact ih
  ·rename_i h
   rw [List.find?_append]
   have:List.find? (fun kv=>decide (kv.1=j)) [(k,v)]=none:=by
    simp [Ne.symm e]
   rw [this,Option.or_none]
noncomputable def Jn (r:eL α) (q p:α):Prop:=(r.1=q/\r.2.1=p)∨(r.2.1=q/\r.1=p)
noncomputable def eM (tk:Nat->Option Rat) (k:Nat) (t:Rat):Prop:=∀ u,tk k=some u->t<=u
theorem eM.le {tk:Nat->Option Rat}{k:Nat}{s t:Rat} (h:eM tk k t) (l:s<=t):eM tk k s:=fun u e=>Rat.le_trans l (h u e)
variable (net:List (eL α)) (push:α -> Option Rat) (tk:Nat -> Option Rat)
inductive OQ:α->Rat->Prop
|push {p t}:push p=some t->OQ p t
|run {q s p k r}:OQ q s->net[k]?=some r->Jn r q p->eM tk k (s+r.2.2)->OQ p (s+r.2.2)
structure xY (m:α->Option Rat):Prop where
 arr:∀ p t,m p=some t->OQ net push tk p t
 le:∀ p t,OQ net push tk p t->∃ u,m p=some u/\u<=t
variable {net push tk}
noncomputable def QY (net:List (eL α)) (push:α->Option Rat) (tk:Nat->Option Rat) (F:AL α (dX α)) (p:α):dX α->Prop
|(t,none)=>push p=some t
|(t,some (k,q))=>∃ r e,net[k]?=some r/\Jn r q p/\(q,e)∈F/\t=e.1+r.2.2/\eM tk k t
theorem QY.mono {F F':AL α (dX α)}{p:α}{e:dX α} (h:QY net push tk F p e) (s:∀ x∈F,x∈F'):QY net push tk F' p e:=by
 obtain ⟨t,o⟩:=e
 cases o with
|none=>exact h
|some kq =>
  obtain ⟨r,e,a,b,c,d⟩:=h
  exact ⟨r,e,a,b,s _ c,d⟩
noncomputable def VW (W F:AL α (dX α)) (p:α) (t:Rat):Prop:=∃ e,((p,e)∈W∨(p,e)∈F)/\e.1<=t
structure iO (net:List (eL α)) (push:α->Option Rat) (tk:Nat->Option Rat) (C:α->Nat->α->Prop) (W F:AL α (dX α)):Prop where
 ndW:(W.map (·.1)).Nodup
 ndF:(F.map (·.1)).Nodup
 dis:∀ p,p∈W.map (·.1)->p∉F.map (·.1)
 sup:∀ p e,(p,e)∈W->QY net push tk F p e
 ord:∀ i p e,F[i]?=some (p,e)->QY net push tk (F.take i) p e
 mono:∀ f∈F,∀ w∈W,f.2.1<=w.2.1
 psh:∀ p t,push p=some t->VW W F p t
 clo:∀ q e,(q,e)∈F->∀ k r p,net[k]?=some r->Jn r q p->C q k p->eM tk k (e.1+r.2.2)->VW W F p (e.1+r.2.2)
theorem iO.start {W:AL α (dX α)}{C:α->Nat->α->Prop} (nd:(W.map (·.1)).Nodup) (h:∀ p e,(p,e)∈W->e.2=none/\push p=some e.1) (h2:∀ p t,push p=some t->(p,(t,none))∈W):iO net push tk C W []:=by
 refine ⟨nd,by simp,fun _ _=>by simp,fun p e he=>?_,fun i p e he=>by simp at he,fun f hf=>by simp at hf,fun p t e=>⟨_,.inl (h2 p t e),Rat.le_refl⟩,fun q e he=>by simp at he⟩
 obtain ⟨t,o⟩:=e
 obtain ⟨rfl,z⟩:=h p _ he
 exact z
theorem iO.pop {W F:AL α (dX α)}{p:α}{e:dX α}{C:α->Nat->α->Prop} (I:iO net push tk (fun _ _ _=>True) W F) (hp:(p,e)∈W) (hm:∀ w∈W,e.1<=w.2.1) (hC:∀ q k x,C q k x->q≠p):iO net push tk C (gN W p) (F++[(p,e)]):=by
 have hpF:p∉F.map (·.1):=I.dis p (mem_map.mpr ⟨_,hp,rfl⟩)
 have has:∀ {x t},VW W F x t->VW (gN W p) (F++[(p,e)]) x t:=fun {x t} ⟨u,h1,h2⟩=>by
  rcases h1 with h1|h1
  ·by_cases hx:x=p
   ·subst hx
    have:u=e:=Option.some.inj ((cI I.ndW h1).symm.trans (cI I.ndW hp))
    subst this
    exact ⟨u,.inr (by simp),h2⟩
   ·exact ⟨u,.inl (iL.mpr ⟨h1,hx⟩),h2⟩
  ·exact ⟨u,.inr (mem_append_left _ h1),h2⟩
 refine ⟨KG I.ndW,?_,fun x hx=>?_,fun x u hu=>?_,fun i x u hi=>?_,fun f hf w hw=>?_,fun x t hx=>has (I.psh x t hx),fun q u hq k r x h1 h2 h3 h4=>?_⟩
 ·rw [map_append,nodup_append]
  refine ⟨I.ndF,by simp,fun a ha b hb=>?_⟩
  simp at hb
  subst hb
  rintro rfl
  exact hpF ha
 ·rw [mem_map] at hx
  obtain ⟨y,hy,rfl⟩:=hx
  have hy:=iL.mp hy
  rw [map_append,mem_append]
  rintro (z|z)
  ·exact I.dis _ (mem_map.mpr ⟨_,hy.1,rfl⟩) z
  ·simp at z
   exact hy.2 z
 ·exact (I.sup x u (iL.mp hu).1).mono fun y hy=>mem_append_left _ hy
 ·by_cases hi2:i < F.length
  ·rw [List.getElem?_append_left hi2] at hi
   rw [List.take_append_of_le_length (le_of_lt hi2)]
   exact I.ord i x u hi
  ·rw [List.getElem?_append_right (by omega)] at hi
   have:i - F.length=0:=by
    cases e2:i - F.length with
   |zero=>rfl
   |succ n=>rw [e2] at hi; simp at hi
   have hi3:i=F.length:=by omega
   subst hi3
   simp at hi
   obtain ⟨rfl,rfl⟩:=hi
   rw [List.take_left]
   exact I.sup _ _ hp
 ·have hw:=iL.mp hw
  rcases mem_append.mp hf with hf|hf
  ·exact I.mono f hf w hw.1
  ·simp at hf
   subst hf
   exact hm w hw.1
 ·rcases mem_append.mp hq with hq|hq
  ·exact has (I.clo q u hq k r x h1 h2 trivial h4)
  ·simp at hq
   exact absurd hq.1 (hC _ _ _ h3)
theorem iO.turn {W F:AL α (dX α)}{p x:α}{e:dX α}{k:Nat}{r:eL α}{C C':α->Nat->α->Prop} (I:iO net push tk C W F) (hp:(p,e)∈F) (hr:net[k]?=some r) (hj:Jn r p x) (hle:∀ w∈F,w.2.1<=e.1) (h0:0 < r.2.2)
  (hC:∀ q j y,C' q j y->C q j y∨(q=p/\j=k/\y=x)) {W':AL α (dX α)}
  (hW:(W'=W/\(x∈F.map (·.1)∨¬ eM tk k (e.1+r.2.2)∨∃ u,(x,u)∈W/\u.1<=e.1+r.2.2)) ∨
   (x∉F.map (·.1)/\eM tk k (e.1+r.2.2)/\(∀ u,(x,u)∈W->e.1+r.2.2<=u.1)/\W'=fU W x (e.1+r.2.2,some (k,p)))):iO net push tk C' W' F:=by
 rcases hW with ⟨rfl,h⟩|⟨hxF,hno,hu,rfl⟩
 ·refine ⟨I.ndW,I.ndF,I.dis,I.sup,I.ord,I.mono,I.psh,fun q u hq j r' y h1 h2 h3 h4=>?_⟩
  rcases hC q j y h3 with h3|⟨rfl,rfl,rfl⟩
  ·exact I.clo q u hq j r' y h1 h2 h3 h4
  ·rw [hr] at h1
   cases h1
   have:u=e:=Option.some.inj ((cI I.ndF hq).symm.trans (cI I.ndF hp))
   subst this
   rcases h with h|h|⟨w,h5,h6⟩
   ·rw [mem_map] at h
    obtain ⟨⟨a,b⟩,h5,rfl⟩:=h
    refine ⟨b,.inr h5,?_⟩
    have:=hle _ h5
    simp only at this
    grind
   ·exact absurd h4 h
   ·exact ⟨w,.inl h5,h6⟩
 ·have has:∀ {y t},VW W F y t->VW (fU W x (e.1+r.2.2,some (k,p))) F y t:=fun {y t} ⟨u,h1,h2⟩=>by
   rcases h1 with h1|h1
   ·by_cases hy:y=x
    ·subst hy
     exact ⟨_,.inl xT,Rat.le_trans (hu u h1) h2⟩
    ·exact ⟨u,.inl (KF hy h1),h2⟩
   ·exact ⟨u,.inr h1,h2⟩
  refine ⟨vM I.ndW,I.ndF,fun y hy=>?_,fun y u hy=>?_,I.ord,fun f hf w hw=>?_,fun y t hy=>has (I.psh y t hy),fun q u hq j r' y h1 h2 h3 h4=>?_⟩
  ·rcases FD hy with rfl|hy
   ·exact hxF
   ·exact I.dis y hy
  ·rcases iK hy with ⟨rfl,rfl⟩|⟨_,hy⟩
   ·exact ⟨r,e,hr,hj,hp,rfl,hno⟩
   ·exact I.sup y u hy
  ·obtain ⟨y,u⟩:=w
   rcases iK hw with ⟨rfl,rfl⟩|⟨_,hy⟩
   ·have:=hle f hf
    show f.2.1<=e.1+r.2.2
    grind
   ·exact I.mono f hf _ hy
  ·rcases hC q j y h3 with h3|⟨rfl,rfl,rfl⟩
   ·exact has (I.clo q u hq j r' y h1 h2 h3 h4)
   ·rw [hr] at h1
    cases h1
    have:u=e:=Option.some.inj ((cI I.ndF hq).symm.trans (cI I.ndF hp))
    subst this
    exact ⟨_,.inl xT,Rat.le_refl⟩
structure AG (net:List (eL α)) (push:α->Option Rat) (tk:Nat->Option Rat) (F:AL α (dX α)):Prop where
 nd:(F.map (·.1)).Nodup
 ord:∀ i p e,F[i]?=some (p,e)->QY net push tk (F.take i) p e
 psh:∀ p t,push p=some t->∃ e,(p,e)∈F/\e.1<=t
 clo:∀ q e,(q,e)∈F->∀ k r p,net[k]?=some r->Jn r q p->eM tk k (e.1+r.2.2)->∃ u,(p,u)∈F/\u.1<=e.1+r.2.2
theorem iO.done {F:AL α (dX α)} (I:iO net push tk (fun _ _ _=>True) [] F):AG net push tk F:=by
 refine ⟨I.ndF,I.ord,fun p t h=>?_,fun q e hq k r p h1 h2 h3=>?_⟩
 ·obtain ⟨e,h1,h2⟩:=I.psh p t h
  exact ⟨e,h1.resolve_left (by simp),h2⟩
 ·obtain ⟨u,h4,h5⟩:=I.clo q e hq k r p h1 h2 trivial h3
  exact ⟨u,h4.resolve_left (by simp),h5⟩
noncomputable def fH (F:AL α (dX α)) (p:α):Option Rat:=(cE F p).map (·.1)
theorem AG.arr {F:AL α (dX α)} (O:AG net push tk F):∀ (i:Nat) (p:α) (e:dX α),F[i]?=some (p,e)->OQ net push tk p e.1:=by
 intro i
 induction i using Nat.strongRecOn with
|ind i ih =>
  intro p e hi
  have h:=O.ord i p e hi
  obtain ⟨t,o⟩:=e
  cases o with
 |none=>exact .push h
 |some kq =>
   obtain ⟨k,q⟩:=kq
   obtain ⟨r,e,h1,h2,h3,h4,h5⟩:=h
   obtain ⟨j,hj⟩:=List.mem_iff_getElem?.mp h3
   rw [List.getElem?_take] at hj
   split at hj
   ·rename_i hlt
    subst h4
    exact .run (ih j hlt q e hj) h1 h2 h5
   ·cases hj
theorem AG.falls {F:AL α (dX α)} (O:AG net push tk F):xY net push tk (fH F):=by
 refine ⟨fun p t h=>?_,fun p t h=>?_⟩
 ·unfold fH at h
  rw [Option.map_eq_some_iff] at h
  obtain ⟨e,h1,rfl⟩:=h
  obtain ⟨i,hi⟩:=List.mem_iff_getElem?.mp (eK h1)
  exact O.arr i p e hi
 ·induction h with
 |push h =>
   obtain ⟨e,h1,h2⟩:=O.psh _ _ h
   exact ⟨e.1,by unfold fH; rw [cI O.nd h1]; rfl,h2⟩
 |run h1 h2 h3 h4 ih =>
   obtain ⟨u,h5,h6⟩:=ih
   unfold fH at h5
   rw [Option.map_eq_some_iff] at h5
   obtain ⟨e,h7,rfl⟩:=h5
   rename_i q s p k r
   have hle:e.1+r.2.2<=s+r.2.2:=by grind
   obtain ⟨u,h8,h9⟩:=O.clo q e (eK h7) k r p h2 h3 (h4.le hle)
   exact ⟨u.1,by unfold fH; rw [cI O.nd h8]; rfl,Rat.le_trans h9 hle⟩
end
end L2
namespace L2
section
variable {α:Type} [DecidableEq α] {net:List (eL α)} {push:α -> Option Rat} {tk:Nat -> Option Rat} {F:AL α (dX α)}
end
end L2
namespace L2
section
variable {κ:Type} [DecidableEq κ]
noncomputable def eG (m:AL κ Rat) (x:κ×Rat):AL κ Rat:=match cE m x.1 with
|none=>fU m x.1 x.2
|some r=>if x.2 < r then fU m x.1 x.2 else m
noncomputable def lst (l:List (κ×Rat)):AL κ Rat:=l.foldl eG []
theorem xC (l:List (κ×Rat)) (x:κ×Rat):lst (l++[x])=eG (lst l) x:=by
 unfold lst
 rw [List.foldl_append]
 rfl
theorem IL {m:AL κ Rat}{x:κ×Rat} (h:(m.map (·.1)).Nodup):((eG m x).map (·.1)).Nodup:=by
 unfold eG
 split
 ·exact vM h
 ·split
  ·exact vM h
  ·exact h
theorem DZ {m:AL κ Rat}{x:κ×Rat}{k:κ}{q:Rat} (h:(k,q)∈eG m x):(k,q)∈m∨(k,q)=x:=by
 unfold eG at h
 split at h
 ·rcases iK h with ⟨rfl,rfl⟩|⟨_,h⟩
  ·exact .inr rfl
  ·exact .inl h
 ·split at h
  ·rcases iK h with ⟨rfl,rfl⟩|⟨_,h⟩
   ·exact .inr rfl
   ·exact .inl h
  ·exact .inl h
theorem BV (P:AL κ Rat->Prop) (l:List (κ×Rat)) (h0:P []) (hs:∀ m x,x∈l->P m->P (eG m x)):P (lst l):=by
 unfold lst
 have:∀ (l':List (κ×Rat)) (m:AL κ Rat),(∀ x∈l',x∈l)->P m->P (l'.foldl eG m):=by
  intro l'
  induction l' with
 |nil=>intro m _ h; exact h
 |cons x r ih=>intro m hl h; exact ih _ (fun y hy=>hl y (mem_cons_of_mem _ hy)) (hs m x (hl x mem_cons_self) h)
 exact this l [] (fun x h=>h) h0
theorem zI (l:List (κ×Rat)):((lst l).map (·.1)).Nodup:=BV (fun m=>(m.map (·.1)).Nodup) l (by simp) fun m x _ h=>IL h
theorem oH {l:List (κ×Rat)}{x:κ×Rat} (h:x∈lst l):x∈l:=by
 refine BV (fun m=>∀ y∈m,y∈l) l (by simp) (fun m x hx ih y hy=>?_) x h
 obtain ⟨k,q⟩:=y
 rcases DZ hy with h|h
 ·exact ih _ h
 ·rw [h]; exact hx
theorem EA {m:AL κ Rat}{x:κ×Rat}:(eG m x).length<=m.length+1:=by
 have:∀ v,(fU m x.1 v).length<=m.length+1:=fun v=>by unfold fU; split <;> simp
 unfold eG
 split
 ·exact this _
 ·split
  ·exact this _
  ·omega
end
end L2
namespace L2
theorem BW {κ:Type} [DecidableEq κ] (l:List (κ×Rat)):(lst l).length<=l.length:=by
 have:∀ (l':List (κ×Rat)) (m:AL κ Rat),(l'.foldl eG m).length<=m.length+l'.length:=by
  intro l'
  induction l' with
 |nil=>intro m; simp
 |cons x r ih =>
   intro m
   have h1:=ih (eG m x)
   have h2:=EA (m:=m) (x:=x)
   rw [foldl_cons,length_cons]
   omega
 have:=this l []
 unfold lst
 simpa using this
end L2
namespace L2
open PySem PySem.Spec PyProof.Rows
section
section
variable {X:Cx} {a b:Expr} {ta tb td ty tv:TE} {pos:Pos} {dH:List Expr} {σ:St} {H H':Hp} {Q:VK} {D:dC} {K:Frag} {w:World} {v x:V}
noncomputable def WK (K:Frag) (ta tb:TE):TE:=fun σ H Q=>ta σ H fun x H1=>∃ k,qL K x H1 k/\if k=true then Q x H1 else tb σ H1 Q
theorem SX (ha:PE X a ta) (hb:PE X (.BoolOp .Or (b::dH) pos) tb):PE X (.BoolOp .Or (a::b::dH) pos) (WK X.K ta tb):=by
 intro pins s σ H Q I h
 refine BoolOp_or (cA (ha pins s σ H _ I h) fun v s1 ⟨x,H1,I1,r1,k,tr,q1⟩=>?_)
 refine cA (FU pins s1 σ H1 x v (fun k' H2=>H2=H1/\k'=k) I1 r1 ⟨k,tr,rfl,rfl⟩) fun k' s2 ⟨H2,I2,e1,e2⟩=>?_
 subst e1 e2
 cases k' with
|true=>exact ⟨x,H2,I2,r1,by rw [if_pos rfl] at q1; exact q1⟩
|false=>exact hb pins s2 σ H2 Q I2 (by rw [if_neg Bool.false_ne_true] at q1; exact q1)
theorem XB (k:ta σ H fun x H1=>∃ k,qL K x H1 k/\if k=true then Q x H1 else tb σ H1 Q):WK K ta tb σ H Q:=k
noncomputable def WF (K:Frag) (ta:TE):TT:=fun σ H R=>ta σ H fun x H'=>∃ k,qL K x H' k/\R k H'
theorem yV (ha:PE X a ta) (he:∀ whole,isTrue a X.env whole=(do let v ← whole; standAt a.pos; holding [v] (truthy v)):=by intro _; rfl):PT X a (WF X.K ta):=HP ha he
theorem WW {R:Bool->Hp->Prop} (k:ta σ H fun x H'=>∃ k,qL K x H' k/\R k H'):WF K ta σ H R:=k
theorem RG {p:Addr}{kvs:List (aH×V)}{R:Bool->Hp->Prop} (h:H p=some (.dK kvs)) (k:R (!kvs.isEmpty) H):∃ k,qL K (.ref p) H k/\R k H:=⟨_,.inr (.inr ⟨kvs,h,rfl⟩),k⟩
theorem RF {p:Addr}{xs:List V}{R:Bool->Hp->Prop} (h:H p=some (.lst xs)) (k:R (!xs.isEmpty) H):∃ k,qL K (.ref p) H k/\R k H:=⟨_,.inl ⟨xs,bX.of h,rfl⟩,k⟩
theorem RE {R:Bool->Hp->Prop} (k:R false H):∃ k,qL K .non H k/\R k H:=⟨false,rfl,k⟩
theorem uD (k:∀ p,H p=none->Q (.ref p) (upd H p (.dK []))):GA σ H Q:=k
noncomputable def dG (x y:V) (H:Hp) (Q:VK):Prop:=∃ a v,x=.ref a/\mT H a y (some v)/\Q v H
theorem SF (k:td σ H fun x H1=>ty σ H1 fun y H2=>dG x y H2 Q):OZ td ty σ H Q:=k
theorem jN {p:Addr}{kvs:List (aH×V)}{s:Str} (h:Rd H p (.dK kvs)) (e:bA kvs (Sum.inr s)=some v) (k:Q v H):dG (.ref p) (.str s) H Q:=⟨p,v,rfl,.inl ⟨kvs,Sum.inr s,h,rfl,e.symm⟩,k⟩
theorem YB {p:Addr}{kvs:List (aH×V)}{i:Int} (h:Rd H p (.dK kvs)) (e:bA kvs (Sum.inl i)=some v) (k:Q v H):dG (.ref p) (.int i) H Q:=⟨p,v,rfl,.inl ⟨kvs,Sum.inl i,h,rfl,e.symm⟩,k⟩
noncomputable def dI (y x:V) (H:Hp) (Q:VK):Prop:=∃ a o,x=.ref a/\mT H a y o/\Q (.bl o.isSome) H
noncomputable def dN (y x:V) (H:Hp) (Q:VK):Prop:=∃ a o,x=.ref a/\mT H a y o/\Q (.bl (!o.isSome)) H
theorem XV (k:ty σ H fun y H1=>td σ H1 fun x H2=>dI y x H2 Q):WN ty td σ H Q:=k
theorem SE (k:ty σ H fun y H1=>td σ H1 fun x H2=>dN y x H2 Q):AM ty td σ H Q:=k
theorem XX {p:Addr}{kvs:List (aH×V)}{s:Str} (h:Rd H p (.dK kvs)) (k:Q (.bl (bA kvs (Sum.inr s)).isSome) H):dI (.str s) (.ref p) H Q:=⟨p,_,rfl,.inl ⟨kvs,Sum.inr s,h,rfl,rfl⟩,k⟩
theorem XZ {p:Addr}{kvs:List (aH×V)}{i:Int} (h:Rd H p (.dK kvs)) (k:Q (.bl (bA kvs (Sum.inl i)).isSome) H):dI (.int i) (.ref p) H Q:=⟨p,_,rfl,.inl ⟨kvs,Sum.inl i,h,rfl,rfl⟩,k⟩
theorem pD {p:Addr}{kvs:List (aH×V)}{c:aH} (h:Rd H p (.dK kvs)) (e:bA kvs c=some v) (k:Q v H):dG (.ref p) (kV c) H Q:=⟨p,v,rfl,.inl ⟨kvs,c,h,rfl,e.symm⟩,k⟩
theorem XY {p:Addr}{kvs:List (aH×V)}{c:aH} (h:Rd H p (.dK kvs)) (k:Q (.bl (bA kvs c).isSome) H):dI (kV c) (.ref p) H Q:=⟨p,_,rfl,.inl ⟨kvs,c,h,rfl,rfl⟩,k⟩
theorem PV {p:Addr}{kvs:List (aH×V)}{c:aH} (h:Rd H p (.dK kvs)) (k:Q (.bl (!(bA kvs c).isSome)) H):dN (kV c) (.ref p) H Q:=⟨p,_,rfl,.inl ⟨kvs,c,h,rfl,rfl⟩,k⟩
noncomputable def dP (D:dC) (σ:St) (v x y:V) (H:Hp):Prop:=∃ a H4,x=.ref a/\vP H a y v H4/\D.nx σ H4
theorem SD (k:tv σ H fun v H1=>td σ H1 fun x H2=>ty σ H2 fun y H3=>dP D σ v x y H3):PL td ty tv D σ H:=k
theorem rV {p:Addr}{kvs:List (aH×V)}{c:aH} (h:H p=some (.dK kvs)) (hl:kvs.length<=1000) (k:D.nx σ (upd H p (.dK (cB kvs c v)))):dP D σ v (.ref p) (kV c) H:=⟨p,_,rfl,vP.k h (eQ hl),k⟩
noncomputable def dG2 (ty tx:TE) (σ:St) (Q:VK) (x:V) (H1:Hp):Prop:=∃ a,x=.ref a/\Ai H1 a/\ty σ H1 fun y H2=>tx σ H2 fun z H3=>∃ o,mT H3 a y o/\Q (o.getD z) H3
theorem ML {tx:TE} (k:td σ H (dG2 ty tx σ Q)):GB td ty tx σ H Q:=k
noncomputable def dpK (ty:TE) (σ:St) (Q:VK) (x:V) (H1:Hp):Prop:=∃ a,x=.ref a/\Ai H1 a/\ty σ H1 fun y H2=>∃ kvs k v,H2 a=some (.dK kvs)/\y=kV k/\bA kvs k=some v/\Q v (upd H2 a (.dK (cJ kvs k)))
theorem MJ (k:td σ H (dpK ty σ Q)):FY td ty σ H Q:=k
theorem HK {g:TG}{tl:TE}{tb:TS} (a:Addr) (nf:iA H a) (k:tl σ H fun x H1=>x=.ref a/\∃ kvs,H1 a=some (.dK kvs)/\∀ o,xJ g tb (Dm a D) σ (VV a o kvs) (upd H1 a (.frz o (.dK kvs)))):OW tl g tb D σ H:=⟨a,nf,k⟩
theorem BG {a:Addr}{o:Obj}{kvs:List (aH×V)}{g:TG}{tb:TS}{D:dC} (Pv:Nat->St->Hp->Prop) (h0:Pv 0 σ H) (hl:∀ i σ H,i<=kvs.length->Pv i σ H->H a=some (.frz o (.dK kvs)))
  (hs:∀ i k v σ H,kvs[i]?=some (k,v)->Pv i σ H->g (kV k) σ H fun σ2 H2=>tb ⟨Pv (i+1),D.rt,D.nx,Pv (i+1)⟩ σ2 H2) (hd:∀ σ H,Pv kvs.length σ H->D.nx σ H):xJ g tb D σ (VV a o kvs) H:=by
 refine ⟨fun i m σ H=>m=kvs.length - i/\i<=kvs.length/\Pv i σ H,⟨_,rfl,zero_le _,h0⟩,?_⟩
 rintro i m σ H ⟨rfl,hi,p⟩
 by_cases hlt:i < kvs.length
 ·refine .inr ⟨⟨hl i σ H hi p,hlt⟩,Pv (i+1),fun σ' H' q=>⟨kvs.length - (i+1),by omega,rfl,hlt,q⟩,fun x H' y=>?_⟩
  obtain ⟨rfl,k,v,e,rfl⟩:=y
  exact hs i k v σ _ e p
 ·have:i=kvs.length:=by omega
  subst this
  exact .inl ⟨⟨hl _ σ H (le_refl _) p,le_refl _⟩,hd σ H p⟩
theorem yR {a:Addr}{xs:List V}{g:TG}{tb:TS} (Pv:Nat->St->Hp->Prop) (h0:Pv 0 σ H) (hl:∀ i σ H,i<=xs.length->Pv i σ H->bX K H a xs)
  (hs:∀ i x T σ H,xs[i]?=some x->H T=none->Pv i σ H->g (.ref T) σ (upd H T (.tup [.int i,x])) fun σ2 H2=>tb ⟨Pv (i+1),D.rt,D.nx,Pv (i+1)⟩ σ2 H2) (hd:∀ σ H,Pv xs.length σ H->D.nx σ H):xJ g tb D σ (VU K a) H:=by
 refine ⟨fun i m σ H=>m=xs.length - i/\i<=xs.length/\Pv i σ H,⟨_,rfl,zero_le _,h0⟩,?_⟩
 rintro i m σ H ⟨rfl,hi,p⟩
 have q:=hl i σ H hi p
 by_cases hlt:i < xs.length
 ·refine .inr ⟨⟨xs,xs[i],q,by simp [hlt]⟩,Pv (i+1),fun σ' H' q=>⟨xs.length - (i+1),by omega,rfl,hlt,q⟩,fun x H' y=>?_⟩
  obtain ⟨T,x',rfl,hT,rfl,e⟩:=y
  exact hs i x' T σ H (e xs q) hT p
 ·have:i=xs.length:=by omega
  subst this
  exact .inl ⟨⟨xs,q,le_refl _⟩,hd σ H p⟩
theorem ME {tl:TA}{R:It->Hp->Prop} (k:tl σ H fun vs H1=>∃ a,vs=[.ref a]/\(∃ xs,bX K H1 a xs)/\R (VU K a) H1):QQ K tl σ H R:=k
theorem e_K {a:Addr}{xs:List V}{R:It->Hp->Prop} (h:H a=some (.lst xs)) (k:R (VU K a) H):∃ a',[V.ref a]=[.ref a']/\(∃ xs,bX K H a' xs)/\R (VU K a') H:=⟨a,rfl,⟨xs,bX.of h⟩,k⟩
theorem MF {p:Addr}{x y:V}{t:OL}{R:St->Hp->Prop} (h:H p=some (.tup [x,y])) (k:t [x,y] σ H R):ZM K 2 t (.ref p) σ H R:=⟨p,_,rfl,AD.of h,rfl,k⟩
theorem SA {R:St->Hp->Prop} (k:R σ H):ZN [] σ H R:=⟨rfl,k⟩
theorem MH {t:TG}{u:OL}{r:List V}{R:St->Hp->Prop} (k:t v σ H fun σ' H'=>u r σ' H' R):QS t u (v::r) σ H R:=⟨v,r,rfl,k⟩
end
noncomputable def TK (H H':Hp):Prop:=∀ p xs,H p=some (.tup xs)->H' p=some (.tup xs)
theorem TK.trans {H H1 H2:Hp} (a:TK H H1) (b:TK H1 H2):TK H H2:=fun p xs h=>b p xs (a p xs h)
theorem aI.tk {H H':Hp} (s:aI H H'):TK H H':=fun p xs h=>s _ _ h
theorem TK.new {H:Hp}{q:Addr}{o:HO} (h:H q=none):TK H (upd H q o):=(aI.new h).tk
theorem TK.lst {H:Hp}{q:Addr}{o:HO}{ys:List V} (h:H q=some (.lst ys)):TK H (upd H q o):=fun p xs e=>by rw [aJ (cP e h (by intro z; cases z))]; exact e
theorem TK.dic {H:Hp}{q:Addr}{o:HO}{ys:List (aH×V)} (h:H q=some (.dK ys)):TK H (upd H q o):=fun p xs e=>by rw [aJ (cP e h (by intro z; cases z))]; exact e
theorem TK.melt {H:Hp}{a:Addr}:TK H (melt a H):=fun p xs e=>fI (fun _ _ z=>nomatch z) e
noncomputable def lM (H:Hp) (v:V) (q:Rat):Prop:=∃ p,v=.ref p/\H p=some (.tup [.int q.num,.int q.den])
theorem lM.tk {H H':Hp}{v:V}{q:Rat} (h:lM H v q) (t:TK H H'):lM H' v q:=let ⟨p,e,h⟩:=h; ⟨p,e,t _ _ h⟩
noncomputable def LF (H:Hp) (v:V) (x:aH×Rat):Prop:=∃ p u,v=.ref p/\H p=some (.tup [kV x.1,u])/\lM H u x.2
theorem LF.tk {H H':Hp}{v:V}{x:aH×Rat} (h:LF H v x) (t:TK H H'):LF H' v x:=let ⟨p,u,e,h,f⟩:=h; ⟨p,u,e,t _ _ h,f.tk t⟩
noncomputable def xW (H:Hp) (v:V) (r:aH×aH×Rat):Prop:=∃ p u,v=.ref p/\H p=some (.tup [kV r.1,kV r.2.1,u])/\lM H u r.2.2
theorem xW.tk {H H':Hp}{v:V}{r:aH×aH×Rat} (h:xW H v r) (t:TK H H'):xW H' v r:=let ⟨p,u,e,h,f⟩:=h; ⟨p,u,e,t _ _ h,f.tk t⟩
noncomputable def gQ (H:Hp) (v:V) (e:Rat×Option (Nat×aH)):Prop:=∃ p u,v=.ref p/\H p=some (.tup [u,(match e.2 with|none=>.non|some kq=>.int kq.1),(match e.2 with|none=>.non|some kq=>kV kq.2)])/\lM H u e.1
theorem gQ.tk {H H':Hp}{v:V}{e:Rat×Option (Nat×aH)} (h:gQ H v e) (t:TK H H'):gQ H' v e:=let ⟨p,u,a,h,f⟩:=h; ⟨p,u,a,t _ _ h,f.tk t⟩
noncomputable def AF (H:Hp) (v:V) (x:Nat×aH):Prop:=∃ p,v=.ref p/\H p=some (.tup [.int x.1,kV x.2])
theorem AF.tk {H H':Hp}{v:V}{x:Nat×aH} (h:AF H v x) (t:TK H H'):AF H' v x:=let ⟨p,e,h⟩:=h; ⟨p,e,t _ _ h⟩
section
variable {α β:Type} {F G:α -> β -> Prop}
theorem Pd.imp:∀ {l:List α}{m:List β},Paired F l m->(∀ a b,F a b->G a b)->Paired G l m
|_,_,.nil,_=>.nil
|_,_,.cons r t,f=>.cons (f _ _ r) (Pd.imp t f)
theorem Pd.snoc:∀ {l:List α}{m:List β}{a:α}{b:β},Paired F l m->F a b->Paired F (l++[a]) (m++[b])
|_,_,_,_,.nil,r=>.cons r .nil
|_,_,_,_,.cons q t,r=>.cons q (Pd.snoc t r)
theorem Pd.get:∀ {l:List α}{m:List β}{i:Nat}{b:β},Paired F l m->m[i]?=some b->∃ a,l[i]?=some a/\F a b
|_,_,_,_,.nil,e=>by simp at e
|_,_,0,_,.cons r _,e=>by simp at e; subst e; exact ⟨_,rfl,r⟩
|_,_,i+1,b,.cons _ t,e=>by
  obtain ⟨y,h1,h2⟩:=Pd.get (i:=i) (b:=b) t (by simpa using e)
  exact ⟨y,by simpa using h1,h2⟩
end
noncomputable def LQ {β:Type} (R:Hp->V->β->Prop) (H:Hp) (l:Addr) (ds:List β):Prop:=∃ vs,H l=some (.lst vs)/\Paired (R H) vs ds
noncomputable def KQ {β:Type} (R:Hp->V->β->Prop) (H:Hp) (kvs:List (aH×V)) (m:List (aH×β)):Prop:=Paired (fun kv ab=>kv.1=ab.1/\R H kv.2 ab.2) kvs m
noncomputable def DQ {β:Type} (R:Hp->V->β->Prop) (H:Hp) (d:Addr) (m:List (aH×β)):Prop:=∃ kvs,H d=some (.dK kvs)/\KQ R H kvs m
section
variable {β:Type} {R:Hp -> V -> β -> Prop} {H H':Hp} {l d:Addr} {ds:List β} {m:List (aH×β)} {kvs:List (aH×V)}
theorem LQ.same (h:LQ R H l ds) (hR:∀ v b,R H v b->R H' v b) (s:aI H H'):LQ R H' l ds:=let ⟨vs,a,b⟩:=h; ⟨vs,s _ _ a,Pd.imp b hR⟩
theorem KQ.imp {R':Hp->V->β->Prop} (h:KQ R H kvs m) (hR:∀ v b,R H v b->R' H' v b):KQ R' H' kvs m:=Pd.imp h fun _ _ q=>⟨q.1,hR _ _ q.2⟩
theorem KQ.keys:∀ {kvs:List (aH×V)}{m:List (aH×β)},KQ R H kvs m->kvs.map (·.1)=m.map (·.1)
|_,_,.nil=>rfl
|_,_,.cons r t=>by rw [map_cons,map_cons,r.1,KQ.keys t]
theorem KQ.len (h:KQ R H kvs m):kvs.length=m.length:=Paired.length h
theorem KQ.val:∀ {kvs:List (aH×V)}{m:List (aH×β)}{k:aH},KQ R H kvs m->(bA kvs k=none/\cE m k=none)∨∃ v b,bA kvs k=some v/\cE m k=some b/\R H v b
|_,_,_,.nil=>.inl ⟨rfl,rfl⟩
|_,_,k,.cons (a:=p) (b:=q) (l₁:=as) (l₂:=bs) r t=>by
  by_cases e:p.1=k
  ·refine .inr ⟨p.2,q.2,dE e,?_,r.2⟩
   have e':q.1=k:=r.1 ▸ e
   simp [cE,find?_cons,e']
  ·have e':¬ q.1=k:=fun z=>e (r.1.trans z)
   have h1:bA (p::as) k=bA as k:=cQ e
   rw [h1]
   have h2:cE (q::bs) k=cE bs k:=by simp [cE,find?_cons,e']
   rw [h2]
   exact KQ.val t
theorem KQ.repl {k:aH}{v:V}{b:β} (hv:R H v b):∀ {kvs:List (aH×V)}{m:List (aH×β)},KQ R H kvs m->KQ R H (kvs.map fun kv=>if kv.1=k then (kv.1,v) else kv) (m.map fun kv=>if kv.1=k then (kv.1,b) else kv)
|_,_,.nil=>.nil
|_,_,.cons (a:=p) (b:=q) r t=>by
  refine .cons ?_ (KQ.repl hv t)
  dsimp only
  by_cases e:p.1=k
  ·rw [if_pos e,if_pos (r.1 ▸ e)]
   exact ⟨r.1,hv⟩
  ·rw [if_neg e,if_neg (fun z=>e (r.1.trans z))]
   exact r
theorem KQ.any {k:aH}:∀ {kvs:List (aH×V)}{m:List (aH×β)},KQ R H kvs m->(kvs.any fun kv=>decide (kv.1=k))=m.any fun kv=>decide (kv.1=k)
|_,_,.nil=>rfl
|_,_,.cons r t=>by rw [any_cons,any_cons,r.1,KQ.any t]
theorem KQ.put {k:aH}{v:V}{b:β} (h:KQ R H kvs m) (hv:R H v b):KQ R H (cB kvs k v) (fU m k b):=by
 unfold cB fU
 rw [KQ.any h]
 split
 ·exact KQ.repl hv h
 ·exact Pd.snoc h ⟨rfl,hv⟩
theorem KQ.drop {k:aH}:∀ {kvs:List (aH×V)}{m:List (aH×β)},KQ R H kvs m->KQ R H (cJ kvs k) (gN m k)
|_,_,.nil=>.nil
|_,_,.cons (a:=p) (b:=q) (l₁:=as) (l₂:=bs) r t=>by
  have ih:=KQ.drop (k:=k) t
  by_cases e:p.1=k
  ·have h1:cJ (p::as) k=cJ as k:=EU e
   rw [h1]
   have h2:gN (q::bs) k=gN bs k:=by unfold gN; rw [filter_cons]; simp [show q.1=k from r.1 ▸ e]
   rw [h2]
   exact ih
  ·have h1:cJ (p::as) k=p::cJ as k:=EV e
   rw [h1]
   have h2:gN (q::bs) k=q::gN bs k:=by unfold gN; rw [filter_cons]; simp [show ¬ q.1=k from fun z=>e (r.1.trans z)]
   rw [h2]
   exact .cons r ih
end
theorem Bu {β:Type}{A B:Prop} (k:B):if (none:Option β).isSome=true then A else B:=k
theorem Bt {β:Type}{b:β}{A B:Prop} (k:A):if (some b).isSome=true then A else B:=k
theorem FR {H:Hp}{a:Addr}{o:HO} (h:H a=some o):upd H a o=H:=by
 funext b
 by_cases e:b=a
 ·subst e; rw [aB,h]
 ·rw [aJ e]
theorem XD {D:dC}{σ:St}{H:Hp} (k:D.nx σ H):D.nx σ H:=k
theorem WX {D:dC}{v:V}{H:Hp} (k:D.rt v H):D.rt v H:=k
theorem YC {D:dC}{σ:St}{H:Hp} (k:D.ct σ H):D.ct σ H:=k
theorem BH {a:Addr}{D:dC}{σ:St}{H:Hp} (k:D.nx σ (melt a H)):(Dm a D).nx σ H:=k
theorem eP.u1 {k:Nat}{A:Around} (r:eP k A):A.units+1 < cLine:=by have:=r.units; omega
section
variable {X:Cx} {σ:St} {H H':Hp} {Q:VK} {K:Frag} {v x y:V} {w:World}
theorem iQ {q b:Addr}{o u:HO} (n:b≠q) (h:H b=some u):upd H q o b=some u:=by rw [aJ n]; exact h
noncomputable def HN:R2:=fun x y H Q=>y=.non/\Q (.bl (decide (x=.non))) H
noncomputable def HM:R2:=fun x y H Q=>y=.non/\Q (.bl (!decide (x=.non))) H
theorem oG:jG X (compareOp .Is) HN:=TL
theorem wN:jG X (compareOp .IsNot) HM:=MV
theorem HI (k:Q (.bl true) H):HN .non .non H Q:=⟨rfl,k⟩
theorem RY {s:Str} (k:Q (.bl false) H):HN (.str s) .non H Q:=⟨rfl,k⟩
theorem HJ {i:Int} (k:Q (.bl false) H):HN (.int i) .non H Q:=⟨rfl,k⟩
theorem RZ {c:aH} (k:Q (.bl false) H):HN (kV c) .non H Q:=⟨rfl,by cases c <;> exact k⟩
theorem GZ (k:Q (.bl false) H):HM .non .non H Q:=⟨rfl,k⟩
noncomputable def Bz (K:Frag) (T:String) (r:V->List V->Hp->VK->Prop) (t:TA) (σ:St) (Q:VK):VK:=fun x H1=>VZ K T x H1/\t σ H1 fun xs H2=>r x xs H2 Q
theorem Bi {T:String}{r:V->List V->Hp->VK->Prop}{to:TE}{t:TA} (k:to σ H (Bz K T r t σ Q)):Cn K T r to t σ H Q:=k
noncomputable def ZW (K:Frag) (T:String) (r:V->List V->Hp->VK->Prop) (Q:VK):VK:=fun x H1=>VZ K T x H1/\r x [] H1 Q
theorem YF {T:String}{r:V->List V->Hp->VK->Prop}{to:TE} (k:to σ H (ZW K T r Q)):WO K T r to σ H Q:=k
theorem YD {r:V->List V->Hp->VK->Prop}{t:TA}{l:Addr}{xs:List V} (h:H l=some (.lst xs)) (k:t σ H fun vs H2=>r (.ref l) vs H2 Q):Bz K "list" r t σ Q (.ref l) H:=⟨.inl ⟨rfl,xs,bX.of h⟩,k⟩
theorem YE {r:V->List V->Hp->VK->Prop}{t:TA}{l:Addr}{xs:List (aH×V)} (h:H l=some (.dK xs)) (k:t σ H fun vs H2=>r (.ref l) vs H2 Q):Bz K "dict" r t σ Q (.ref l) H:=⟨.inr (.inr (.inl ⟨rfl,.inl ⟨xs,h⟩⟩)),k⟩
theorem SK {r:V->List V->Hp->VK->Prop}{l:Addr}{xs:List V} (h:H l=some (.lst xs)) (k:r (.ref l) [] H Q):ZW K "list" r Q (.ref l) H:=⟨.inl ⟨rfl,xs,bX.of h⟩,k⟩
theorem jI {l:Addr}{xs:List V} (h:H l=some (.lst xs)) (hl:xs.length<=1000) (k:Q .non (upd H l (.lst (xs++[y])))):BL (.ref l) [y] H Q:=⟨l,xs,y,rfl,rfl,h,eQ hl,k⟩
theorem PU {l b:Addr}{xs zs:List V} (h:H l=some (.lst xs)) (h2:H b=some (.lst zs)) (hl:xs.length+zs.length<=1000) (k:Q .non (upd H l (.lst (xs++zs)))):BK (.ref l) [.ref b] H Q:=⟨l,b,xs,zs,rfl,rfl,h,h2,kA hl,k⟩
theorem pC {a:Addr}{kvs:List (aH×V)}{c:aH} (h:H a=some (.dK kvs)) (hl:kvs.length<=1000) (k1:∀ u,bA kvs c=some u->Q u H) (k2:bA kvs c=none->Q v (upd H a (.dK (kvs++[(c,v)])))):BJ (.ref a) [kV c,v] H Q:=⟨a,kvs,c,v,rfl,rfl,h,hl,k1,k2⟩
theorem uE {tl te:TE}{o:Option TT}{g:TG}{k:Nat}{is:List Nat} (a:Addr) (nf:iA H a) (h:tl σ H fun x H1=>x=.ref a/\∃ kvs,H1 a=some (.dK kvs)/\∀ o',qH te o g (List.replicate k none) (lH σ is) (fun v H'=>Q v (melt a H')) (VV a o' kvs) (upd H1 a (.frz o' (.dK kvs)))):GC tl te o g k is σ H Q:=⟨a,nf,h⟩
theorem iA.dK {a:Addr}{kvs:List (aH×V)} (h:H a=some (.dK kvs)):iA H a:=fun o u e=>by rw [h] at e; cases e
end
end
section
theorem iP {kvs:List (aH×V)}{p q:aH}{v:V} (h:bA kvs p=none):bA (kvs++[(p,v)]) q=if q=p then some v else bA kvs q:=by
 by_cases e:q=p
 ·subst e
  rw [if_pos rfl]
  induction kvs with
 |nil=>exact dE rfl
 |cons kv r ih =>
   by_cases z:kv.1=q
   ·rw [dE z] at h; cases h
   ·rw [cQ z] at h
    rw [cons_append,cQ z]
    exact ih h
 ·rw [if_neg e]
  clear h
  induction kvs with
 |nil=>exact cQ (fun z=>e z.symm)
 |cons kv r ih =>
   by_cases z:kv.1=q
   ·rw [cons_append,dE z,dE z]
   ·rw [cons_append,cQ z,cQ z]
    exact ih
structure BI (H H1:Hp) (d:Addr) (f:aH->List (Nat×aH)) (n:Nat):Prop where
 same:aI H H1
 dn:H d=none
 ex:∃ kvs,H1 d=some (.dK kvs)/\kvs.length<=n/\(∀ p,bA kvs p=none->f p=[])/\(∀ p v,bA kvs p=some v->∃ l,v=.ref l/\H l=none/\LQ AF H1 l (f p))/\∀ p q l,bA kvs p=some (.ref l)->bA kvs q=some (.ref l)->p=q
noncomputable def LB (f:aH->List (Nat×aH)) (p:aH) (x:Nat×aH):aH->List (Nat×aH):=fun q=>if q=p then f q++[x] else f q
theorem BI.start {H:Hp}{d:Addr} (h:H d=none):BI H (upd H d (.dK [])) d (fun _=>[]) 0:=
 ⟨aI.new h,h,[],aB,le_refl _,fun _ _=>rfl,fun p v e=>(by cases e),fun p q l e=>(by cases e)⟩
theorem AF.imp {H H':Hp} (t:TK H H'):∀ v b,AF H v b->AF H' v b:=fun v b h=>h.tk t
theorem BI.alloc {H H1:Hp}{d q:Addr}{o:HO}{f:aH->List (Nat×aH)}{n:Nat} (B:BI H H1 d f n) (h:H1 q=none):BI H (upd H1 q o) d f n:=by
 obtain ⟨kvs,a,b,c,e,g⟩:=B.ex
 refine ⟨B.same.trans (aI.new h),B.dn,kvs,aL h a,b,c,fun p v z=>?_,g⟩
 obtain ⟨l,rfl,hl,q⟩:=e p v z
 exact ⟨l,rfl,hl,q.same (AF.imp (TK.new h)) (aI.new h)⟩
theorem BI.old {H H1:Hp}{d l t:Addr}{p:aH}{x:Nat×aH}{f:aH->List (Nat×aH)}{n:Nat}{kvs:List (aH×V)}{xs:List V} (B:BI H H1 d f n) (hd:H1 d=some (.dK kvs)) (hv:bA kvs p=some (.ref l)) (hl:H1 l=some (.lst xs)) (ht:H1 t=some (.tup [.int x.1,kV x.2])) :
  BI H (upd H1 l (.lst (xs++[.ref t]))) d (LB f p x) n:=by
 obtain ⟨kvs',a,b,c,e,g⟩:=B.ex
 rw [hd] at a
 cases a
 have tk:TK H1 (upd H1 l (.lst (xs++[.ref t]))):=TK.lst hl
 obtain ⟨l',e1,hln,ys,hy,py⟩:=e p _ hv
 cases e1
 rw [hl] at hy
 cases hy
 refine ⟨fun b o h=>?_,B.dn,kvs,?_,b,fun q z=>?_,fun q v z=>?_,g⟩
 ·rw [aJ (aA h hln)]
  exact B.same _ _ h
 ·rw [aJ (cP hd hl (by intro z; cases z))]
  exact hd
 ·have hq:q≠p:=fun w=>by subst w; rw [hv] at z; cases z
  show (if q=p then _ else _)=_
  rw [if_neg hq]
  exact c q z
 ·obtain ⟨m,rfl,hm,zs,hz,pz⟩:=e q v z
  by_cases hq:q=p
  ·subst hq
   rw [hv] at z
   cases z
   refine ⟨l,rfl,hln,xs++[.ref t],aB,?_⟩
   show Paired _ _ (if q=q then _ else _)
   rw [if_pos rfl]
   exact Pd.snoc (Pd.imp py (AF.imp tk)) ⟨t,rfl,tk _ _ ht⟩
  ·refine ⟨m,rfl,hm,zs,?_,?_⟩
   ·have:m≠l:=fun w=>by subst w; exact hq (g _ _ _ z hv)
    rw [aJ this]
    exact hz
   ·show Paired _ _ (if q=p then _ else _)
    rw [if_neg hq]
    exact Pd.imp pz (AF.imp tk)
theorem BI.key {H H1:Hp}{d l:Addr}{p:aH}{f:aH->List (Nat×aH)}{n:Nat}{kvs:List (aH×V)} (B:BI H H1 d f n) (hd:H1 d=some (.dK kvs)) (hv:bA kvs p=none) (hl:H1 l=some (.lst [])) (hn:H l=none) (hf:∀ q,bA kvs q≠some (.ref l)) :
  BI H (upd H1 d (.dK (kvs++[(p,.ref l)]))) d f (n+1):=by
 obtain ⟨kvs',a,b,c,e,g⟩:=B.ex
 rw [hd] at a
 cases a
 have tk:TK H1 (upd H1 d (.dK (kvs++[(p,.ref l)]))):=TK.dic hd
 refine ⟨fun b o h=>?_,B.dn,kvs++[(p,.ref l)],aB,by simp; exact b,fun q z=>?_,fun q v z=>?_,fun q r m z1 z2=>?_⟩
 ·rw [aJ (aA h B.dn)]
  exact B.same _ _ h
 ·rw [iP hv] at z
  by_cases hq:q=p
  ·rw [if_pos hq] at z; cases z
  ·rw [if_neg hq] at z; exact c q z
 ·rw [iP hv] at z
  by_cases hq:q=p
  ·rw [if_pos hq] at z
   cases z
   subst hq
   refine ⟨l,rfl,hn,[],?_,?_⟩
   ·rw [aJ (cP hl hd (by intro z; cases z))]; exact hl
   ·rw [c q hv]; exact .nil
  ·rw [if_neg hq] at z
   obtain ⟨m,rfl,hm,zs,hz,pz⟩:=e q v z
   refine ⟨m,rfl,hm,zs,?_,Pd.imp pz (AF.imp tk)⟩
   rw [aJ (cP hz hd (by intro z; cases z))]; exact hz
 ·rw [iP hv] at z1 z2
  by_cases h1:q=p <;> by_cases h2:r=p
  ·rw [h1,h2]
  ·rw [if_pos h1] at z1; rw [if_neg h2] at z2
   cases z1
   exact absurd z2 (hf r)
  ·rw [if_neg h1] at z1; rw [if_pos h2] at z2
   cases z2
   exact absurd z1 (hf q)
  ·rw [if_neg h1] at z1; rw [if_neg h2] at z2
   exact g q r m z1 z2
theorem BI.mono {H H1:Hp}{d:Addr}{f:aH->List (Nat×aH)}{m n:Nat} (B:BI H H1 d f m) (h:m<=n):BI H H1 d f n:=by
 obtain ⟨kvs,a,b,c⟩:=B.ex
 exact ⟨B.same,B.dn,kvs,a,le_trans b h,c⟩
theorem BI.non {H H1:Hp}{d l:Addr}{f:aH->List (Nat×aH)}{n:Nat} (B:BI H H1 d f n) (h:H1 l=none):H l=none:=by
 cases e:H l with
|none=>rfl
|some o=>rw [B.same _ _ e] at h; cases h
theorem BI.more {H H1:Hp}{d l q t:Addr}{p:aH}{x:Nat×aH}{f:aH->List (Nat×aH)}{n:Nat}{kvs:List (aH×V)}{xs:List V} (B:BI H H1 d f n) (hd:H1 d=some (.dK kvs)) (hv:bA kvs p=some (.ref l)) (hl:H1 l=some (.lst xs)) (hq:H1 q=none) (ht:upd H1 q (.lst []) t=none) :
  BI H (upd (upd (upd H1 q (.lst [])) t (.tup [.int x.1,kV x.2])) l (.lst (xs++[.ref t]))) d (LB f p x) (n+1):=
 (((B.alloc hq).alloc ht).old (aL ht (aL hq hd)) hv (aL ht (aL hq hl)) aB).mono (le_succ _)
theorem BI.new {H H1:Hp}{d l t:Addr}{p:aH}{x:Nat×aH}{f:aH->List (Nat×aH)}{n:Nat}{kvs:List (aH×V)} (B:BI H H1 d f n) (hd:H1 d=some (.dK kvs)) (hv:bA kvs p=none) (hl:H1 l=none) (ht:upd (upd H1 l (.lst [])) d (.dK (kvs++[(p,.ref l)])) t=none) :
  BI H (upd (upd (upd (upd H1 l (.lst [])) d (.dK (kvs++[(p,.ref l)]))) t (.tup [.int x.1,kV x.2])) l (.lst ([]++[.ref t]))) d (LB f p x) (n+1):=by
 have hdl:l≠d:=fun z=>by subst z; rw [hl] at hd; cases hd
 have B1:=(B.alloc (o:=.lst []) hl).key (l:=l) (aL hl hd) hv aB (B.non hl) (fun q z=>by
  obtain ⟨kvs',a,_,_,e,_⟩:=B.ex
  rw [hd] at a
  cases a
  obtain ⟨m,e1,_,zs,hz,_⟩:=e q _ z
  cases e1
  rw [hl] at hz
  cases hz)
 exact (B1.alloc ht).old (aL ht aB) (by rw [iP hv,if_pos rfl]) (aL ht (by rw [aJ hdl]; exact aB)) aB
noncomputable def vQ (net:List (eL aH)) (i:Nat) (f:aH->List (Nat×aH)):Prop:=∀ q k x,(k,x)∈f q ↔ k < i/\∃ r,net[k]?=some r/\Jn r q x
theorem vQ.zero {net:List (eL aH)}:vQ net 0 (fun _=>[]):=fun q k x=>⟨fun h=>by simp at h,fun h=>absurd h.1 (not_lt_zero _)⟩
theorem vQ.next {net:List (eL aH)}{i:Nat}{f:aH->List (Nat×aH)}{r:eL aH} (h:vQ net i f) (hr:net[i]?=some r):vQ net (i+1) (LB (LB f r.1 (i,r.2.1)) r.2.1 (i,r.1)):=by
 intro q k x
 have key:(k,x)∈LB (LB f r.1 (i,r.2.1)) r.2.1 (i,r.1) q ↔ (k,x)∈f q∨(q=r.1/\k=i/\x=r.2.1)∨(q=r.2.1/\k=i/\x=r.1):=by
  unfold LB
  split <;> split <;> simp_all
 rw [key,h q k x]
 constructor
 ·rintro (⟨h1,h2⟩|⟨rfl,rfl,rfl⟩|⟨rfl,rfl,rfl⟩)
  ·exact ⟨by omega,h2⟩
  ·exact ⟨by omega,r,hr,.inl ⟨rfl,rfl⟩⟩
  ·exact ⟨by omega,r,hr,.inr ⟨rfl,rfl⟩⟩
 ·rintro ⟨h1,r',h2,h3⟩
  by_cases hk:k=i
  ·subst hk
   rw [hr] at h2
   cases h2
   rcases h3 with ⟨rfl,rfl⟩|⟨rfl,rfl⟩
   ·exact .inr (.inl ⟨rfl,rfl,rfl⟩)
   ·exact .inr (.inr ⟨rfl,rfl,rfl⟩)
  ·exact .inl ⟨by omega,r',h2,h3⟩
theorem fB {f:aH->List (Nat×aH)}{p:aH}{x:Nat×aH}{n:Nat} (h:∀ q,(f q).length<=n) (q:aH):(LB f p x q).length<=n+1:=by
 unfold LB
 have:=h q
 split
 ·rw [length_append]; simp; exact this
 ·omega
noncomputable def OP (H:Hp) (d:Addr) (net:List (eL aH)):Prop:=∃ kvs f,H d=some (.dK kvs)/\vQ net net.length f/\(∀ q,(f q).length<=2 * net.length)/\(∀ p,bA kvs p=none->f p=[])/\∀ p v,bA kvs p=some v->∃ l,v=.ref l/\LQ AF H l (f p)
theorem BI.bes {H H1:Hp}{d:Addr}{net:List (eL aH)}{f:aH->List (Nat×aH)}{n:Nat} (B:BI H H1 d f n) (h:vQ net net.length f) (hl:∀ q,(f q).length<=2 * net.length):OP H1 d net:=by
 obtain ⟨kvs,a,b,c,e,g⟩:=B.ex
 exact ⟨kvs,f,a,h,hl,c,fun p v z=>let ⟨l,a,b,c⟩:=e p v z; ⟨l,a,c⟩⟩
theorem iZ {α:Type} [DecidableEq α]:∀ {l m:List α},l.Nodup->(∀ x∈l,x∈m)->l.length<=m.length
|[],_,_,_=>zero_le _
|a::l,m,nd,h=>by
  rw [nodup_cons] at nd
  have ha:=h a (by simp)
  have:=iZ (l:=l) (m:=m.erase a) nd.2 fun x hx=>by
   have hne:x≠a:=fun z=>nd.1 (by rw [← z]; exact hx)
   exact (List.mem_erase_of_ne hne).mpr (h x (by simp [hx]))
  have h2:=List.length_erase_of_mem ha
  have h3:0 < m.length:=List.length_pos_of_mem ha
  rw [length_cons]
  omega
theorem DM {kvs:List (aH×V)}{k:aH}{v:V} (h:k∉kvs.map (·.1)):cB kvs k v=kvs++[(k,v)]:=by
 unfold cB
 rw [if_neg]
 intro z
 obtain ⟨x,hx,e⟩:=any_eq_true.mp z
 exact h (mem_map.mpr ⟨x,hx,of_decide_eq_true e⟩)
theorem FC {β:Type}{m:AL aH β}{k:aH}{v:β} (h:k∉m.map (·.1)):fU m k v=m++[(k,v)]:=by
 unfold fU
 rw [if_neg]
 intro z
 obtain ⟨x,hx,e⟩:=any_eq_true.mp z
 exact h (mem_map.mpr ⟨x,hx,of_decide_eq_true e⟩)
theorem jZ:∀ {more kvs:List (aH×V)},((kvs++more).map (·.1)).Nodup->jA kvs more=kvs++more
|[],kvs,_=>by simp [jA]
|kv::r,kvs,nd=>by
  have h1:kv.1∉kvs.map (·.1):=by
   rw [map_append,nodup_append] at nd
   intro z
   exact nd.2.2 _ z kv.1 (by simp) rfl
  show jA (cB kvs kv.1 kv.2) r=_
  rw [DM h1,jZ (by simpa using nd)]
  simp
section
variable {te:TE} {Q:VK} {H:Hp} {caps:St}
theorem pE {a:Addr}{o:Obj}{kvs:List (aH×V)} (hn:kvs.length<=1000) (Pv:Addr->Nat->List V->Hp->Prop) (h0:∀ acc,H acc=none->Pv acc 0 [] (upd H acc (.lst []))) (hl':∀ acc i ys H1,H acc=none->i<=kvs.length->Pv acc i ys H1->H1 a=some (.frz o (.dK kvs)))
  (hs:∀ acc i ys H1 k v,H acc=none->kvs[i]?=some (k,v)->ys.length=i->H1 acc=some (.lst ys)->Pv acc i ys H1->te (some (kV k)::caps) H1 (CP kvs.length acc (Pv acc) ys i))
  (hd:∀ acc ys H1,H acc=none->H1 acc=some (.lst ys)->ys.length=kvs.length->Pv acc kvs.length ys H1->Q (.ref acc) H1):qH te none (nM 0) (List.replicate 1 none) caps Q (VV a o kvs) H:=by
 intro acc hacc
 refine ⟨cW kvs.length acc (Pv acc),⟨kvs.length,by simp,zero_le _,rfl,aB,h0 acc hacc⟩,?_⟩
 rintro i m ys H1 ⟨rfl,hi,hl,ha,p⟩
 have q:=hl' acc i ys H1 hacc hi p
 refine ⟨ha,?_⟩
 by_cases hlt:i < kvs.length
 ·refine .inr ⟨eQ (by omega),⟨q,hlt⟩,fun us x H' hu y=>?_⟩
  obtain ⟨rfl,k,v,e,rfl⟩:=y
  obtain ⟨o,rfl⟩:=UB hu
  exact ⟨⟨[some (kV k)],rfl,rfl⟩,hs acc i ys _ k v hacc e hl ha p⟩
 ·have e:i=kvs.length:=by omega
  subst e
  exact .inl ⟨⟨q,le_refl _⟩,hd acc ys H1 hacc ha hl p⟩
end
noncomputable def kJ (a b:Addr) (H H':Hp):Prop:=∀ c o,c≠a->c≠b->H c=some o->H' c=some o
theorem kJ.refl {a b:Addr} (H:Hp):kJ a b H H:=fun _ _ _ _ h=>h
theorem kJ.trans {a b:Addr}{H H1 H2:Hp} (x:kJ a b H H1) (y:kJ a b H1 H2):kJ a b H H2:=fun c o h1 h2 h=>y c o h1 h2 (x c o h1 h2 h)
theorem aI.kp2 {a b:Addr}{H H':Hp} (s:aI H H'):kJ a b H H':=fun c o _ _ h=>s _ _ h
theorem kJ.l {a b:Addr}{H:Hp}{o:HO}:kJ a b H (upd H a o):=fun c u h1 _ h=>by rw [aJ h1]; exact h
theorem kJ.r {a b:Addr}{H:Hp}{o:HO}:kJ a b H (upd H b o):=fun c u _ h2 h=>by rw [aJ h2]; exact h
theorem kJ.tk {a b:Addr}{H H':Hp}{x y:List (aH×V)} (k:kJ a b H H') (ha:H a=some (.dK x)) (hb:H b=some (.dK y)):TK H H':=fun p xs h=>k p _ (cP h ha (by intro z; cases z)) (cP h hb (by intro z; cases z)) h
theorem kJ.lst {a b p:Addr}{H H':Hp}{x y:List (aH×V)}{xs:List V} (k:kJ a b H H') (ha:H a=some (.dK x)) (hb:H b=some (.dK y)) (h:H p=some (.lst xs)):H' p=some (.lst xs):=k p _ (cP h ha (by intro z; cases z)) (cP h hb (by intro z; cases z)) h
theorem kJ.same {a b:Addr}{H0 H H':Hp} (k:kJ a b H H') (s:aI H0 H) (ha:H0 a=none) (hb:H0 b=none):aI H0 H':=fun c o h=>k c o (aA h ha) (aA h hb) (s _ _ h)
structure tJ (H:Hp) (l:Addr) (net:List (eL aH)) (D M:Nat):Prop where
 lq:LQ xW H l net
 len:net.length<=120
 bd:∀ r∈net,Bd D M r.2.2
 pos:∀ r∈net,0 < r.2.2
structure KN (H:Hp) (l:Addr) (ps:List (aH×Rat)) (D M:Nat):Prop where
 lq:LQ LF H l ps
 len:ps.length<=100
 bd:∀ r∈ps,Bd D M r.2
structure FI (H:Hp) (v:V) (ts:List (aH×Rat)):Prop where
 lq:(v=.non/\ts=[])∨∃ l,v=.ref l/\LQ LF H l ts
 len:ts.length<=100
 sz:∀ r∈ts,Sz 8000 r.2
structure xX (D M:Nat):Prop where
 ne:D≠0
 d:D < 2 ^ 8000
 m:M * 1000 * D < 2 ^ 8000
theorem xX.sz {D M N:Nat}{q:Rat} (R:xX D M) (h:Bd D N q) (hn:N<=M * 1000):Sz 8000 q:=h.sz R.ne R.d (lt_of_le_of_lt (Nat.mul_le_mul_right _ hn) R.m)
theorem LQ.sm {β:Type}{R:Hp->V->β->Prop}{H H':Hp}{l:Addr}{ds:List β} (h:LQ R H l ds) (hR:∀ {H H' v b},R H v b->TK H H'->R H' v b) (s:aI H H'):LQ R H' l ds:=h.same (fun v b q=>hR q s.tk) s
theorem DQ.sm {β:Type}{R:Hp->V->β->Prop}{H H':Hp}{l:Addr}{ds:List (aH×β)} (h:DQ R H l ds) (hR:∀ {H H' v b},R H v b->TK H H'->R H' v b) (s:aI H H'):DQ R H' l ds:=let ⟨k,a,b⟩:=h; ⟨k,s _ _ a,b.imp fun v b q=>hR q s.tk⟩
theorem tJ.sm {H H':Hp}{l:Addr}{net:List (eL aH)}{D M:Nat} (h:tJ H l net D M) (s:aI H H'):tJ H' l net D M:=⟨h.lq.sm xW.tk s,h.len,h.bd,h.pos⟩
theorem KN.sm {H H':Hp}{l:Addr}{ps:List (aH×Rat)}{D M:Nat} (h:KN H l ps D M) (s:aI H H'):KN H' l ps D M:=⟨h.lq.sm LF.tk s,h.len,h.bd⟩
theorem FI.sm {H H':Hp}{v:V}{ts:List (aH×Rat)} (h:FI H v ts) (s:aI H H'):FI H' v ts:=⟨h.lq.imp id fun ⟨l,e,q⟩=>⟨l,e,q.sm LF.tk s⟩,h.len,h.sz⟩
theorem OP.k2 {H H':Hp}{d a b:Addr}{net:List (eL aH)}{x y:List (aH×V)} (h:OP H d net) (k:kJ a b H H') (ha:H a=some (.dK x)) (hb:H b=some (.dK y)) (h1:d≠a) (h2:d≠b):OP H' d net:=by
 obtain ⟨kvs,f,z1,z2,z3,z4,z5⟩:=h
 refine ⟨kvs,f,k _ _ h1 h2 z1,z2,z3,z4,fun p v e=>?_⟩
 obtain ⟨l,rfl,vs,q1,q2⟩:=z5 p v e
 exact ⟨l,rfl,vs,k.lst ha hb q1,Pd.imp q2 (AF.imp (k.tk ha hb))⟩
theorem OP.sm {H H':Hp}{d:Addr}{net:List (eL aH)} (h:OP H d net) (s:aI H H'):OP H' d net:=by
 obtain ⟨kvs,f,z1,z2,z3,z4,z5⟩:=h
 exact ⟨kvs,f,s _ _ z1,z2,z3,z4,fun p v e=>let ⟨l,a,q⟩:=z5 p v e; ⟨l,a,q.sm AF.tk s⟩⟩
section
variable {σ:St} {H:Hp} {Q:VK} {K:Frag}
theorem XC {vt:V}{ts:List (aH×Rat)} (h:FI H vt ts) (k:∀ lt H1,aI H H1->LQ LF H1 lt ts->Q (.ref lt) H1):∃ b,qL K vt H b/\if b=true then Q vt H else DC qQ σ H Q:=by
 have hn:ts=[]->DC qQ σ H Q:=fun e=>by
  subst e
  exact PP (PN (cL fun p hp=>k p _ (aI.new hp) ⟨[],aB,.nil⟩))
 rcases h.lq with ⟨rfl,e⟩|⟨l,rfl,q⟩
 ·exact RE (R:=fun b H=>if b=true then Q .non H else DC qQ σ H Q) (hn e)
 ·obtain ⟨vs,q1,q2⟩:=q
  refine RF (R:=fun b H=>if b=true then Q (.ref l) H else DC qQ σ H Q) q1 ?_
  cases q2 with
 |nil=>exact hn rfl
 |cons a b=>exact k l H (aI.refl _) ⟨_,q1,.cons a b⟩
theorem SL {d z:Addr}{c:aH}{net:List (eL aH)} (B:OP H d net) (hz:H z=some (.lst [])) (k:∀ l L,LQ AF H l L->L.length<=2 * net.length->(∀ j x,(j,x)∈L ↔ ∃ r,net[j]?=some r/\Jn r c x)->Q (.ref l) H):∃ o,mT H d (kV c) o/\Q (o.getD (.ref z)) H:=by
 obtain ⟨kvs,f,z1,z2,z3,z4,z5⟩:=B
 refine ⟨bA kvs c,.inl ⟨kvs,c,.inl z1,rfl,rfl⟩,?_⟩
 have mem:∀ j x,(j,x)∈f c ↔ ∃ r,net[j]?=some r/\Jn r c x:=fun j x=>by
  rw [z2 c j x]
  exact ⟨fun h=>h.2,fun h=>⟨let ⟨r,e,_⟩:=h; (List.getElem?_eq_some_iff.mp e).1,h⟩⟩
 cases e:bA kvs c with
|none=>exact k z (f c) (by rw [z4 c e]; exact ⟨[],hz,.nil⟩) (z3 c) mem
|some v =>
  obtain ⟨l,rfl,q⟩:=z5 c v e
  exact k l (f c) q (z3 c) mem
end
theorem zZ {β:Type}{m:AL aH β}{k:aH} (h:cE m k=none):k∉m.map (·.1):=fun z=>by
 obtain ⟨y,hy,rfl⟩:=mem_map.mp z
 exact nG h y.2 hy
theorem LL {K:Frag}{H:Hp}{p:Addr}{kvs:List (aH×V)}{A B:Prop} (h:H p=some (.dK kvs)) (k1:kvs≠[]->A) (k2:kvs=[]->B):∃ k,qL K (.ref p) H k/\if k=true then A else B:=by
 refine RG (R:=fun k _=>if k=true then A else B) h ?_
 cases kvs with
|nil=>exact k2 rfl
|cons a b=>exact k1 (by simp)
theorem iO.imp {net:List (eL aH)}{push:aH->Option Rat}{tk:Nat->Option Rat}{C C':aH->Nat->aH->Prop}{W F:AL aH (dX aH)} (I:iO net push tk C W F) (h:∀ q k x r,net[k]?=some r->Jn r q x->C' q k x->C q k x):iO net push tk C' W F:=
 ⟨I.ndW,I.ndF,I.dis,I.sup,I.ord,I.mono,I.psh,fun q e hq k r p h1 h2 h3 h4=>I.clo q e hq k r p h1 h2 (h q k p r h1 h2 h3) h4⟩
noncomputable def univ (net:List (eL aH)) (ps:List (aH×Rat)):List aH:=ps.map (·.1)++(net.map (·.1)++net.map (·.2.1))
theorem QY.univ {net:List (eL aH)}{ps:List (aH×Rat)}{tk:Nat->Option Rat}{F:AL aH (dX aH)}{p:aH}{e:dX aH} (h:QY net (cE (lst ps)) tk F p e):p∈univ net ps:=by
 obtain ⟨t,o⟩:=e
 cases o with
|none =>
  have:=oH (eK (show cE (lst ps) p=some t from h))
  exact mem_append_left _ (mem_map.mpr ⟨_,this,rfl⟩)
|some kq =>
  obtain ⟨r,e,h1,h2,_⟩:=h
  have hr:=mem_of_getElem? h1
  refine mem_append_right _ ?_
  rcases h2 with ⟨_,rfl⟩|⟨_,rfl⟩
  ·exact mem_append_right _ (mem_map.mpr ⟨r,hr,rfl⟩)
  ·exact mem_append_left _ (mem_map.mpr ⟨r,hr,rfl⟩)
theorem iO.lens {net:List (eL aH)}{ps:List (aH×Rat)}{tk:Nat->Option Rat}{C:aH->Nat->aH->Prop}{W F:AL aH (dX aH)} (I:iO net (cE (lst ps)) tk C W F):W.length<=ps.length+2 * net.length/\F.length<=ps.length+2 * net.length:=by
 have hu:(univ net ps).length=ps.length+2 * net.length:=by simp [univ]; omega
 rw [← hu]
 constructor
 ·have:=iZ (m:=univ net ps) I.ndW fun x hx=>by
   obtain ⟨y,hy,rfl⟩:=mem_map.mp hx
   exact (I.sup y.1 y.2 hy).univ
  rwa [length_map] at this
 ·have:=iZ (m:=univ net ps) I.ndF fun x hx=>by
   obtain ⟨y,hy,rfl⟩:=mem_map.mp hx
   obtain ⟨i,hi⟩:=List.getElem?_of_mem hy
   exact (I.ord i y.1 y.2 hi).univ
  rwa [length_map] at this
theorem pM {β:Type}{R:Hp->V->β->Prop}{H:Hp}:∀ {ys:List V}{m:List (aH×β)},Paired (fun v (x:aH×β)=>∃ a u,v=.ref a/\H a=some (.tup [kV x.1,u])/\R H u x.2) ys m->∃ kvs,mS H ys kvs/\KQ R H kvs m
|_,_,.nil=>⟨[],.nil,.nil⟩
|_,_,.cons (b:=b) r t=>by
  obtain ⟨a,u,rfl,h1,h2⟩:=r
  obtain ⟨kvs,p,q⟩:=pM t
  exact ⟨(b.1,u)::kvs,.cons ⟨a,rfl,h1⟩ p,.cons ⟨rfl,h2⟩ q⟩
theorem gH {X:Cx}{scope:Scope}{caps:List (Str×Addr)}{N:List Str}{C:Addr}{s0:Shared}{H0:Hp}{ex:List Addr}:KP (cM X scope caps N C s0 H0 ex) (pF X.K):=eI
noncomputable def Cu (ys:List Str):Prop:=sortedS ys=true
noncomputable abbrev mR:=Str×Str×Rat
noncomputable def kn (n:List mR):List (eL aH):=n.map fun r=>(Sum.inr r.1,Sum.inr r.2.1,r.2.2)
noncomputable def names (n:List mR):List Str:=n.map (·.1)++n.map (·.2.1)
theorem CA {n:List mR}{i:Nat}{r:eL aH} (h:(kn n)[i]?=some r):∃ s,n[i]?=some s/\r=(Sum.inr s.1,Sum.inr s.2.1,s.2.2):=by
 unfold kn at h
 rw [List.getElem?_map] at h
 cases e:n[i]? with
|none=>rw [e] at h; cases h
|some s=>rw [e] at h; exact ⟨s,rfl,(Option.some.inj h).symm⟩
noncomputable def rB (H:Hp) (v:V) (o:Option Rat):Prop:=match o with|none=>v=.non|some q=>lM H v q
theorem rB.tk {H H':Hp}{v:V}{o:Option Rat} (h:rB H v o) (t:TK H H'):rB H' v o:=by
 cases o with
|none=>exact h
|some q=>exact lM.tk h t
theorem NJ {t b:Int} (hb:b≠0):(Rat.divInt t b).num=eO t b/\((Rat.divInt t b).den:Int)=eA t b:=GW hb (pU hb) (BX hb) (sK hb)
section
variable {σ:St} {H:Hp} {Q:VK} {K:Frag}
theorem PQ {z:Str}{i:Int}{c:Nat} (hz:z.length<=100000) (e:sZ z.cps.toList i=some c) (k:Q (.str ⟨#[c]⟩) H):pF K (.str z) (.int i) H Q:=.inr (.inr ⟨z,i,c,rfl,rfl,by rw [sizeLine_eq]; omega,e,k⟩)
end
noncomputable abbrev sA:Str:=Str.ofString "a"
noncomputable abbrev sB:Str:=Str.ofString "b"
noncomputable def n0:List mR:=[(sA,sB,Rat.divInt 1 2)]
noncomputable def Am:List (aH×Rat):=[(Sum.inr sB,Rat.divInt 1 3)]
theorem MB {H:Hp}{Q:VK} (k:Q (.int 1000000000000) H):rI VM (fun i j=>.int (i ^ j.toNat)) (.int 10) (.int 12) H Q:=VP ⟨by decide,by decide,by decide⟩ k
end
end L2
namespace L2
open PySem PySem.Spec PySem.W PySem.Calls PyProof.Rows PySem.Builtin PySem.Builtin.ObjectAttr PySem.Builtin.Getset_descriptor
structure Cb (K:Frag) (C:Addr):Prop where
 ga:findIn K (.ref C) "__getattribute__"=some (some (.builtin "BaseException.__getattribute__"))
 gt:findIn K (.ref C) "__getattr__"=some none
 ca:findIn K (.ref C) "__class__"=some (some (.builtin "object.__class__"))
 ob:subIn K (.ref C) (.type "object")=some true
 be:subIn K (.ref C) (.type "BaseException")=some true
 ic:(clsIn K C).isSome=true
section
variable {prog:Program} {w:World} {A:Around} {E:Value -> Shared -> Prop} {s:Shared} {K:Frag} {x C:Addr}
end
end L2
namespace L2
open PySem PySem.Spec PyProof.Rows
section
structure lP (fs xs:List Addr) (h h':Heap):Prop where
 keep:∀ b o,h.get? b=some o->b∉fs->b∉xs->h'.get? b=some o
 slot:∀ b o,h.get? b=some o->b∈fs->b∉xs->∃ sl,h'.get? b=some { o with slots:=sl }
section
variable {fs fs' xs xs':List Addr} {h h0 h1 h2 h':Heap} {H H':Hp} {P:Program} {w:World}
theorem lP.there (k:lP fs xs h h') {b:Addr}{o:Obj} (e:h.get? b=some o) (n:b∉xs):∃ sl,h'.get? b=some { o with slots:=sl }:=by
 by_cases hb:b∈fs
 ·exact k.slot b o e hb n
 ·exact ⟨o.slots,k.keep b o e hb n⟩
theorem lP.mv {L:Addr} (k:lP (L::fs) xs h h'):lP fs (L::xs) h h' where
 keep:=fun b o e n m=>k.keep b o e (fun z=>(mem_cons.mp z).elim (fun q=>m (q ▸ mem_cons_self)) n) fun z=>m (mem_cons_of_mem _ z)
 slot:=fun b o e n m=>k.slot b o e (mem_cons_of_mem _ n) fun z=>m (mem_cons_of_mem _ z)
theorem cF.at {a:Addr}{o:HO} (x:cF P w H h a o):∃ ob,h.get? a=some ob:=by
 cases o with
|lst xs=>obtain ⟨_,_,_,_,e⟩:=x; exact ⟨_,e⟩
|tup xs=>obtain ⟨_,_,_,⟨o,e,_⟩⟩:=x; exact ⟨_,e⟩
|dK kvs=>obtain ⟨_,_,_,_,o,_,_,e,_⟩:=x; exact ⟨_,e⟩
|dT kvs=>obtain ⟨_,_,_,_,o,_,_,e,_⟩:=x; exact ⟨_,e⟩
|set S n=>obtain ⟨o,_,_,_,e,_⟩:=x; exact ⟨_,e⟩
|ins C dx fs=>obtain ⟨_,_,_,e,_⟩:=x; exact ⟨_,e⟩
|own y=>obtain ⟨_,e⟩:=x; exact ⟨_,e⟩
|xd fs=>obtain ⟨_,⟨_,_,_,e,_⟩,_⟩:=x; exact ⟨_,e⟩
|rng lo hi=>obtain ⟨_,_,_,e⟩:=x; exact ⟨_,e⟩
|frz ob u=>obtain ⟨e,_⟩:=x; exact ⟨_,e⟩
|tbl ps=>exact ⟨_,(show h.get? a=some _ from x)⟩
|met f y=>exact ⟨_,(show h.get? a=some _ from x)⟩
|ext φ=>obtain ⟨_,⟨_,e⟩,_⟩:=x; exact ⟨_,e⟩
theorem jK.none_of (x:jK P w H h) {a:Addr} (e:h.get? a=none):H a=none:=by
 cases q:H a with
|none=>rfl
|some o =>
  obtain ⟨ob,z⟩:=(x a o q).at
  rw [e] at z; cases z
theorem jK.kpt (ok:jK P w H h) (k:lP fs xs h h') (hf:∀ b∈fs,H b=none) (hx:∀ b∈xs,H b=none):jK P w H h':=fun a o e=>by
 have key:∀ b u,H b=some u->b∉fs/\b∉xs:=fun b u q=>⟨fun z=>(by rw [hf b z] at q; cases q),fun z=>(by rw [hx b z] at q; cases q)⟩
 refine (ok a o e).stay (fun b u hb q=>?_) (fun _ q=>q) fun _ _ q=>q
 rcases hb with rfl|hb
 ·exact k.keep b u q (key b o e).1 (key b o e).2
 ·exact k.keep b u q (key b _ hb).1 (key b _ hb).2
theorem Un.kpt (u:Un fs [] H H' h0 h) (k:lP fs xs h h') (hx:∀ b∈xs,h0.get? b=none):Un fs [] H H' h0 h':=by
 have nx:∀ b o,h0.get? b=some o->b∉xs:=fun b o e z=>by rw [hx b z] at e; cases e
 refine ⟨fun b o e n hb he=>k.keep b o (u.keep b o e n hb he) hb (nx b o e),fun b o e n hb he=>?_,u.free,fun b o e he=>?_,u.tups,u.frzs,u.tbls⟩
 ·obtain ⟨sl,q⟩:=u.slot b o e n hb he
  obtain ⟨sl',q'⟩:=k.slot b _ q hb (nx b o e)
  exact ⟨sl',q'⟩
 ·obtain ⟨o',q⟩:=u.there b o e he
  obtain ⟨sl,q'⟩:=k.there q (nx b o e)
  exact ⟨_,q'⟩
theorem Un.was (u:Un fs [] H H' h h') {a:Addr} (e:h'.get? a=none):h.get? a=none:=by
 cases q:h.get? a with
|none=>rfl
|some o =>
  obtain ⟨o',z⟩:=u.there a o q (by simp)
  rw [e] at z; cases z
end
noncomputable def KR (x T C:Addr) (fl:Value) (h:Heap):Prop:=∃ oe vs oT ts,h.get? x=some oe/\oe.cls=.ref C/\oe.data=.fields vs/\vs[1]?=some (.ref T)/\vs[2]?=some .none/\T≠x/\h.get? T=some oT/\oT.data=.fields ts/\ts[3]?=some fl
noncomputable abbrev VX (x T C:Addr) (h:Heap):Prop:=KR x T C .none h
theorem lP.refl {fs xs:List Addr}{h:Heap}:lP fs xs h h:=⟨fun _ _ e _ _=>e,fun _ o e _ _=>⟨o.slots,e⟩⟩
theorem lP.upd {fs xs:List Addr}{h h1:Heap}{a:Addr} (k:lP fs xs h h1) (f:Obj->Obj) (ha:a∈xs∨h.get? a=none):lP fs xs h (h1.update a f):=by
 have na:∀ b o,h.get? b=some o->b∉xs->a≠b:=fun b o e n z=>by
  rcases ha with q|q
  ·exact n (z ▸ q)
  ·rw [z,e] at q; cases q
 exact ⟨fun b o e n m=>(get?_update_other _ _ (na b o e m)).trans (k.keep b o e n m),fun b o e n m=>(k.slot b o e n m).imp fun sl q=>(get?_update_other _ _ (na b o e m)).trans q⟩
theorem lP.push {fs xs:List Addr}{h h1:Heap} (k:lP fs xs h h1) (o:Obj):lP fs xs h (h1.push o):=
 ⟨fun b u e n m=>get?_push_of_some _ (k.keep b u e n m),fun b u e n m=>(k.slot b u e n m).imp fun sl q=>get?_push_of_some _ q⟩
section
variable {M:Model} {A:Around} {E:Value -> Shared -> Prop} {s:Shared} {base:Heap} {env:Env} {outer l:List Env} {L x T C:Addr} {Q:Unit -> Shared -> Prop}
noncomputable def NF (env:Env) (L x:Addr) (head:Value) (b:Bool):Sem Unit:=frameOf env >>= fun a=>entryPlaceOf L b >>= fun pl=>EntryCells.newEntry head a .none (rawInt L) .none pl >>= fun v=>setField (.ref x) 1 v
theorem xK {oe:Obj}{vs:Array Value}{head:Value}{b:Bool} (hfr:A.frames=some (env::outer)) (hf:env.frame=some L) (hl:s.heap.FunFrames base (env::outer)) (he:s.heap.get? x=some oe) (hc:oe.cls=.ref C) (hd:oe.data=.fields vs)
  (h1:1 < vs.size) (h2:vs[2]?=some .none) (k:∀ h' T',KR x T' C (rawInt L) h'->s.heap.get? T'=none->lP (nN (env::outer)) [x] s.heap h'->Q () { s with heap:=h' }):wpAny M A (NF env L x head b) Q E s:=by
 have nfr:x∉nN (env::outer):=fun hm=>by
  obtain ⟨_,o,ho,hn⟩:=hl.mem hm
  rw [he] at ho; cases ho
  exact hn vs hd
 refine wpAny_bind (wpAny_frameOf_fun hfr hl hf fun g hg=>wpAny_bind (wpAny_entryPlaceOf fun pl hpl=>wpAny_bind ?_))
 unfold EntryCells.newEntry newFields
 refine wpAny_newObj_type ?_ (hpl.sizeOk5 _ _ _ _ _)
 generalize hts:([head,Value.ref L,Value.none,rawInt L,Value.none]++(if pl.isEmpty then List.replicate 6 Value.none else pl)).toArray=ts
 have e1:g.get? x=some oe:=(hg.2.1 x nfr).trans he
 have nT:g.objs.size≠x:=ne_of_gt (lt_size e1)
 have e2:=get?_push_of_some (h:=g) { cls:=.type "traceback",dict:=none,data:=.fields ts } e1
 refine wpAny_setField e2 hd h1 (k _ g.objs.size ?_ ?_ ?_)
 ·have d3:=Obj.data_mapFields hd (·.setIfInBounds 1 (Value.ref g.objs.size))
  refine ⟨_,_,_,ts,get?_update_self _ e2 (Obj.isFreed_of_fields d3),(Obj.cls_mapFields _ _).trans hc,d3,by simp [h1],?_,nT,(get?_update_other _ _ (Ne.symm nT)).trans (get?_push_size g rfl),rfl,by rw [← hts]; simp⟩
  rw [Array.getElem?_setIfInBounds_ne (by decide)]; exact h2
 ·exact get?_none_of_le (le_of_eq hg.1.symm)
 ·refine lP.upd (lP.push ⟨fun b o e n m=>(hg.2.1 b n).trans e,fun b o e n m=>hg.2.2 b o e⟩ _) _ (.inl (by simp))
theorem CH {fl:Value}{h0:Heap}{fs:List Addr} (f:KR x T C fl s.heap) (k0:lP fs [x,T] h0 s.heap∨(lP fs [x] h0 s.heap/\h0.get? T=none))
  (k:∀ h',VX x T C h'->(lP fs [x,T] h0 h')->(h0.get? T=none->lP fs [x] h0 s.heap->lP fs [x] h0 h')->Q () { s with heap:=h' }):wpAny M A (setFlight (.ref x) none) Q E s:=by
 obtain ⟨oe,vs,oT,ts,e1,e2,e3,e4,e5,e6,e7,e8,e9⟩:=f
 have sz:3 < ts.size:=(Array.getElem?_eq_some_iff.mp e9).1
 unfold setFlight
 refine wpAny_bind (wpAny_field e1 e3 e4 ?_)
 rw [if_pos (by simp)]
 have d3:=Obj.data_mapFields e8 (·.setIfInBounds 3 ((none:Option Addr).elim Value.none fun f=>rawInt f))
 refine wpAny_setField e7 e8 sz (k _ ⟨oe,vs,_,_,(get?_update_other _ _ e6).trans e1,e2,e3,e4,e5,e6,get?_update_self _ e7 (Obj.isFreed_of_fields d3),d3,by simp [sz]⟩ ?_ fun q z=>z.upd _ (.inr q))
 rcases k0 with z|⟨z,q⟩
 ·exact z.upd _ (.inl (by simp))
 ·exact lP.upd ⟨fun b o e n m=>z.keep b o e n fun y=>m (by simp at y; simp [y]),fun b o e n m=>z.slot b o e n fun y=>m (by simp at y; simp [y])⟩ _ (.inl (by simp))
theorem JM {oe:Obj}{vs:Array Value} (hfr:A.frames=some (env::outer)) (hf:env.frame=some L) (hl:s.heap.FunFrames base (env::outer)) (he:s.heap.get? x=some oe) (hc:oe.cls=.ref C) (hd:oe.data=.fields vs)
  (h1:vs[1]?=some .none) (h2:vs[2]?=some .none) (k:∀ h' T',KR x T' C (rawInt L) h'->s.heap.get? T'=none->lP (nN (env::outer)) [x] s.heap h'->Q () { s with heap:=h' }):wpAny M A (noteFrame (.ref x) env) Q E s:=by
 unfold noteFrame
 simp only [hf]
 refine wpAny_bind (wpAny_field he hd h1 ?_)
 rw [if_neg (by decide)]
 exact xK hfr hf hl he hc hd (Array.getElem?_eq_some_iff.mp h1).1 h2 k
theorem JL (hfr:A.frames=some (env::outer)) (hf:env.frame=some L) (hl:s.heap.FunFrames base (env::outer)) (f:VX x T C s.heap)
  (k:∀ h' T',KR x T' C (rawInt L) h'->s.heap.get? T'=none->lP (nN (env::outer)) [x,T] s.heap h'->Q () { s with heap:=h' }):wpAny M A (noteFrame (.ref x) env) Q E s:=by
 obtain ⟨oe,vs,oT,ts,e1,e2,e3,e4,e5,e6,e7,e8,e9⟩:=f
 unfold noteFrame
 simp only [hf]
 refine wpAny_bind (wpAny_field e1 e3 e4 ?_)
 rw [if_pos (by simp)]
 refine wpAny_bind (wpAny_field e7 e8 e9 ?_)
 rw [if_neg (by simp [rawInt])]
 refine wpAny_bind (wpAny_setField e7 e8 (Array.getElem?_eq_some_iff.mp e9).1 ?_)
 have oth:∀ b,b≠T->(s.heap.update T (Obj.mapFields (·.setIfInBounds 3 Value.none))).get? b=s.heap.get? b:=fun b hb=>get?_update_other _ _ (Ne.symm hb)
 have hl':(s.heap.update T (Obj.mapFields (·.setIfInBounds 3 Value.none))).FunFrames base (env::outer):=hl.of_keeps fun b o hb hn=>⟨o,(oth b fun z=>by rw [z,e7] at hb; cases hb; exact hn ts e8).trans hb,rfl⟩
 refine xK (s:={ s with heap:=s.heap.update T (Obj.mapFields (·.setIfInBounds 3 Value.none)) }) hfr hf hl' ((oth x (Ne.symm e6)).trans e1) e2 e3 (Array.getElem?_eq_some_iff.mp e4).1 e5 fun h' T' f' n' k'=>k h' T' f' ?_ ?_
 ·cases z:s.heap.get? T' with
 |none=>rfl
 |some o =>
   exfalso
   by_cases q:T'=T
   ·have d3:=Obj.data_mapFields e8 (·.setIfInBounds 3 Value.none)
    have:=get?_update_self (Obj.mapFields (·.setIfInBounds 3 Value.none)) e7 (Obj.isFreed_of_fields d3)
    rw [← q,show Heap.get? (s.heap.update T' _) T'=none from q ▸ n'] at this; cases this
   ·have:=(oth T' q).trans z
    rw [show Heap.get? (s.heap.update T _) T'=none from n'] at this; cases this
 ·refine ⟨fun b o e n m=>k'.keep b o ((oth b fun z=>m (by simp [z])).trans e) n fun y=>m (by simp at y; simp [y]),fun b o e n m=>k'.slot b o ((oth b fun z=>m (by simp [z])).trans e) n fun y=>m (by simp at y; simp [y])⟩
theorem EQ (hfr:A.frames=some (env::outer)) (hf:env.frame=some L) (hl:s.heap.FunFrames base (env::outer)) (f:VX x T C s.heap)
  (k:∀ h' T',VX x T' C h'->(T'=T∨s.heap.get? T'=none)->lP (nN (env::outer)) [x,T] s.heap h'->Q () { s with heap:=h' }):wpAny M A (leaving env (.ref x)) Q E s:=by
 unfold leaving
 refine wpAny_bind (JL hfr hf hl f fun h1 T1 f1 n1 k1=>?_)
 refine CH (s:={ s with heap:=h1 }) (h0:=h1) (fs:=[]) f1 (.inl .refl) fun h2 f2 k2 _=>k h2 T1 f2 (.inr n1) ?_
 have nT:∀ b o,s.heap.get? b=some o->b∉[x,T]->b∉[x,T1]:=fun b o e m z=>by
  rcases mem_cons.mp z with z|z
  ·exact m (by simp [z])
  ·rw [mem_singleton.mp z,n1] at e; cases e
 exact ⟨fun b o e n m=>k2.keep b o (k1.keep b o e n m) (by simp) (nT b o e m),fun b o e n m=>(k1.slot b o e n m).imp fun sl q=>k2.keep b _ q (by simp) (nT b o e m)⟩
theorem ER {oe:Obj}{vs:Array Value} (hfr:A.frames=some (env::outer)) (hf:env.frame=some L) (hl:s.heap.FunFrames base (env::outer)) (he:s.heap.get? x=some oe) (hc:oe.cls=.ref C) (hd:oe.data=.fields vs)
  (h1:vs[1]?=some .none) (h2:vs[2]?=some .none)
  (k:∀ h' T',VX x T' C h'->s.heap.get? T'=none->lP (nN (env::outer)) [x] s.heap h'->Q () { s with heap:=h' }):wpAny M A (leaving env (.ref x)) Q E s:=by
 unfold leaving
 refine wpAny_bind (JM hfr hf hl he hc hd h1 h2 fun g T1 f1 n1 k1=>?_)
 exact CH (s:={ s with heap:=g }) f1 (.inr ⟨k1,n1⟩) fun h2 f2 _ k2=>k h2 T1 f2 n1 (k2 n1 k1)
end
end
section
noncomputable def KS (P:Program) (w:World):FK:=fun outer H s E e s'=>∃ x T C H',e=Value.ref x/\s'.os=s.os/\AllBare s'.gens/\Un (nN outer) [] H H' s.heap s'.heap/\jK P w H' s'.heap /\
 s.heap.get? x=none/\s.heap.get? T=none/\H' x=none/\H' T=none/\VX x T C s'.heap/\E (.ref C) none H'
section
variable {P:Program} {w:World} {K:Frag} {mg:Str -> Option Value} {base:Heap} {N:List Str} {qual:Str} {scope:Scope} {f:Addr} {cd:Value} {A:Around} {outer:List Env} {s:Shared} {H:Hp} {E:XK}
theorem yA {pins:List (Addr×Obj)}{σ:St}{H1:Hp}{s1:Shared}{h':Heap}{x C:Addr}{args:List Value} (I:aN (mQ (KS P w) P w K mg base N qual scope f cd A outer s H E) pins σ H1 s1)
  (m:Heap.MadeExcOf s1.heap h' x (.ref C) args) (q:E (.ref C) none H1):(mQ (KS P w) P w K mg base N qual scope f cd A outer s H E).xe (.ref x) { s1 with heap:=h' }:=by
 obtain ⟨t,he,htn,ht⟩:=m.there
 have fr:=I.stack
 refine ER (s:={ s1 with heap:=h' }) I.ok.frames rfl (fr.of_keeps fun b o z _=>⟨o,m.keeps b o z,rfl⟩) he rfl rfl rfl rfl fun h2 T fl n k=>?_
 have k':lP (s.heap.objs.size::nN outer) [x] h' h2:=k
 have u:Un (nN outer) [] H H1 s.heap s1.heap:=I.base
 have hn:∀ b,s1.heap.get? b=none->s.heap.get? b=none:=fun b z=>u.was z
 have hT:s1.heap.get? T=none:=by
  cases z:s1.heap.get? T with
 |none=>rfl
 |some o =>
   have:=m.keeps T o z
   rw [show h'.get? T=none from n] at this; cases this
 refine ⟨x,T,C,H1,rfl,I.os,I.bare,((u.trans (Un.kept m.keeps)).kpt k'.mv fun b hb=>?_),(I.hok.kept m.keeps).kpt k' (fun b hb=>I.stkFree b hb) (fun b hb=>?_),hn x m.new,hn T hT,I.hok.none_of m.new,I.hok.none_of hT,fl,q⟩
 ·rcases mem_cons.mp hb with z|z
  ·rw [z]; exact get?_none_of_le (le_refl _)
  ·rw [mem_singleton.mp z]; exact hn x m.new
 ·rw [mem_singleton.mp hb]; exact I.hok.none_of m.new
theorem YU:lJ (KS P w) (mQ (KS P w) P w K mg base N qual scope f cd A outer s H E) E:=by
 intro pins σ H1 s1 e s2 I hx
 obtain ⟨x,T,C,H',rfl,ho,hg,un,hok,nx,nT,hx,hT,fl,q⟩:=hx
 have I2:=I.call' (ch:=[]) ho un hok hg (fun b z=>absurd z (by simp))
 have u1:Un (nN outer) [] H H1 s.heap s1.heap:=I.base
 have u2:Un (nN outer) [] H H' s.heap s2.heap:=I2.base
 refine EQ I2.ok.frames rfl I2.stack fl fun h2 T2 fl2 n2 k=>?_
 have k':lP (s.heap.objs.size::nN outer) [x,T] s2.heap h2:=k
 have hT2:s.heap.get? T2=none/\H' T2=none:=by
  rcases n2 with z|z
  ·rw [z]; exact ⟨u1.was nT,hT⟩
  ·exact ⟨u2.was z,hok.none_of z⟩
 refine ⟨x,T2,C,H',rfl,I2.os,I2.bare,u2.kpt k'.mv fun b hb=>?_,hok.kpt k' (fun b hb=>I2.stkFree b hb) (fun b hb=>?_),u1.was nx,hT2.1,hx,hT2.2,fl2,q⟩
 ·rcases mem_cons.mp hb with z|z
  ·rw [z]; exact get?_none_of_le (le_refl _)
  ·rcases mem_cons.mp z with z|z
   ·rw [z]; exact u1.was nx
   ·rw [mem_singleton.mp z]; exact u1.was nT
 ·rcases mem_cons.mp hb with z|z
  ·rw [z]; exact hx
  ·rw [mem_singleton.mp z]; exact hT
theorem QG {X:Cx}:lJ (KS P w) X E0:=fun _ _ _ _ _ _ _ h=>by
 obtain ⟨_,_,_,_,_,_,_,_,_,_,_,_,_,_,q⟩:=h
 exact q.elim
end
def xS:List Value:=[.type "ValueError",.type "Exception",.type "BaseException",.type "object"]
theorem NT {K:Frag}{h:Heap}{C:Addr}{bmB:List Value}{newId:String} (X:K.In h) (q:excIn K C bmB newId=true) :
  ∃ nm qn N bs bm hdct sn sub ab col dd k0 k1 k2 k3 k5 mN,h.get? C=some (excClassObj nm qn C N bs bm hdct sn sub ab col dd k0 k1 k2 k3 k5 newId)/\h.Ns N mN/\mN "__init__"=none/\OwnTail h bmB bm:=by
 unfold excIn at q
 split at q
 case h_2=>cases q
 rename_i dd cd sl ho
 split at q
 case h_2=>cases q
 rename_i C' bm k0 k1 k2 k3 n k5 hm hs
 simp only [Bool.and_eq_true,beq_iff_eq,Bool.not_eq_true'] at q
 obtain ⟨⟨⟨⟨⟨q1,q2⟩,q3⟩,q4⟩,q5⟩,q6⟩:=q
 subst q1 q2
 obtain ⟨c1,c2,c3,c4,c5,c6,c7,c8,c9,c10,c11⟩:=cd
 dsimp only at hm q3 q5 q6
 subst hm q3
 obtain ⟨l⟩:=sl
 have e:l=[k0,k1,k2,k3,some (.builtin n),k5]:=hs
 subst e
 exact ⟨_,_,_,_,_,_,_,_,_,_,_,_,_,_,_,_,_,X C' _ ho,.of_isNs (PySem.W.isNs_of_in X q5),PySem.W.nsMap_none_of_in X q5 q6,PySem.W.tail_of_in X q4⟩
noncomputable def yG (C:Addr) (E:XK) (t:TA):TS:=fun _ σ H=>t σ H fun vs H1=>vs.length<=sizeLine/\E (.ref C) none H1
theorem MA {C:Addr}{E:XK}{t:TA}{D:dC}{σ:St}{H:Hp} (k:t σ H fun vs H1=>vs.length<=sizeLine/\E (.ref C) none H1):yG C E t D σ H:=k
noncomputable def KM (X:Cx) (E:XK):Prop:=∀ (pins:List (Addr×Obj)) (σ:St) (H1:Hp) (s1:Shared) (h':Heap) (x C:Addr) (args:List Value),aN X pins σ H1 s1->Heap.MadeExcOf s1.heap h' x (.ref C) args->E (.ref C) none H1->X.xe (.ref x) { s1 with heap:=h' }
theorem HQ {X:Cx}{E:XK}{C:Addr}{n:Str}{newId Bn inN:String}{bmN:List Value}{e:Expr}{es:List Expr}{t:TA}{np cpos pos:Pos} (hr:KM X E) (hc:X.calm=true) (hg:Gl X n) (hm:X.mg n=some (.ref C))
  (hx:excIn X.K C xS newId=true) (Fn:ExcBaseFacts Bn newId inN bmN) (hBn:xS.contains (.type Bn)=true) (ha:PA X (e::es) t)
  (hd:(n==("__debug__":Str))=false:=by decide) (he:starEach (e::es) X.env=(false,eval e X.env)::starEach es X.env:=by rfl) (hpl:(backTo cpos (starEach es X.env)).any (·.1)=false:=by rfl) :
  PS X (.Raise (some (.Call (.Name n np) (e::es) [] cpos)) none pos) (yG C E t):=by
 intro pins s σ H D I h
 obtain ⟨nm,qn,N,bs,bm,hdct,sn,sub,ab,col,dd,k0,k1,k2,k3,k5,mN,hC,hN,hni,T0⟩:=NT I.mod.kin hx
 have hpl':(backTo cpos (starEach (e::es) X.env)).any (·.1)=false:=by rw [he]; exact hpl
 refine wpAny_Raise_call_subU (C:=C) (nm:=nm) (q:=qn) (N:=N) (bs:=bs) (hdct:=hdct) (sn:=sn) (sub:=sub) (ab:=ab) (col:=col) (dd:=dd) (k0:=k0) (k1:=k1) (k2:=k2) (k3:=k3) (k5:=k5)
  Fn hBn F.excBase_ValueError (T0.hasType (by decide)) (I.ok.hd hc) hpl' hni (mN:=mN) (uV I hg hm ⟨rfl,?_⟩ hd)
 have hs:=ha cpos pins s σ H _ I h
 rw [he] at hs ⊢
 refine Calls.evalArgs_plain (cA hs fun us s1 ⟨vs,H1,I1,r,q1,q2⟩=>?_)
 exact ⟨rfl,by rw [← r.length]; exact q1,I1.bk C _ hC,hN.keeps I1.bk,T0.keeps I1.bk,fun h' x m=>hr pins σ H1 s1 h' x C us I1 m q2⟩
end
section
structure qN (P:Program) (w:World) (K:Frag) (mg:Str->Option Value) (base:Heap) (k:Nat) (x:Str) (ps:List Str) (dvs:List V) (sp:Sp):Prop where
 ex:∃ (f:Addr) (fd:FuncData),mg x=some (.ref f)/\keepIn K (.ref f)=true/\fM K fd ps []/\(∃ ds,aQ dvs ds/\fM K fd ps ds)/\kL P w K mg base (KS P w) k f fd ps sp
section
variable {P:Program} {w:World} {K:Frag} {mg:Str -> Option Value} {base:Heap} {j k:Nat} {x:Str} {st:Stmt} {N ps:List Str} {dvs:List V} {sp:Sp}
theorem qN.mono (o:qN P w K mg base j x ps dvs sp) (h:j<=k):qN P w K mg base k x ps dvs sp:=
 let ⟨f,fd,a,b,c,e,d⟩:=o.ex; ⟨f,fd,a,b,c,e,d.mono h⟩
theorem qN.of (d:Df K mg x st ps) (S:aO N ps (aD st)) (len:∀ vs H Q E,sp vs H Q E->vs.length=ps.length)
  (hbody:∀ (f:Addr) (cdv:Value) (A:Around) (outer:List Env) (s:Shared) (H:Hp) (vs:List V) (Q:VK) (E:XK),eP k (A.deeper (envOfC x (aD st) s.heap.objs.size f cdv))->sp vs H Q E ->
   ∃ t,tI (mQ (KS P w) P w K mg base N x (aD st) f cdv A outer s H E) (aR st) t/\t { nx:=fun _ H'=>Q .non H',rt:=Q } (start N vs) H):qN P w K mg base (k+1) x ps [] sp:=by
 obtain ⟨f,fd,⟨oc,od,dV,kV,doc,pm,an,cdv,ct,osl,rfl,lk,hcd⟩,kp,a,b⟩:=d.ex
 exact ⟨f,_,a,kp,b,⟨[],.nil,b⟩,sQ lk hcd S len fun A outer s H vs Q E hr hsp=>hbody f cdv A outer s H vs Q E hr hsp⟩
end
section
variable {X:Cx} {k:Nat} {x:Str} {ps:List Str} {dvs:List V} {sp:Sp} {p pos:Pos} {e:Expr} {es:List Expr} {t:TA} {E:XK}
theorem wM (o:qN X.prog X.w X.K X.mg X.base k x ps dvs sp) (hr:eP k X.A) (hg:Gl X x) (hx:lJ (KS X.prog X.w) X E) (ha:PA X (e::es) t) (hdb:(x==("__debug__":Str))=false:=by decide)
  (he:starEach (e::es) X.env=(false,eval e X.env)::starEach es X.env:=by rfl) (hpl:(backTo pos (starEach es X.env)).any (·.1)=false:=by rfl) :
  PE X (.Call (.Name x p) (e::es) [] pos) (rF sp [] E t):=by
 obtain ⟨f,fd,a,b,c,_,d⟩:=o.ex
 exact uN d hr hg a b c .nil hx ha hdb he hpl
theorem DR (o:qN X.prog X.w X.K X.mg X.base k x ps dvs sp) (hr:eP k X.A) (hg:Gl X x) (hx:lJ (KS X.prog X.w) X E) (ha:PA X (e::es) t) (hdb:(x==("__debug__":Str))=false:=by decide)
  (he:starEach (e::es) X.env=(false,eval e X.env)::starEach es X.env:=by rfl) (hpl:(backTo pos (starEach es X.env)).any (·.1)=false:=by rfl) :
  PE X (.Call (.Name x p) (e::es) [] pos) (rF sp dvs E t):=by
 obtain ⟨f,fd,a,b,_,⟨ds,hv,c⟩,d⟩:=o.ex
 exact uN d hr hg a b c hv hx ha hdb he hpl
end
theorem PS.nox {X:Cx}{st:Stmt}{t:TS} (h:PS X.nox st t):PS X st t:=fun pins s σ H D I hw =>
 wpAny_mono (h pins s σ H D (I.wish _) hw) (fun _ _ q=>q.unwish) fun _ _ z=>False.elim z
noncomputable abbrev Cs:=St->Hp->VK->XK->Prop
section
variable {X:Cx} {k:Nat} {f:Addr} {fd:FuncData} {x:Str} {ps:List Str} {dvs:List V} {ds:List Value} {sp:Sp} {p pos:Pos} {e:Expr} {es:List Expr} {t:TA} {E:XK}
end
end
section
section
variable {X:Cx} {e:Expr} {te:Cs} {pos:Pos}
end
section
variable {X:Cx} {pins:List (Addr×Obj)} {σ:St} {H:Hp} {s:Shared} {x:Addr}
end
section
variable {X:Cx}
end
end
section
section
variable {X:Cx} {e:Expr} {te:Cs} {pos:Pos}
end
section
variable {X:Cx}
end
end
section
section
variable {prog:Program} {w:World} {A:Around} {E:Value -> Shared -> Prop} {s:Shared}
end
section
variable {X:Cx} {tg:Expr} {y:Addr}
variable {scope:Scope} {tn names:List Str} {is:List Nat} {elt iter:Expr} {ifs:List Expr} {pos:Pos} {wi:TI} {te:TE} {tc:Option TT} {g:TG}
end
section
variable {te:TE} {Q:VK} {H:Hp} {caps:St} {y:Addr}
end
section
variable {X:Cx} {k:Nat} {x:Str} {ps:List Str} {sp:Addr -> Sp} {p pos:Pos} {e:Expr} {es:List Expr} {t:TA} {y:Addr}
end
end
section
noncomputable def Aq (K:Frag) (C:Addr):Prop:=∃ (newId Bn inN:String) (bmN:List Value),excIn K C xS newId=true/\ExcBaseFacts Bn newId inN bmN/\xS.contains (.type Bn)=true
theorem Aq.ve {K:Frag}{C:Addr} (h:excIn K C xS "ValueError.__new__"=true):Aq K C:=⟨_,_,_,_,h,F.excBase_ValueError,by decide⟩
section
variable {X:Cx}
theorem nD {E:XK}{C:Addr}{n:Str}{e:Expr}{es:List Expr}{t:TA}{np cpos pos:Pos} (hr:KM X E) (hc:X.calm=true) (hg:Gl X n) (hm:X.mg n=some (.ref C)) (hx:Aq X.K C) (ha:PA X (e::es) t)
  (hd:(n==("__debug__":Str))=false:=by decide) (he:starEach (e::es) X.env=(false,eval e X.env)::starEach es X.env:=by rfl) (hpl:(backTo cpos (starEach es X.env)).any (·.1)=false:=by rfl) :
  PS X (.Raise (some (.Call (.Name n np) (e::es) [] cpos)) none pos) (yG C E t):=by
 obtain ⟨newId,Bn,inN,bmN,h1,h2,h3⟩:=hx
 exact HQ hr hc hg hm h1 h2 h3 ha hd he hpl
end
section
variable {K:Frag} {σ:St} {H:Hp} {Q:VK} {D:dC} {E:XK}
end
end
section
section
variable {σ:St} {H:Hp} {Q:VK} {K:Frag}
end
noncomputable abbrev sC:Str:=Str.ofString "c"
noncomputable def n2:List mR:=[(sA,sB,Rat.divInt 1 2),(sB,sC,Rat.divInt 1 3)]
end
section
noncomputable def gK {α:Type} (n:Nat) (us ws:List α):List α:=if us.length=n/\ws.length=1 then us++ws else []
theorem UP {n:Nat}{vs zs:List V}{us ws:List Value} (h1:aQ vs us) (h2:aQ zs ws):aQ (gK n vs zs) (gK n us ws):=by
 unfold gK
 rw [h1.length,h2.length]
 split
 ·exact h1.append h2
 ·exact .nil
structure Ax (K:Frag) (mg:Str->Option Value) (x:Str) (st:Stmt) (ps:List Str) (dvs:List V) (n:Nat) (ks:List Str):Prop where
 ex:∃ (f:Addr) (fd:FuncData),(∃ (oc:Value) (od:Option Addr) (dV kV doc pm:Value) (an:Option Addr) (cdv ct:Value) (osl:Array (Option Value)),
  fd=fnOf x x (aW st) (aR st) (aD st) dV kV doc pm an cdv ct/\K.lookup f=some ⟨oc,od,.func fd,osl⟩/\PySem.W.codeIn K cdv x=true)/\keepIn K (.ref f)=true/\mg x=some (.ref f)/\fM K fd ps []/\(∃ ds,aQ dvs ds/\fM K fd ps ds)/\KO K fd ps ks (gK n) (gK n)
theorem UT {K:Frag}{mg:Str->Option Value}{h:Heap}{x:Str}{st:Stmt}{ps:List Str}{f T:Addr}{oc:Value}{od an:Option Addr}{osl:Array (Option Value)}{kV doc pm cdv ct:Value}{o:Obj}{items:Array Value}{n:Nat}{dvs:List V}{ds:List Value}{m:Nat}{ks:List Str} (X:K.In h) (G:h.Ns mainGlobals mg)
  (a:nsIn K mainGlobals x=some (some (.ref f))) (l:K.lookup f=some ⟨oc,od,.func (fnOf x x (aW st) (aR st) (aD st) (.ref T) kV doc pm an cdv ct),osl⟩)
  (c:PySem.W.codeIn K cdv x=true) (k:keepIn K (.ref f)=true) (t:K.lookup T=some o) (ho:o.data=.seq items n)
  (b:∀ (s:Shared) (us:List Value),s.heap.get? T=some o->us.length=ps.length->BindsTo s (fnOf x x (aW st) (aR st) (aD st) (.ref T) kV doc pm an cdv ct) ⟨us,[]⟩ (ps.zip us)) (hv:aQ dvs ds)
  (b2:∀ (s:Shared) (us:List Value),s.heap.get? T=some o->(us++ds).length=ps.length->BindsTo s (fnOf x x (aW st) (aR st) (aD st) (.ref T) kV doc pm an cdv ct) ⟨us,[]⟩ (ps.zip (us++ds)))
  (hps:ps.length≠0) (b3:∀ (s:Shared) (us ws:List Value),s.heap.get? T=some o->us.length=m->ws.length=1->BindsTo s (fnOf x x (aW st) (aR st) (aD st) (.ref T) kV doc pm an cdv ct) ⟨us,ks.zip ws⟩ (ps.zip (us++ws))):Ax K mg x st ps dvs m ks:=
 ⟨f,_,⟨oc,od,.ref T,kV,doc,pm,an,cdv,ct,osl,rfl,l,c⟩,k,mg_of X G a,fun s us KI hl=>by rw [append_nil] at hl ⊢; exact b s us (KI T o t) hl,⟨ds,hv,fun s us KI hl=>b2 s us (KI T o t) hl⟩,fun s us ws KI hl=>by
  unfold gK at hl ⊢
  split
  ·next z=>exact b3 s us ws (KI T o t) z.1 z.2
  ·next z=>rw [if_neg z] at hl; exact absurd hl.symm hps,fun h1 h2=>UP h1 h2⟩
section
variable {X:Cx} {k n:Nat} {x:Str} {ps ks:List Str} {dvs:List V} {sp:Sp} {p pos:Pos} {e:Expr} {es:List Expr} {kws:List Keyword} {t tk:TA}
end
theorem PX {s:TS}{D:dC}{σ:St}{H:Hp} (J:St->Hp->Prop) (hJ:∀ σ H,J σ H->D.nx σ H) (k:∀ NX:St->Hp->Prop,(∀ σ H,J σ H->NX σ H)->s ⟨NX,D.rt,D.bk,D.ct⟩ σ H):s D σ H:=k D.nx hJ
section
variable {σ:St} {H:Hp} {Q:VK} {K:Frag}
end
noncomputable def n3:List mR:=[(sA,sB,Rat.divInt 1 2),(sB,sC,Rat.divInt 1 1)]
noncomputable def ts3:List (aH×Rat):=[(Sum.inl 0,Rat.divInt 1 2),(Sum.inl 1,Rat.divInt 1 1)]
noncomputable def WC:Nat->Option Rat:=fun k=>cE (lst ts3) (Sum.inl (k:Int))
end
section
section
variable {X:Cx}
end
section
variable {H:Hp} {Q:VK} {u v:V} {a b:Option Rat}
end
section
variable {net:List (eL aH)} {a b:aH} {m:Rat} {tk:Nat -> Option Rat} {f:aH -> Option Rat}
end
open Classical in
noncomputable def dst (n:List mR) (a:aH) (m:Rat):aH->Option Rat:=if h:∃ f,xY (kn n) (cE (lst [(a,m)])) (fun _=>none) f then Classical.choose h else fun _=>none
noncomputable def gd (n:List mR) (s z:Str):Option Rat:=if z∈names n then dst n (Sum.inr s) (Rat.divInt 0 1) (Sum.inr z) else none
noncomputable def An (ys:List Str):List (Str×Str):=ys.flatMap fun y=>ys.map fun z=>(y,z)
theorem Pd.app {β:Type}{R:V->β->Prop}:∀ {xs ys:List V}{ds es:List β},Paired R xs ds->Paired R ys es->Paired R (xs++ys) (ds++es)
|_,_,_,_,.nil,h=>h
|_,_,_,_,.cons r t,h=>.cons r (Pd.app t h)
end
section
noncomputable def fW (n:Nat) (acc:Addr) (Pv:Nat->List V->Hp->Prop):Nat->Nat->List V->Hp->Prop:=fun i m ys H1=>m=n - i/\i<=n/\ys.length<=i/\H1 acc=some (.lst ys)/\Pv i ys H1
noncomputable def QU (n:Nat) (acc:Addr) (Pv:Nat->List V->Hp->Prop) (ys:List V) (i:Nat):VK:=fun y H3=>H3 acc=some (.lst ys)/\∃ m',m' < n - i/\fW n acc Pv (i+1) m' (ys++[y]) (upd H3 acc (.lst (ys++[y])))
noncomputable def JP (n:Nat) (acc:Addr) (Pv:Nat->List V->Hp->Prop) (ys:List V) (i:Nat) (H3:Hp):Prop:=∃ m',m' < n - i/\fW n acc Pv (i+1) m' ys H3
theorem UR {n:Nat}{acc:Addr}{Pv:Nat->List V->Hp->Prop}{ys:List V}{i:Nat}{y:V}{H3:Hp} (hlt:i < n) (hl:ys.length<=i) (ha:H3 acc=some (.lst ys)) (p:Pv (i+1) (ys++[y]) (upd H3 acc (.lst (ys++[y])))):QU n acc Pv ys i y H3:=
 ⟨ha,n - (i+1),by omega,rfl,hlt,by rw [length_append]; simp; exact hl,aB,p⟩
theorem JO {n:Nat}{acc:Addr}{Pv:Nat->List V->Hp->Prop}{ys:List V}{i:Nat}{H3:Hp} (hlt:i < n) (hl:ys.length<=i) (ha:H3 acc=some (.lst ys)) (p:Pv (i+1) ys H3):JP n acc Pv ys i H3:=
 ⟨n - (i+1),by omega,rfl,hlt,by omega,ha,p⟩
section
variable {te:TE} {Q:VK} {H:Hp} {caps:St} {K:Frag}
theorem wJ {c:TT}{a:Addr}{xs:List V} (hn:xs.length<=1000) (Pv:Addr->Nat->List V->Hp->Prop) (h0:∀ acc,H acc=none->Pv acc 0 [] (upd H acc (.lst []))) (hl':∀ acc i ys H1,H acc=none->i<=xs.length->Pv acc i ys H1->bX K H1 a xs)
  (hs:∀ acc i ys H1 x,H acc=none->xs[i]?=some x->ys.length<=i->H1 acc=some (.lst ys)->Pv acc i ys H1->c (some x::caps) H1 fun b H3=>if b=true then te (some x::caps) H3 (QU xs.length acc (Pv acc) ys i) else JP xs.length acc (Pv acc) ys i H3)
  (hd:∀ acc ys H1,H acc=none->H1 acc=some (.lst ys)->ys.length<=xs.length->Pv acc xs.length ys H1->Q (.ref acc) H1):qH te (some c) (nM 0) (List.replicate 1 none) caps Q (LH K a) H:=by
 intro acc hacc
 refine ⟨fW xs.length acc (Pv acc),⟨xs.length,by simp,zero_le _,le_refl _,aB,h0 acc hacc⟩,?_⟩
 rintro i m ys H1 ⟨rfl,hi,hl,ha,p⟩
 have q:=hl' acc i ys H1 hacc hi p
 refine ⟨ha,?_⟩
 by_cases hlt:i < xs.length
 ·refine .inr ⟨eQ (by omega),⟨xs,xs[i],q,by simp [hlt]⟩,fun us x H' hu y=>?_⟩
  obtain ⟨e,y⟩:=y
  subst e
  obtain ⟨o,rfl⟩:=UB hu
  exact ⟨⟨[some x],rfl,rfl⟩,hs acc i ys _ x hacc (y xs q) hl ha p⟩
 ·have e:i=xs.length:=by omega
  subst e
  exact .inl ⟨⟨xs,q,le_refl _⟩,hd acc ys H1 hacc ha hl p⟩
end
section
variable {X:Cx} {tg:Expr}
end
section
variable {σ:St} {H:Hp} {D:dC} {K:Frag}
end
section
variable {X:Cx}
end
section
variable {H:Hp} {Q:VK}
end
end
section
section
variable {net:List (eL aH)} {push:aH -> Option Rat} {tk:Nat -> Option Rat}
end
noncomputable def n4:List mR:=[(sA,sB,Rat.divInt 1 1),(sB,sA,Rat.divInt 1 1)]
section
variable {X:Cx} {scope:Scope} {caps:List (Str×Addr)} {N:List Str} {C:Addr} {s0:Shared} {H0:Hp} {ex:List Addr}
end
section
variable {te:TE} {Q:VK} {H:Hp} {caps:St} {K:Frag} {σ:St}
end
noncomputable def n5:List mR:=[(sA,sB,Rat.divInt 1 1)]
end
section
section
variable {H:Hp} {Q:VK} {K:Frag} {σ:St} {D:dC} {v:V}
theorem XW {b t:Addr}{kvs:List (List aH×V)}{k:List aH} (h:H b=some (.dT kvs)) (ht:H t=some (.tup (k.map kV))) (hl:kvs.length<=1000) (q:D.nx σ (upd H b (.dT (cB kvs k v)))):dP D σ v (.ref b) (.ref t) H:=⟨b,_,rfl,vP.t h ht (eQ hl),q⟩
theorem MK (k:∀ p,H p=none->Q (.ref p) (upd H p (.dT []))):FZ σ H Q:=k
theorem YG {i:Nat}{te:TE}{ti:Ac}{x:V} (h:σ[i]?=some (some x)) (k:te σ H fun y H1=>ti x y H1 fun z H2=>D.nx (σ.set i (some z)) H2):WP i te ti D σ H:=⟨x,h,k⟩
theorem XO {f:Int->Int->Int}{i j:Int} (k:Q (.int (f i j)) H):Cp f (.int i) (.int j) H Q:=⟨i,j,rfl,rfl,k⟩
end
end
section
section
variable {X:Cx} {a:Expr} {ta:TE}
noncomputable def WH (ta:TE):TE:=fun σ H Q=>ta σ H fun x H1=>∃ l xs,x=.ref l/\H1 l=some (.lst xs)/\∀ p,H1 p=none->Q (.ref p) (upd H1 p (.lst xs.reverse))
theorem WY {σ:St}{H:Hp}{Q:VK} (k:ta σ H fun x H1=>∃ l xs,x=.ref l/\H1 l=some (.lst xs)/\∀ p,H1 p=none->Q (.ref p) (upd H1 p (.lst xs.reverse))):WH ta σ H Q:=k
end
section
variable {te:TE} {Q:VK} {H:Hp} {caps:St}
end
noncomputable def Cj (Pv:St->Hp->Prop) (μ:St->Hp->Nat) (b:Nat):St->Hp->Prop:=fun σ' H'=>Pv σ' H'/\μ σ' H' < b
theorem RB {Pv:St->Hp->Prop}{μ:St->Hp->Nat}{b:Nat}{tb:TS}{D:dC}{σ:St}{H1:Hp} (k:tb { D with nx:=Cj Pv μ b,ct:=Cj Pv μ b,bk:=D.nx } σ H1) :
  ∃ N:St->Hp->Prop,(∀ σ' H',N σ' H'->∃ m',m' < b/\m'=μ σ' H'/\Pv σ' H')/\tb { D with nx:=N,ct:=N,bk:=D.nx } σ H1:=⟨_,fun _ _ z=>⟨_,z.2,rfl,z.1⟩,k⟩
theorem uA {c:TT}{tb:TS}{D:dC}{σ:St}{H:Hp} (Pv:St->Hp->Prop) (μ:St->Hp->Nat) (h0:Pv σ H)
  (hs:∀ σ H,Pv σ H->c σ H fun b H1=>if b=true then ∃ N:St->Hp->Prop,(∀ σ' H',N σ' H'->∃ m',m' < μ σ H/\m'=μ σ' H'/\Pv σ' H')/\tb { D with nx:=N,ct:=N,bk:=D.nx } σ H1 else D.nx σ H1):tM c tb D σ H:=by
 refine ⟨fun m σ H=>m=μ σ H/\Pv σ H,⟨_,rfl,h0⟩,?_⟩
 rintro m σ H ⟨rfl,p⟩
 exact hs σ H p
end
section
theorem kB:∀ {xs:List Int}{us:List Value},aQ (xs.map V.int) us->IntsAre us xs
|[],_,.nil=>.nil
|x::xs,_,.cons ⟨t,e⟩ r=>by
  subst e
  exact .cons x t (kB r)
end
section
theorem GS:typeLookup (.type "list_reverseiterator") "__len__"=pure none:=by rw [typeLookup_type,builtinLookup_eq_fast]; kernel_rfl
theorem LW:typeLookup (.type "list_reverseiterator") "__length_hint__"=pure (some (.builtin "list_reverseiterator.__length_hint__")):=by rw [typeLookup_type,builtinLookup_eq_fast]; kernel_rfl
theorem GQ:splitId "list_reverseiterator.__length_hint__"=some ("list_reverseiterator","__length_hint__"):=by decide +kernel
theorem LU:isSubtype (.type "list_reverseiterator") (.type "list_reverseiterator")=pure true:=by rw [isSubtype_type]; kernel_rfl
section
variable {prog:Program} {w:World} {A:Around} {E:Value -> Shared -> Prop} {s:Shared} {r:Addr}
theorem LV {Q:Bool->Shared->Prop} (hT:s.TypeIs (.ref r) "list_reverseiterator") (h:Q false s):wpAny (model prog w) A (Builtin.List.listLengthHint (.ref r)) Q E s:=by
 unfold Builtin.List.listLengthHint
 refine wpAny_bind (wpAny_specialOf hT GS ?_)
 dsimp only
 rw [if_neg (by decide),if_neg (by decide)]
 refine wpAny_bind (wpAny_specialOf hT LW ?_)
 dsimp only
 rw [GQ]
 dsimp only
 refine wpAny_bind (wpAny_isInstance hT LU ?_)
 rw [if_neg (by simp)]
 rw [if_pos (by decide +kernel),if_neg (by decide)]
 exact wpAny_pure h
theorem LX {R:Result->Shared->Prop}{l S:Addr}{items:Array Value}{n:Nat} (hh:A.handled=none) (hit:s.heap.IsRevIter r l ((items.size:Int) - 1)) (hl:s.heap.IsList l items) (hne:l≠r) (hz:items.size<=sizeLine) (hr:S≠r) (hL:S≠l)
  (hS:s.heap.get? S=some { cls:=.type "list",data:=.seq #[] n })
  (k:∀ h' tk acc c,(∀ b o,b≠S->b≠r->s.heap.get? b=some o->h'.get? b=some o)->h'.get? S=some { cls:=.type "list",dict:=none,data:=.seq acc c,slots:=#[] }->ItemsOf (fun i v=>items[items.size - 1 - i]?=some v) acc items.size->R (.ok (.ret .none)) { s with heap:=h',toks:=tk }) :
  wpAny (model prog w) A.in1 (Builtin.List.listExtendWith (.ref S) (.ref r) .none)
   (fun fin s'=>match fin with|.done f=>R (.ok f) s'|.again c'=>c'.quiet=true/\codeAny (model prog w) A c' R s') (fun e s'=>R (.error e) s') s:=by
 have W:=(Walks.listRev (prog:=prog) (w:=w) (A:=A.in1) hh r l hne items).toS
 unfold Builtin.List.listExtendWith
 refine wpAny_bind (wpAny_typeOf hit.typeIs ?_)
 rw [if_neg (by simp [Builtin.List.listSameRef,hr])]
 refine wpAny_bind (wpAny_pyIter_revIter hit ?_)
 refine wpAny_bind (wpAny_holding (LV hit.typeIs ?_))
 rw [if_neg (by decide +kernel)]
 refine wpAny_pure ⟨plainId_quiet F.plain_extend_loop _,codeAny_extend_loopS W hz S (by simp [hr,hL]) .none items.size 0 _ #[] n rfl (zero_le _) ⟨zero_le _,by simpa using hit,hl⟩ hS (ItemsOf.nil _) fun s' acc c hm hS' hacc=>?_⟩
 rw [Moved.eq_with hm]
 exact k s'.heap s'.toks acc c (fun b o b1 b2 e=>hm.heap b o (by simp [b1,b2]) e) hS' hacc
theorem vH {Q:Value->Shared->Prop}{l:Addr}{items:Array Value} (hh:A.handled=none) (hit:s.heap.IsRevIter r l ((items.size:Int) - 1)) (hl:s.heap.IsList l items) (hne:l≠r) (hz:items.size<=sizeLine)
  (k:∀ h' tk acc c,(∀ b o,b≠r->s.heap.get? b=some o->h'.get? b=some o)->h'.get? s.heap.objs.size=some { cls:=.type "list",dict:=none,data:=.seq acc c,slots:=#[] }->ItemsOf (fun i v=>items[items.size - 1 - i]?=some v) acc items.size->Q (.ref s.heap.objs.size) { s with heap:=h',toks:=tk }) :
  wpAny (model prog w) A (call (.type "list") [.ref r]) Q E s:=by
 obtain ⟨o1,g1,_⟩:=id hit
 obtain ⟨o2,g2,_⟩:=id hl
 have l1:=lt_size g1
 have l2:=lt_size g2
 refine callType_codes (Q₁:=fun obj s₁=>obj=.ref s.heap.objs.size/\s₁={ s with heap:=s.heap.push { cls:=.type "list",data:=.seq #[] } }) F.called_list (F.typeCall_list_1 _) F.entry_list_init (code_list_new _ ⟨rfl,rfl⟩) ?_
 rintro _ _ ⟨rfl,rfl⟩
 have g0:(s.heap.push { cls:=.type "list",data:=.seq #[] }).get? s.heap.objs.size=some { cls:=.type "list",data:=.seq #[] }:=get?_push_size _ rfl
 have kp:∀ b o,s.heap.get? b=some o->(s.heap.push { cls:=.type "list",data:=.seq #[] }).get? b=some o:=fun b o e=>get?_push_of_some _ e
 refine ⟨⟨_,g0,rfl⟩,F.args_list_init_2 _ _,?_⟩
 generalize s.heap.push { cls:=.type "list",data:=.seq #[] }=h0 at g0 kp ⊢
 show wpAny _ _ (Builtin.List.listItems (.ref s.heap.objs.size) >>= fun old=>Builtin.List.listUpdate (.ref s.heap.objs.size) (fun _=>#[]) >>= fun _=>letGo old.toList.reverse >>= fun _=>Builtin.List.listExtendWith (.ref s.heap.objs.size) (.ref r) .none) _ _ _
 refine wpAny_bind ?_
 unfold Builtin.List.listItems
 refine wpAny_bind (wpAny_seqItems g0 rfl (wpAny_pure (wpAny_bind (wpAny_updateSeq g0 rfl (wpAny_bind (wpAny_letGo ?_))))))
 have g1':=get?_update_self (Obj.mapSeq (fun _=>(#[]:Array Value))) g0 rfl
 have kp1:∀ b o,b≠s.heap.objs.size->s.heap.get? b=some o->(h0.update s.heap.objs.size (Obj.mapSeq (fun _=>(#[]:Array Value)))).get? b=some o:=fun b o hb e=>(get?_update_other _ _ (Ne.symm hb)).trans (kp b o e)
 generalize h0.update s.heap.objs.size (Obj.mapSeq (fun _=>(#[]:Array Value)))=h1 at g1' kp1 ⊢
 have n1:s.heap.objs.size≠r:=ne_of_gt l1
 have n2:s.heap.objs.size≠l:=ne_of_gt l2
 refine LX (A:=A.in1) hh (hit.at fun o e=>kp1 _ _ (Ne.symm n1) e) (hl.at fun o e=>kp1 _ _ (Ne.symm n2) e) hne hz n1 n2 g1' fun h' tk acc c hk hD hacc=>?_
 exact ⟨rfl,k h' tk acc c (fun b o hb e=>hk b o (ne_of_lt (lt_size e)) hb (kp1 b o (ne_of_lt (lt_size e)) e)) hD hacc⟩
end
theorem GU {vs:List V}{its:List Value}{acc:Array Value} (r:aQ vs its) (h:ItemsOf (fun i v=>its.toArray[its.toArray.size - 1 - i]?=some v) acc its.toArray.size):aQ vs.reverse acc.toList:=by
 have e:acc.toList=its.reverse:=by
  apply ext_getElem?
  intro j
  have hs:acc.size=its.length:=by
   have:=h.1
   simpa using this
  by_cases hj:j < acc.size
  ·have z:=h.2 j acc[j] (by simp [hj])
   rw [size_toArray,List.getElem?_toArray] at z
   rw [List.getElem?_reverse (by omega),z]
   simp [hj]
  ·rw [List.getElem?_eq_none (by simp; omega),List.getElem?_eq_none (by simp; omega)]
 rw [e]
 exact r.reverse
theorem MU {X:Cx}{a:Expr}{ta:TE}{p p2 pos pos2:Pos} (hc:X.calm=true) (hgl:Gl X "list") (hml:X.mg "list"=none) (hg:Gl X "reversed") (hm:X.mg "reversed"=none) (ha:PE X a ta)
  (he:starEach [.Call (.Name "reversed" p2) [a] [] pos2] X.env=[(false,eval (.Call (.Name "reversed" p2) [a] [] pos2) X.env)]:=by rfl) (hs:starEach [a] X.env=[(false,eval a X.env)]:=by rfl) :
  PE X (.Call (.Name "list" p) [.Call (.Name "reversed" p2) [a] [] pos2] [] pos) (WH ta):=by
 intro pins s σ H Q I h
 refine wpAny_Call_Name_kw (jC I hgl hml OH ?_ (by decide) (by decide))
 refine PyProof.Rows.callWith_type1 ?_ he rfl
 rw [he]
 show wpAny _ _ (spliced ((false,eval (.Call (.Name "reversed" p2) [a] [] pos2) X.env)::backTo pos [])) _ _ s
 refine Calls.spliced_cons ?_
 refine Call_ (jC I hg hm xR (PyProof.Rows.callWith_type1 ?_ hs rfl))
 rw [hs]
 show wpAny _ _ (spliced ((false,eval a X.env)::backTo pos2 [])) _ _ s
 refine Calls.spliced_cons (cA (ha pins s σ H _ I h) fun v s1 ⟨x,H1,I1,r1,l,xs,e,hx,q⟩=>?_)
 subst e
 cases r1
 refine Calls.spliced_nil ?_
 obtain ⟨its,r,ht,hz⟩:=I1.list (bX.of hx)
 have hlen:=r.length
 refine call_reversed_list ht.isList ?_
 refine Calls.spliced_nil ?_
 have hll:l < s1.heap.objs.size:=by
  obtain ⟨o,g,_⟩:=ht.isList
  exact lt_size g
 refine vH (I.ok.hd hc) (l:=l) (items:=its.toArray) ⟨_,get?_push_size _ rfl,rfl,rfl⟩ (ht.isList.at fun o e=>get?_push_of_some _ e) (ne_of_lt hll) (by rw [size_toArray]; omega) fun h' tk acc c hk hD hacc=>?_
 have hv:=GU r hacc
 refine ⟨.ref _,_,I1.laid (t':=tk) (a:=(s1.heap.push (revObj l ((its.toArray.size:Int) - 1))).objs.size) (o:=.lst xs.reverse) (fun b o e=>hk b o (ne_of_lt (lt_size e)) (get?_push_of_some _ e)) (by rw [size_push]; exact le_succ _) ?_,rfl,q _ (I1.hok.fresh (by rw [size_push]; exact le_succ _))⟩
 exact ⟨by rw [length_reverse]; exact hz,_,c,hv,by rw [Array.toArray_toList]; exact hD⟩
end
section
noncomputable def gP (S:List Nat) (n k:Nat):Prop:=∃ L:List Nat,(∀ x∈L,x∈S)/\L.sum=n/\L.length=k
noncomputable def kQ (S:List Nat) (n:Nat):Option Nat->Prop
|none=>∀ k,¬ gP S n k
|some k=>gP S n k/\∀ j,gP S n j->k<=j
theorem kQ.uniq {S:List Nat}{n:Nat}{o p:Option Nat} (h:kQ S n o) (g:kQ S n p):o=p:=by
 cases o with
|none=>cases p with
 |none=>rfl
 |some k=>exact absurd g.1 (h k)
|some k=>cases p with
 |none=>exact absurd h.1 (g k)
 |some j=>exact congrArg some (Nat.le_antisymm (h.2 _ g.1) (g.2 _ h.1))
theorem JA {S:List Nat}:kQ S 0 (some 0):=⟨⟨[],fun x h=>absurd h (by simp),rfl,rfl⟩,fun _ _=>zero_le _⟩
theorem gP.cons {S:List Nat}{n k s:Nat} (hs:s∈S) (hn:s<=n) (h:gP S (n - s) k):gP S n (k+1):=by
 obtain ⟨L,h1,h2,h3⟩:=h
 refine ⟨s::L,fun x hx=>?_,by rw [sum_cons,h2]; omega,by rw [length_cons,h3]⟩
 rcases mem_cons.mp hx with e|e
 ·rw [e]; exact hs
 ·exact h1 x e
theorem gP.head {S:List Nat}{n k:Nat} (h:gP S n k) (hn:0 < n):∃ s j,s∈S/\s<=n/\k=j+1/\gP S (n - s) j:=by
 obtain ⟨L,h1,h2,h3⟩:=h
 cases L with
|nil=>rw [List.sum_nil] at h2; omega
|cons s L =>
  rw [sum_cons] at h2
  exact ⟨s,L.length,h1 s mem_cons_self,by omega,by rw [← h3]; rfl,L,fun x hx=>h1 x (mem_cons_of_mem _ hx),by omega,rfl⟩
theorem JB {S:List Nat}{n:Nat}{t:Nat->Option Nat} (hn:0 < n) (hS:∀ s∈S,0 < s) (ht:∀ m,m < n->kQ S m (t m)) {o:Option Nat}
  (h0:o=none->∀ s∈S,s<=n->t (n - s)=none) (h1:∀ k,o=some k->∃ j,k=j+1/\(∃ s∈S,s<=n/\t (n - s)=some j)/\∀ s∈S,s<=n->∀ i,t (n - s)=some i->j<=i):kQ S n o:=by
 cases o with
|none =>
  intro k hk
  obtain ⟨s,j,hs,hl,_,hj⟩:=hk.head hn
  have e:=h0 rfl s hs hl
  have:=ht (n - s) (by have:=hS s hs; omega)
  rw [e] at this
  exact this j hj
|some k =>
  obtain ⟨j,rfl,⟨s,hs,hl,e⟩,hm⟩:=h1 k rfl
  refine ⟨?_,fun i hi=>?_⟩
  ·have:=ht (n - s) (by have:=hS s hs; omega)
   rw [e] at this
   exact this.1.cons hs hl
  ·obtain ⟨s',i',hs',hl',rfl,hi'⟩:=hi.head hn
   have:=ht (n - s') (by have:=hS s' hs'; omega)
   cases e':t (n - s') with
  |none=>rw [e'] at this; exact absurd hi' (this i')
  |some q =>
    rw [e'] at this
    have h2:=hm s' hs' hl' q e'
    have h3:=this.2 i' hi'
    omega
inductive nW (S:List Nat):Nat->List Nat->Prop
|nil:nW S 0 []
|cons {n s k:Nat} {L:List Nat}:s∈S->s<=n->0 < s->kQ S n (some (k+1))->kQ S (n - s) (some k)->(∀ s'∈S,s'<=n->kQ S (n - s') (some k)->s'<=s)->nW S (n - s) L->nW S n (s::L)
theorem nW.uniq {S:List Nat}{n:Nat}{L M:List Nat} (h:nW S n L):nW S n M->L=M:=by
 induction h generalizing M with
|nil =>
  intro g
  cases g with
 |nil=>rfl
 |cons a b c=>omega
|@cons n s k L a b c d e f _ ih =>
  intro g
  cases g with
 |nil=>omega
 |@cons _ s' k' L' a' b' c' d' e' f' g' =>
   have hk:k=k':=by have:=d.uniq d'; cases this; rfl
   subst hk
   have hs:s=s':=Nat.le_antisymm (f' s a b e) (f s' a' b' e')
   subst hs
   rw [ih g']
theorem nW.len {S:List Nat}{n:Nat}{L:List Nat} (h:nW S n L):L.length<=n:=by
 induction h with
|nil=>exact le_refl _
|cons _ b c _ _ _ _ ih=>rw [length_cons]; omega
theorem gP.scale {S:List Nat}{g n k:Nat} (hg:0 < g) (hS:∀ s∈S,g ∣ s):gP (S.map (· / g)) n k ↔ gP S (n * g) k:=by
 constructor
 ·rintro ⟨L,h1,h2,h3⟩
  refine ⟨L.map (· * g),fun x hx=>?_,?_,by rw [length_map,h3]⟩
  ·obtain ⟨y,hy,rfl⟩:=mem_map.mp hx
   obtain ⟨s,hs,rfl⟩:=mem_map.mp (h1 y hy)
   rw [div_mul_cancel (hS s hs)]; exact hs
  ·rw [← h2]
   clear h1 h2 h3
   induction L with
  |nil=>simp
  |cons a L ih=>rw [map_cons,sum_cons,sum_cons,ih,Nat.add_mul]
 ·rintro ⟨L,h1,h2,h3⟩
  have hd:∀ x∈L,g ∣ x:=fun x hx=>hS x (h1 x hx)
  refine ⟨L.map (· / g),fun x hx=>?_,?_,by rw [length_map,h3]⟩
  ·obtain ⟨y,hy,rfl⟩:=mem_map.mp hx
   exact mem_map.mpr ⟨y,h1 y hy,rfl⟩
  ·have:(L.map (· / g)).sum * g=L.sum:=by
    clear h1 h2 h3
    induction L with
   |nil=>simp
   |cons a L ih=>rw [map_cons,sum_cons,sum_cons,Nat.add_mul,ih fun x hx=>hd x (mem_cons_of_mem _ hx),div_mul_cancel (hd a mem_cons_self)]
   rw [h2] at this
   exact Nat.eq_of_mul_eq_mul_right hg this
theorem kQ.scale {S:List Nat}{g n:Nat}{o:Option Nat} (hg:0 < g) (hS:∀ s∈S,g ∣ s):kQ (S.map (· / g)) n o ↔ kQ S (n * g) o:=by
 cases o with
|none=>exact ⟨fun h k hk=>h k ((gP.scale hg hS).mpr hk),fun h k hk=>h k ((gP.scale hg hS).mp hk)⟩
|some k=>exact ⟨fun h=>⟨(gP.scale hg hS).mp h.1,fun j hj=>h.2 j ((gP.scale hg hS).mpr hj)⟩,fun h=>⟨(gP.scale hg hS).mpr h.1,fun j hj=>h.2 j ((gP.scale hg hS).mp hj)⟩⟩
theorem nW.scale {S:List Nat}{g n:Nat}{L:List Nat} (hg:0 < g) (hS:∀ s∈S,g ∣ s) (h:nW (S.map (· / g)) n L):nW S (n * g) (L.map (· * g)):=by
 induction h with
|nil=>rw [zero_mul]; exact .nil
|@cons n s k L a b c d e f _ ih =>
  obtain ⟨s0,hs0,rfl⟩:=mem_map.mp a
  have e0:s0 / g * g=s0:=div_mul_cancel (hS s0 hs0)
  have e1:(n - s0 / g) * g=n * g - s0:=by rw [Nat.sub_mul,e0]
  show nW S (n * g) (s0 / g * g::L.map (· * g))
  refine .cons (k:=k) (by rw [e0]; exact hs0) (by exact Nat.mul_le_mul_right g b) (by exact mul_pos c hg) ((kQ.scale hg hS).mp d) ?_ (fun s' hs' hl' h'=>?_) ?_
  ·have:=(kQ.scale hg hS).mp e
   rw [e1] at this
   rw [e0]; exact this
  ·have e2:s' / g * g=s':=div_mul_cancel (hS s' hs')
   have h1:s' / g<=n:=by
    have:s' / g * g<=n * g:=by rw [e2]; exact hl'
    exact Nat.le_of_mul_le_mul_right this hg
   have:=f (s' / g) (mem_map.mpr ⟨s',hs',rfl⟩) h1 ((kQ.scale hg hS).mpr (by rw [Nat.sub_mul,e2]; exact h'))
   have:=Nat.mul_le_mul_right g this
   rw [e2] at this
   exact this
  ·rw [e0,← e1]; exact ih
theorem kQ.perm {S S':List Nat} (h:∀ x,x∈S ↔ x∈S') {n:Nat}{o:Option Nat} (q:kQ S n o):kQ S' n o:=by
 have e:∀ k,gP S n k ↔ gP S' n k:=fun k=>⟨fun ⟨L,a,b⟩=>⟨L,fun x hx=>(h x).mp (a x hx),b⟩,fun ⟨L,a,b⟩=>⟨L,fun x hx=>(h x).mpr (a x hx),b⟩⟩
 cases o with
|none=>exact fun k hk=>q k ((e k).mpr hk)
|some k=>exact ⟨(e k).mp q.1,fun j hj=>q.2 j ((e j).mpr hj)⟩
theorem nW.perm {S S':List Nat} (h:∀ x,x∈S ↔ x∈S') {n:Nat}{L:List Nat} (q:nW S n L):nW S' n L:=by
 induction q with
|nil=>exact .nil
|cons a b c d e f _ ih=>exact .cons ((h _).mp a) b c (d.perm h) (e.perm h) (fun s' hs' hl' h'=>f s' ((h _).mpr hs') hl' (h'.perm fun x=>(h x).symm)) ih
noncomputable def dU:List Nat->Nat
|[]=>0
|x::xs=>Nat.gcd x (dU xs)
theorem jU:∀ {L:List Nat}{x:Nat},x∈L->dU L ∣ x
|y::L,x,h=>by
  rcases mem_cons.mp h with e|e
  ·rw [e]; exact Nat.gcd_dvd_left ..
  ·exact Nat.dvd_trans (Nat.gcd_dvd_right ..) (jU e)
theorem mK:∀ {L:List Nat}{x:Nat},x∈L->0 < x->0 < dU L
|y::L,x,h,hx=>by
  rcases mem_cons.mp h with e|e
  ·exact Nat.gcd_pos_of_pos_left _ (e ▸ hx)
  ·exact Nat.gcd_pos_of_pos_right _ (mK e hx)
theorem qB (c:Nat):∀ L:List Nat,dU (L.map (· * c))=dU L * c
|[]=>by simp [dU]
|x::L=>by rw [map_cons]; show Nat.gcd (x * c) (dU (L.map (· * c)))=_; rw [qB c L,Nat.gcd_mul_right]; rfl
theorem sO:∀ (L:List Nat) (x:Nat),dU (L++[x])=Nat.gcd (dU L) x
|[],x=>by show Nat.gcd x 0=Nat.gcd 0 x; rw [Nat.gcd_comm]
|y::L,x=>by show Nat.gcd y (dU (L++[x]))=Nat.gcd (Nat.gcd y (dU L)) x; rw [sO L x,Nat.gcd_assoc]
theorem FS {ms ts:List Nat}{u W:Nat} (hu:0 < u) (hW:0 < W) (h:ts.map (· * u)=ms.map (· * W)) (hp:∃ m∈ms,0 < m):ts.map (· / dU ts)=ms.map (· / dU ms):=by
 obtain ⟨m0,hm0,hp⟩:=hp
 have hgm:0 < dU ms:=mK hm0 hp
 have eg:dU ts * u=dU ms * W:=by rw [← qB,← qB,h]
 have hgt:0 < dU ts:=by
  rcases Nat.eq_zero_or_pos (dU ts) with z|z
  ·rw [z,zero_mul] at eg
   have:=mul_pos hgm hW
   omega
  ·exact z
 have hl:ts.length=ms.length:=by have:=congrArg List.length h; simpa using this
 apply ext_getElem (by simp [hl])
 intro i h1 h2
 rw [List.getElem_map,List.getElem_map]
 have h1':i < ts.length:=by simpa using h1
 have h2':i < ms.length:=by simpa using h2
 have e:ts[i] * u=ms[i] * W:=by
  have:=congrArg (fun l=>l[i]?) h
  simp only [List.getElem?_map,List.getElem?_eq_getElem h1',List.getElem?_eq_getElem h2',Option.map_some] at this
  exact Option.some.inj this
 have d1:dU ts ∣ ts[i]:=jU (List.getElem_mem h1')
 have d2:dU ms ∣ ms[i]:=jU (List.getElem_mem h2')
 obtain ⟨a,ha⟩:=d1
 obtain ⟨b,hb⟩:=d2
 rw [ha,hb,Nat.mul_div_cancel_left _ hgt,Nat.mul_div_cancel_left _ hgm]
 rw [ha,hb] at e
 have:a * (dU ts * u)=b * (dU ms * W):=by
  rw [← Nat.mul_assoc,← Nat.mul_assoc,mul_comm a,mul_comm b]; exact e
 rw [eg] at this
 exact Nat.eq_of_mul_eq_mul_right (mul_pos hgm hW) this
theorem IU {x b B:Int} (hx:0 < x) (hb:0 < b) (h1:x ∣ B) (h2:b ∣ B):0 < x.fdiv (Int.gcd x b) * b/\x.fdiv (Int.gcd x b) * b ∣ B/\x ∣ x.fdiv (Int.gcd x b) * b/\b ∣ x.fdiv (Int.gcd x b) * b:=by
 obtain ⟨n,rfl⟩:∃ n:Nat,x=n:=⟨x.toNat,by omega⟩
 obtain ⟨m,rfl⟩:∃ m:Nat,b=m:=⟨b.toNat,by omega⟩
 have hn:0 < n:=by omega
 have hm:0 < m:=by omega
 have e:((n:Int).fdiv (Int.gcd n m)) * (m:Int)=((n.lcm m:Nat):Int):=by
  rw [show Int.gcd (n:Int) (m:Int)=Nat.gcd n m from rfl,show (n:Int).fdiv (Nat.gcd n m:Int)=((n / Nat.gcd n m:Nat):Int) by rw [Int.fdiv_eq_ediv_of_nonneg _ (Int.natCast_nonneg _)]; rfl,← Int.natCast_mul]
  congr 1
  unfold Nat.lcm
  exact Nat.div_mul_right_comm (Nat.gcd_dvd_left n m) m
 rw [e]
 refine ⟨by exact_mod_cast Nat.lcm_pos hn hm,?_,by exact_mod_cast Nat.dvd_lcm_left n m,by exact_mod_cast Nat.dvd_lcm_right n m⟩
 rw [← Int.natAbs_dvd_natAbs] at h1 h2 ⊢
 rw [Int.natAbs_natCast] at h1 h2 ⊢
 exact Nat.lcm_dvd h1 h2
noncomputable def bD (u:Int×Int) (m:Nat):Int×Int:=(eO (u.1 * m) u.2,eA (u.1 * m) u.2)
structure lO (u:Int×Int):Prop where
 p1:0 < u.1
 p2:0 < u.2
 s1:u.1 < 2 ^ 60
 s2:u.2 < 2 ^ 60
theorem lO.tm {u:Int×Int} (h:lO u) (m:Nat):0 < (bD u m).2/\(bD u m).2 ∣ u.2/\(bD u m).1 * u.2=u.1 * m * (bD u m).2/\0<=(bD u m).1/\(bD u m).1<=u.1 * m:=by
 have h2:=h.p2
 have h0:u.2≠0:=by omega
 have e1:=pT (t:=u.1 * m) h0
 have e2:=mH (t:=u.1 * m) h0
 have hb:0 < eA (u.1 * m) u.2:=pU h0
 have hs:0 < sg (u.1 * m) u.2:=by
  unfold sg
  rw [if_neg (by omega)]
  have:=mJ (t:=u.1 * m) h0
  omega
 have ht:0<=u.1 * m:=Int.mul_nonneg (Int.le_of_lt h.p1) (Int.natCast_nonneg _)
 have h3:0<=eO (u.1 * m) u.2:=by
  rcases Int.lt_or_le (eO (u.1 * m) u.2) 0 with q|q
  ·have:=Int.mul_neg_of_neg_of_pos q hs
   omega
  ·exact q
 refine ⟨hb,⟨_,e2.symm⟩,?_,h3,?_⟩
 ·show eO (u.1 * m) u.2 * u.2=u.1 * m * eA (u.1 * m) u.2
  calc eO (u.1 * m) u.2 * u.2=eO (u.1 * m) u.2 * (eA (u.1 * m) u.2 * sg (u.1 * m) u.2):=by rw [e2]
   _=eO (u.1 * m) u.2 * sg (u.1 * m) u.2 * eA (u.1 * m) u.2:=by rw [Int.mul_comm (eA _ _),Int.mul_assoc]
   _=_:=by rw [e1]
 ·show eO (u.1 * m) u.2<=u.1 * m
  have:=Int.mul_le_mul_of_nonneg_left (show 1<=sg (u.1 * m) u.2 by omega) h3
  rw [e1] at this
  omega
noncomputable def DB (D:Int) (fs:List (Int×Int)):List Int:=fs.map fun f=>f.1 * D.fdiv f.2
theorem FV {u:Int×Int} (h:lO u) {D:Int}{m:Nat} (hd:(bD u m).2 ∣ D):(bD u m).1 * D.fdiv (bD u m).2 * u.2=m * (u.1 * D):=by
 obtain ⟨h1,_,h3,_⟩:=h.tm m
 obtain ⟨d,rfl⟩:=hd
 rw [Int.mul_fdiv_cancel_left _ (by omega)]
 calc (bD u m).1 * d * u.2=(bD u m).1 * u.2 * d:=by rw [Int.mul_assoc,Int.mul_comm d,← Int.mul_assoc]
  _=u.1 * m * (bD u m).2 * d:=by rw [h3]
  _=_:=by rw [Int.mul_comm u.1,Int.mul_assoc,Int.mul_assoc]
theorem WB {u:Int×Int} (h:lO u) {D:Int}{m m':Nat} (hD:0 < D) (hd:(bD u m).2 ∣ D) (hd':(bD u m').2 ∣ D) (hl:(bD u m).1 * D.fdiv (bD u m).2<=(bD u m').1 * D.fdiv (bD u m').2):m<=m':=by
 have e1:=FV h hd
 have e2:=FV h hd'
 have h3:=Int.mul_le_mul_of_nonneg_right hl (Int.le_of_lt h.p2)
 rw [e1,e2] at h3
 have h4:=Int.le_of_mul_le_mul_right h3 (Int.mul_pos h.p1 hD)
 omega
theorem WA {u:Int×Int} (h:lO u) {D:Int}{m:Nat} (hD:0 < D) (hd:(bD u m).2 ∣ D):0<=(bD u m).1 * D.fdiv (bD u m).2:=by
 obtain ⟨h1,_,h3,h4,_⟩:=h.tm m
 obtain ⟨d,rfl⟩:=hd
 rw [Int.mul_fdiv_cancel_left _ (by omega)]
 have:0 < d:=by
  rcases Int.lt_or_le 0 d with q|q
  ·exact q
  ·have:=Int.mul_nonpos_of_nonneg_of_nonpos (Int.le_of_lt h1) q
   omega
 exact Int.mul_nonneg h4 (Int.le_of_lt this)
theorem AK {u:Int×Int} (hu:lO u) {m:Nat} (hm:m<=100000):Sm 100 (bD u m).1:=by
 obtain ⟨a1,a2,a3,a4,a5⟩:=hu.tm m
 refine Sm.of (by omega) ?_
 have h3:=hu.s1
 have h4:u.1 * m<=2 ^ 60 * 100000:=Int.mul_le_mul (Int.le_of_lt h3) (by omega) (by omega) (by decide)
 show (bD u m).1 < ((2 ^ 100:Nat):Int)
 omega
theorem lQ {u:Int×Int} (hu:lO u):bD u 0=(0,1):=by
 have h2:=hu.p2
 have e1:u.1 * ((0:Nat):Int)=0:=by simp
 unfold bD
 rw [e1]
 obtain ⟨a,b⟩:=TY (t:=0) (b:=u.2) (f:=0) (g:=1) (by omega) (by decide) rfl (by simp)
 rw [← a,← b]
end
section
noncomputable def PZ:List V->Hp->VK->Prop:=fun vs H Q=>∃ (p:Addr) (xs:List Int),vs=[.ref p]/\H p=some (.lst (xs.map V.int))/\xs≠[]/\∀ m∈xs,(∀ y∈xs,m<=y)->Q (.int m) H
theorem UX {X:Cx} (hc:X.calm=true):jJ X (.builtin "min") PZ:=by
 intro pins s σ H vs us Q I r h
 obtain ⟨p,xs,rfl,hp,hne,q⟩:=h
 obtain ⟨u,rfl,rx⟩:=FQ r
 cases rx
 obtain ⟨its,rl,pl,_⟩:=I.list (bX.of hp)
 have hI:=kB rl
 have hlen:its.length=xs.length:=by rw [← rl.length,length_map]
 have hL:s.heap.IsList p its.toArray:=pl.isList
 have hlt:p < s.heap.objs.size:=by obtain ⟨_,_,e,_⟩:=pl; exact lt_size e
 have hpos:0 < xs.length:=length_pos_iff.mpr hne
 have at':∀ i v,its.toArray[i]?=some v->∃ t,v=Value.int (xs.getD i 0) t:=fun i v e=>by
  have e':its[i]?=some v:=by simpa using e
  have hi:i < xs.length:=by rw [← hlen]; exact (List.getElem?_eq_some_iff.mp e').1
  obtain ⟨t,et⟩:=hI.get (i:=i) (n:=xs[i]) (List.getElem?_eq_getElem hi)
  rw [e'] at et
  exact ⟨t,by rw [getD_eq_getElem?_getD,List.getElem?_eq_getElem hi]; exact Option.some.inj et⟩
 refine call_min_walk (wpAny_pyIter_list hL ?_)
 refine ⟨_,[_,p],[_],_,_,_,_,rfl,Walks.list (A:=X.A.in1) (I.ok.hd hc) _ p (ne_of_lt hlt) its.toArray,⟨⟨_,get?_push_size _ rfl,rfl,rfl⟩,hL.push _⟩,fun c hc=>?_,by rw [size_toArray]; omega,CmpOf.ints_lt (fun i=>xs.getD i 0) at',fun v h' tk hP hk=>?_⟩
 ·show c < (s.heap.push _).objs.size
  rw [size_push]
  rcases mem_cons.mp hc with rfl|hc
  ·exact lt_succ_self _
  ·rcases mem_cons.mp hc with rfl|hc
   ·exact lt_succ_of_lt hlt
   ·cases hc
 ·have hold:∀ c o,s.heap.get? c=some o->h'.get? c=some o:=fun c o e=>by
   refine hk c o (fun hm=>?_) (get?_push_of_some _ e)
   rcases mem_cons.mp hm with e1|hm
   ·have:=lt_size e
    rw [e1] at this
    exact lt_irrefl _ this
   ·cases hm
  obtain ⟨t,rfl⟩:=at' _ _ hP
  obtain ⟨b1,b2⟩:=argBest_lt (fun i=>xs.getD i 0) (its.toArray.size - 1)
  rw [size_toArray,hlen] at b1 b2
  rw [size_toArray,hlen]
  have hk':argBest (fun i j=>decide (xs.getD i 0 < xs.getD j 0)) (xs.length - 1) < xs.length:=by omega
  refine ⟨.int _,H,I.kept hold,⟨_,rfl⟩,q _ ?_ fun y hy=>?_⟩
  ·rw [getD_eq_getElem?_getD,List.getElem?_eq_getElem hk']
   exact List.getElem_mem hk'
  ·obtain ⟨j,hj⟩:=List.getElem?_of_mem hy
   have hj':j < xs.length:=(List.getElem?_eq_some_iff.mp hj).1
   have:=b2 j (by omega)
   have ey:xs.getD j 0=y:=by rw [getD_eq_getElem?_getD,hj]; rfl
   rw [ey] at this
   exact this
theorem RX {H:Hp}{Q:VK}{p:Addr}{xs:List Int} (h:H p=some (.lst (xs.map V.int))) (hne:xs≠[]) (k:∀ m∈xs,(∀ y∈xs,m<=y)->Q (.int m) H):PZ [.ref p] H Q:=⟨p,xs,rfl,h,hne,k⟩
noncomputable def oV:Option Nat->V
|none=>.non
|some k=>.int k
noncomputable def cK (H:Hp) (v:V) (f:Int×Int):Prop:=∃ q,v=.ref q/\H q=some (.tup [.int f.1,.int f.2])
theorem cK.same {H H':Hp}{v:V}{f:Int×Int} (h:cK H v f) (k:aI H H'):cK H' v f:=let ⟨q,e,g⟩:=h; ⟨q,e,k _ _ g⟩
theorem RU {H:Hp}{Q:VK}{i:Int} (k:Q (.bl true) H):HM (.int i) .non H Q:=⟨rfl,k⟩
theorem Bw {H:Hp}{Q:VK}{i:Int} (k:Q (.bl false) H):DL .non (.int i) H Q:=.inl ⟨rfl,by rw [show decide (V.non=V.int i)=false from decide_eq_false (by intro z; cases z)]; exact k⟩
theorem HZ {α β:Type}{F:α->β->Prop}:∀ {l:List α}{m:List β},Paired F l m->Paired F l.reverse m.reverse
|_,_,.nil=>.nil
|_,_,.cons r t=>by rw [reverse_cons,reverse_cons]; exact Pd.snoc (HZ t) r
noncomputable def ZO (fs:List (Int×Int)):List Dt:=fs.map fun f=>.tup [.int f.1,.int f.2]
theorem CL {H:Hp}:∀ {vs:List V}{fs:List (Int×Int)},Paired (cK H) vs fs->fV H (ZO fs) vs
|_,_,.nil=>rfl
|_,_,.cons ⟨q,e,h⟩ t=>by subst e; exact ⟨_,_,rfl,EX h,CL t⟩
theorem CD:∀ fs:List (Int×Int),gI (ZO fs)<=1
|[]=>by decide
|f::fs=>by
  show max (sU (.tup [.int f.1,.int f.2])) (gI (ZO fs))<=1
  have:=CD fs
  have e:sU (.tup [.int f.1,.int f.2])=1:=rfl
  omega
end
section
noncomputable abbrev UA (q1 q2 q3:Pos):Expr:=.Subscript (.Name "pair" q1) (.Constant (.int 0) 0 q2) q3
noncomputable abbrev TZ (q0:Pos):Arguments:={ posonlyargs:=[],args:=[{ arg:="pair",annotation:=none,pos:=q0 }],vararg:=none,kwonlyargs:=[],kw_defaults:=[],kwarg:=none,defaults:=[] }
noncomputable abbrev KY:Scope:={ kind:=.function,names:=[("pair",.local)],isGenerator:=false,isCoroutine:=false,more:=[] }
section
variable {prog:Program} {w:World} {A:Around} {s:Shared}
theorem IW {E:Value->Shared->Prop}{f c r:Addr}{name qual:Str}{pm ct:Value}{q0 q1 q2 q3:Pos}{x y:Value} (hroom:A.depth < recursionLimit) (lim:s.heap.NoLimit)
  (ho:s.heap.get? f=some (kla_obj name qual (TZ q0) (UA q1 q2 q3) KY [] pm c ct)) (hc:s.heap.CodeRec (.ref c) qual) (ht:IsTup s.heap r #[x,y]) :
  wpAny (model prog w) A (call (.ref f) [.ref r]) (fun v s'=>v=x/\∃ h' tk,s'={ s with heap:=h',toks:=tk }/\∀ b o,s.heap.get? b=some o->h'.get? b=some o) E s:=by
 refine wpAny_call (PySem.W.kla_callFunE hroom ho rfl rfl rfl rfl hc ?_)
 rw [show bindArgs (kla_fn name qual (TZ q0) (UA q1 q2 q3) KY [] pm (.ref c) ct) ⟨[.ref r],[]⟩=(pure [("pair",Value.ref r)]:Sem (List (Str×Value))) from rfl]
 refine wpAny_pure (wpAny_newFunctionEnv (show ∀ x∈KY.names,x.2≠NameKind.cell by decide) (fun x hx=>by rw [mem_singleton.mp hx]; rfl) (fun h₁ hns hsb=>?_) rfl)
 have hk:∀ b o,s.heap.get? b=some o->h₁.get? b=some o:=fun b o e=>hsb.extBut b o (ne_of_lt (lt_size e)) (get?_push_of_some _ e)
 refine ⟨lim.keeps hk,PySem.W.kla_codeExpr ?_⟩
 refine Subscript_ (wpAny_Name (wpAny_loadName_local rfl rfl hns rfl ?_) (by decide))
 refine wpAny_Constant_int ?_
 have ht':IsTup h₁ r #[x,y]:=let ⟨o,e,q⟩:=ht; ⟨o,hk _ _ e,q⟩
 refine subscriptTail_builtinR (x:=x) ht'.typeIs slot_tuple_getitem.lookup (getItem_tuple (j:=0) ht' (by decide) (by decide) rfl rfl ⟨rfl,rfl,h₁,_,rfl,hk⟩) rfl
end
noncomputable abbrev Ap (h:Heap) (z TI TO:Addr) (f0:Value) (b:Bool):Prop:=h.get? z=some { cls:=.type "zip",dict:=none,data:=.fields #[f0,.bool b,.bool false,.ref TI,.ref TO],slots:=#[] }
structure AB (h:Heap) (z TI TO i1 i2 l1 l2:Addr) (k:Nat) (xs ys:Array Value):Prop where
 zp:∃ f0 b,Ap h z TI TO f0 b/\((k=0/\f0=.none/\b=false)∨(1<=k/\∃ (T:Addr) (o:Obj),f0=rawInt T/\h.get? T=some o/\T≠z/\T≠TO/\T≠i1/\T≠i2))
 ti:IsPair h TI (.ref i1) (.ref i2)
 to:∃ a b,IsPair h TO a b
 p1:h.IsListIter i1 l1 k
 p2:h.IsListIter i2 l2 k
 q1:h.IsList l1 xs
 q2:h.IsList l2 ys
section
open Sem (wp)
variable {prog:Program} {w:World} {A:Around} {E:Value -> Shared -> Prop} {s:Shared} {z TI TO i1 i2 l1 l2:Addr} {k:Nat} {xs ys:Array Value}
theorem AB.keep {h h':Heap} (Z:AB h z TI TO i1 i2 l1 l2 k xs ys) (kp:∀ b o,h.get? b=some o->h'.get? b=some o):AB h' z TI TO i1 i2 l1 l2 k xs ys:=by
 obtain ⟨⟨f0,b0,gz,hf⟩,gTI,⟨a,b,gTO⟩,g1,g2,t1,t2⟩:=Z
 refine ⟨⟨f0,b0,kp _ _ gz,?_⟩,kp _ _ gTI,⟨a,b,kp _ _ gTO⟩,g1.at fun o e=>kp _ o e,g2.at fun o e=>kp _ o e,t1.at fun o e=>kp _ o e,t2.at fun o e=>kp _ o e⟩
 rcases hf with hf|⟨h1,T,oT,e1,gT,nT⟩
 ·exact .inl hf
 ·exact .inr ⟨h1,T,oT,e1,kp _ _ gT,nT⟩
theorem RA {a:Addr}{o:Obj}{Q:Option Obj->Shared->Prop} (ho:s.heap.get? a=some o) (h:Q (some o) s):wpAny (model prog w) A (loadIfAlive a) Q E s:=fun Γ p _=>by
 show wp _ _ (.loadIfAlive a .pure) _ _ _ _
 rw [Sem.wp_loadIfAlive,ho]
 exact h
theorem vS {T:Addr}{o:Obj}{b:Bool}{Q:Bool->Shared->Prop} (gz:Ap s.heap z TI TO (rawInt T) b) (gT:s.heap.get? T=some o)
  (k:∀ h',h'.objs.size=s.heap.objs.size->(∀ c o,c≠z->s.heap.get? c=some o->h'.get? c=some o)->Ap h' z TI TO (rawInt T) true->Q false { s with heap:=h' }):wpAny (model prog w) A (Builtin.SmallTypes.ownedTupleIsFree (.ref z)) Q E s:=by
 unfold Builtin.SmallTypes.ownedTupleIsFree
 refine wpAny_bind (wpAny_field gz rfl (x:=rawInt T) rfl ?_)
 show wpAny _ _ (loadIfAlive ((T:Int).toNat) >>= _) _ _ _
 refine wpAny_bind (RA (o:=o) (by rw [Int.toNat_natCast]; exact gT) ?_)
 rw [if_neg (by simp)]
 refine wpAny_bind (wpAny_field gz rfl (x:=.bool b) rfl ?_)
 cases b with
|true =>
  rw [if_neg (by decide)]
  exact wpAny_pure (k _ rfl (fun _ _ _ e=>e) gz)
|false =>
  rw [if_pos (by decide)]
  exact wpAny_bind (wpAny_setField_rec gz (by simp) fun m1 gz1 c1=>wpAny_pure (k m1 c1.1 (fun c o n e=>c1.extBut _ _ n e) gz1))
theorem FO {x y:Value}{Q:Value->Shared->Prop} (D:ZipApart z TI TO i1 i2 l1 l2) (Z:AB s.heap z TI TO i1 i2 l1 l2 k xs ys) (hx:xs[k]?=some x) (hy:ys[k]?=some y)
  (hQ:∀ h',AB h' z TI TO i1 i2 l1 l2 (k+1) xs ys->IsPair h' s.heap.objs.size x y->h'.objs.size=s.heap.objs.size+1 ->
   (∀ c o,c≠z->c≠TO->c≠i1->c≠i2->s.heap.get? c=some o->h'.get? c=some o)->Q (.ref s.heap.objs.size) { s with heap:=h' }) :
  wpAny (model prog w) A (Builtin.«zip.__next__» ⟨[.ref z],[]⟩) (fun fin s'=>∃ v,fin=.done (.ret v)/\Q v s') E s:=by
 obtain ⟨⟨f0,b0,gz,hf⟩,gTI,⟨a,b,gTO⟩,g1,g2,t1,t2⟩:=Z
 have lz:=lt_size gz
 have lTO:=lt_size gTO
 have li1:i1 < s.heap.objs.size:=by obtain ⟨_,e,_⟩:=g1; exact lt_size e
 have li2:i2 < s.heap.objs.size:=by obtain ⟨_,e,_⟩:=g2; exact lt_size e
 have nw:∀ {c:Addr},c < s.heap.objs.size->s.heap.objs.size≠c:=fun h=>ne_of_gt h
 rcases hf with ⟨rfl,rfl,rfl⟩|⟨k1,T,oT,rfl,gT,nT⟩
 ·refine zip_next_item D gz gTI gTO g1 g2 t1 t2 hx hy fun h' a1 a2 a3 a4 a5 a6 a7=>?_
  exact hQ h' ⟨⟨_,_,a1,.inr ⟨le_refl _,_,_,rfl,a5,nw lz,nw lTO,nw li1,nw li2⟩⟩,a7 _ _ D.TIz D.TITO D.TIi1 D.TIi2 gTI,⟨_,_,a2⟩,a3,a4,t1.at fun o e=>a7 _ o D.l1z D.l1TO D.l1i1 D.l1i2 e,t2.at fun o e=>a7 _ o D.l2z D.l2TO D.l2i1 D.l2i2 e⟩ a5 a6 a7
 ·show wpAny _ _ (field (.ref z) 2 >>= _) _ _ _
  refine wpAny_bind (wpAny_field gz rfl (x:=.bool false) rfl ?_)
  show wpAny _ _ (field (.ref z) 3 >>= _) _ _ _
  refine wpAny_bind (wpAny_field gz rfl (x:=.ref TI) rfl ?_)
  refine wpAny_bind (wpAny_seqItems gTI rfl ?_)
  show wpAny _ _ (Builtin.SmallTypes.ownedTupleIsFree (.ref z) >>= _) _ _ _
  refine wpAny_bind (vS gz gT fun m0 e0 kp0 gz0=>?_)
  rw [if_neg (by decide)]
  simp only [← Array.forIn_toList,forIn_cons,List.forIn_nil]
  refine wpAny_bind (wpAny_bind (wpAny_bind (wpAny_holding ?_)))
  show wpAny _ _ (Builtin.SmallTypes.nextOf (.ref i1) >>= _) _ _ _
  refine wpAny_bind (wpAny_nextOf_list_item (g1.at fun o e=>kp0 _ o D.i1z e) (t1.at fun o e=>kp0 _ o D.l1z e) hx fun m1 g11 c1=>wpAny_pure (wpAny_pure ?_))
  refine wpAny_bind (wpAny_bind (wpAny_holding ?_))
  show wpAny _ _ (Builtin.SmallTypes.nextOf (.ref i2) >>= _) _ _ _
  refine wpAny_bind (wpAny_nextOf_list_item (g2.at fun o e=>c1.extBut _ o D.i12.symm (kp0 _ o D.i2z e)) (t2.at fun o e=>c1.extBut _ o D.l2i1 (kp0 _ o D.l2z e)) hy fun m2 g22 c2=>wpAny_pure (wpAny_pure (wpAny_pure ?_)))
  refine wpAny_bind (wpAny_newTuple (wpAny_pure ⟨_,rfl,?_⟩) (by show 2<=sizeLine; decide))
  have e2:m2.objs.size=s.heap.objs.size:=by rw [c2.1,c1.1,e0]
  have up:∀ c o,c≠z->c≠i1->c≠i2->s.heap.get? c=some o->(m2.push { cls:=.type "tuple",data:=.seq #[x,y] }).get? c=some o:=fun c o n1 n2 n3 e=>get?_push_of_some _ (c2.extBut _ _ n3 (c1.extBut _ _ n2 (kp0 _ _ n1 e)))
  have gp:IsPair (m2.push { cls:=.type "tuple",data:=.seq #[x,y] }) m2.objs.size x y:=get?_push_size _ rfl
  have gz2:Ap (m2.push { cls:=.type "tuple",data:=.seq #[x,y] }) z TI TO (rawInt T) true:=get?_push_of_some _ (c2.extBut _ _ D.i2z.symm (c1.extBut _ _ D.i1z.symm gz0))
  have e3:(m2.push { cls:=.type "tuple",data:=.seq #[x,y] }).objs.size=m2.objs.size+1:=size_push ..
  show Q (.ref m2.objs.size) { s with heap:=m2.push { cls:=.type "tuple",data:=.seq #[x,y] } }
  have r1:(m2.push { cls:=.type "tuple",data:=.seq #[x,y] }).IsListIter i1 l1 (k+1):=g11.at fun o e=>get?_push_of_some _ (c2.extBut _ o D.i12 e)
  have r2:(m2.push { cls:=.type "tuple",data:=.seq #[x,y] }).IsListIter i2 l2 (k+1):=g22.at fun o e=>get?_push_of_some _ e
  generalize m2.push { cls:=.type "tuple",data:=.seq #[x,y] }=m3 at up gp gz2 e3 r1 r2 ⊢
  rw [e2] at gp e3 ⊢
  exact hQ m3 ⟨⟨_,_,gz2,.inr ⟨succ_pos _,T,oT,rfl,up _ _ nT.1 nT.2.2.1 nT.2.2.2 gT,nT⟩⟩,up _ _ D.TIz D.TIi1 D.TIi2 gTI,⟨_,_,up _ _ D.TOz D.TOi1 D.TOi2 gTO⟩,r1,r2,t1.at fun o e=>up _ o D.l1z D.l1i1 D.l1i2 e,t2.at fun o e=>up _ o D.l2z D.l2i1 D.l2i2 e⟩ gp e3 fun c o n1 _ n3 n4 e=>up c o n1 n3 n4 e
theorem LI {Q:PySem.Fin->Shared->Prop} (hh:A.handled=none) (D:ZipApart z TI TO i1 i2 l1 l2) (Z:AB s.heap z TI TO i1 i2 l1 l2 k xs ys) (hx:xs[k]?=none)
  (hE:∀ h' e,(∀ c o,c≠z->c≠TO->c≠i1->c≠i2->s.heap.get? c=some o->h'.get? c=some o)->(∃ o,h'.get? e=some o/\o.cls=.type "StopIteration")->E (.ref e) { s with heap:=h' }) :
  wpAny (model prog w) A (Builtin.«zip.__next__» ⟨[.ref z],[]⟩) Q E s:=by
 obtain ⟨⟨f0,b0,gz,hf⟩,gTI,⟨a,b,gTO⟩,g1,g2,t1,t2⟩:=Z
 rcases hf with ⟨rfl,rfl,rfl⟩|⟨_,T,oT,rfl,gT,nT⟩
 ·exact zip_next_end hh D gz gTI gTO g1 g2 t1 t2 (.inl hx) hE
 show wpAny _ _ (field (.ref z) 2 >>= _) _ _ _
 refine wpAny_bind (wpAny_field gz rfl (x:=.bool false) rfl ?_)
 show wpAny _ _ (field (.ref z) 3 >>= _) _ _ _
 refine wpAny_bind (wpAny_field gz rfl (x:=.ref TI) rfl (wpAny_bind (wpAny_seqItems gTI rfl ?_)))
 show wpAny _ _ (Builtin.SmallTypes.ownedTupleIsFree (.ref z) >>= _) _ _ _
 refine wpAny_bind (vS gz gT fun m0 e0 kp0 gz0=>?_)
 rw [if_neg (by decide)]
 simp only [← Array.forIn_toList,forIn_cons,List.forIn_nil]
 refine wpAny_bind (wpAny_bind (wpAny_bind (wpAny_holding ?_)))
 show wpAny _ _ (Builtin.SmallTypes.nextOf (.ref i1) >>= _) _ _ _
 refine wpAny_bind (wpAny_nextOf_list_end hh (g1.at fun o e=>kp0 _ o D.i1z e) (t1.at fun o e=>kp0 _ o D.l1z e) hx fun m1 e c1 he=>?_)
 exact hE m1 e (fun c o n1 _ n3 _ x=>c1 _ _ n3 (kp0 _ _ n1 x)) he
theorem wY {x y:Value}{Q:Option Value->Shared->Prop} (D:ZipApart z TI TO i1 i2 l1 l2) (Z:AB s.heap z TI TO i1 i2 l1 l2 k xs ys) (hx:xs[k]?=some x) (hy:ys[k]?=some y)
  (hQ:∀ h',AB h' z TI TO i1 i2 l1 l2 (k+1) xs ys->IsPair h' s.heap.objs.size x y->h'.objs.size=s.heap.objs.size+1 ->
   (∀ c o,c≠z->c≠TO->c≠i1->c≠i2->s.heap.get? c=some o->h'.get? c=some o)->Q (some (.ref s.heap.objs.size)) { s with heap:=h' }) :
  wpAny (model prog w) A (pyNext (.ref z)) Q E s:=by
 have hT:s.TypeIs (.ref z) "zip":=by
  obtain ⟨⟨f0,b0,gz,hf⟩,_⟩:=Z
  exact ⟨_,gz,rfl⟩
 unfold pyNext
 refine wpAny_bind (wpAny_attempt (wpAny_callSpecial?_slot (name:=Str.ofString "__next__") hT F.slot_zip_next (wpAny_call_entry F.slot_zip_next hT F.entry_zip_next ?_ (F.args_zip_next_1 _))))
 exact FO D Z hx hy fun h' a1 a2 a3 a4=>wpAny_pure (hQ h' a1 a2 a3 a4)
theorem zH {Q:Option Value->Shared->Prop} (hh:A.handled=none) (D:ZipApart z TI TO i1 i2 l1 l2) (Z:AB s.heap z TI TO i1 i2 l1 l2 k xs ys) (hx:xs[k]?=none)
  (hQ:∀ h',(∀ c o,c≠z->c≠TO->c≠i1->c≠i2->s.heap.get? c=some o->h'.get? c=some o)->Q none { s with heap:=h' }):wpAny (model prog w) A (pyNext (.ref z)) Q E s:=by
 have hT:s.TypeIs (.ref z) "zip":=by
  obtain ⟨⟨f0,b0,gz,hf⟩,_⟩:=Z
  exact ⟨_,gz,rfl⟩
 unfold pyNext
 refine wpAny_bind (wpAny_attempt (wpAny_callSpecial?_slot (name:=Str.ofString "__next__") hT F.slot_zip_next (wpAny_call_entry F.slot_zip_next hT F.entry_zip_next ?_ (F.args_zip_next_1 _))))
 refine LI hh D Z hx fun h' e kp he=>?_
 obtain ⟨o,ho,hc⟩:=he
 exact wpAny_bind (wpAny_isInstance (T:="StopIteration") (b:=true) ⟨o,ho,hc⟩ isSubtype_stop (wpAny_pure (hQ _ kp)))
noncomputable def CS (xs ys:Array Value) (n0:Nat) (h:Heap) (ts:List Addr):Prop:=ts.Nodup/\∀ (j:Nat) (t:Addr),ts[j]?=some t->n0<=t/\∃ x y,xs[j]?=some x/\ys[j]?=some y/\IsPair h t x y
theorem LJ {R:Result->Shared->Prop}{S:Addr}{n0:Nat}{res:Value} (hh:A.handled=none) (D:ZipApart z TI TO i1 i2 l1 l2) (nS:S≠z/\S≠TI/\S≠TO/\S≠i1/\S≠i2/\S≠l1/\S≠l2) (hl:xs.size=ys.size) (hz:xs.size<=1000) (hn0:z < n0/\TO < n0/\i1 < n0/\i2 < n0/\S < n0) :
  ∀ (n i:Nat) (h:Heap) (tk:Nat) (acc:Array Value) (c:Nat) (ts:List Addr),xs.size - i=n->i<=xs.size->n0<=h.objs.size->AB h z TI TO i1 i2 l1 l2 i xs ys->h.get? S=some { cls:=.type "list",dict:=none,data:=.seq acc c,slots:=#[] }->acc.toList=ts.map Value.ref->ts.length=i->CS xs ys n0 h ts ->
   (∀ b o,s.heap.get? b=some o->b≠z->b≠TO->b≠i1->b≠i2->b≠S->h.get? b=some o) ->
   (∀ h' tk' acc' c' ts',h'.get? S=some { cls:=.type "list",dict:=none,data:=.seq acc' c',slots:=#[] }->acc'.toList=ts'.map Value.ref->ts'.length=xs.size->CS xs ys n0 h' ts' ->
    (∀ b o,s.heap.get? b=some o->b≠z->b≠TO->b≠i1->b≠i2->b≠S->h'.get? b=some o)->R (.ok (.ret res)) { s with heap:=h',toks:=tk' }) ->
   codeAny (model prog w) A (.builtin "list.extend.loop" ⟨[.ref S,.ref z,res],[]⟩) R { s with heap:=h,toks:=tk }:=by
 intro n
 induction n with
|zero =>
  intro i h tk acc c ts hn hi hs0 Z hS ha ht hp kp hR
  have:i=xs.size:=by omega
  subst this
  refine codeAny_builtin F.entry_extend_loop ?_
  rw [Around.under_plainId F.plain_extend_loop _]
  show wpAny _ A.in1 (pyNext (.ref z) >>= _) _ _ _
  refine wpAny_bind (zH (by simpa using hh) D Z (by simp) fun h' eb=>?_)
  have up:∀ t,n0<=t->t≠z/\t≠TO/\t≠i1/\t≠i2:=fun t q=>⟨ne_of_gt (lt_of_lt_of_le hn0.1 q),ne_of_gt (lt_of_lt_of_le hn0.2.1 q),ne_of_gt (lt_of_lt_of_le hn0.2.2.1 q),ne_of_gt (lt_of_lt_of_le hn0.2.2.2.1 q)⟩
  refine wpAny_pure (hR h' tk acc c ts (eb _ _ nS.1 nS.2.2.1 nS.2.2.2.1 nS.2.2.2.2.1 hS) ha ht ⟨hp.1,fun j t e=>?_⟩ fun b o e n1 n2 n3 n4 n5=>eb b o n1 n2 n3 n4 (kp b o e n1 n2 n3 n4 n5))
  obtain ⟨q,x,y,e1,e2,e3⟩:=hp.2 j t e
  obtain ⟨u1,u2,u3,u4⟩:=up t q
  exact ⟨q,x,y,e1,e2,eb _ _ u1 u2 u3 u4 e3⟩
|succ n ih =>
  intro i h tk acc c ts hn hi hs0 Z hS ha ht hp kp hR
  have hlt:i < xs.size:=by omega
  refine codeAny_builtin F.entry_extend_loop ?_
  rw [Around.under_plainId F.plain_extend_loop _]
  show wpAny _ A.in1 (pyNext (.ref z) >>= _) _ _ _
  obtain ⟨x,hx⟩:∃ v,xs[i]?=some v:=⟨_,Array.getElem?_eq_getElem hlt⟩
  obtain ⟨y,hy⟩:∃ v,ys[i]?=some v:=⟨_,Array.getElem?_eq_getElem (show i < ys.size by omega)⟩
  refine wpAny_bind (wY D Z hx hy fun h' Z' gp sz' kz=>?_)
  dsimp only at Z' gp sz' kz
  have hS':h'.get? S=_:=kz _ _ nS.1 nS.2.2.1 nS.2.2.2.1 nS.2.2.2.2.1 hS
  have hacc:acc.size=i:=by rw [← Array.length_toList,ha,length_map,ht]
  show wpAny _ A.in1 (updateSeq S (·.push (.ref h.objs.size)) >>= _) _ _ _
  refine wpAny_bind ?_
  have up:∀ t,n0<=t->t≠z/\t≠TO/\t≠i1/\t≠i2/\S≠t:=fun t q=>⟨ne_of_gt (lt_of_lt_of_le hn0.1 q),ne_of_gt (lt_of_lt_of_le hn0.2.1 q),ne_of_gt (lt_of_lt_of_le hn0.2.2.1 q),ne_of_gt (lt_of_lt_of_le hn0.2.2.2.1 q),ne_of_lt (lt_of_lt_of_le hn0.2.2.2.2 q)⟩
  have ndp:(ts++[h.objs.size]).Nodup:=nodup_append.mpr ⟨hp.1,by simp,fun a ha b hb e=>by
   rw [mem_singleton.mp hb] at e
   obtain ⟨j,hj⟩:=List.getElem?_of_mem ha
   obtain ⟨_,_,_,_,_,e3⟩:=hp.2 j a hj
   exact ne_of_lt (lt_size e3) e⟩
  have o2:∀ b o,b≠S->h'.get? b=some o->(h'.update S (Obj.mapSeq (·.push (.ref h.objs.size)))).get? b=some o:=fun b o n e=>(get?_update_other _ _ (Ne.symm n)).trans e
  have Z2:AB (h'.update S (Obj.mapSeq (·.push (.ref h.objs.size)))) z TI TO i1 i2 l1 l2 (i+1) xs ys:=by
   obtain ⟨⟨f0,b0,gz,hf⟩,gTI,⟨a,b,gTO⟩,g1,g2,t1,t2⟩:=Z'
   refine ⟨⟨f0,b0,o2 _ _ nS.1.symm gz,?_⟩,o2 _ _ nS.2.1.symm gTI,⟨a,b,o2 _ _ nS.2.2.1.symm gTO⟩,g1.at fun o e=>o2 _ o nS.2.2.2.1.symm e,g2.at fun o e=>o2 _ o nS.2.2.2.2.1.symm e,t1.at fun o e=>o2 _ o nS.2.2.2.2.2.1.symm e,t2.at fun o e=>o2 _ o nS.2.2.2.2.2.2.symm e⟩
   rcases hf with ⟨h0,_⟩|⟨h1,T,oT,e1,gT,nT⟩
   ·exact absurd h0 (Nat.succ_ne_zero _)
   ·by_cases eT:T=S
    ·subst eT
     exact .inr ⟨h1,T,_,e1,get?_update_self _ hS' rfl,nT⟩
    ·exact .inr ⟨h1,T,oT,e1,o2 _ _ eT gT,nT⟩
  refine wpAny_updateSeq hS' rfl (wpAny_pure ⟨plainId_quiet F.plain_extend_loop _,ih (i+1) _ tk (acc.push (.ref h.objs.size)) _ (ts++[h.objs.size]) (by omega) hlt (by rw [size_update,sz']; omega) Z2 (get?_update_self _ hS' rfl) (by rw [Array.toList_push,ha,map_append]; rfl) (by simp [ht]) ⟨ndp,fun j t e=>?_⟩ (fun b o e n1 n2 n3 n4 n5=>o2 _ _ n5 (kz b o n1 n2 n3 n4 (kp b o e n1 n2 n3 n4 n5))) hR⟩)
   (by rw [hacc,sizeLine_eq]; omega) (by show (acc.push (.ref h.objs.size)).size<=sizeLine+1; rw [Array.size_push,hacc,sizeLine_eq]; omega)
  rcases lt_or_ge j ts.length with hj|hj
  ·rw [List.getElem?_append_left hj] at e
   obtain ⟨q,x',y',e1,e2,e3⟩:=hp.2 j t e
   obtain ⟨u1,u2,u3,u4,u5⟩:=up t q
   exact ⟨q,x',y',e1,e2,o2 _ _ u5.symm (kz _ _ u1 u2 u3 u4 e3)⟩
  ·rw [List.getElem?_append_right hj] at e
   have hj0:j - ts.length=0:=by
    rcases Nat.eq_zero_or_pos (j - ts.length) with z0|z0
    ·exact z0
    ·rw [List.getElem?_eq_none (by simp only [length_singleton]; exact z0)] at e; cases e
   rw [hj0] at e
   cases e
   have:j=i:=by omega
   subst this
   exact ⟨hs0,x,y,hx,hy,o2 _ _ (up _ hs0).2.2.2.2.symm gp⟩
theorem xZ:typeLookup (.type "zip") "__len__"=pure none:=by rw [typeLookup_type,builtinLookup_eq_fast]; kernel_rfl
theorem vR:typeLookup (.type "zip") "__length_hint__"=pure none:=by rw [typeLookup_type,builtinLookup_eq_fast]; kernel_rfl
theorem xO {Q:List Value->Shared->Prop} (hh:A.handled=none) (D:ZipApart z TI TO i1 i2 l1 l2) (Z:AB s.heap z TI TO i1 i2 l1 l2 0 xs ys) (hl:xs.size=ys.size) (hz:xs.size<=1000)
  (h:∀ h' tk ts,s.heap.objs.size<=h'.objs.size->ts.length=xs.size->CS xs ys s.heap.objs.size h' ts->(∀ b o,s.heap.get? b=some o->b≠z->b≠TO->b≠i1->b≠i2->h'.get? b=some o)->Q (ts.map Value.ref) { s with heap:=h',toks:=tk }) :
  wpAny (model prog w) A (collect (.ref z)) Q E s:=by
 unfold collect
 refine wpAny_bind (wpAny_runValue (codeAny_builtin F.entry_proto_collect ?_))
 rw [Around.under_plainId F.plain_proto_collect _]
 show wpAny _ A.in1 (newList [] >>= fun l=>again (.builtin "list.__iadd__" ⟨[l,.ref z],[]⟩)) _ _ s
 refine wpAny_bind (wpAny_newObj_type ?_)
 refine wpAny_pure ⟨plainId_quiet F.plain_list_iadd _,codeAny_builtin F.entry_list_iadd ?_⟩
 rw [Around.under_plainId F.plain_list_iadd _]
 have kp0:∀ b o,s.heap.get? b=some o->(s.heap.push { cls:=.type "list",data:=.seq ([]:List Value).toArray }).get? b=some o:=fun b o e=>get?_push_of_some _ e
 have hS₁:(s.heap.push { cls:=.type "list",data:=.seq ([]:List Value).toArray }).get? s.heap.objs.size=some { cls:=.type "list",data:=.seq ([]:List Value).toArray }:=get?_push_size _ rfl
 have sz1:(s.heap.push { cls:=.type "list",data:=.seq ([]:List Value).toArray }).objs.size=s.heap.objs.size+1:=size_push ..
 have Z1:=Z.keep kp0
 have lt:∀ {c:Addr} {o:Obj},s.heap.get? c=some o->s.heap.objs.size≠c:=fun e=>ne_of_gt (lt_size e)
 obtain ⟨⟨f0,b0,gz,hf⟩,gTI,⟨a,b,gTO⟩,⟨o1,e1,r1⟩,⟨o2,e2,r2⟩,⟨o3,e3,r3⟩,⟨o4,e4,r4⟩⟩:=id Z
 have h1:Builtin.List.listSameRef (.ref s.heap.objs.size) (.ref z)=false:=by simp [Builtin.List.listSameRef,lt gz]
 have hT:Shared.TypeIs { s with heap:=s.heap.push { cls:=.type "list",data:=.seq ([]:List Value).toArray } } (.ref z) "zip":=⟨_,kp0 _ _ gz,rfl⟩
 show wpAny _ A.in1 (Builtin.List.listExtendWith (.ref s.heap.objs.size) (.ref z) (.ref s.heap.objs.size)) _ _ _
 unfold Builtin.List.listExtendWith
 refine wpAny_bind (wpAny_typeOf hT ?_)
 rw [if_neg (by rw [h1]; decide)]
 refine wpAny_bind (wpAny_pyIter_slot hT F.slot_zip_iter (wpAny_call_entry F.slot_zip_iter hT F.entry_zip_iter (show wpAny _ _ (ret (.ref z)) _ _ _ from wpAny_pure ⟨_,rfl,"zip",_,hT,F.slot_zip_next.lookup,?_⟩) (F.args_zip_iter_1 _)))
 refine wpAny_bind (wpAny_holding ?_)
 unfold Builtin.List.listLengthHint
 refine wpAny_bind (wpAny_specialOf hT xZ ?_)
 show wpAny _ A.in1 (specialOf (Value.ref z) (Str.ofString "__length_hint__") >>= _) _ _ _
 refine wpAny_bind (wpAny_specialOf hT vR ?_)
 refine wpAny_pure ?_
 show wpAny _ A.in1 (rule "list.extend.makes-room" >>= fun _=>Builtin.List.listTouch (.ref s.heap.objs.size) >>= fun _ =>
  again (.builtin "list.extend.loop" ⟨[.ref s.heap.objs.size,.ref z,.ref s.heap.objs.size],[]⟩)) _ _ _
 refine wpAny_bind (wpAny_rule (wpAny_bind ?_))
 show wpAny _ A.in1 (updateSeq s.heap.objs.size (·.push .none) >>= fun _=>updateSeq s.heap.objs.size (·.pop)) _ _ _
 refine wpAny_bind (wpAny_updateSeq hS₁ rfl ?_)
 have hS₂:=get?_update_self (Obj.mapSeq (·.push Value.none)) hS₁ rfl
 refine wpAny_updateSeq hS₂ rfl ?_
 have hS₃:=get?_update_self (Obj.mapSeq (·.pop)) hS₂ rfl
 have oth:∀ b o,s.heap.get? b=some o ->
   (((s.heap.push { cls:=.type "list",data:=.seq ([]:List Value).toArray }).update s.heap.objs.size (Obj.mapSeq (·.push Value.none))).update s.heap.objs.size (Obj.mapSeq (·.pop))).get? b=some o:=
  fun b o e=>(get?_update_other _ _ (lt e)).trans ((get?_update_other _ _ (lt e)).trans (kp0 _ _ e))
 have sz3:(((s.heap.push { cls:=.type "list",data:=.seq ([]:List Value).toArray }).update s.heap.objs.size (Obj.mapSeq (·.push Value.none))).update s.heap.objs.size (Obj.mapSeq (·.pop))).objs.size=s.heap.objs.size+1:=by rw [size_update,size_update,sz1]
 refine wpAny_pure ⟨plainId_quiet F.plain_extend_loop _,?_⟩
 refine LJ (A:=A) (s:=s) (S:=s.heap.objs.size) (n0:=s.heap.objs.size+1) (by simpa using hh) D ⟨lt gz,lt gTI,lt gTO,lt e1,lt e2,lt e3,lt e4⟩ hl hz ⟨lt_succ_of_lt (lt_size gz),lt_succ_of_lt (lt_size gTO),lt_succ_of_lt (lt_size e1),lt_succ_of_lt (lt_size e2),lt_succ_self _⟩ xs.size 0 _ s.toks #[] _ [] rfl (zero_le _) (by rw [sz3]; exact le_refl _) (Z.keep oth) hS₃ rfl rfl ⟨nodup_nil,fun j t e=>by simp at e⟩ (fun b o e _ _ _ _ _=>oth _ _ e) fun h' tk' acc' c' ts' g1 g2 g3 g4 g5=>?_
 show wpAny _ A (load s.heap.objs.size >>= _) _ _ _
 refine wpAny_bind (wpAny_load g1 ?_)
 refine wpAny_pure ?_
 rw [g2]
 exact h h' tk' ts' (le_of_lt (lt_size g1)) g3 ⟨g4.1,fun j t e=>let ⟨q,r⟩:=g4.2 j t e; ⟨Nat.le_of_succ_le q,r⟩⟩ fun b o e n1 n2 n3 n4=>g5 b o e n1 n2 n3 n4 (ne_of_lt (lt_size e))
end
section
variable {prog:Program} {w:World} {A:Around} {E:Value -> Shared -> Prop} {s:Shared} {z TI TO i1 i2 l1 l2:Addr} {xs ys:Array Value}
theorem yK {Q:Value->Shared->Prop}{f c L:Addr}{m:Str->Option Value}{name qual:Str}{pm ct:Value}{q0 q1 q2 q3:Pos}{kz:List Int} (hh:A.handled=none) (hroom:A.depth < recursionLimit)
  (lim:∀ h:Heap,(∀ b o,s.heap.get? b=some o->b≠L->b≠z->b≠TO->b≠i1->b≠i2->h.get? b=some o)->h.NoLimit) (hL:s.heap.Ns L m) (nL:L≠z/\L≠TO/\L≠i1/\L≠i2)
  (ho:s.heap.get? f=some (kla_obj name qual (TZ q0) (UA q1 q2 q3) KY [] pm c ct)) (hc:s.heap.CodeRec (.ref c) qual) (nf:f≠L/\f≠z/\f≠TO/\f≠i1/\f≠i2) (nc:c≠L/\c≠z/\c≠TO/\c≠i1/\c≠i2)
  (D:ZipApart z TI TO i1 i2 l1 l2) (Z:AB s.heap z TI TO i1 i2 l1 l2 0 xs ys) (hl:xs.size=ys.size) (h64:xs.size < 64) (hk:IntsAre xs.toList kz)
  (h:∀ R h' tk out c' ts ps,s.heap.objs.size<=R->h'.Ns L m->h'.get? R=some (seqObj "list" out c')->ts.length=xs.size->CS xs ys s.heap.objs.size h' ts->(ps:List (Int×Value)).Perm (kz.zip (ts.map Value.ref))->out.toList=ps.map Prod.snd->ps.Pairwise (fun p q=>p.1<=q.1)->(∀ t∈ts,t≠R) ->
   (∀ b o,s.heap.get? b=some o->b≠L->b≠z->b≠TO->b≠i1->b≠i2->h'.get? b=some o)->Q (.ref R) { s with heap:=h',toks:=tk }) :
  wpAny (model prog w) A (call (.builtin "sorted") [.ref z] [(Str.ofString "key",.ref f)]) Q E s:=by
 refine call_function_entry_kw kind_sorted plain_sorted entry_sorted (ksk_s1 _ _) ?_
 unfold Builtin.«sorted»
 refine wpAny_bind (m:=checkCount "sorted" 1 1 _) (wpAny_pure ?_)
 refine wpAny_bind (xO (by simpa using hh) D Z hl (by omega) fun h1 tk1 ts ge1 hts hp kp=>?_)
 have hsz:(ts.map Value.ref).length=xs.size:=by rw [length_map,hts]
 refine wpAny_bind (wpAny_newList ?_ (by rw [hsz,sizeLine_eq]; omega))
 have hoL:(h1.push (seqObj "list" (ts.map Value.ref).toArray 0)).get? h1.objs.size=some (seqObj "list" (ts.map Value.ref).toArray 0):=get?_push_size _ rfl
 have kp1:∀ b o,h1.get? b=some o->(h1.push (seqObj "list" (ts.map Value.ref).toArray 0)).get? b=some o:=fun b o e=>get?_push_of_some _ e
 have hL1:h1.Ns L m:=let ⟨o,es,ep,e,r⟩:=hL; ⟨o,es,ep,kp _ _ e nL.1 nL.2.1 nL.2.2.1 nL.2.2.2,r⟩
 have lt1:∀ {b:Addr} {o:Obj},h1.get? b=some o->b≠h1.objs.size:=fun e=>ne_of_lt (lt_size e)
 show wpAny _ _ _ _ _ { s with heap:=h1.push (seqObj "list" (ts.map Value.ref).toArray 0),toks:=tk1 }
 refine wpAny_bind (wpAny_holding (wpAny_call_entry_kw slot_list_sort ⟨_,hoL,rfl⟩ entry_list_sort ?body (ksk_l1 _ _)))
 case body =>
  show wpAny (model prog w) A.in1.in1 (Builtin.«list.sort» ⟨[.ref h1.objs.size],[(Str.ofString "key",.ref f)]⟩) _ _ _
  rw [ksk_t1]
  have N1:News (Att.noObjs s.heap) L (h1.push (seqObj "list" (ts.map Value.ref).toArray 0)) (Att.ledger h1 L L):=fun ⟨b,o⟩ hb=>by
   obtain ⟨n1,_,e⟩:=Att.mem_ledger.mp hb
   exact ⟨kp1 _ _ e,n1,Att.noObjs_get _ _⟩
  have F1:Fr (Att.noObjs s.heap) L (h1.push (seqObj "list" (ts.map Value.ref).toArray 0)) m:=⟨let ⟨o,es,ep,e,r⟩:=hL1; ⟨o,es,ep,kp1 _ _ e,r⟩,fun b o e=>(by rw [Att.noObjs_get] at e; cases e),zero_le _⟩
  have ofN:∀ {h:Heap} {own:List (Addr×Obj)},News (Att.noObjs s.heap) L h (Att.ledger h1 L L++own)->∀ b o,h1.get? b=some o->b≠L->h.get? b=some o:=fun N b o e n=>(N (b,o) (mem_append_left _ (Att.mem_ledger.mpr ⟨n,n,e⟩))).1
  refine ksk_sort (s:={ s with heap:=h1.push (seqObj "list" (ts.map Value.ref).toArray 0),toks:=tk1 }) (h₀:=Att.noObjs s.heap) (L:=L) (m:=m) (news:=Att.ledger h1 L L) (kz:=kz) (b:=false) F1 N1 hoL (Ne.symm (lt1 hL1.choose_spec.choose_spec.choose_spec.1)) (Att.noObjs_get _ _) (fun ⟨b,o⟩ hb=>lt1 (Att.mem_ledger.mp hb).2.2) (by rw [hsz,← hk.length,Array.length_toList]) (by rw [hsz]; exact h64) ?turn fun h' tk out c' F' N' k'=>⟨_,rfl,?_⟩
  case turn =>
   intro i v kk hv hkk g tk own Fg Ng
   have hg:=ofN Ng
   rw [List.getElem?_map] at hv
   obtain ⟨t,ht,rfl⟩:=Option.map_eq_some_iff.mp hv
   obtain ⟨gt,x,y,ex,ey,ep⟩:=hp.2 i t ht
   have tL:t≠L:=ne_of_gt (lt_of_lt_of_le hL.lt gt)
   obtain ⟨tt,rfl⟩:∃ tt,x=.int kk tt:=by
    have:=hk.get (i:=i) (n:=kk) hkk
    obtain ⟨tt,e⟩:=this
    rw [← Array.getElem?_toList] at ex
    rw [ex] at e
    exact ⟨tt,Option.some.inj e⟩
   have kpg:∀ b o,s.heap.get? b=some o->b≠L->b≠z->b≠TO->b≠i1->b≠i2->g.get? b=some o:=fun b o e n1 n2 n3 n4 n5=>hg _ _ (kp _ _ e n2 n3 n4 n5) n1
   have hc':g.CodeRec (.ref c) qual:=let ⟨c0,o,vs,tt,e0,e1,e2⟩:=hc; ⟨c0,o,vs,tt,e0,(by cases e0; exact kpg _ _ e1 nc.1 nc.2.1 nc.2.2.1 nc.2.2.2.1 nc.2.2.2.2),e2⟩
   refine wpAny_mono (IW (A:=A.in1.in1) (s:={ s with heap:=g,toks:=tk }) (E:=fun _ _=>False) hroom (lim g kpg) (kpg _ _ ho nf.1 nf.2.1 nf.2.2.1 nf.2.2.2.1 nf.2.2.2.2) hc' (⟨_,hg _ _ ep tL,rfl,_,rfl⟩:IsTup g t #[.int kk tt,y])) (fun v s' hq=>?_) fun _ _ q=>q
   obtain ⟨rfl,h',tk',rfl,kk'⟩:=hq
   exact ⟨h',tk',tt,rfl,rfl,Fg.kept kk',Ng.grown kk'⟩
  ·obtain ⟨ps,p1,p2,p3⟩:=k'
   have hg:∀ b o,h1.get? b=some o->b≠L->h'.get? b=some o:=fun b o e n=>(N' (b,o) (mem_cons_of_mem _ (Att.mem_ledger.mpr ⟨n,n,e⟩))).1
   refine wpAny_pure ⟨_,rfl,h _ h' tk out c' ts ps ge1 F'.ns (N' _ mem_cons_self).1 hts ⟨hp.1,fun j t e=>?_⟩ p1 p2 (by simpa using p3) (fun t ht=>?_) fun b o e n1 n2 n3 n4 n5=>hg _ _ (kp _ _ e n2 n3 n4 n5) n1⟩
   ·obtain ⟨gt,x,y,ex,ey,ep⟩:=hp.2 j t e
    exact ⟨gt,x,y,ex,ey,hg _ _ ep (ne_of_gt (lt_of_lt_of_le hL.lt gt))⟩
   ·obtain ⟨j,hj⟩:=List.getElem?_of_mem ht
    obtain ⟨gt,x,y,ex,ey,ep⟩:=hp.2 j t hj
    exact lt1 ep
end
noncomputable def AH (c:Addr) (qual:Str):HO:=.ext fun h=>h.CodeRec (.ref c) qual
theorem OF {P:Program}{w:World}{H:Hp}{h:Heap}{c:Addr}{qual:Str} (k:h.CodeRec (.ref c) qual):cF P w H h c (AH c qual):=
 ⟨k,(let ⟨_,o,_,_,e0,e1,_⟩:=k; ⟨o,by cases e0; exact e1⟩),fun _ _ ⟨c0,o,vs,t,e0,e1,e2⟩ kp=>⟨c0,o,vs,t,e0,by cases e0; exact kp _ e1,e2⟩⟩
noncomputable def KU (pos:Pos) (c:Addr):Array Value:=#[rawInt pos.line,rawInt pos.col,.ref c]
noncomputable def fL (T:Addr) (pos:Pos) (qual:Str) (H:Hp):Prop:=H T=some (.tbl #[])∨∃ c,H T=some (.tbl (KU pos c))/\H c=some (AH c qual)
theorem fL.same {T:Addr}{pos:Pos}{qual:Str}{H H':Hp} (t:fL T pos qual H) (s:aI H H'):fL T pos qual H':=by
 rcases t with t|⟨c,t,u⟩
 ·exact .inl (s _ _ t)
 ·exact .inr ⟨c,s _ _ t,s _ _ u⟩
noncomputable def rC (mg:Str->Option Value) (h:Heap):Prop:=∃ bm o,mg "__builtins__"=some (.ref bm)/\bm≠builtinsNs/\bm≠mainGlobals/\h.get? bm=some o/\o.cls=.type "module"/\o.dict=some builtinsNs/\o.data=.plain
structure Ah (T:Addr) (lp q0 q1 q2 q3:Pos) (qual:Str) (H:Hp) (g h:Heap) (f c:Addr):Prop where
 kp:∀ b o,g.get? b=some o->b≠T->h.get? b=some o
 tb:h.get? T=some (tabObj (KU lp c))
 fn:∃ pm ct,h.get? f=some (kla_obj "<lambda>" qual (TZ q0) (UA q1 q2 q3) KY [] pm c ct)
 cd:h.CodeRec (.ref c) qual
 fge:g.objs.size<=f
 cs:(H T=some (.tbl #[])/\g.objs.size<=c)∨(H T=some (.tbl (KU lp c))/\H c=some (AH c qual))
theorem FE (lp:Pos) (c:Addr):codeAmong lp (KU lp c).toList=some (.ref c):=by
 show (if ((lp.line:Int)==lp.line&&(lp.col:Int)==lp.col)=true then some (Value.ref c) else _)=_
 rw [if_pos (by simp)]
theorem IV {X:Cx}{T c0:Addr}{lp q0 q1 q2 q3:Pos}{qual:Str}{pins:List (Addr×Obj)}{σ:St}{H:Hp}{s s2:Shared}{Q:Value->Shared->Prop}{E:Value->Shared->Prop} (I:aN X pins σ H s) (kp:∀ b o,s.heap.get? b=some o->s2.heap.get? b=some o)
  (hcd:X.env.code=.ref c0) (hK:codeHdIn X.K c0 T=true) (B:rC X.mg X.base) (hcl:closureFor KY X.env=pure []) (hq:X.env.qual++"<lambda>"=qual) (hT:fL T lp qual H)
  (k:∀ f c h tk,Ah T lp q0 q1 q2 q3 qual H s2.heap h f c->Q (.ref f) { s2 with heap:=h,toks:=tk }) :
  wpAny (model X.prog X.w) X.A (eval (.Lambda (TZ q0) (UA q1 q2 q3) KY lp) X.env) Q E s2:=by
 subst hq
 have gg:∀ b o,X.base.get? b=some o->s2.heap.get? b=some o:=fun b o e=>kp _ _ (I.bk b o e)
 have ns:s2.heap.Ns mainGlobals X.mg:=I.mod.glob.keeps gg
 have C:CodeHd s2.heap c0 T:=(codeHd_of_K I.mod.kin hK).keeps gg
 have tH:∃ ps,H T=some (.tbl ps):=by
  rcases hT with t|⟨c,t,_⟩
  ·exact ⟨_,t⟩
  ·exact ⟨_,t⟩
 obtain ⟨Am,tH⟩:=tH
 have gP0:s2.heap.get? T=some (tabObj Am):=kp _ _ (show s.heap.get? T=some _ from I.hok T _ tH)
 have hb:s2.heap.BuiltinsAt X.mg T:=by
  obtain ⟨bm,o,b1,b2,b3,b4,b5⟩:=B
  exact ⟨bm,o,b1,b2,b3,fun e=>(by have:=(I.bs _ _ b4).2; rw [e,tH] at this; cases this),gg _ _ b4,b5⟩
 have hgP:mainGlobals≠T:=fun q=>by
  obtain ⟨o,es,ep,e,hd,_⟩:=ns
  rw [q,gP0] at e; cases e; cases hd
 refine PySem.W.kla_eval rfl ?_
 rcases hT with t|⟨c,t,u⟩
 ·have e0:Am=#[]:=by rw [t] at tH; cases tH; rfl
  subst e0
  refine PySem.W.kla_makeFunction (ps:=#[]) hcl I.ok.glob ns hcd C gP0 trivial rfl hgP hb fun c' ct h' tk hx hge hlt hrec htb=>?_
  refine k _ c' _ tk ⟨fun b o e n=>get?_push_of_some _ (hx b o n e),get?_push_of_some _ htb,⟨_,ct,get?_push_size _ rfl⟩,hrec.push _,?_,.inl ⟨t,hge⟩⟩
  exact le_trans hge (le_of_lt hlt)
 ·have e0:Am=KU lp c:=by rw [t] at tH; cases tH; rfl
  subst e0
  have hc:s2.heap.CodeRec (.ref c) (X.env.qual++"<lambda>"):=(show s.heap.CodeRec (.ref c) _ from (I.hok c _ u).1).keeps kp
  refine PySem.W.kla_makeFunctionHit hcl I.ok.glob ns hcd C gP0 trivial (FE lp c) hb fun ct h' tk hx hsz=>?_
  exact k _ c _ tk ⟨fun b o e n=>get?_push_of_some _ (hx b o e),get?_push_of_some _ (hx _ _ gP0),⟨_,ct,get?_push_size _ rfl⟩,(hc.keeps hx).push _,hsz,.inr ⟨t,u⟩⟩
theorem iX {α β:Type}{g:α->β}:∀ {l:List β}{m:List β},l.Perm m->∀ {xs:List α},m=xs.map g->∃ ys:List α,ys.Perm xs/\l=ys.map g:=by
 intro l m p
 induction p with
|nil=>intro xs e; exact ⟨xs,.refl _,e⟩
|cons x p ih =>
  intro xs e
  cases xs with
 |nil=>cases e
 |cons a xs =>
   obtain ⟨e1,e3⟩:=List.cons.inj e
   obtain ⟨ys,q,e2⟩:=ih e3
   exact ⟨a::ys,q.cons a,by rw [e2,e1]; rfl⟩
|swap x y l =>
  intro xs e
  cases xs with
 |nil=>cases e
 |cons a xs =>
   cases xs with
  |nil=>cases e
  |cons b xs =>
    obtain ⟨e1,e2⟩:=List.cons.inj e
    obtain ⟨e3,e4⟩:=List.cons.inj e2
    exact ⟨b::a::xs,List.Perm.swap _ _ _,by rw [e1,e3,e4]; rfl⟩
|trans p q ihp ihq =>
  intro xs e
  obtain ⟨ys,q1,e1⟩:=ihq e
  obtain ⟨zs,q2,e2⟩:=ihp e1
  exact ⟨zs,q2.trans q1,e2⟩
theorem sL {α β:Type} [BEq α] [LawfulBEq α]:∀ {l:List (α×β)}{a:α}{b:β},(l.map (·.1)).Nodup->(a,b)∈l->l.lookup a=some b
|[],_,_,_,h=>nomatch h
|(x,y)::l,a,b,nd,h=>by
  obtain ⟨n1,n2⟩:=nodup_cons.mp nd
  rcases mem_cons.mp h with e|h
  ·cases e; simp [List.lookup]
  ·have:a≠x:=fun e=>n1 (e ▸ mem_map.mpr ⟨_,h,rfl⟩)
   rw [lookup_cons,beq_eq_false_iff_ne.mpr this]
   exact sL n2 h
theorem gG {α β:Type} [BEq α] [LawfulBEq α]:∀ {l:List (α×β)}{a:α},a∉l.map (·.1)->l.lookup a=none
|[],_,_=>rfl
|(x,y)::l,a,h=>by
  have:a≠x:=fun e=>h (e ▸ mem_cons_self)
  rw [lookup_cons,beq_eq_false_iff_ne.mpr this]
  exact gG fun q=>h (mem_cons_of_mem _ q)
noncomputable def MO (K:Frag) (T:Addr) (lp:Pos) (qual:Str):List V->Hp->VK->Prop:=fun vs H Q=>∃ (p q:Addr) (ks:List Int) (xs:List V),vs=[.ref p,.ref q]/\bX K H p (ks.map V.int)/\bX K H q xs/\ks.length=xs.length/\ks.length < 64/\fL T lp qual H /\
 ∀ (l:Addr) (G:Hp) (tr:List (Addr×(Int×V))),H l=none->Kp T H G->fL T lp qual G->G l=some (.lst (tr.map fun p=>V.ref p.1))->(∀ p∈tr,G p.1=some (.tup [.int p.2.1,p.2.2]))->(tr.map (·.2)).Perm (ks.zip xs)->tr.Pairwise (fun p q=>p.2.1<=q.2.1)->Q (.ref l) G
theorem DP {X:Cx}{a b:Expr}{t:TA}{c0 T:Addr}{p p2 pos pos2 q0 q1 q2 q3 lp kpos:Pos}{qual:Str}{kk:Nat} (hr:eP kk X.A) (hc:X.calm=true) (hgs:Gl X "sorted") (hms:X.mg "sorted"=none) (hg:Gl X "zip") (hm:X.mg "zip"=none)
    (hcd:X.env.code=.ref c0) (hK:codeHdIn X.K c0 T=true) (B:rC X.mg X.base) (hcl:closureFor KY X.env=pure []) (hq:X.env.qual++"<lambda>"=qual) (ha:PA X [a,b] t)
    (he:starEach [.Call (.Name "zip" p2) [a,b] [] pos2] X.env=[(false,eval (.Call (.Name "zip" p2) [a,b] [] pos2) X.env)]) (hs:starEach [a,b] X.env=(false,eval a X.env)::starEach [b] X.env) (hpl:(backTo pos2 (starEach [b] X.env)).any (·.1)=false) :
    PE X (.Call (.Name "sorted" p) [.Call (.Name "zip" p2) [a,b] [] pos2] [⟨some "key",.Lambda (TZ q0) (UA q1 q2 q3) KY lp,kpos⟩] pos) (Ak (MO X.K T lp qual) t):=by
  intro pins s σ H Q I h
  refine wpAny_Call_Name_kw (jC I hgs hms nF ?_ (by decide) (by decide))
  refine callWith_kw ?_
  show wpAny _ _ (spliced (backTo pos (starEach [.Call (.Name "zip" p2) [a,b] [] pos2] X.env))) _ _ s
  rw [he]
  show wpAny _ _ (spliced ((false,eval (.Call (.Name "zip" p2) [a,b] [] pos2) X.env)::backTo pos [])) _ _ s
  refine Calls.spliced_cons ?_
  refine Call_ (jC I hg hm UY (PyProof.Rows.callWith_type1 (cA (ha pos2 pins s σ H _ I h) fun us s1 z=>?_) hs hpl))
  obtain ⟨vs,H1,I1,r1,p1,p2',ks,xs,e,ga,gb,hl,hn,hT,q⟩:=z
  subst e
  obtain ⟨u1,u2,rfl,ra,rb⟩:=r1.two
  cases ra
  cases rb
  obtain ⟨its,rv1,pl1,_⟩:=I1.list ga
  obtain ⟨jts,rv2,pl2,_⟩:=I1.list gb
  refine call_zip_2 pl1.isList pl2.isList fun m1 z1 z2 z3 z4 z5 e5 kp=>?_
  refine Calls.spliced_nil ?_
  have la:p1 < s1.heap.objs.size:=by obtain ⟨o,n,g,_⟩:=pl1; exact lt_size g
  have lb:p2' < s1.heap.objs.size:=by obtain ⟨o,n,g,_⟩:=pl2; exact lt_size g
  have Z0:AB m1 (s1.heap.objs.size+4) (s1.heap.objs.size+2) (s1.heap.objs.size+3) s1.heap.objs.size (s1.heap.objs.size+1) p1 p2' 0 its.toArray jts.toArray:=
    ⟨⟨_,_,z1,.inl ⟨rfl,rfl,rfl⟩⟩,z2,⟨_,_,z3⟩,z4,z5,pl1.isList.at fun o e=>kp _ o e,pl2.isList.at fun o e=>kp _ o e⟩
  have lL:=I1.lt
  have nT1:p1≠T/\p2'≠T:=by
    have tH:∃ ps,s1.heap.get? T=some (tabObj ps):=by
      rcases hT with t|⟨c,t,_⟩
      . exact ⟨_,I1.hok T _ t⟩
      . exact ⟨_,I1.hok T _ t⟩
    obtain ⟨ps,tH⟩:=tH
    constructor
    . rintro rfl
      obtain ⟨o,n,g,gc,_⟩:=pl1
      rw [tH] at g; cases g; cases gc
    . rintro rfl
      obtain ⟨o,n,g,gc,_⟩:=pl2
      rw [tH] at g; cases g; cases gc
  have lT:T < s1.heap.objs.size:=by
    rcases hT with t|⟨c,t,_⟩
    . exact I1.hok.lt t
    . exact I1.hok.lt t
  show wpAny _ _ (evalAll ((do let v ← eval (.Lambda (TZ q0) (UA q1 q2 q3) KY lp) X.env; standAt pos; pure v)::[])) _ _ _
  refine wpAny_evalAll_cons (wpAny_bind (IV (s2:={ s1 with heap:=m1 }) I1 kp hcd hK B hcl hq hT fun f c h3 tk LA=>wpAny_bind (wpAny_standAt (wpAny_pure ?_))))
  refine wpAny_evalAll_nil ?_
  have hN:∃ N,s1.heap.objs.size=N:=⟨_,rfl⟩
  obtain ⟨N,hN⟩:=hN
  have kp0:∀ b o,s1.heap.get? b=some o->b < N:=fun b o e=>hN ▸ lt_size e
  have fge:N+5<=f:=by have:=LA.fge; rw [e5,hN] at this; exact this
  have nn:∀ {c i:Nat},c < N->c≠N+i:=fun h=>ne_of_lt (lt_of_lt_of_le h (le_add_right _ _))
  have nf:∀ {d i:Nat},N+5<=d->i < 5->d≠N+i:=fun h1 h2 e=>absurd h1 (by rw [e]; omega)
  have ne:∀ {i j:Nat},i≠j->N+i≠N+j:=fun h z=>h (Nat.add_left_cancel z)
  have n0:∀ {i:Nat},0 < i->N+i≠N:=fun h=>ne_of_gt (Nat.lt_add_of_pos_right h)
  rw [hN] at Z0 la lb lL lT
  have D:ZipApart (N+4) (N+2) (N+3) N (N+1) p1 p2':=⟨ne (by decide),ne (by decide),(n0 (by decide)).symm,ne (by decide),ne (by decide),n0 (by decide),ne (by decide),n0 (by decide),ne (by decide),(n0 (by decide)).symm,nn la,nn la,ne_of_lt la,nn la,nn lb,nn lb,ne_of_lt lb,nn lb⟩
  have kpM:∀ b o,m1.get? b=some o->b≠T->h3.get? b=some o:=LA.kp
  have Z:AB h3 (N+4) (N+2) (N+3) N (N+1) p1 p2' 0 its.toArray jts.toArray:=by
    obtain ⟨⟨f0,b0,gz,hf⟩,gTI,⟨a,b,gTO⟩,g1,g2,t1,t2⟩:=Z0
    refine ⟨⟨f0,b0,kpM _ _ gz (Ne.symm (nn lT)),?_⟩,kpM _ _ gTI (Ne.symm (nn lT)),⟨a,b,kpM _ _ gTO (Ne.symm (nn lT))⟩,g1.at fun o e=>kpM _ o e (ne_of_gt lT),g2.at fun o e=>kpM _ o e (Ne.symm (nn lT)),t1.at fun o e=>kpM _ o e nT1.1,t2.at fun o e=>kpM _ o e nT1.2⟩
    rcases hf with hf|⟨hk,_⟩
    . exact .inl hf
    . exact absurd hk (by decide)
  have cN:(N+5<=c)∨(c < N/\c≠X.env.locals/\H1 c=some (AH c qual)):=by
    rcases LA.cs with ⟨_,g⟩|⟨_,g⟩
    . rw [e5,hN] at g; exact .inl g
    . exact .inr ⟨hN ▸ I1.hok.lt g,aA g I1.free,g⟩
  have cne:c≠X.env.locals/\c≠N+4/\c≠N+3/\c≠N/\c≠N+1:=by
    rcases cN with g|⟨g,g2,_⟩
    . exact ⟨ne_of_gt (lt_of_lt_of_le lL (le_trans (le_add_right _ _) g)),nf g (by decide),nf g (by decide),nf (i:=0) g (by decide),nf g (by decide)⟩
    . exact ⟨g2,nn g,nn g,ne_of_lt g,nn g⟩
  have fne:f≠X.env.locals/\f≠N+4/\f≠N+3/\f≠N/\f≠N+1:=
    ⟨ne_of_gt (lt_of_lt_of_le lL (le_trans (le_add_right _ _) fge)),nf fge (by decide),nf fge (by decide),nf (i:=0) fge (by decide),nf fge (by decide)⟩
  obtain ⟨pm,ct,gf⟩:=LA.fn
  obtain ⟨mL,hLn,hLl⟩:=id I1.loc
  have kp3:∀ b o,s1.heap.get? b=some o->b≠T->h3.get? b=some o:=fun b o e n=>kpM _ _ (kp _ _ e) n
  have LT:X.env.locals≠T:=by
    rcases hT with t|⟨c,t,_⟩
    . exact Ne.symm (aA t I1.free)
    . exact Ne.symm (aA t I1.free)
  have hL3:h3.Ns X.env.locals mL:=let ⟨o,es,ep,e,r⟩:=hLn; ⟨o,es,ep,kp3 _ _ e LT,r⟩
  have bT:∀ b o,X.base.get? b=some o->b≠T/\b≠X.env.locals/\b < N/\s1.heap.get? b=some o:=fun b o e=>by
    have e2:=(I1.bs b o e)
    refine ⟨?_,?_,kp0 _ _ e2.1,e2.1⟩
    . rintro rfl
      rcases hT with t|⟨c,t,_⟩
      . rw [t] at e2; cases e2.2
      . rw [t] at e2; cases e2.2
    . exact ne_of_lt (lt_of_lt_of_le (lt_size e) (le_trans I1.ok.bsz I1.ok.above))
  have le3:N+5<=h3.objs.size:=le_trans fge (le_of_lt (lt_size gf))
  have sz:∀ (l:List Value),l.toArray.size=l.length:=fun _=>rfl
  have lk:its.length=ks.length:=by rw [← rv1.length,length_map]
  have lx:jts.length=xs.length:=rv2.length.symm
  show wpAny _ _ (call (.builtin "sorted") [.ref (s1.heap.objs.size+4)] [(Str.ofString "key",.ref f)]) _ _ _
  rw [hN]
  refine yK (s:={ s1 with heap:=h3,toks:=tk }) (L:=X.env.locals) (m:=mL) (kz:=ks) (I.ok.hd hc) (by have:=hr.dp; omega) (fun g kg=>I1.mod.nolimit.keeps fun b o e=>?_) hL3 ⟨nn lL,nn lL,ne_of_lt lL,nn lL⟩ gf LA.cd fne cne D Z (by rw [sz,sz,lk,lx,hl]) (by rw [sz,lk]; exact hn) (show IntsAre its ks from kB rv1) fun R h4 tk4 out c' ts ps gR gL gRo ZH An pp po psd tR kp4=>?_
  . obtain ⟨a1,a2,a3,a4⟩:=bT b o e
    exact kg b o (kp3 _ _ a4 a1) a2 (nn a3) (nn a3) (ne_of_lt a3) (nn a3)
  dsimp only at gR gL gRo An kp4
  have kpA:∀ b o,s1.heap.get? b=some o->b≠T->b≠X.env.locals->h4.get? b=some o:=fun b o e n1 n2=>kp4 _ _ (kp3 _ _ e n1) n2 (nn (kp0 _ _ e)) (nn (kp0 _ _ e)) (ne_of_lt (kp0 _ _ e)) (nn (kp0 _ _ e))
  -- the triples
  have lt3:ts.length=ks.length:=by rw [ZH,sz,lk]
  have ez:ks.zip (ts.map Value.ref)=(ts.zip (ks.zip xs)).map fun p=>(p.2.1,Value.ref p.1):=by
    apply ext_getElem?
    intro i
    simp only [List.getElem?_zip_eq_some,List.getElem?_map,List.zip,List.getElem?_zipWith]
    rcases lt_or_ge i ks.length with hi|hi
    . rw [List.getElem?_eq_getElem hi,List.getElem?_eq_getElem (show i < ts.length by omega),List.getElem?_eq_getElem (show i < xs.length by omega)]
      rfl
    . rw [List.getElem?_eq_none hi,List.getElem?_eq_none (show ts.length<=i by omega)]
      rfl
  obtain ⟨tr,ptr,etr⟩:=iX pp ez
  have fst_tr:(tr.map (·.1)).Perm ts:=by
    have:=ptr.map (·.1)
    rwa [List.map_fst_zip (by rw [length_zip,lt3,← hl]; exact le_of_eq (min_self _).symm)] at this
  have ndt:(tr.map (·.1)).Nodup:=fst_tr.nodup_iff.mpr An.1
  have mem_tr:∀ p∈tr,N+5<=p.1/\p.1≠R/\p.1≠c/\∃ x y,IsPair h4 p.1 x y/\aV (V.int p.2.1) x/\aV p.2.2 y:=fun p hp=>by
    have hp':=ptr.mem_iff.mp hp
    obtain ⟨i,hi⟩:=List.getElem?_of_mem hp'
    rw [List.getElem?_zip_eq_some] at hi
    obtain ⟨h1,h2⟩:=hi
    rw [List.getElem?_zip_eq_some] at h2
    obtain ⟨ge,x,y,ex,ey,ep⟩:=An.2 i p.1 h1
    obtain ⟨x',ex',rx⟩:=rv1.get (i:=i) (by rw [List.getElem?_map,h2.1]; rfl)
    obtain ⟨y',ey',ry⟩:=rv2.get (i:=i) h2.2
    have a1:its[i]?=some x:=by simpa using ex
    have a2:jts[i]?=some y:=by simpa using ey
    rw [a1] at ex'; cases ex'
    rw [a2] at ey'; cases ey'
    have cl:c < h3.objs.size:=by
      obtain ⟨_,o,_,_,e0,e1,_⟩:=LA.cd
      cases e0
      exact lt_size e1
    exact ⟨le_trans le3 ge,tR _ (mem_of_getElem? h1),ne_of_gt (lt_of_lt_of_le cl ge),x,y,ep,rx,ry⟩
  have cR:c≠R:=by
    obtain ⟨_,o,_,_,e0,e1,_⟩:=LA.cd
    cases e0
    exact ne_of_lt (lt_of_lt_of_le (lt_size e1) gR)
  have NR:N<=R:=le_trans (le_trans (le_add_right _ _) le3) gR
  let G:Hp:=fun b=>if b=R then some (.lst (tr.map fun p=>V.ref p.1)) else match tr.lookup b with
   |some p=>some (.tup [.int p.1,p.2])
   |none=>if b=T then some (.tbl (KU lp c)) else if b=c then some (AH c qual) else H1 b
  have GR:G R=some (.lst (tr.map fun p=>V.ref p.1)):=if_pos rfl
  have Gt:∀ p∈tr,G p.1=some (.tup [.int p.2.1,p.2.2]):=fun p hp=>by
    show (if p.1=R then _ else _)=_
    rw [if_neg (mem_tr p hp).2.1]
    simp only [sL ndt hp]
  have outT:∀ b,b < N->b∉tr.map (·.1):=fun b hb hm=>by
    obtain ⟨p,hp,e⟩:=mem_map.mp hm
    have:=(mem_tr p hp).1
    rw [e] at this
    omega
  have GT:G T=some (.tbl (KU lp c)):=by
    show (if T=R then _ else _)=_
    rw [if_neg (ne_of_lt (lt_of_lt_of_le lT NR)),gG (outT T lT)]
    exact if_pos rfl
  have cT:c≠T:=by
    rintro rfl
    obtain ⟨_,o,vs,_,e0,e1,e2,e3⟩:=LA.cd
    cases e0
    have e4:=LA.tb
    rw [e1] at e4
    cases e4
    cases e2
    have:(#[rawInt lp.line,rawInt lp.col,Value.ref c]:Array Value)[1]?=some (rawInt lp.col):=rfl
    rw [show KU lp c=#[rawInt lp.line,rawInt lp.col,Value.ref c] from rfl,this] at e3
    cases e3
  have Gc:G c=some (AH c qual):=by
    show (if c=R then _ else _)=_
    rw [if_neg cR,gG (fun hm=>by obtain ⟨p,hp,e⟩:=mem_map.mp hm; exact (mem_tr p hp).2.2.1 e)]
    show (if c=T then _ else _)=_
    rw [if_neg cT]
    exact if_pos rfl
  have Gb:∀ b,b < N->b≠T->b≠c->G b=H1 b:=fun b h1 h2 h3=>by
    show (if b=R then _ else _)=_
    rw [if_neg (ne_of_lt (lt_of_lt_of_le h1 NR)),gG (outT b h1)]
    show (if b=T then _ else _)=_
    rw [if_neg h2]
    exact if_neg h3
  have Gk:Kp T H1 G:=fun b o n e=>by
    have hb:b < N:=hN ▸ I1.hok.lt e
    by_cases hbc:b=c
    . subst hbc
      rcases cN with g|⟨_,_,g⟩
      . exact absurd (lt_of_lt_of_le hb (le_add_right _ 5)) (not_lt.mpr g)
      . rw [e] at g; cases g; exact Gc
    . rw [Gb b hb n hbc]; exact e
  have Gn:∀ b o,s1.heap.get? b=some o->H1 b=none->G b=none:=fun b o e n=>by
    have hb:=kp0 _ _ e
    have h2:b≠T:=by
      rintro rfl
      rcases hT with t|⟨_,t,_⟩ <;> (rw [t] at n; cases n)
    have h3:b≠c:=by
      rintro rfl
      rcases cN with g|⟨_,_,g⟩
      . exact absurd (lt_of_lt_of_le hb (le_add_right _ 5)) (not_lt.mpr g)
      . rw [n] at g; cases g
    rw [Gb b hb h2 h3]; exact n
  have rout:∀ l:List (Addr×(Int×V)),aQ (l.map fun p=>V.ref p.1) ((l.map fun p=>(p.2.1,Value.ref p.1)).map Prod.snd):=fun l=>by
    induction l with
   |nil=>exact .nil
   |cons p l ih=>exact .cons rfl ih
  have hok4:jK X.prog X.w G h4:=fun b u e=>by
    by_cases hbR:b=R
    . subst hbR
      rw [GR] at e; cases e
      refine ⟨?_,out.toList,c',?_,?_⟩
      . rw [length_map]
        have:tr.length=ts.length:=by rw [← length_map (f:=(·.1)) (as:=tr)]; exact fst_tr.length_eq
        rw [this,lt3,sizeLine_eq]; omega
      . rw [po,etr]; exact rout tr
      . rw [gRo]
    . by_cases hbt:b∈tr.map (·.1)
      . obtain ⟨p,hp,rfl⟩:=mem_map.mp hbt
        rw [Gt p hp] at e; cases e
        obtain ⟨_,_,_,x,y,ep,rx,ry⟩:=mem_tr p hp
        exact ⟨⟨by show 2<=sizeLine; decide,_,ep,rfl⟩,[x,y],.cons rx (.cons ry .nil),_,ep,rfl,_,rfl⟩
      . by_cases hbT:b=T
        . subst hbT
          rw [GT] at e; cases e
          exact kp4 _ _ LA.tb (Ne.symm LT) (nn lT) (nn lT) (ne_of_lt lT) (nn lT)
        . by_cases hbc:b=c
          . subst hbc
            rw [Gc] at e; cases e
            refine OF ?_
            obtain ⟨c1,o,vs,tt,e0,e1,e2⟩:=LA.cd
            cases e0
            exact ⟨_,o,vs,tt,rfl,kp4 _ _ e1 cne.1 cne.2.1 cne.2.2.1 cne.2.2.2.1 cne.2.2.2.2,e2⟩
          . have e1:H1 b=some u:=by
              have q:G b=if b=T then some (HO.tbl (KU lp c)) else if b=c then some (AH c qual) else H1 b:=by
                show (if b=R then _ else _)=_
                rw [if_neg hbR,gG hbt]
              rw [q,if_neg hbT,if_neg hbc] at e
              exact e
            refine (I1.hok b u e1).stay (fun d v hd r=>?_) (fun d r=>Gk d _ ?_ r) fun d xs' r=>Gk d _ ?_ r
            . have h1:H1 d≠none/\d≠T:=by
                rcases hd with rfl|hd
                . exact ⟨by rw [e1]; simp,hbT⟩
                . refine ⟨by rw [hd]; simp,?_⟩
                  rintro rfl
                  rcases hT with t|⟨_,t,_⟩ <;> (rw [t] at hd; cases hd)
              exact kpA d v r h1.2 fun z=>h1.1 (z ▸ I1.free)
            . rintro rfl
              rcases hT with t|⟨_,t,_⟩ <;> (rw [t] at r; cases r)
            . rintro rfl
              rcases hT with t|⟨_,t,_⟩ <;> (rw [t] at r; cases r)
  have nsu:∀ m,s1.heap.Ns X.env.locals m->h4.Ns X.env.locals m:=fun m hm=>by
    have:m=mL:=by
      obtain ⟨o,es,ep,e,d,_,r⟩:=hm
      obtain ⟨o2,es2,ep2,e2,d2,_,r2⟩:=hLn
      rw [e] at e2; cases e2
      rw [d] at d2; cases d2
      funext x
      rw [← r x,r2 x]
    rw [this]; exact gL
  have I4 : aN X pins σ G { s1 with heap := h4, toks := tk4 } := I1.step (g' := s1.gens) (d' := s1.drawn) (t' := tk4) (ch := []) (fun _ z => nomatch z) (fun b o n1 _ _ e n => kpA b o e (by
        rintro rfl
        rcases hT with t|⟨_,t,_⟩ <;> (rw [t] at n; cases n)) n1) (fun b o n1 _ _ e n=>⟨o.slots,kpA b o e (by
        rintro rfl
        rcases hT with t | ⟨_,t,_⟩ <;> (rw [t] at n; cases n)) n1⟩) (fun b o _ e n=>Gn b o e n) (fun b o _ e=>?_)
      (fun b xs' e=>Gk b _ (by
        rintro rfl
        rcases hT with t|⟨_,t,_⟩ <;> (rw [t] at e; cases e)) e) (fun b o u e=>Gk b _ (by
        rintro rfl
        rcases hT with t | ⟨_,t,_⟩ <;> (rw [t] at e; cases e)) e) (fun b ps' e=>?_) nsu hok4 I1.bare
  . exact ⟨.ref R,G,I4,rfl,q R G tr (by
      cases e:H1 R with
     |none=>rfl
     |some u=>exact absurd (hN ▸ I1.hok.lt e) (not_lt.mpr NR)) Gk (.inr ⟨c,GT,Gc⟩) GR Gt (by
        have:=ptr.map (·.2)
        rwa [List.map_snd_zip (by rw [length_zip,lt3,← hl]; exact le_of_eq (min_self _))] at this) (by
        rw [etr,pairwise_map] at psd
        exact psd)⟩
  . by_cases hb:b=X.env.locals
    . subst hb
      obtain ⟨o2,_,_,e2,_⟩:=gL
      exact ⟨o2,e2⟩
    . by_cases hbT:b=T
      . subst hbT
        exact ⟨_,kp4 _ _ LA.tb (Ne.symm LT) (nn lT) (nn lT) (ne_of_lt lT) (nn lT)⟩
      . exact ⟨o,kpA b o e hbT hb⟩
  . by_cases hbT:b=T
    . subst hbT
      rcases LA.cs with ⟨t,_⟩|⟨t,_⟩
      . rw [t] at e; cases e
        exact ⟨KU lp c,by rw [GT]; simp⟩
      . rw [t] at e; cases e
        exact ⟨#[],by rw [GT]; simp⟩
    . exact ⟨#[],by rw [Gk b _ hbT e]; simp⟩
end
section
theorem EG {P:Program}{w:World}{K:Frag}{mg mb:Str->Option Value}{CX:FK}{k:Nat}{fa a T c0:Addr}{fd:FuncData}{x:Str}{sp:Sp}{s₁:Shared}{vs:List Value}{ns:List Int}
  (KX:K.In s₁.heap) (hns:s₁.heap.Ns mainGlobals mg) (hb:s₁.heap.Ns builtinsNs mb) (hbb:∀ x:Str,x≠"__name__"->mb x=bootBuiltins x) (hlim:s₁.heap.NoLimit) (hg:s₁.gens=#[])
  (hT:s₁.heap.get? T=some (tabObj #[])) (hC:codeHdIn K c0 T=true) (hKT:K.lookup T=none) (hB:rC mg s₁.heap)
  (ha:s₁.heap.get? a=some { cls:=.type "list",data:=.seq vs.toArray }) (hi:IntsAre vs ns) (hl:ns.length<=sizeLine) (hr:eP k callerA)
  (F:∀ base:Heap,K.In base->base.Ns mainGlobals mg->rC mg base->kL P w K mg base CX k fa fd [x] sp) (hbind:∀ (s:Shared) (u:Value),BindsTo s fd ⟨[u],[]⟩ [(x,u)])
  (hsp:∀ H:Hp,H T=some (.tbl #[])->bX K H a (ns.map V.int)->sp [.ref a] H (fun v _=>v=.bl true) fun _ _ _=>False)
  (hCX:∀ H e s',CX [] H s₁ (fun _ _ _=>False) e s'->False) :
  codeAny (model P w) callerA (.call (.ref fa) ⟨[.ref a],[]⟩) (fun r s'=>r=.ok (.ret (.bool true))/\OldK s₁.heap s'.heap/\s'.os=s₁.os/\AllBare s'.gens) s₁:=by
 have rv:=rE hi
 have lenV:=hi.length
 have aT:a≠T:=by rintro rfl; rw [ha] at hT; cases hT
 have core:∀ H:Hp,H T=some (.tbl #[])->bX K H a (ns.map V.int)->jK P w H s₁.heap->(∀ b,H b≠none->b=a∨b=T)->(H a≠none->K.lookup a=none/\∃ o xs,H a=some (.frz o (.lst xs))) ->
   codeAny (model P w) callerA (.call (.ref fa) ⟨[.ref a],[]⟩) (fun r s'=>r=.ok (.ret (.bool true))/\OldK s₁.heap s'.heap/\s'.os=s₁.os/\AllBare s'.gens) s₁:=by
  intro H hO hS hok hA hK
  have base_of:∀ {b:Addr} {o:Obj},s₁.heap.get? b=some o->H b=none->(qY s₁.heap H).get? b=some o:=fun e n=>JG e n
  have noA:∀ {b:Addr} {o:Obj},s₁.heap.get? b=some o->(∀ xs n,o.data≠.seq xs n)->(∀ xs,o.data≠.fields xs)->H b=none:=fun {b o} e d1 d2=>by
   cases q:H b with
  |none=>rfl
  |some u =>
    rcases hA b (by rw [q]; simp) with e'|e'
    ·subst e'; rw [ha] at e; cases e; exact absurd rfl (d1 _ _)
    ·subst e'; rw [hT] at e; cases e; exact absurd rfl (d2 _)
  have nsK:∀ {b:Addr} {m:Str->Option Value},s₁.heap.Ns b m->(qY s₁.heap H).Ns b m:=fun {b m} ⟨o,es,ep,e,d,r⟩=>⟨o,es,ep,base_of e (noA e (fun _ _ z=>by rw [d] at z; cases z) fun _ z=>by rw [d] at z; cases z),d,r⟩
  have hKb:K.In (qY s₁.heap H):=fun b o e=>base_of (KX b o e) (by
   cases q:H b with
  |none=>rfl
  |some u =>
    rcases hA b (by rw [q]; simp) with e'|e'
    ·subst e'; rw [(hK (by rw [q]; simp)).1] at e; cases e
    ·subst e'; rw [hKT] at e; cases e)
  have hM:Mod K mg (qY s₁.heap H):=⟨hKb,nsK hns,⟨mb,nsK hb,hbb⟩,let ⟨mc,h1,h2⟩:=hlim; ⟨mc,nsK h1,h2⟩⟩
  have hBb:rC mg (qY s₁.heap H):=let ⟨bm,o,b1,b2,b3,b4,b5,b6,b7⟩:=hB; ⟨bm,o,b1,b2,b3,base_of b4 (noA b4 (fun _ _ z=>by rw [b7] at z; cases z) fun _ z=>by rw [b7] at z; cases z),b5,b6,b7⟩
  have e0:OO P w K mg (qY s₁.heap H) callerA [] s₁ H:=⟨rfl,hM,fun b o e=>ND e,le_of_eq (EM _ _),trivial,fun b hb=>absurd (show b∈([]:List Addr) from hb) (by simp),hok,.of_eq hg⟩
  refine codeAny_mono ((F _ hKb (nsK hns) hBb).run callerA [] s₁ H ⟨[.ref a],[]⟩ [.ref a] [.ref a] _ _ hr e0 (hbind s₁ (.ref a)) (.cons rfl .nil) (hsp H hO hS)) fun r s' h=>?_
  cases r with
 |error e=>exact (hCX H e s' h).elim
 |ok fl =>
   cases fl with
  |next=>exact False.elim h
  |brk=>exact False.elim h
  |cont=>exact False.elim h
  |ret u =>
    obtain ⟨v,H',os,bare,un,hok',r',q⟩:=h
    have q':v=.bl true:=q
    subst q'
    obtain rfl:u=Value.bool true:=r'
    have kb:∀ b o,s₁.heap.get? b=some o->b≠T->s'.heap.get? b=some o:=fun b o e n=>by
     cases q:H b with
    |none=>exact un.keep b o e q (by intro z; exact absurd (show b∈([]:List Addr) from z) (by simp)) (by simp)
    |some u =>
      rcases hA b (by rw [q]; simp) with e'|e'
      ·subst e'
       obtain ⟨ob,xs,z⟩:=(hK (by rw [q]; simp)).2
       have z2:=un.frzs b ob _ z
       obtain ⟨e1,_⟩:=hok b _ z
       obtain ⟨e2,_⟩:=hok' b _ z2
       rw [e] at e1; cases e1
       exact e2
      ·exact absurd e' n
    obtain ⟨more,hT2⟩:=un.tbls T _ hO
    have hT3:s'.heap.get? T=some (tabObj (#[]++more)):=hok' T _ hT2
    refine ⟨rfl,⟨fun b o e=>?_,fun b o e=>?_⟩,os,bare⟩
    ·by_cases hb:b=T
     ·subst hb
      rw [hT] at e; cases e
      exact .inr (.inl ⟨((codeHd_of_K KX hC).tab hT).isCodeTable,rfl,#[],more,rfl,hT3⟩)
     ·exact .inl (kb b o e hb)
    ·by_cases hb:b=T
     ·subst hb; exact ⟨_,hT3⟩
     ·exact ⟨o,kb b o e hb⟩
 cases hk:K.lookup a with
|some o =>
  have e:=KX a o hk
  rw [ha] at e
  cases e
  refine core (fun b=>if b=T then some (.tbl #[]) else none) (if_pos rfl) (.inr ⟨_,vs.toArray,_,hk,rfl,rfl,rfl,by rw [size_toArray,lenV]; exact hl,by simpa using rv⟩) (fun b u z=>?_) (fun b z=>?_) fun z=>absurd (if_neg aT) z
  ·by_cases hb:b=T
   ·have z':=(if_pos hb).symm.trans z
    cases z'
    subst hb
    exact hT
   ·have z':=(if_neg hb).symm.trans z
    cases z'
  ·by_cases hb:b=T
   ·exact .inr hb
   ·exact absurd (if_neg hb) z
|none =>
  refine core (fun b=>if b=T then some (.tbl #[]) else if b=a then some (.frz { cls:=.type "list",data:=.seq vs.toArray } (.lst (ns.map V.int))) else none) (if_pos rfl) (.inl (.inr ⟨{ cls:=.type "list",data:=.seq vs.toArray },(if_neg aT).trans (if_pos rfl)⟩)) (fun b u z=>?_) (fun b z=>?_) fun _=>⟨hk,_,_,(if_neg aT).trans (if_pos rfl)⟩
  ·by_cases hb:b=T
   ·have z':=(if_pos hb).symm.trans z
    cases z'
    subst hb
    exact hT
   ·have z1:=(if_neg hb).symm.trans z
    by_cases hb:b=a
    ·have z':=(if_pos hb).symm.trans z1
     cases z'
     subst hb
     exact ⟨ha,by rw [length_map]; exact hl,vs,_,rv,ha⟩
    ·have z':=(if_neg hb).symm.trans z1
     cases z'
  ·by_cases hb:b=T
   ·exact .inr hb
   ·by_cases hb2:b=a
    ·exact .inl hb2
    ·refine absurd ?_ z
     show (if b=T then _ else if b=a then _ else _)=_
     rw [if_neg hb,if_neg hb2]
theorem walk_ofT {l:PySem.W.OpenLaw}{n k:Nat}{q:Program}{loose:List Str}{XP:(Str->Option Value)->Heap->Prop}{YP:World->Heap->Prop}{d:DefRec}{K:Params->Frag}{CX:World->FK}{sp:World->Sp}{x:Str}{T c0:Addr}
  (hn:l.most=some n) (hn2:n<=sizeLine) (hdf:d.params.defaults=[]) (hr:eP k callerA)
  (hY:∀ (w:World) (h:Heap),YP w h->(K w.params).In h/\h.get? T=some (tabObj #[])) (hC:∀ P,codeHdIn (K P) c0 T=true) (hKT:∀ P,(K P).lookup T=none)
  (F:∀ (w:World) (mg:Str->Option Value) (fa:Addr) (h:Heap),(K w.params).In h->h.Ns mainGlobals mg->mg d.name=some (.ref fa) ->
   ∃ fd:FuncData,(∀ (s:Shared) (u:Value),BindsTo s fd ⟨[u],[]⟩ [(x,u)]) /\
    ∀ base:Heap,(K w.params).In base->base.Ns mainGlobals mg->rC mg base->kL l.prog w (K w.params) mg base (CX w) k fa fd [x] (sp w))
  (hsp:∀ (w:World) (H:Hp) (a:Addr) (ns:List Int),ns.length<=n->H T=some (.tbl #[])->bX (K w.params) H a (ns.map V.int)->sp w [.ref a] H (fun v _=>v=.bl true) fun _ _ _=>False)
  (hCX:∀ (w:World) (H:Hp) (s:Shared) (e:Value) (s':Shared),CX w [] H s (fun _ _ _=>False) e s'->False) :
  PySem.W.WalkO q loose XP YP l.row.toRowW d [] (fun f vs=>PySem.call f vs):=by
 refine Att.attach_call hn hdf fun w s₀ s₁ mg mb fa o pm cd doc a vs ns G Y ho hd hcd hmg hobj hints hlen hg=>?_
 obtain ⟨KX,hT⟩:=hY w _ Y
 obtain ⟨fd,hb,hF⟩:=F w mg fa _ KX G.T.g hmg
 have hB:rC mg s₁.heap:=by
  obtain ⟨bm,ob,b1,b2,b3,b4,b5,b6⟩:=G.T.bmain
  refine ⟨bm,ob,b1,b2,fun q=>?_,b3,b4,b5,b6⟩
  obtain ⟨o,es,ep,e,hd,_⟩:=G.T.g
  rw [q,e] at b3; cases b3; rw [hd] at b6; cases b6
 exact EG KX G.T.g G.T.b G.T.builtins G.T.nolimit hg hT (hC _) (hKT _) hB hobj hints (le_trans hlen hn2) hr hF hb (fun H hO hS=>hsp w H a ns hlen hO hS) fun H e s'=>hCX w H s₁ e s'
structure Ay (K:Frag) (mg:Str->Option Value) (x:Str) (st:Stmt) (ps:List Str) (c T:Addr):Prop where
 ex:∃ (f:Addr) (fd:FuncData),(∃ (oc:Value) (od:Option Addr) (dV kV doc pm:Value) (an:Option Addr) (ct:Value) (osl:Array (Option Value)),
  fd=fnOf x x (aW st) (aR st) (aD st) dV kV doc pm an (.ref c) ct/\K.lookup f=some ⟨oc,od,.func fd,osl⟩/\PySem.W.codeIn K (.ref c) x=true)/\keepIn K (.ref f)=true/\mg x=some (.ref f)/\fM K fd ps []
 hd:codeHdIn K c T=true
theorem bJ.ofC {P:Program}{w:World}{K:Frag}{mg:Str->Option Value}{base:Heap}{k:Nat}{x:Str}{st:Stmt}{N ps:List Str}{sp:Sp}{c T:Addr} (d:Ay K mg x st ps c T) (S:aO N ps (aD st)) (len:∀ vs H Q E,sp vs H Q E->vs.length=ps.length)
  (hbody:∀ (f:Addr) (A:Around) (outer:List Env) (s:Shared) (H:Hp) (vs:List V) (Q:VK) (E:XK),eP k (A.deeper (envOfC x (aD st) s.heap.objs.size f (.ref c)))->sp vs H Q E ->
   ∃ t,tI (mQ FN P w K mg base N x (aD st) f (.ref c) A outer s H E).nox (aR st) t/\t { nx:=fun _ H'=>Q .non H',rt:=Q } (start N vs) H):bJ P w K mg base (k+1) x ps sp:=by
 obtain ⟨f,fd,⟨oc,od,dV,kV,doc,pm,an,ct,osl,rfl,lk,hcd⟩,kp,a,b⟩:=d.ex
 refine ⟨f,_,a,kp,b,sQ lk hcd S len fun A outer s H vs Q E hr hsp=>?_⟩
 obtain ⟨t,h,q⟩:=hbody f A outer s H vs Q E hr hsp
 exact ⟨t,h.nox,q⟩
theorem UU {K:Frag}{mg:Str->Option Value}{h:Heap}{x:Str}{st:Stmt}{ps:List Str}{f c T:Addr}{oc:Value}{od an:Option Addr}{osl:Array (Option Value)}{dV kV doc pm ct:Value} (X:K.In h) (G:h.Ns mainGlobals mg)
  (a:nsIn K mainGlobals x=some (some (.ref f))) (l:K.lookup f=some ⟨oc,od,.func (fnOf x x (aW st) (aR st) (aD st) dV kV doc pm an (.ref c) ct),osl⟩)
  (cc:PySem.W.codeIn K (.ref c) x=true) (k:keepIn K (.ref f)=true) (t:codeHdIn K c T=true)
  (b:∀ us:List Value,us.length=ps.length->bindArgs (fnOf x x (aW st) (aR st) (aD st) dV kV doc pm an (.ref c) ct) ⟨us,[]⟩=pure (ps.zip us)):Ay K mg x st ps c T:=
 ⟨⟨f,_,⟨oc,od,dV,kV,doc,pm,an,ct,osl,rfl,l,cc⟩,k,mg_of X G a,.all b⟩,t⟩
end
section
structure kS (P:Program) (w:World) (K:Frag) (mg:Str->Option Value) (base:Heap) (k:Nat) (x:Str) (ps:List Str) (dvs:List V) (n:Nat) (ks:List Str) (sp:Sp):Prop where
 ex:∃ (f:Addr) (fd:FuncData),mg x=some (.ref f)/\keepIn K (.ref f)=true/\fM K fd ps []/\(∃ ds,aQ dvs ds/\fM K fd ps ds)/\KO K fd ps ks (gK n) (gK n)/\kL P w K mg base (KS P w) k f fd ps sp
section
variable {P:Program} {w:World} {K:Frag} {mg:Str -> Option Value} {base:Heap} {j k n:Nat} {x:Str} {st:Stmt} {N ps ks:List Str} {dvs:List V} {sp:Sp}
theorem kS.mono (o:kS P w K mg base j x ps dvs n ks sp) (h:j<=k):kS P w K mg base k x ps dvs n ks sp:=
 let ⟨f,fd,a,b,c,e,z,d⟩:=o.ex; ⟨f,fd,a,b,c,e,z,d.mono h⟩
theorem kS.toX (o:kS P w K mg base k x ps dvs n ks sp):qN P w K mg base k x ps dvs sp:=
 let ⟨f,fd,a,b,c,e,_,d⟩:=o.ex; ⟨f,fd,a,b,c,e,d⟩
theorem kS.of (d:Ax K mg x st ps dvs n ks) (S:aO N ps (aD st)) (len:∀ vs H Q E,sp vs H Q E->vs.length=ps.length)
  (hbody:∀ (f:Addr) (cdv:Value) (A:Around) (outer:List Env) (s:Shared) (H:Hp) (vs:List V) (Q:VK) (E:XK),eP k (A.deeper (envOfC x (aD st) s.heap.objs.size f cdv))->sp vs H Q E ->
   ∃ t,tI (mQ (KS P w) P w K mg base N x (aD st) f cdv A outer s H E) (aR st) t/\t { nx:=fun _ H'=>Q .non H',rt:=Q } (start N vs) H):kS P w K mg base (k+1) x ps dvs n ks sp:=by
 obtain ⟨f,fd,⟨oc,od,dV,kV,doc,pm,an,cdv,ct,osl,rfl,lk,hcd⟩,kp,a,b,b2,b3⟩:=d.ex
 exact ⟨f,_,a,kp,b,b2,b3,sQ lk hcd S len fun A outer s H vs Q E hr hsp=>hbody f cdv A outer s H vs Q E hr hsp⟩
end
section
variable {X:Cx} {k n:Nat} {x:Str} {ps:List Str} {dvs:List V} {sp:Sp} {p pos:Pos} {e:Expr} {es:List Expr} {t:TA} {E:XK}
end
end
section
section
variable {X:Cx}
end
end
section
section
variable {X:Cx} {tg:Expr}
end
section
variable {te:TE} {Q:VK} {H:Hp} {σ caps:St} {wi:TI} {tc:TT} {K:Frag}
end
section
variable {r r':R2} {ta tb tc:TE} {x y:V} {σ:St} {H:Hp} {Q:VK} {c:Bool}
end
section
variable {K:Frag} {H H':Hp}
end
theorem uU (z:Str):z.length=z.cps.toList.length:=by unfold Str.length; simp
theorem OD (a b:Str):(a++b).cps.toList=a.cps.toList++b.cps.toList:=by
 show (a.cps++b.cps).toList=_
 simp
theorem IT (a b:Str):(a++b).length=a.length+b.length:=by
 rw [uU,uU,uU,OD,length_append]
end
section
theorem NZ:∀ i,i < 1000->(Str.ofString (toString ((i:Nat):Int))).length<=10:=by decide +kernel
section
variable {X:Cx}
noncomputable def OX (te:TE):TE:=fun σ H Q=>te σ H fun x H1=>∃ i:Nat,x=.int i/\i < 1000/\∀ z:Str,z.length<=10->Q (.str z) H1
theorem EC {i:Nat} (h:i < 1000):((i:Nat):Int).natAbs.log2 < 1920:=by
 rw [Int.natAbs_natCast]
 by_cases e:i=0
 ·subst e; decide
 ·have h1:i.log2 < 10:=(Nat.log2_lt e).mpr (by omega)
  omega
theorem SZ {e:Expr}{te:TE}{pos:Pos} (he:PE X e te):PE X (.FormattedValue e (-1) none pos) (OX te):=by
 intro pins s σ H Q I h
 refine wpAny_FormattedValue_plain (cA (he pins s σ H _ I h) fun v s1 ⟨x,H1,I1,r1,i,e1,hi,q⟩=>?_)
 subst e1
 obtain ⟨t,rfl⟩:=r1
 exact wpAny_formatField_int (EC hi) ⟨.str _,H1,I1.tok _,⟨_,rfl⟩,q _ (NZ i hi)⟩
noncomputable def RI:List TE->TE
|[],_,H,Q=>∀ z:Str,Q (.str z) H
|t::r,σ,H,Q=>t σ H fun x H1=>∃ y:Str,x=.str y/\y.length<=200000/\RI r σ H1 Q
inductive QZ (X:Cx):List Expr->List TE->Prop
|nil:QZ X [] []
|cons {v:Expr} {vs:List Expr} {t:TE} {ts:List TE} (h:PE X v t) (r:QZ X vs ts):QZ X (v::vs) (t::ts)
theorem SV:QZ X [] []:=.nil
theorem uL {v:Expr}{vs:List Expr}{t:TE}{ts:List TE} (h:PE X v t) (r:QZ X vs ts):QZ X (v::vs) (t::ts):=.cons h r
theorem xH {pins:List (Addr×Obj)}{σ:St}{Q:VK}:∀ {vs:List Expr}{ts:List TE} (_:QZ X vs ts) (n:Nat) (acc:Str) (s:Shared) (H:Hp),acc.length<=200000 * n->ts.length+n<=60->aN X pins σ H s->RI ts σ H Q ->
  Joins (model X.prog X.w) X.A X.xe (evalEach vs X.env) acc (fun out s₁=>out.length<=sizeLine/\EP X pins σ Q (.str out s₁.toks) { s₁ with toks:=s₁.toks+1 }) s
|_,_,.nil,n,acc,s,H,ha,hn,I,h=>⟨by rw [sizeLine_eq]; omega,.str acc,H,I.tok _,⟨_,rfl⟩,h acc⟩
|v::vs,t::ts,.cons hp r,n,acc,s,H,ha,hn,I,h=>by
  show wpAny _ _ (eval v X.env) _ _ s
  rw [length_cons] at hn
  refine cA (hp pins s σ H _ I h) fun u s1 ⟨x,H1,I1,r1,y,e1,hy,q⟩=>?_
  subst e1
  obtain ⟨tk,rfl⟩:=r1
  have hl:=IT acc y
  refine ⟨y,tk,rfl,by rw [hl,sizeLine_eq]; omega,xH r (n+1) (acc++y) s1 H1 (by omega) (by omega) I1 q⟩
theorem SY {v1 v2:Expr}{dH:List Expr}{ts:List TE}{pos:Pos} (h:QZ X (v1::v2::dH) ts) (hn:ts.length<=50):PE X (.JoinedStr (v1::v2::dH) pos) (RI ts):=by
 intro pins s σ H Q I hq
 exact wpAny_JoinedStr (xH h 0 Str.empty s H (le_refl _) (by omega) I hq)
theorem XJ {σ:St}{H:Hp}{Q:VK} (k:∀ z:Str,Q (.str z) H):RI [] σ H Q:=k
noncomputable def Co (r:List TE) (σ:St) (Q:VK):VK:=fun x H1=>∃ y:Str,x=.str y/\y.length<=200000/\RI r σ H1 Q
theorem Bf {t:TE}{r:List TE}{σ:St}{H:Hp}{Q:VK} (k:t σ H (Co r σ Q)):RI (t::r) σ H Q:=k
theorem XI {r:List TE}{σ:St}{H:Hp}{Q:VK}{y:Str} (hy:y.length<=200000) (k:RI r σ H Q):Co r σ Q (.str y) H:=⟨y,rfl,hy,k⟩
noncomputable def Cq (Q:VK):VK:=fun x H1=>∃ i:Nat,x=.int i/\i < 1000/\∀ z:Str,z.length<=10->Q (.str z) H1
theorem XS {te:TE}{σ:St}{H:Hp}{Q:VK} (k:te σ H (Cq Q)):OX te σ H Q:=k
theorem XT {i:Nat}{H:Hp}{Q:VK} (hi:i < 1000) (k:∀ z:Str,z.length<=10->Q (.str z) H):Cq Q (.int i) H:=⟨i,rfl,hi,k⟩
end
section
variable {σ:St} {H:Hp} {D:dC} {K:Frag}
end
end
end L2
namespace L2
open PySem
section
variable {prog:Program} {w:World} {A:Around} {E:Value -> Shared -> Prop} {s:Shared} {a:Addr}
end
section
variable {prog:Program} {w:World} {A:Around} {R:Result -> Shared -> Prop} {I:Addr} {fp wr:List Addr} {G:Array GenState -> Array GenState -> Prop} {n:Nat} {P:Nat -> Value -> Prop} {St:Nat -> Shared -> Prop}
end
section
variable {prog:Program} {w:World} {A:Around} {E:Value -> Shared -> Prop} {s:Shared}
end
end L2
namespace L2
open PySem PySem.Spec PyProof.Rows
section
variable {prog:Program} {w:World} {A:Around} {E:Value -> Shared -> Prop} {s:Shared}
end
section
variable {X:Cx}
end
end L2
namespace L2
open PySem
noncomputable def pr (t:SetTable) (h:Int):Nat->SetTable.Probe
|0=>t.probeStart h
|n+1=>t.advance (pr t h n)
theorem FF (t:SetTable) (p:SetTable.Probe):(t.advance p).dummy=p.dummy:=by
 unfold SetTable.advance
 split <;> rfl
theorem wL (t:SetTable) (h:Int):∀ n,(pr t h n).dummy=none
|0=>rfl
|n+1=>(FF t _).trans (wL t h n)
theorem uK {t t':SetTable} (e:t'.mask=t.mask) (h:Int):∀ n,pr t' h n=pr t h n
|0=>by
  show SetTable.probeStart t' h=SetTable.probeStart t h
  unfold SetTable.probeStart
  rw [e]
|n+1=>by
  show SetTable.advance t' _=SetTable.advance t _
  rw [uK e h n]
  unfold SetTable.advance
  rw [e]
section
variable {t:SetTable} {f:Nat -> Int} {h:Int}
theorem oZ (ht:t.dummies=#[]) (j:Nat):t.slot j≠.dummy:=fun hs=>by
 unfold SetTable.slot at hs
 dsimp only at hs
 rw [ht,oK,if_neg Bool.false_ne_true] at hs
 split at hs <;> cases hs
theorem rN {i j:Nat} (e:t.slot j=.live i):t.place[i]?=some j:=by
 unfold SetTable.slot at e
 dsimp only at e
 split at e
 ·rename_i c
  cases e
  simpa using c
 ·split at e <;> cases e
theorem AX (hr:tD t.place) {i j:Nat} (e:t.place[i]?=some j):t.slot j=.live i:=by
 have hi:i < t.place.size:=(Array.getElem?_eq_some_iff.mp e).1
 have ej:t.place[i]=j:=(Array.getElem?_eq_some_iff.mp e).2
 have sb:SetTable.below t.place j=i:=by
  refine mW (fK j hr) ⟨le_of_lt hi,fun k hk hki=>?_,fun k hk hki=>?_⟩
  ·rw [← ej]
   exact hr.lt hki hi
  ·rw [← ej]
   exact hr.le hki hk
 unfold SetTable.slot
 dsimp only
 rw [sb,e,if_pos (by simp)]
theorem lS (hr:tD t.place) (hd:t.dummies=#[]) (j:Nat):t.slot j≠.empty ↔ j∈t.place.toList:=by
 constructor
 ·intro hn
  cases e:t.slot j with
 |empty=>exact absurd e hn
 |dummy=>exact absurd e (oZ hd j)
 |live i =>
   have:=rN e
   rw [← Array.getElem?_toList] at this
   exact mem_of_getElem? this
 ·intro hm e
  obtain ⟨i,hi⟩:=List.getElem?_of_mem hm
  rw [Array.getElem?_toList] at hi
  rw [AX hr hi] at e
  cases e
noncomputable def KK (t:SetTable) (f:Nat->Int) (h:Int) (n:Nat):Prop:=t.slot (pr t h n).j=.empty∨∃ i,t.slot (pr t h n).j=.live i/\f i=h
theorem QR (hd:t.dummies=#[]):∀ (fuel n m:Nat),n<=m->m < n+fuel->KK t f h m->∃ m',n<=m'/\m'<=m/\(∀ k,n<=k->k < m'->¬ KK t f h k) /\
  ((t.slot (pr t h m').j=.empty/\SetTable.probe.go t f h fuel (pr t h n)=some (.empty (pr t h m').j none))∨∃ i,t.slot (pr t h m').j=.live i/\f i=h/\SetTable.probe.go t f h fuel (pr t h n)=some (.candidate (pr t h m').j i (pr t h (m'+1))))
|0,n,m,h1,h2,_=>by omega
|fuel+1,n,m,h1,h2,hs=>by
  unfold SetTable.probe.go
  cases e:t.slot (pr t h n).j with
 |empty =>
   refine ⟨n,le_refl _,h1,fun k k1 k2=>by omega,.inl ⟨e,?_⟩⟩
   rw [wL]
 |dummy=>exact absurd e (oZ hd _)
 |live i =>
   dsimp only
   by_cases c:f i=h
   ·refine ⟨n,le_refl _,h1,fun k k1 k2=>by omega,.inr ⟨i,e,c,?_⟩⟩
    rw [if_pos (by simpa using c)]
    rfl
   ·rw [if_neg (by simpa using c)]
    have hn:¬ KK t f h n:=by
     rintro (z|⟨i',z,z2⟩)
     ·rw [e] at z; cases z
     ·rw [e] at z; cases z; exact c z2
    have hne:m≠n:=fun z=>hn (z ▸ hs)
    obtain ⟨m',a1,a2,a3,a4⟩:=QR hd fuel (n+1) m (by omega) (by omega) hs
    refine ⟨m',by omega,a2,fun k k1 k2=>?_,a4⟩
    by_cases z:k=n
    ·rw [z]
     exact hn
    ·exact a3 k (by omega) k2
end
noncomputable def fJ (mask:Nat) (h:Int):Nat->Nat×Nat
|0=>(SetTable.bits h % (mask+1),SetTable.bits h)
|n+1=>SetTable.leap mask (fJ mask h n).1 (fJ mask h n).2
theorem rS (mask i:Nat):i<=SetTable.runEnd mask i/\SetTable.runEnd mask i<=i+9:=by
 unfold SetTable.runEnd
 split <;> omega
theorem uJ {t:SetTable}{h:Int}:∀ (m n:Nat),m<=(pr t h n).more->(pr t h (n+m)).more=(pr t h n).more - m/\(pr t h (n+m)).i=(pr t h n).i/\(pr t h (n+m)).perturb=(pr t h n).perturb
|0,n,_=>⟨rfl,rfl,rfl⟩
|m+1,n,hm=>by
  obtain ⟨a,b,c⟩:=uJ (t:=t) (h:=h) m n (by omega)
  have e:pr t h (n+(m+1))=t.advance (pr t h (n+m)):=rfl
  have hp:(pr t h (n+m)).more > 0:=by omega
  rw [e]
  unfold SetTable.advance
  rw [if_pos hp]
  exact ⟨by show (pr t h (n+m)).more - 1=_; omega,b,c⟩
theorem BP (t:SetTable) (h:Int):∀ k,∃ n,n<=10 * k/\(pr t h n).j=(fJ t.mask h k).1/\(pr t h n).i=(fJ t.mask h k).1/\(pr t h n).perturb=(fJ t.mask h k).2/\(pr t h n).more=SetTable.runEnd t.mask (fJ t.mask h k).1 - (fJ t.mask h k).1
|0=>⟨0,le_refl _,rfl,rfl,rfl,rfl⟩
|k+1=>by
  obtain ⟨n,h1,h2,h3,h4,h5⟩:=BP t h k
  obtain ⟨a,b,c⟩:=uJ (t:=t) (h:=h) (pr t h n).more n (le_refl _)
  have hr:=rS t.mask (fJ t.mask h k).1
  refine ⟨n+(pr t h n).more+1,by omega,?_⟩
  have e:pr t h (n+(pr t h n).more+1)=t.advance (pr t h (n+(pr t h n).more)):=rfl
  have hp:¬ (pr t h (n+(pr t h n).more)).more > 0:=by omega
  have el:fJ t.mask h (k+1)=SetTable.leap t.mask (fJ t.mask h k).1 (fJ t.mask h k).2:=rfl
  rw [e,el]
  unfold SetTable.advance
  rw [if_neg hp,b,c,h3,h4]
  exact ⟨rfl,rfl,rfl,rfl⟩
theorem IM (mask:Nat) (h:Int):∀ n,(fJ mask h n).2=SetTable.bits h / 32 ^ n
|0=>by simp [fJ]
|n+1=>by
  show (fJ mask h n).2 / 32=_
  rw [IM mask h n,Nat.div_div_eq_div_mul,← Nat.pow_succ]
theorem OI (h:Int):SetTable.bits h < 2 ^ 64:=by
 unfold SetTable.bits
 have:=Int.emod_lt_of_pos h (show (0:Int) < 2 ^ 64 by decide)
 have:=Int.emod_nonneg h (show (2:Int) ^ 64≠0 by decide)
 omega
theorem NI (mask:Nat) (h:Int) {n:Nat} (hn:13<=n):(fJ mask h n).2=0:=by
 rw [IM]
 refine Nat.div_eq_of_lt (lt_of_lt_of_le (OI h) (le_trans ?_ (Nat.pow_le_pow_right (by decide) hn)))
 decide
noncomputable def Ao (m i:Nat):Nat->Nat
|0=>i
|k+1=>(Ao m i k * 5+1) % (m+1)
theorem zJ (mask:Nat) (h:Int):∀ k,(fJ mask h (13+k)).1=Ao mask (fJ mask h 13).1 k
|0=>rfl
|k+1=>by
  show (((fJ mask h (13+k)).1 * 5+1+(fJ mask h (13+k)).2 / 32) % (mask+1))=_
  rw [NI mask h (show 13<=13+k by omega),zJ mask h k]
  rfl
theorem QJ (mask:Nat) (h:Int):∀ n,(fJ mask h n).1 < mask+1
|0=>mod_lt _ (succ_pos _)
|n+1=>mod_lt _ (succ_pos _)
theorem YW:∀ i < 8,∀ e < 8,∃ k < 8,Ao 7 i k=e:=by decide +kernel
theorem TF:∀ i < 32,∀ e < 32,∃ k < 32,Ao 31 i k=e:=by decide +kernel
theorem IN {mask:Nat} (hm:mask=7∨mask=31) (h:Int) {e:Nat} (he:e<=mask):∃ k,k<=13+mask/\(fJ mask h k).1=e:=by
 have hl:=QJ mask h 13
 rcases hm with rfl|rfl
 ·obtain ⟨k,hk,e1⟩:=YW _ hl e (by omega)
  exact ⟨13+k,by omega,by rw [zJ]; exact e1⟩
 ·obtain ⟨k,hk,e1⟩:=TF _ hl e (by omega)
  exact ⟨13+k,by omega,by rw [zJ]; exact e1⟩
theorem JJ {t:SetTable} (hm:t.mask=7∨t.mask=31) (hr:tD t.place) (hd:t.dummies=#[]) (hs:t.place.size<=t.mask) (h:Int):∃ n,n < 10 * SetTable.turns t.mask/\t.slot (pr t h n).j=.empty:=by
 have hf:∃ e,e<=t.mask/\t.slot e=.empty:=by
  apply Classical.byContradiction
  intro hn
  have all:∀ e∈List.range (t.mask+1),e∈t.place.toList:=fun e he=>by
   rw [← lS hr hd]
   intro z
   exact hn ⟨e,by have:=mem_range.mp he; omega,z⟩
  have hl:(List.range (t.mask+1)).length<=t.place.toList.length:=by
   have nd:(List.range (t.mask+1)).Nodup:=nodup_range
   exact iZ nd all
  rw [length_range,Array.length_toList] at hl
  omega
 obtain ⟨e,he,hse⟩:=hf
 obtain ⟨k,hk,ek⟩:=IN hm h he
 obtain ⟨n,hn,hj,_⟩:=BP t h k
 refine ⟨n,?_,by rw [hj,ek]; exact hse⟩
 unfold SetTable.turns
 omega
structure AC {prog:Program} {w:World} {K:Type} [DecidableEq K] (knd:KeyKind prog w K) (h:Heap) (es:Array (Int×Value)) (t:SetTable) (ks:List (List K)):Prop where
 sz:ks.length=es.size
 el:∀ (i:Nat) (k:List K),ks[i]?=some k->∃ a,es[i]?=some (tupleKeyHash knd k,.ref a)/\IsTupleKey knd h k a
 nd:ks.Nodup
 mask:(t.mask=7/\es.size<=5)∨(t.mask=31/\es.size<=18)
 fits:t.fits es.size=true
 tb:Tb w t es.size
 rch:∀ (i j:Nat) (k:List K),ks[i]?=some k->t.place[i]?=some j->∃ n,(pr t (tupleKeyHash knd k) n).j=j/\∀ m,m < n->(pr t (tupleKeyHash knd k) m).j∈t.place.toList
theorem kC {t:SetTable}{n:Nat} (h:t.fits n=true):t.place.size=n:=by
 unfold SetTable.fits at h
 simp only [Bool.and_eq_true,beq_iff_eq,decide_eq_true_eq] at h
 exact h.1
theorem JN {P:Nat->Prop} (h:∃ n,P n):∃ n,P n/\∀ m,m < n->¬ P m:=by
 obtain ⟨n,hn⟩:=h
 induction n using Nat.strongRecOn with
|_ n ih =>
  by_cases c:∃ m,m < n/\P m
  ·obtain ⟨m,hm,hp⟩:=c
   exact ih m hm hp
  ·exact ⟨n,hn,fun m hm hp=>c ⟨m,hm,hp⟩⟩
section
variable {prog:Program} {w:World} {K:Type} [DecidableEq K] {knd:KeyKind prog w K} {A:Around} {E:Value -> Shared -> Prop} {s:Shared}
theorem AC.free {h:Heap}{es:Array (Int×Value)}{t:SetTable}{ks:List (List K)} (T:AC knd h es t ks) (x:Int):∃ n,t.slot (pr t x n).j=.empty/\n < 10 * SetTable.turns t.mask/\∀ m,m < n->(pr t x m).j∈t.place.toList:=by
 have hz:=kC T.fits
 obtain ⟨n0,h1,h2⟩:=JJ (t:=t) (by rcases T.mask with ⟨e,_⟩|⟨e,_⟩; exact .inl e; exact .inr e) T.tb.2.1 T.tb.2.2 (by rcases T.mask with ⟨e,e2⟩|⟨e,e2⟩ <;> omega) x
 obtain ⟨n,h3,h4⟩:=JN (P:=fun n=>t.slot (pr t x n).j=.empty) ⟨n0,h2⟩
 have hle:n<=n0:=by
  rcases lt_or_ge n0 n with c|c
  ·exact absurd h2 (h4 n0 c)
  ·exact c
 exact ⟨n,h3,by omega,fun m hm=>(lS T.tb.2.1 T.tb.2.2 _).mp (h4 m hm)⟩
theorem CO {k:List K}{a:Addr}{Q:Bool->Shared->Prop} (hk:IsTupleKey knd s.heap k a) (h:Q false s):wpAny (model prog w) A (ofAClassStatement 8 (.ref a)) Q E s:=by
 have hT:=hk.typeIs
 obtain ⟨o,items,n,ho,hc,hd,hi⟩:=hk
 unfold ofAClassStatement
 refine wpAny_bind (wpAny_typeOf hT ?_)
 dsimp only
 rw [if_pos (by decide)]
 refine wpAny_bind (wpAny_pure ?_)
 simp only [Bool.not_true,Bool.false_eq_true,if_false]
 refine wpAny_bind (wpAny_seqItems ho hd ?_)
 dsimp only
 refine wpAny_bind ?_
 show wpAny _ _ (forIn items _ _) _ _ s
 rw [← Array.forIn_toList]
 refine wpAny_forIn_list _ (fun dH r s'=>r.1=none/\s'=s/\∀ v∈dH,carriedByValue v=true) _ ?_ ?_ _ _ ⟨rfl,rfl,hi.byValue⟩
 ·rintro v dH r s' ⟨hr,rfl,hall⟩
  have hv:=hall v mem_cons_self
  have e:ofAClassStatement 7 v=pure false:=by
   cases v with
  |ref a=>simp [carriedByValue] at hv
  |_=>unfold ofAClassStatement; rfl
  rw [e]
  refine wpAny_bind (wpAny_pure ?_)
  simp only [Bool.false_eq_true,if_false]
  exact wpAny_pure ⟨rfl,rfl,fun u hu'=>hall u (mem_cons_of_mem _ hu')⟩
 ·rintro ⟨r1,r2⟩ s' ⟨hr,rfl,_⟩
  simp only at hr
  subst hr
  exact wpAny_pure h
theorem GN {k:List K}{x:Addr}{vs:List Value}{Q:Bool->Shared->Prop} (hk:IsTupleKey knd s.heap k x) (hv:∀ v∈vs,∃ k' a,v=.ref a/\IsTupleKey knd s.heap k' a) (h:Q false s):wpAny (model prog w) A (searchCouldBeSeen (.ref x) vs) Q E s:=by
 unfold searchCouldBeSeen
 refine wpAny_bind ?_
 refine wpAny_forIn_list _ (fun dH r s'=>r.1=none/\s'=s/\∀ v∈dH,∃ k' a,v=.ref a/\IsTupleKey knd s.heap k' a) _ ?_ ?_ _ _ ⟨rfl,rfl,hv⟩
 ·rintro v dH r s' ⟨hr,rfl,hall⟩
  obtain ⟨k',a,rfl,ha⟩:=hall v mem_cons_self
  have tl:∀ u∈dH,∃ k' a,u=.ref a/\IsTupleKey knd s'.heap k' a:=fun u hu'=>hall u (mem_cons_of_mem _ hu')
  dsimp only
  split
  ·exact wpAny_pure ⟨rfl,rfl,tl⟩
  ·refine wpAny_bind (wpAny_eqIsQuiet_tuple hk ?_)
   simp only [Bool.not_true,Bool.false_eq_true,if_false]
   refine wpAny_bind (wpAny_eqIsQuiet_tuple ha ?_)
   simp only [Bool.not_true,Bool.false_eq_true,if_false]
   refine wpAny_bind (CO hk ?_)
   simp only [Bool.false_eq_true,if_false]
   refine wpAny_bind (CO ha ?_)
   simp only [Bool.false_eq_true,if_false]
   exact wpAny_pure ⟨rfl,rfl,tl⟩
 ·rintro ⟨r1,r2⟩ s' ⟨hr,rfl,_⟩
  simp only at hr
  subst hr
  exact wpAny_pure h
theorem AC.hash {h:Heap}{es:Array (Int×Value)}{t:SetTable}{ks:List (List K)} (T:AC knd h es t ks) {i:Nat}{k:List K} (e:ks[i]?=some k):((es[i]?).map (·.1)).getD 0=tupleKeyHash knd k:=by
 obtain ⟨a,e1,_⟩:=T.el i k e
 rw [e1]
 rfl
theorem DH {a x:Addr}{es:Array (Int×Value)}{ep:Nat}{t:SetTable}{ks:List (List K)}{k:List K}{Q:SetFound->Shared->Prop} (hu:A.units < cLine) (T:AC knd s.heap es t ks) (ho:s.heap.get? a=some (bM es ep t)) (hx:IsTupleKey knd s.heap k x)
  (h1:k∈ks->Q (.there none) s) (h2:k∉ks->∀ n,t.slot (pr t (tupleKeyHash knd k) n).j=.empty->(∀ m,m < n->(pr t (tupleKeyHash knd k) m).j∈t.place.toList)->Q (.free (pr t (tupleKeyHash knd k) n).j false) s):wpAny (model prog w) A (setSearch a (.ref x) (tupleKeyHash knd k) true) Q E s:=by
 obtain ⟨N,n1,n2,n3⟩:=T.free (tupleKeyHash knd k)
 have hr:=T.tb.2.1
 have hd:=T.tb.2.2
 have hz:=kC T.fits
 have live:∀ {j i:Nat},t.slot j=.live i->∃ kk,ks[i]?=some kk:=fun {j i} e=>by
  have hi:=(Array.getElem?_eq_some_iff.mp (rN e)).1
  exact ⟨_,List.getElem?_eq_getElem (by rw [T.sz]; omega)⟩
 have main:∀ (fuel n:Nat) (stand:Option SetTable.Probe),stand.getD (t.probeStart (tupleKeyHash knd k))=pr t (tupleKeyHash knd k) n->n<=N->N - n < fuel->(∀ m,m < n->∀ i kk,t.slot (pr t (tupleKeyHash knd k) m).j=.live i->ks[i]?=some kk->kk≠k)->wpAny (model prog w) A (setSearchFrom a (.ref x) (tupleKeyHash knd k) true fuel stand) Q E s:=by
  intro fuel
  induction fuel with
 |zero=>intro n stand _ _ hf _; omega
 |succ fuel ih =>
   intro n stand hst hn hf hno
   unfold setSearchFrom
   refine wpAny_bind (wpAny_setState_of ho rfl T.fits ?_)
   dsimp only
   have hg:t.gaveWay=false:=by
    unfold SetTable.gaveWay
    rcases T.mask with ⟨e,_⟩|⟨e,_⟩ <;> rw [e] <;> rfl
   rw [hg,if_neg Bool.false_ne_true]
   rw [hst]
   obtain ⟨m,a1,a2,a3,a4⟩:=QR (t:=t) (f:=fun i=>((es[i]?).map (·.1)).getD 0) (h:=tupleKeyHash knd k) hd (10 * SetTable.turns t.mask) n N hn (by omega) (.inl n1)
   have hN:∀ q,q < N->t.slot (pr t (tupleKeyHash knd k) q).j≠.empty:=fun q hq=>(lS hr hd _).mpr (n3 q hq)
   rcases a4 with ⟨b1,b2⟩|⟨i,b1,b3,b2⟩
   ·have em:m=N:=by
     rcases lt_or_ge m N with c|c
     ·exact absurd b1 (hN m c)
     ·omega
    subst em
    show wpAny _ _ (match SetTable.probe.go t (fun i=>((es[i]?).map (·.1)).getD 0) (tupleKeyHash knd k) (10 * SetTable.turns t.mask) (pr t (tupleKeyHash knd k) n) with|some met=>_|_=>_) _ _ _
    rw [b2]
    dsimp only
    refine wpAny_pure (h2 (fun hk=>?_) m b1 n3)
    obtain ⟨i,hi⟩:=List.getElem?_of_mem hk
    have hip:i < t.place.size:=by
     have:=(List.getElem?_eq_some_iff.mp hi).1
     rw [T.sz] at this
     omega
    obtain ⟨r,r1,r2⟩:=T.rch i _ k hi (Array.getElem?_eq_getElem hip)
    have hsl:t.slot (pr t (tupleKeyHash knd k) r).j=.live i:=by
     rw [r1]
     exact AX hr (Array.getElem?_eq_getElem hip)
    rcases lt_or_ge r m with c|c
    ·rcases lt_or_ge r n with c2|c2
     ·exact hno r c2 i k hsl hi rfl
     ·exact a3 r c2 c (.inr ⟨i,hsl,T.hash hi⟩)
    ·rcases Nat.eq_or_lt_of_le c with c2|c2
     ·rw [← c2,b1] at hsl
      cases hsl
     ·exact (lS hr hd _).mpr (r2 m c2) b1
   ·obtain ⟨kk,hkk⟩:=live b1
    obtain ⟨y,e1,hy⟩:=T.el i kk hkk
    have hmN:m < N:=by
     rcases Nat.eq_or_lt_of_le a2 with c|c
     ·rw [c,n1] at b1; cases b1
     ·exact c
    show wpAny _ _ (match SetTable.probe.go t (fun i=>((es[i]?).map (·.1)).getD 0) (tupleKeyHash knd k) (10 * SetTable.turns t.mask) (pr t (tupleKeyHash knd k) n) with|some met=>_|_=>_) _ _ _
    rw [b2]
    dsimp only
    have dH:wpAny (model prog w) A (do
      let some (_,y):=es[i]?|unsupported "internal:set-entry"
      let equal ← holding [y] (eqBool y (.ref x))
      let (es',_,t') ← setState a
      if true&&equal then return .there none
      let some same:=t'.sameMemory t.moves t.mask|unsupported "set.changed-during-lookup:is-the-new-block-at-the-old-address"
      let still ← match (if same then t'.slot (pr t (tupleKeyHash knd k) m).j else .empty) with
      |.live i'=>match es'[i']? with
       |some (_,y')=>do pure (if ← isSame y' y then some i' else none)
       |none=>pure none
      |_=>pure none
      match still with
     |none=>rule "set.search.anew"; setSearchFrom a (.ref x) (tupleKeyHash knd k) true fuel none
      | some i'=>if equal then return .there (some i') else setSearchFrom a (.ref x) (tupleKeyHash knd k) true fuel (some (pr t (tupleKeyHash knd k) (m+1)))) Q E s:=by
     rw [e1]
     dsimp only
     refine wpAny_bind (wpAny_holding (wpAny_eqBool_tuple hu hy hx ?_))
     refine wpAny_bind (wpAny_setState_of ho rfl T.fits ?_)
     dsimp only
     by_cases c:kk=k
     ·rw [decide_eq_true c]
      simp only [Bool.and_self,if_true]
      exact wpAny_pure (h1 (by rw [← c]; exact mem_of_getElem? hkk))
     ·rw [decide_eq_false c]
      simp only [Bool.and_false,Bool.false_eq_true,if_false]
      have es1:t.sameMemory t.moves t.mask=some true:=by
       unfold SetTable.sameMemory
       rw [if_pos (by simp)]
      rw [es1]
      simp only [if_true]
      rw [b1]
      dsimp only
      rw [e1]
      dsimp only
      refine wpAny_bind (wpAny_isSame_ref_self (wpAny_bind (wpAny_pure ?_)))
      rw [if_pos rfl]
      dsimp only
      refine ih (m+1) _ rfl (by omega) (by omega) fun q hq i' kk' hs hk'=>?_
      rcases lt_or_ge q n with c2|c2
      ·exact hno q c2 i' kk' hs hk'
      ·rcases lt_or_ge q m with c3|c3
       ·intro ek
        exact a3 q c2 c3 (.inr ⟨i',hs,by rw [← ek]; exact T.hash hk'⟩)
       ·have:q=m:=by omega
        subst this
        rw [b1] at hs
        cases hs
        rw [hkk] at hk'
        cases hk'
        exact c
    cases hl:t.led with
   |true =>
     simp only [Bool.not_true,Bool.false_eq_true,if_false]
     exact dH
   |false =>
     simp only [Bool.not_false,if_true]
     refine wpAny_bind (GN hx (fun v hv=>?_) ?_)
     ·obtain ⟨e,he,rfl⟩:=mem_map.mp hv
      have he2:e∈es.toList:=by
       rw [Array.toList_filter] at he
       exact (mem_filter.mp he).1
      obtain ⟨q,hq⟩:=List.getElem?_of_mem he2
      rw [Array.getElem?_toList] at hq
      have hqk:q < ks.length:=by rw [T.sz]; exact (Array.getElem?_eq_some_iff.mp hq).1
      obtain ⟨b,f1,f2⟩:=T.el q _ (List.getElem?_eq_getElem hqk)
      rw [hq] at f1
      cases f1
      exact ⟨_,b,rfl,f2⟩
     ·simp only [Bool.false_eq_true,if_false]
      exact dH
 unfold setSearch
 exact main 100000 0 none rfl (zero_le _) (by
  have:SetTable.turns t.mask<=46:=by
   unfold SetTable.turns
   rcases T.mask with ⟨e,_⟩|⟨e,_⟩ <;> omega
  omega) fun m hm=>absurd hm (not_lt_zero _)
theorem pZ {α:Type} (xs:Array α) (p:Nat) (x:α):(SetTable.insertAt xs p x).toList=xs.toList.take p++x::xs.toList.drop p:=by
 unfold SetTable.insertAt
 rw [Array.toList_append,Array.toList_push,Array.toList_extract,Array.toList_extract]
 have e1:List.take (p - 0) (List.drop 0 xs.toList)=xs.toList.take p:=by rw [Nat.sub_zero,List.drop_zero]
 have e2:List.take (xs.size - p) (List.drop p xs.toList)=xs.toList.drop p:=take_of_length_le (by simp)
 rw [show (List.extract xs.toList 0 p)=xs.toList.take p from e1,show (List.extract xs.toList p xs.size)=xs.toList.drop p from e2,append_assoc]
 rfl
theorem zN {α:Type}{xs ys:List α}{p i:Nat}{x:α} (hp:p<=xs.length) (e:ys=xs.take p++x::xs.drop p):(i < p->ys[i]?=xs[i]?)/\(i=p->ys[i]?=some x)/\(p < i->ys[i]?=xs[i - 1]?):=by
 have hl:(xs.take p).length=p:=by rw [length_take]; omega
 subst e
 refine ⟨fun c=>?_,fun c=>?_,fun c=>?_⟩
 ·rw [List.getElem?_append_left (by omega),List.getElem?_take_of_lt c]
 ·rw [List.getElem?_append_right (by omega),hl,c,Nat.sub_self]
  rfl
 ·rw [List.getElem?_append_right (by omega),hl]
  obtain ⟨q,rfl⟩:∃ q,i=p+1+q:=⟨i - p - 1,by omega⟩
  rw [show p+1+q - p=q+1 by omega,List.getElem?_cons_succ,List.getElem?_drop]
  congr 1
  omega
theorem AC.put {h:Heap}{es:Array (Int×Value)}{t:SetTable}{ks:List (List K)} (T:AC knd h es t ks) {k:List K}{x:Addr} (hx:IsTupleKey knd h k x) (hk:k∉ks) {n:Nat} (n1:t.slot (pr t (tupleKeyHash knd k) n).j=.empty) (n2:∀ m,m < n->(pr t (tupleKeyHash knd k) m).j∈t.place.toList) (hm:(t.mask=7/\es.size<=4)∨(t.mask=31/\es.size<=17)) (b:Bool) :
  AC knd h (SetTable.insertAt es (t.put (pr t (tupleKeyHash knd k) n).j).2 (tupleKeyHash knd k,.ref x)) { (t.put (pr t (tupleKeyHash knd k) n).j).1 with plain:=b } (ks.take (t.put (pr t (tupleKeyHash knd k) n).j).2++k::ks.drop (t.put (pr t (tupleKeyHash knd k) n).j).2):=by
 have hz:=kC T.fits
 have hr:=T.tb.2.1
 have hd:=T.tb.2.2
 have hsz:=T.sz
 generalize hj:(pr t (tupleKeyHash knd k) n).j=j at n1
 have hst:=fK j hr
 have ep:(t.put j).2=SetTable.below t.place j:=rfl
 have e1:(t.put j).1.place=SetTable.insertAt t.place (SetTable.below t.place j) j:=rfl
 have e2:(t.put j).1.dummies=#[]:=by
  show (if SetTable.has t.dummies j then _ else t.dummies)=#[]
  rw [hd,oK,if_neg Bool.false_ne_true]
 have e3:(t.put j).1.mask=t.mask:=rfl
 have hn1:=rO n1
 rw [ep]
 obtain ⟨p,eb⟩:∃ p,SetTable.below t.place j=p:=⟨_,rfl⟩
 rw [eb]
 rw [eb] at hst e1 hn1
 have hp:p<=ks.length:=by have:=hst.1; omega
 have lp:=pZ t.place p j
 have le:=pZ es p (tupleKeyHash knd k,Value.ref x)
 have sp:(SetTable.insertAt t.place p j).size=t.place.size+1:=by
  rw [← Array.length_toList,lp]
  simp only [length_append,length_cons,length_take,length_drop,Array.length_toList]
  omega
 have se:(SetTable.insertAt es p (tupleKeyHash knd k,Value.ref x)).size=es.size+1:=by
  rw [← Array.length_toList,le]
  simp only [length_append,length_cons,length_take,length_drop,Array.length_toList]
  omega
 have ak:=fun i=>zN (i:=i) hp (rfl:ks.take p++k::ks.drop p=ks.take p++k::ks.drop p)
 have ae:=fun i=>zN (i:=i) (xs:=es.toList) (p:=p) (by rw [Array.length_toList]; omega) le
 have ap:=fun i=>zN (i:=i) (xs:=t.place.toList) (p:=p) (by rw [Array.length_toList]; omega) lp
 have mem:∀ z,z∈t.place.toList->z∈(SetTable.insertAt t.place p j).toList:=fun z hz=>by
  rw [lp]
  rw [← take_append_drop p t.place.toList] at hz
  rcases mem_append.mp hz with c|c
  ·exact mem_append_left _ c
  ·exact mem_append_right _ (mem_cons_of_mem _ c)
 refine ⟨?_,fun i k' hi=>?_,?_,?_,?_,?_,fun i j' k' hi hj'=>?_⟩
 ·rw [se]
  simp only [length_append,length_cons,length_take,length_drop]
  omega
 ·rw [← Array.getElem?_toList]
  rcases lt_trichotomy i p with c|c|c
  ·rw [(ak i).1 c] at hi
   rw [(ae i).1 c,Array.getElem?_toList]
   exact T.el i k' hi
  ·rw [(ak i).2.1 c] at hi
   cases hi
   exact ⟨x,(ae i).2.1 c,hx⟩
  ·rw [(ak i).2.2 c] at hi
   rw [(ae i).2.2 c,Array.getElem?_toList]
   exact T.el (i - 1) k' hi
 ·have:(ks.take p++k::ks.drop p).Perm (k::ks):=by
   refine List.perm_middle.trans ?_
   rw [take_append_drop]
  exact this.nodup_iff.mpr (nodup_cons.mpr ⟨hk,T.nd⟩)
 ·rw [se]
  show ((t.put j).1.mask=7/\_)∨((t.put j).1.mask=31/\_)
  rw [e3]
  omega
 ·rw [se]
  unfold SetTable.fits SetTable.fill
  show ((t.put j).1.place.size==es.size+1&&decide ((t.put j).1.place.size+(t.put j).1.dummies.size<=(t.put j).1.mask))=true
  rw [e1,e2,e3,sp]
  simp only [Bool.and_eq_true,beq_iff_eq,decide_eq_true_eq]
  refine ⟨by omega,?_⟩
  show t.place.size+1+0<=t.mask
  omega
 ·refine ⟨T.tb.1,?_,e2⟩
  show tD (t.put j).1.place
  rw [e1]
  have:=BD hr (j:=j) (by rw [eb]; exact hn1)
  rw [eb] at this
  exact this
 ·have epr:∀ (hh:Int) m,pr { (t.put j).1 with plain:=b } hh m=pr t hh m:=fun hh m=>uK (t:=t) (t':={ (t.put j).1 with plain:=b }) e3 hh m
  have hj'':(SetTable.insertAt t.place p j).toList[i]?=some j':=by
   rw [Array.getElem?_toList,← e1]
   exact hj'
  have memG:∀ z,z∈t.place.toList->z∈({ (t.put j).1 with plain:=b }:SetTable).place.toList:=fun z hz=>by
   show z∈(t.put j).1.place.toList
   rw [e1]
   exact mem z hz
  rcases lt_trichotomy i p with c|c|c
  ·rw [(ak i).1 c] at hi
   rw [(ap i).1 c,Array.getElem?_toList] at hj''
   obtain ⟨n',a1,a2⟩:=T.rch i j' k' hi hj''
   exact ⟨n',by rw [epr]; exact a1,fun m hm'=>by rw [epr]; exact memG _ (a2 m hm')⟩
  ·rw [(ak i).2.1 c] at hi
   cases hi
   rw [(ap i).2.1 c] at hj''
   cases hj''
   exact ⟨n,by rw [epr]; exact hj,fun m hm'=>by rw [epr]; exact memG _ (n2 m hm')⟩
  ·rw [(ak i).2.2 c] at hi
   rw [(ap i).2.2 c,Array.getElem?_toList] at hj''
   obtain ⟨n',a1,a2⟩:=T.rch (i - 1) j' k' hi hj''
   exact ⟨n',by rw [epr]; exact a1,fun m hm'=>by rw [epr]; exact memG _ (a2 m hm')⟩
end
end L2
namespace L2
open PySem
theorem oD {t:SetTable}{h:Int}:∀ (m n:Nat),m<=(pr t h n).more->(pr t h (n+m)).j=(pr t h n).j+m
|0,n,_=>rfl
|m+1,n,hm=>by
  have a:=oD (t:=t) (h:=h) m n (by omega)
  obtain ⟨b,_⟩:=uJ (t:=t) (h:=h) m n (by omega)
  have e:pr t h (n+(m+1))=t.advance (pr t h (n+m)):=rfl
  have hp:(pr t h (n+m)).more > 0:=by omega
  rw [e]
  unfold SetTable.advance
  rw [if_pos hp]
  show (pr t h (n+m)).j+1=_
  omega
noncomputable def FJ (o:Array (Option Nat)) (j:Nat):Prop:=∃ i,o[j]?=some (some i)
theorem uO {o:Array (Option Nat)}{j:Nat} (hj:j < o.size):(o.getD j (some 0)).isNone=false ↔ FJ o j:=by
 unfold FJ
 rw [Array.getD_eq_getD_getElem?]
 rw [Array.getElem?_eq_getElem hj]
 cases o[j] <;> simp
theorem JT {mask i:Nat} (h:i<=mask):SetTable.runEnd mask i<=mask:=by
 unfold SetTable.runEnd
 split <;> omega
theorem CF {t:SetTable}{h:Int}{o:Array (Option Nat)} (ho:o.size=t.mask+1):∀ (fuel r n:Nat),(pr t h n).j=(fJ t.mask h r).1->(pr t h n).i=(fJ t.mask h r).1->(pr t h n).perturb=(fJ t.mask h r).2->(pr t h n).more=SetTable.runEnd t.mask (fJ t.mask h r).1 - (fJ t.mask h r).1 ->
  (∀ m,m < n->FJ o (pr t h m).j)->(∃ k,r<=k/\k < r+fuel/\¬ FJ o (fJ t.mask h k).1) ->
  ∃ j n',SetTable.layClean.free t.mask o fuel (fJ t.mask h r).1 (fJ t.mask h r).2=some j/\(pr t h n').j=j/\j < o.size/\¬ FJ o j/\∀ m,m < n'->FJ o (pr t h m).j
|0,r,n,_,_,_,_,_,⟨k,k1,k2,_⟩=>by omega
|fuel+1,r,n,h1,h2,h3,h4,h5,⟨k,k1,k2,k3⟩=>by
  have hl:=QJ t.mask h r
  have hle:=rS t.mask (fJ t.mask h r).1
  have hem:=JT (show (fJ t.mask h r).1<=t.mask by omega)
  have eu:SetTable.layClean.free t.mask o (fuel+1) (fJ t.mask h r).1 (fJ t.mask h r).2=match (List.range (SetTable.runEnd t.mask (fJ t.mask h r).1+1 - (fJ t.mask h r).1)).find? fun k=>(o.getD ((fJ t.mask h r).1+k) (some 0)).isNone with
  |some k=>some ((fJ t.mask h r).1+k)
  |none=>SetTable.layClean.free t.mask o fuel (fJ t.mask h (r+1)).1 (fJ t.mask h (r+1)).2:=rfl
  rw [eu]
  cases hf:(List.range (SetTable.runEnd t.mask (fJ t.mask h r).1+1 - (fJ t.mask h r).1)).find? fun k=>(o.getD ((fJ t.mask h r).1+k) (some 0)).isNone with
 |some q =>
   obtain ⟨q1,q2,q3⟩:=List.find?_range_eq_some.mp hf
   have q2:=mem_range.mp q2
   refine ⟨_,n+q,rfl,?_,by omega,fun z=>?_,fun m hm=>?_⟩
   ·rw [oD q n (by omega),h1]
   ·rw [(uO (by omega)).mpr z] at q1
    cases q1
   ·rcases lt_or_ge m n with c|c
    ·exact h5 m c
    ·obtain ⟨p,rfl⟩:∃ p,m=n+p:=⟨m - n,by omega⟩
     rw [oD p n (by omega),h1]
     refine (uO (by omega)).mp ?_
     have:=q3 p (by omega)
     simpa using this
 |none =>
   have hall:∀ p,p<=SetTable.runEnd t.mask (fJ t.mask h r).1 - (fJ t.mask h r).1->FJ o ((fJ t.mask h r).1+p):=fun p hp=>by
    refine (uO (by omega)).mp ?_
    have:=List.find?_eq_none.mp hf p (mem_range.mpr (by omega))
    exact Bool.eq_false_iff.mpr this
   dsimp only
   obtain ⟨a,b,c⟩:=uJ (t:=t) (h:=h) (pr t h n).more n (le_refl _)
   have e:pr t h (n+(pr t h n).more+1)=t.advance (pr t h (n+(pr t h n).more)):=rfl
   have hp:¬ (pr t h (n+(pr t h n).more)).more > 0:=by omega
   have el:fJ t.mask h (r+1)=SetTable.leap t.mask (fJ t.mask h r).1 (fJ t.mask h r).2:=rfl
   have ea:t.advance (pr t h (n+(pr t h n).more))={ pr t h (n+(pr t h n).more) with j:=(fJ t.mask h (r+1)).1,more:=SetTable.runEnd t.mask (fJ t.mask h (r+1)).1 - (fJ t.mask h (r+1)).1,i:=(fJ t.mask h (r+1)).1,perturb:=(fJ t.mask h (r+1)).2 }:=by
    unfold SetTable.advance
    rw [if_neg hp,b,c,h2,h3,el]
   refine CF ho fuel (r+1) (n+(pr t h n).more+1) (by rw [e,ea]) (by rw [e,ea]) (by rw [e,ea]) (by rw [e,ea]) (fun m hm=>?_) ⟨k,?_,by omega,k3⟩
   ·rcases lt_or_ge m n with c|c
    ·exact h5 m c
    ·obtain ⟨p,rfl⟩:∃ p,m=n+p:=⟨m - n,by omega⟩
     rw [oD p n (by omega),h1]
     exact hall p (by omega)
   ·rcases Nat.eq_or_lt_of_le k1 with c|c
    ·subst c
     have:=hall 0 (zero_le _)
     rw [Nat.add_zero] at this
     exact absurd this k3
    ·exact c
structure LE (t:SetTable) (o:Array (Option Nat)) (hs:List Int):Prop where
 sz:o.size=t.mask+1
 pl:∀ (i:Nat) (h:Int),hs[i]?=some h->∃ n,o[(pr t h n).j]?=some (some i)/\∀ m,m < n->FJ o (pr t h m).j
 lt:∀ (j i:Nat),o[j]?=some (some i)->i < hs.length
 one:∀ (j j' i:Nat),o[j]?=some (some i)->o[j']?=some (some i)->j=j'
theorem LE.free {t:SetTable}{o:Array (Option Nat)}{hs:List Int} (L:LE t o hs) (hl:hs.length<=t.mask):∃ e,e<=t.mask/\¬ FJ o e:=by
 apply Classical.byContradiction
 intro hn
 have all:∀ e,e<=t.mask->∃ i,o[e]?=some (some i):=fun e he=>Classical.byContradiction fun c=>hn ⟨e,he,c⟩
 have nd:((List.range (t.mask+1)).map fun e=>((o[e]?).getD none).getD 0).Nodup:=by
  refine pairwise_map.mpr ?_
  refine List.Pairwise.imp_of_mem ?_ (nodup_range (n:=t.mask+1))
  intro a b ha hb hab e
  obtain ⟨i,hi⟩:=all a (by have:=mem_range.mp ha; omega)
  obtain ⟨i',hi'⟩:=all b (by have:=mem_range.mp hb; omega)
  rw [hi,hi'] at e
  have e:i=i':=e
  subst e
  exact hab (L.one _ _ _ hi hi')
 have hl2:=iZ nd (m:=List.range hs.length) fun i hi=>by
  obtain ⟨e,he,rfl⟩:=mem_map.mp hi
  obtain ⟨i,hi⟩:=all e (by have:=mem_range.mp he; omega)
  rw [hi]
  exact mem_range.mpr (L.lt _ _ hi)
 simp only [length_map,length_range] at hl2
 omega
theorem LE.put {t:SetTable}{o:Array (Option Nat)}{hs:List Int} (L:LE t o hs) {h:Int}{n:Nat} (hj:(pr t h n).j < o.size) (hf:¬ FJ o (pr t h n).j) (hn:∀ m,m < n->FJ o (pr t h m).j):LE t (o.setIfInBounds (pr t h n).j (some hs.length)) (hs++[h]):=by
 generalize ej:(pr t h n).j=j at hj hf
 have g1:∀ j',j'≠j->(o.setIfInBounds j (some hs.length))[j']?=o[j']?:=fun j' c=>Array.getElem?_setIfInBounds_ne (Ne.symm c)
 have g2:(o.setIfInBounds j (some hs.length))[j]?=some (some hs.length):=by
  rw [Array.getElem?_setIfInBounds_self_of_lt hj]
 have ow:∀ j',FJ o j'->FJ (o.setIfInBounds j (some hs.length)) j':=fun j' ⟨i,hi⟩=>by
  have:j'≠j:=fun c=>hf ⟨i,by rw [← c]; exact hi⟩
  exact ⟨i,by rw [g1 j' this]; exact hi⟩
 refine ⟨by rw [Array.size_setIfInBounds]; exact L.sz,fun i h' hi=>?_,fun j' i hi=>?_,fun j' j'' i hi hi'=>?_⟩
 ·rcases lt_or_ge i hs.length with c|c
  ·rw [List.getElem?_append_left c] at hi
   obtain ⟨m,m1,m2⟩:=L.pl i h' hi
   have:(pr t h' m).j≠j:=fun c=>hf ⟨i,by rw [← c]; exact m1⟩
   exact ⟨m,by rw [g1 _ this]; exact m1,fun q hq=>ow _ (m2 q hq)⟩
  ·rw [List.getElem?_append_right c] at hi
   have hi0:i - hs.length=0:=by
    have:=(List.getElem?_eq_some_iff.mp hi).1
    simp at this
    omega
   rw [hi0] at hi
   cases hi
   have:i=hs.length:=by omega
   subst this
   exact ⟨n,by rw [ej]; exact g2,fun q hq=>ow _ (hn q hq)⟩
 ·rw [length_append]
  by_cases c:j'=j
  ·subst c
   rw [g2] at hi
   cases hi
   exact lt_succ_self _
  ·rw [g1 _ c] at hi
   have:=L.lt _ _ hi
   simp only [length_singleton]
   omega
 ·by_cases c:j'=j <;> by_cases d:j''=j
  ·rw [c,d]
  ·subst c
   rw [g2] at hi
   cases hi
   rw [g1 _ d] at hi'
   have:=L.lt _ _ hi'
   omega
  ·subst d
   rw [g2] at hi'
   cases hi'
   rw [g1 _ c] at hi
   have:=L.lt _ _ hi
   omega
  ·rw [g1 _ c] at hi
   rw [g1 _ d] at hi'
   exact L.one _ _ _ hi hi'
theorem xG {t:SetTable} (hm:t.mask=7∨t.mask=31):∀ (hs pre:List Int) (o:Array (Option Nat)),LE t o pre->pre.length+hs.length<=t.mask ->
  ∃ o',hs.foldl (fun acc h=>do
   let (owner,k) ← acc
   let j ← SetTable.layClean.free t.mask owner (SetTable.turns t.mask) (SetTable.bits h % (t.mask+1)) (SetTable.bits h)
   pure (owner.setIfInBounds j (some k),k+1)) (some (o,pre.length))=some (o',pre.length+hs.length)/\LE t o' (pre++hs)
|[],pre,o,L,_=>⟨o,rfl,by rw [append_nil]; exact L⟩
|h::hs,pre,o,L,hl=>by
  rw [length_cons] at hl
  obtain ⟨e,he,hf⟩:=L.free (by omega)
  obtain ⟨k,hk,ek⟩:=IN hm h he
  obtain ⟨j,n,f1,f2,f3,f4,f5⟩:=CF (h:=h) L.sz (SetTable.turns t.mask) 0 0 rfl rfl rfl rfl (fun m hm=>absurd hm (not_lt_zero _)) ⟨k,zero_le _,by unfold SetTable.turns; omega,by rw [ek]; exact hf⟩
  rw [foldl_cons]
  subst f2
  have L':=L.put f3 f4 f5
  obtain ⟨o',g1,g2⟩:=xG hm hs (pre++[h]) _ L' (by rw [length_append,length_singleton]; omega)
  refine ⟨o',?_,by rw [append_assoc] at g2; exact g2⟩
  have f1':SetTable.layClean.free t.mask o (SetTable.turns t.mask) (SetTable.bits h % (t.mask+1)) (SetTable.bits h)=some (pr t h n).j:=f1
  have:(do
   let (owner,k) ← some (o,pre.length)
   let j ← SetTable.layClean.free t.mask owner (SetTable.turns t.mask) (SetTable.bits h % (t.mask+1)) (SetTable.bits h)
   pure (owner.setIfInBounds j (some k),k+1):Option (Array (Option Nat)×Nat))=some (o.setIfInBounds (pr t h n).j (some pre.length),pre.length+1):=by
   show (SetTable.layClean.free t.mask o (SetTable.turns t.mask) (SetTable.bits h % (t.mask+1)) (SetTable.bits h) >>= _)=_
   rw [f1']
   rfl
  rw [this]
  rw [length_append,length_singleton] at g1
  rw [length_cons,show pre.length+(hs.length+1)=pre.length+1+hs.length by omega]
  exact g1
theorem NM (t:SetTable):LE t (Array.replicate (t.mask+1) none) []:=by
 have no:∀ j i,(Array.replicate (t.mask+1) (none:Option Nat))[j]?≠some (some i):=fun j i e=>by
  rw [Array.getElem?_replicate] at e
  split at e <;> cases e
 exact ⟨Array.size_replicate,fun i h hi=>(by simp at hi),fun j i hi=>absurd hi (no j i),fun j j' i hi _=>absurd hi (no j i)⟩
theorem EE {t:SetTable} (hm:t.mask=7∨t.mask=31) (hs:Array Int) (hl:hs.size<=t.mask):∃ o,SetTable.layClean t.mask hs=some o/\LE t o hs.toList:=by
 obtain ⟨o,h1,h2⟩:=xG hm hs.toList [] _ (NM t) (by simpa using hl)
 refine ⟨o,?_,h2⟩
 unfold SetTable.layClean
 rw [← Array.foldl_toList]
 have h1':=congrArg (Option.map Prod.fst) h1
 exact h1'
noncomputable def live (o:Array (Option Nat)) (n:Nat):List (Nat×Nat):=(List.range n).filterMap fun j=>(o.getD j none).map (j,·)
theorem iN {o:Array (Option Nat)}{n:Nat} (hn:o.size=n) {j i:Nat}:(j,i)∈live o n ↔ o[j]?=some (some i):=by
 unfold live
 rw [mem_filterMap]
 constructor
 ·rintro ⟨a,ha,e⟩
  rw [Array.getD_eq_getD_getElem?,Array.getElem?_eq_getElem (by have:=mem_range.mp ha; omega)] at e
  rw [Option.getD_some] at e
  cases hx:o[a]'(by have:=mem_range.mp ha; omega) with
 |none=>rw [hx] at e; cases e
 |some x =>
   rw [hx] at e
   cases e
   rw [Array.getElem?_eq_getElem (by have:=mem_range.mp ha; omega),hx]
 ·intro e
  have hj:=(Array.getElem?_eq_some_iff.mp e).1
  refine ⟨j,mem_range.mpr (by omega),?_⟩
  rw [Array.getD_eq_getD_getElem?,e]
  rfl
theorem xE (o:Array (Option Nat)) (n:Nat):(live o n).Pairwise fun a b=>a.1 < b.1:=by
 unfold live
 refine List.pairwise_filterMap.mpr ?_
 refine List.Pairwise.imp ?_ (List.pairwise_lt_range (n:=n))
 intro a b hab x hx y hy
 obtain ⟨i,_,rfl⟩:=Option.map_eq_some_iff.mp hx
 obtain ⟨i',_,rfl⟩:=Option.map_eq_some_iff.mp hy
 exact hab
theorem CG {α β:Type} (f:α->Option β):∀ (l:List α) (i:Nat),(∀ x∈l,∃ y,f x=some y)->(l.filterMap f)[i]?=(l[i]?).bind f
|[],i,_=>by simp
|x::l,i,h=>by
  obtain ⟨y,hy⟩:=h x mem_cons_self
  rw [filterMap_cons,hy]
  cases i with
 |zero=>exact hy.symm
 |succ i =>
   simp only [List.getElem?_cons_succ]
   exact CG f l i fun z hz=>h z (mem_cons_of_mem _ hz)
theorem wI {α:Type} (l:List α):(List.range l.length).filterMap (fun i=>l[i]?)=l:=by
 refine ext_getElem? fun i=>?_
 rw [CG _ _ _ fun x hx=>⟨l[x]'(mem_range.mp hx),List.getElem?_eq_getElem _⟩]
 rcases lt_or_ge i l.length with c|c
 ·rw [List.getElem?_range c]
  rfl
 ·rw [List.getElem?_eq_none (by simpa using c),List.getElem?_eq_none c]
  rfl
section
variable {prog:Program} {w:World} {K:Type} [DecidableEq K] {knd:KeyKind prog w K} {A:Around} {E:Value -> Shared -> Prop} {s:Shared}
theorem ED {t:SetTable}{o:Array (Option Nat)}{hs:List Int} (L:LE t o hs):((live o (t.mask+1)).map (·.2)).Perm (List.range hs.length):=by
 have nd:((live o (t.mask+1)).map (·.2)).Nodup:=by
  refine pairwise_map.mpr (List.Pairwise.imp_of_mem ?_ (xE o (t.mask+1)))
  rintro ⟨j,i⟩ ⟨j',i'⟩ ha hb hab (e:i=i')
  subst e
  have:=L.one _ _ _ ((iN L.sz).mp ha) ((iN L.sz).mp hb)
  dsimp only at hab
  omega
 refine (List.perm_ext_iff_of_nodup nd nodup_range).mpr fun i=>?_
 rw [mem_range]
 constructor
 ·intro hi
  obtain ⟨⟨j,i⟩,ha,rfl⟩:=mem_map.mp hi
  exact L.lt _ _ ((iN L.sz).mp ha)
 ·intro hi
  obtain ⟨n,h1,_⟩:=L.pl i _ (List.getElem?_eq_getElem hi)
  exact mem_map.mpr ⟨(_,i),(iN L.sz).mpr h1,rfl⟩
theorem AC.relaid {h:Heap}{es:Array (Int×Value)}{t:SetTable}{ks:List (List K)} (T:AC knd h es t ks) {wanted:Nat} (hw:SetTable.sizeAbove wanted=32) (hs:es.size<=18) :
  ∃ t' order,t.relaid (es.map (·.1)) wanted=some (t',order)/\(order.filterMap (es[·]?)).size=es.size/\t'.mask=31/\∃ ks',ks'.Perm ks/\AC knd h (order.filterMap (es[·]?)) t' ks':=by
 obtain ⟨o,o1,L⟩:=EE (t:={ t with mask:=31 }) (.inr rfl) (es.map (·.1)) (by rw [Array.size_map]; show es.size<=31; omega)
 have hlen:(es.map (·.1)).toList.length=es.size:=by rw [Array.length_toList,Array.size_map]
 have hp:=ED L
 rw [hlen] at hp
 have hp:((live o 32).map (·.2)).Perm (List.range es.size):=hp
 have hlv:∀ i∈(live o 32).map (·.2),i < es.size:=fun i hi=>mem_range.mp (hp.mem_iff.mp hi)
 have ll:(live o 32).length=es.size:=by
  have:=hp.length_eq
  simpa using this
 have e1:t.relaid (es.map (·.1)) wanted=some ({ mask:=31,place:=((live o 32).map (·.1)).toArray,dummies:=#[],finger:=t.finger,led:=t.led,moves:=t.movedTo 31,plain:=t.plain },((live o 32).map (·.2)).toArray):=by
  unfold SetTable.relaid
  rw [hw]
  unfold SetTable.laid
  have o1:SetTable.layClean 31 (es.map (·.1))=some o:=o1
  show (SetTable.layClean 31 (es.map (·.1)) >>= _)=_
  rw [o1]
  rfl
 have fe:(((live o 32).map (·.2)).toArray.filterMap (es[·]?)).toList=((live o 32).map (·.2)).filterMap (es[·]?):=by
  rw [Array.toList_filterMap]
 have ge:∀ i:Nat,(((live o 32).map (·.2)).filterMap (es[·]?))[i]?=(((live o 32).map (·.2))[i]?).bind (es[·]?):=fun i=>CG _ _ i fun x hx=>⟨es[x]'(hlv x hx),Array.getElem?_eq_getElem _⟩
 have gk:∀ i:Nat,(((live o 32).map (·.2)).filterMap (ks[·]?))[i]?=(((live o 32).map (·.2))[i]?).bind (ks[·]?):=fun i=>CG _ _ i fun x hx=>⟨ks[x]'(by rw [T.sz]; exact hlv x hx),List.getElem?_eq_getElem _⟩
 have pk:(((live o 32).map (·.2)).filterMap (ks[·]?)).Perm ks:=by
  have:=hp.filterMap (fun i=>ks[i]?)
  rw [← T.sz,wI] at this
  exact this
 have sz:(((live o 32).map (·.2)).toArray.filterMap (es[·]?)).size=es.size:=by
  rw [← Array.length_toList,fe]
  have:=hp.filterMap (fun i=>es.toList[i]?)
  rw [← Array.length_toList (xs:=es),wI] at this
  have:=this.length_eq
  simp only [Array.getElem?_toList] at this
  exact this
 refine ⟨_,_,e1,sz,rfl,_,pk,?_,fun i k hi=>?_,pk.nodup_iff.mpr T.nd,.inr ⟨rfl,by rw [sz]; exact hs⟩,?_,⟨T.tb.1,?_,rfl⟩,fun i j k hi hj=>?_⟩
 ·rw [sz,pk.length_eq]
  exact T.sz
 ·rw [gk] at hi
  obtain ⟨x,hx,hkx⟩:=Option.bind_eq_some_iff.mp hi
  obtain ⟨a,a1,a2⟩:=T.el x k hkx
  refine ⟨a,?_,a2⟩
  rw [← Array.getElem?_toList,fe,ge,hx]
  exact a1
 ·rw [sz]
  unfold SetTable.fits SetTable.fill
  simp only [Bool.and_eq_true,beq_iff_eq,decide_eq_true_eq,size_toArray,length_map]
  refine ⟨ll,?_⟩
  show (live o 32).length+0<=31
  omega
 ·show List.Pairwise _ _
  exact pairwise_map.mpr (xE o 32)
 ·have hj:(((live o 32).map (·.1)).toArray)[i]?=some j:=hj
  rw [List.getElem?_toArray,List.getElem?_map] at hj
  obtain ⟨⟨j0,x⟩,hx,ej⟩:=Option.map_eq_some_iff.mp hj
  have ej:j0=j:=ej
  subst ej
  rw [gk,List.getElem?_map,hx] at hi
  have hi:ks[x]?=some k:=hi
  obtain ⟨a,a1,_⟩:=T.el x k hi
  have hm:=(iN L.sz).mp (mem_of_getElem? hx)
  obtain ⟨n,n1,n2⟩:=L.pl x (tupleKeyHash knd k) (by rw [Array.getElem?_toList,Array.getElem?_map,a1]; rfl)
  have epr:∀ (hh:Int) m,pr { mask:=31,place:=((live o 32).map (·.1)).toArray,dummies:=#[],finger:=t.finger,led:=t.led,moves:=t.movedTo 31,plain:=t.plain } hh m=pr { t with mask:=31 } hh m:=fun hh m=>uK (t:={ t with mask:=31 }) (t':={ mask:=31,place:=((live o 32).map (·.1)).toArray,dummies:=#[],finger:=t.finger,led:=t.led,moves:=t.movedTo 31,plain:=t.plain }) rfl hh m
  refine ⟨n,by rw [epr]; exact L.one _ _ _ n1 hm,fun m hm'=>?_⟩
  rw [epr]
  obtain ⟨y,hy⟩:=n2 m hm'
  show _∈((live o 32).map (·.1)).toArray.toList
  exact mem_map.mpr ⟨(_,y),(iN L.sz).mpr hy,rfl⟩
theorem OG {k:List K}{a:Addr}{Q:Bool->Shared->Prop} (hk:IsTupleKey knd s.heap k a) (h:∀ b,Q b s):wpAny (model prog w) A (hashByValue 8 (.ref a)) Q E s:=by
 have hT:=hk.typeIs
 obtain ⟨o,items,n,ho,hc,hd,hi⟩:=hk
 unfold hashByValue
 refine wpAny_bind (wpAny_specialOf hT F.slot_tuple_hash.lookup ?_)
 show wpAny _ _ (seqItems? (.ref a) >>= _) _ _ s
 refine wpAny_bind (wpAny_seqItems ho hd ?_)
 dsimp only
 refine wpAny_bind ?_
 show wpAny _ _ (forIn items _ _) _ _ s
 rw [← Array.forIn_toList]
 refine wpAny_forIn_list _ (fun dH r s'=>s'=s/\∀ v∈dH,carriedByValue v=true) _ ?_ ?_ _ _ ⟨rfl,hi.byValue⟩
 ·rintro v dH r s' ⟨rfl,hall⟩
  have hv:=hall v mem_cons_self
  have e:∃ b,hashByValue 7 v=pure b:=by
   cases v with
  |ref a=>simp [carriedByValue] at hv
  |_=>exact ⟨_,by unfold hashByValue; rfl⟩
  obtain ⟨b,e⟩:=e
  rw [e]
  refine wpAny_bind (wpAny_pure ?_)
  cases b with
 |true =>
   simp only [Bool.not_true,Bool.false_eq_true,if_false]
   exact wpAny_pure ⟨rfl,fun u hu'=>hall u (mem_cons_of_mem _ hu')⟩
 |false =>
   simp only [Bool.not_false,if_true]
   exact wpAny_pure (wpAny_pure (h _))
 ·rintro ⟨r1,r2⟩ s' ⟨rfl,_⟩
  cases r1 with
 |none=>exact wpAny_pure (h _)
 |some b=>exact wpAny_pure (h _)
noncomputable def KJ (knd:KeyKind prog w K) (B:Value->Prop) (h:Heap) (a:Addr) (ks:List (List K)):Prop:=∃ es ep t,h.get? a=some (bM es ep t)/\AC knd h es t ks/\(t.mask=7->es.size<=4)/\∀ e∈es.toList,B e.2
theorem oS {h h':Heap}{k:List K}{a x:Addr}{es ep t} (hk:IsTupleKey knd h k x) (g:h.get? a=some (bM es ep t)) (sb:Heap.SameBut a h h'):IsTupleKey knd h' k x:=by
 obtain ⟨o',items,n,ho',hc,hd',hi⟩:=hk
 have hne:x≠a:=by
  rintro rfl
  rw [g] at ho'
  cases ho'
  cases hd'
 exact ⟨o',items,n,(sb.2 x hne).trans ho',hc,hd',hi⟩
theorem AC.keep {h h':Heap}{es:Array (Int×Value)}{t:SetTable}{ks:List (List K)} (T:AC knd h es t ks) (hk:∀ k x,IsTupleKey knd h k x->IsTupleKey knd h' k x):AC knd h' es t ks:=
 ⟨T.sz,fun i k e=>let ⟨a,a1,a2⟩:=T.el i k e; ⟨a,a1,hk _ _ a2⟩,T.nd,T.mask,T.fits,T.tb,T.rch⟩
theorem VF {B:Value->Prop}{a x:Addr}{ks:List (List K)}{k:List K}{Q:Bool->Shared->Prop} (hu:A.units < cLine) (hS:KJ knd B s.heap a ks) (hx:IsTupleKey knd s.heap k x) (hB:B (.ref x)) (hb:ks.length<=17)
  (h1:k∈ks->Q false s) (h2:k∉ks->∀ h' ks',Heap.SameBut a s.heap h'->ks'.Perm (k::ks)->KJ knd B h' a ks'->(∀ k x,IsTupleKey knd s.heap k x->IsTupleKey knd h' k x)->Q true { s with heap:=h' }):wpAny (model prog w) A (setAddHashed a (.ref x) (tupleKeyHash knd k)) Q E s:=by
 obtain ⟨es,ep,t,ho,T,h4,hB0⟩:=hS
 have hz:=kC T.fits
 have hsz:=T.sz
 unfold setAddHashed setAddHashedIn
 refine wpAny_holding (wpAny_bind (wpAny_setState_of ho rfl T.fits ?_))
 dsimp only
 have hbs:byScan (.ref x) es=false:=rfl
 rw [hbs,if_neg Bool.false_ne_true]
 refine wpAny_bind (DH hu T ho hx (fun hk=>wpAny_pure (h1 hk)) fun hk n n1 n2=>?_)
 dsimp only
 refine wpAny_bind (wpAny_setState_of ho rfl T.fits ?_)
 dsimp only
 have hm:(t.mask=7/\es.size<=4)∨(t.mask=31/\es.size<=17):=by
  rcases T.mask with ⟨c,_⟩|⟨c,_⟩
  ·exact .inl ⟨c,h4 c⟩
  ·exact .inr ⟨c,by omega⟩
 have put:=T.put hx hk n1 n2 hm
 have ekp:(ks.take (t.put (pr t (tupleKeyHash knd k) n).j).2++k::ks.drop (t.put (pr t (tupleKeyHash knd k) n).j).2).Perm (k::ks):=by
  refine List.perm_middle.trans ?_
  rw [take_append_drop]
 have em:(t.put (pr t (tupleKeyHash knd k) n).j).1.mask=t.mask:=rfl
 generalize t.put (pr t (tupleKeyHash knd k) n).j=tp at put ekp em ⊢
 obtain ⟨t1,p⟩:=tp
 dsimp only at put ekp em ⊢
 generalize ks.take p++k::ks.drop p=ks1 at put ekp
 have hB1:∀ e∈(SetTable.insertAt es p (tupleKeyHash knd k,Value.ref x)).toList,B e.2:=fun e he=>by
  rw [pZ] at he
  rcases mem_append.mp he with c|c
  ·exact hB0 e (List.mem_of_mem_take c)
  ·rcases mem_cons.mp c with rfl|c
   ·exact hB
   ·exact hB0 e (List.mem_of_mem_drop c)
 generalize SetTable.insertAt es p (tupleKeyHash knd k,Value.ref x)=es1 at put hB1 ⊢
 have fin:∀ b:Bool,wpAny (model prog w) A (do
   storeSet a es1 { t1 with plain:=b }
   if (!false&&SetTable.tooFull { t1 with plain:=b })=true then do
    setRelay a (SetTable.grown (es.size+1))
    pure true
   else pure true) Q E s:=fun b=>by
  have T1:=put b
  have hz1:es1.size=es.size+1:=by
   have:=ekp.length_eq
   have:=T1.sz
   rw [length_cons] at *
   omega
  have hf1:({ t1 with plain:=b }:SetTable).place.size=es1.size:=kC T1.fits
  have hd1:({ t1 with plain:=b }:SetTable).dummies=#[]:=T1.tb.2.2
  have em1:({ t1 with plain:=b }:SetTable).mask=t.mask:=em
  generalize ({ t1 with plain:=b }:SetTable)=t2 at T1 hf1 hd1 em1 ⊢
  refine wpAny_bind (wpAny_storeSet_of ho rfl ?_ (fits_of_scanBound (by unfold scanBound; omega)))
  have g1:(s.heap.update a (Obj.putSet es1 t2)).get? a=some (bM es1 (ep+1) t2):=by
   have z:=get?_update_self (Obj.putSet es1 t2) ho (by rw [putSet_of es1 t2 rfl]; rfl)
   rw [putSet_of es1 t2 rfl] at z
   exact z
  have sb1:=Heap.SameBut.update s.heap a (Obj.putSet es1 t2)
  have kp1:∀ k x,IsTupleKey knd s.heap k x->IsTupleKey knd (s.heap.update a (Obj.putSet es1 t2)) k x:=fun k x hk=>oS hk ho sb1
  have ef:t2.tooFull=decide ((es.size+1) * 5 ≥ t.mask * 3):=by
   unfold SetTable.tooFull SetTable.fill
   rw [hf1,hd1,em1,hz1]
   rfl
  rw [ef]
  by_cases c:(es.size+1) * 5 ≥ t.mask * 3
  ·rw [decide_eq_true c]
   simp only [Bool.not_false,Bool.and_self,if_true]
   have e5:es.size=4:=by omega
   have hw:SetTable.sizeAbove (SetTable.grown (es.size+1))=32:=by rw [e5]; decide
   have T1':=T1.keep kp1
   obtain ⟨t3,order,r1,r2,r3,ks3,r4,r5⟩:=T1'.relaid hw (by omega)
   refine wpAny_bind ?_
   unfold setRelay
   refine wpAny_bind (wpAny_setState_of g1 rfl T1.fits ?_)
   dsimp only
   rw [if_neg (by rw [hw]; decide),r1]
   refine wpAny_bind ?_
   show wpAny _ _ (if ((order.filterMap (es1[·]?)).size !=es1.size)=true then _ else pure (order.filterMap (es1[·]?),t3)) _ _ _
   rw [r2,if_neg (by simp)]
   refine wpAny_pure ?_
   dsimp only
   refine wpAny_storeSet_of g1 rfl ?_ (fits_of_scanBound (by rw [r2]; unfold scanBound; omega))
   have hB3:∀ e∈(order.filterMap (es1[·]?)).toList,B e.2:=fun e he=>by
    rw [Array.toList_filterMap] at he
    obtain ⟨i,_,hi⟩:=mem_filterMap.mp he
    exact hB1 e (Array.mem_toList_iff.mpr (Array.mem_of_getElem? hi))
   generalize order.filterMap (es1[·]?)=es3 at r2 r5 hB3 ⊢
   have g2:((s.heap.update a (Obj.putSet es1 t2)).update a (Obj.putSet es3 t3)).get? a=some (bM es3 (ep+1+1) t3):=by
    have z:=get?_update_self (Obj.putSet es3 t3) g1 (by rw [putSet_of es3 t3 rfl]; rfl)
    rw [putSet_of es3 t3 rfl] at z
    exact z
   have sb2:=Heap.SameBut.update (s.heap.update a (Obj.putSet es1 t2)) a (Obj.putSet es3 t3)
   refine wpAny_pure (h2 hk _ ks3 (sb1.trans sb2) (r4.trans ekp) ⟨es3,_,t3,g2,r5.keep fun k x hk=>oS hk g1 sb2,fun c7=>by omega,hB3⟩ fun k x hk=>oS (kp1 k x hk) g1 sb2)
  ·rw [decide_eq_false c]
   simp only [Bool.and_false,Bool.false_eq_true,if_false]
   exact wpAny_pure (h2 hk _ ks1 sb1 ekp ⟨es1,_,t2,g1,T1.keep kp1,fun c7=>by omega,hB1⟩ kp1)
 split
 ·refine wpAny_bind (OG hx fun b=>?_)
  cases b with
 |true =>
   rw [if_pos rfl]
   exact fin t1.plain
 |false =>
   rw [if_neg Bool.false_ne_true]
   exact fin false
 ·refine wpAny_bind (wpAny_pure ?_)
  rw [if_pos rfl]
  exact fin t1.plain
end
end L2
namespace L2
open PySem
section
variable {prog:Program} {w:World} {K:Type} [DecidableEq K] {knd:KeyKind prog w K}
theorem tK {h h':Heap}{k:List K}{x:Addr}{wr:List Addr} (hk:IsTupleKey knd h k x) (hx:x∉wr) (kp:∀ b o,b∉wr->h.get? b=some o->h'.get? b=some o):IsTupleKey knd h' k x:=by
 obtain ⟨o',items,n,ho',hc,hd',hi⟩:=hk
 exact ⟨o',items,n,kp _ _ hx ho',hc,hd',hi⟩
theorem KJ.mv {h h':Heap}{B:Value->Prop}{a:Addr}{ks:List (List K)}{wr:List Addr} (T:KJ knd B h a ks) (hB:∀ x,B (.ref x)->x∉wr) (ha:a∉wr) (kp:∀ b o,b∉wr->h.get? b=some o->h'.get? b=some o):KJ knd B h' a ks:=by
 obtain ⟨es,ep,t,g,T,h4,h5⟩:=T
 refine ⟨es,ep,t,kp _ _ ha g,⟨T.sz,fun i k e=>?_,T.nd,T.mask,T.fits,T.tb,T.rch⟩,h4,h5⟩
 obtain ⟨x,x1,x2⟩:=T.el i k e
 exact ⟨x,x1,tK x2 (hB x (h5 _ (Array.mem_toList_iff.mpr (Array.mem_of_getElem? x1)))) kp⟩
variable {A:Around} {R:Result -> Shared -> Prop} {I:Addr} {fp wr:List Addr} {G:Array GenState -> Array GenState -> Prop} {n:Nat} {P:Nat -> Value -> Prop} {St:Nat -> Shared -> Prop}
theorem NS (hu:A.in1.units < cLine) (W:WalksS prog w A.in1 I fp wr G n P St) (S:Addr) (hSf:S∉fp) (val:Nat->Addr) (kv:Nat->List K) (hval:∀ i v,P i v->v=.ref (val i)) (hn:n<=18) (hv:∀ i,i < n->val i∉S::wr) :
  ∀ (m i:Nat) (s:Shared) (ks:List (List K)),n - i=m->i<=n->St i s->KJ knd (fun v=>∃ j,j < n/\v=.ref (val j)) s.heap S ks->(∀ j,j < n->IsTupleKey knd s.heap (kv j) (val j))->ks.length<=i->(∀ z,z∈ks ↔ ∃ j,j < i/\kv j=z) ->
   (∀ s' ks',Moved (S::wr) G s s'->KJ knd (fun v=>∃ j,j < n/\v=.ref (val j)) s'.heap S ks'->(∀ z,z∈ks' ↔ ∃ j,j < n/\kv j=z)->R (.ok (.ret .none)) s') ->
   codeAny (model prog w) A (.builtin "set.update.loop" ⟨[.ref S,.ref I],[]⟩) R s:=by
 have hSw:S∉wr:=fun h=>hSf (W.sub _ h)
 have sub:∀ b∈wr,b∈S::wr:=fun b hb=>mem_cons_of_mem _ hb
 have hB:∀ x,(∃ j,j < n/\Value.ref x=.ref (val j))->x∉wr:=fun x ⟨j,hj,e⟩ hx=>by
  cases e
  exact hv j hj (sub _ hx)
 intro m
 induction m with
|zero =>
  intro i s ks hk hi hst hS hK hl hm hR
  have:i=n:=by omega
  subst this
  refine codeAny_builtin fA ?_
  rw [Around.under_plainId bR _]
  show wpAny _ A.in1 (pyNext (.ref I) >>= _) _ _ s
  refine wpAny_bind (W.done s _ _ hst fun s' mv=>wpAny_pure (hR s' ks (mv.mono sub) (hS.mv hB hSw mv.heap) hm))
|succ m ih =>
  intro i s ks hk hi hst hS hK hl hm hR
  have hlt:i < n:=by omega
  refine codeAny_builtin fA ?_
  rw [Around.under_plainId bR _]
  show wpAny _ A.in1 (pyNext (.ref I) >>= _) _ _ s
  refine wpAny_bind (W.item i s _ _ hlt hst fun v s' hP hst' mv=>?_)
  cases hval i v hP
  have hS':=hS.mv hB hSw mv.heap
  have hK':∀ j,j < n->IsTupleKey knd s'.heap (kv j) (val j):=fun j hj=>tK (hK j hj) (fun z=>hv j hj (sub _ z)) mv.heap
  show wpAny _ A.in1 (holding [Value.ref (val i)] (setAdd S (.ref (val i))) >>= _) _ _ s'
  refine wpAny_bind (wpAny_holding ?_)
  unfold setAdd
  refine wpAny_holding (wpAny_bind (wpAny_pyHash_tuple hu (hK' i hlt) ?_))
  have go:∀ (s2:Shared) (ks2:List (List K)),Moved (S::wr) G s s2->St (i+1) s2->KJ knd (fun v=>∃ j,j < n/\v=.ref (val j)) s2.heap S ks2->(∀ j,j < n->IsTupleKey knd s2.heap (kv j) (val j))->ks2.length<=i+1->(∀ z,z∈ks2 ↔ z∈ks∨z=kv i)->codeAny (model prog w) A (.builtin "set.update.loop" ⟨[.ref S,.ref I],[]⟩) R s2:=fun s2 ks2 mv2 st2 t2 k2 l2 m2=>by
   refine ih (i+1) s2 ks2 (by omega) (by omega) st2 t2 k2 l2 (fun z=>?_) fun s3 ks3 mv3 t3 m3=>hR s3 ks3 (Moved.trans W.gtrans mv2 mv3) t3 m3
   rw [m2,hm]
   constructor
   ·rintro (⟨j,hj,e⟩|rfl)
    ·exact ⟨j,by omega,e⟩
    ·exact ⟨i,by omega,rfl⟩
   ·rintro ⟨j,hj,e⟩
    by_cases q:j < i
    ·exact .inl ⟨j,q,e⟩
    ·have:j=i:=by omega
     subst this
     exact .inr e.symm
  refine VF (s:={ s' with toks:=s'.toks+((kv i).length+1) }) hu hS' (hK' i hlt) ⟨i,hlt,rfl⟩ (by omega) (fun hin=>?_) fun hout h' ks' sb hp ht kpt=>?_
  ·refine wpAny_pure ⟨plainId_quiet bR _,go _ ks ((mv.mono sub).then_heap (le_add_right _ _) fun b o _ e=>e) ?_ hS' hK' (by omega) fun z=>⟨.inl,fun q=>q.elim id fun e=>e ▸ hin⟩⟩
   exact W.frame _ s' _ _ hst' (le_add_right _ _) fun b _ o e=>e
  ·refine wpAny_pure ⟨plainId_quiet bR _,go _ ks' ((mv.mono sub).then_heap (le_add_right _ _) fun b o hb e=>?_) ?_ ht (fun j hj=>kpt _ _ (hK' j hj)) ?_ fun z=>?_⟩
   ·rw [sb.2 b (fun q:b=S=>hb (by rw [q]; exact mem_cons_self))]; exact e
   ·exact W.frame _ s' _ _ hst' (le_add_right _ _) fun b hb o e=>by rw [sb.2 b (fun q:b=S=>hSf (by rw [← q]; exact hb))]; exact e
   ·have:=hp.length_eq
    simp at this
    omega
   ·rw [hp.mem_iff]
    simp only [mem_cons]
    exact or_comm
end
section
variable {prog:Program} {w:World} {K:Type} [DecidableEq K] {knd:KeyKind prog w K} {A:Around} {E:Value -> Shared -> Prop} {s:Shared}
theorem CZ {B:Value->Prop}{h:Heap}{a:Addr} (g:h.get? a=some (aU w)):KJ knd B h a []:=
 ⟨#[],0,_,g,⟨rfl,fun i k e=>by simp at e,nodup_nil,.inl ⟨rfl,by decide⟩,rfl,⟨rfl,List.Pairwise.nil,rfl⟩,fun i j k e=>by simp at e⟩,fun _=>by decide,fun e he=>by simp at he⟩
set_option maxHeartbeats 3200000 in
theorem GM {l:Addr}{ts:List Addr}{kv:Nat->List K}{Q:Value->Shared->Prop} (hh:A.handled=none) (hu:A.units+8 < cLine) (hl:s.heap.IsList l (ts.map Value.ref).toArray) (hk:∀ (i:Nat) (x:Addr),ts[i]?=some x->IsTupleKey knd s.heap (kv i) x) (hb:ts.length<=18)
  (h:∀ h' tk ks,KJ knd (fun v=>∃ x∈ts,v=.ref x) h' s.heap.objs.size ks->(∀ z,z∈ks ↔ ∃ j,j < ts.length/\kv j=z)->(∀ b o,b < s.heap.objs.size->s.heap.get? b=some o->h'.get? b=some o)->Q (.ref s.heap.objs.size) { s with heap:=h',toks:=tk }) :
  wpAny (model prog w) A (call (.type "set") [.ref l]) Q E s:=by
 obtain ⟨c,tl,hmro⟩:=F.called_set.mro
 have hmade:=F.called_set.made
 have hsub:=F.called_set.sub
 have hlt:∀ (i:Nat) (x:Addr),ts[i]?=some x->x < s.heap.objs.size:=fun i x e=>by
  obtain ⟨o,_,_,ho,_⟩:=hk i x e
  exact lt_size ho
 have hlen:(ts.map Value.ref).toArray.size=ts.length:=by simp
 refine wpAny_call (codeAny_of_tree ?_)
 show wpAny _ _ (callAny (.type "set") _) _ _ _
 refine wpAny_pure ⟨Code.quiet_builtin _ (by decide +kernel),codeAny_builtin F.entry_type_call ?_⟩
 rw [Around.under_plain (weight_type_call_type "set" [.ref l] []) rfl]
 have h1:=F.called_set.notType
 have h2:=F.called_set.canCreate
 have hct:=F.typeCall_set_1 (.ref l)
 repeat (any_goals (first|assumption|wp_step))
 refine codeAny_mono (wD (.ref l) (E:=E) (Q₁:=fun obj s₁=>obj=.ref s.heap.objs.size/\s₁={ s with heap:=s.heap.push (aU w) }) ⟨rfl,rfl⟩) fun r s₁ hr=>?_
 cases r with
|error e=>exact hr
|ok fl =>
  cases fl with
 |ret obj =>
   obtain ⟨rfl,rfl⟩:=hr
   have hS:(s.heap.push (aU w)).get? s.heap.objs.size=some (aU w):=get?_push_size _ rfl
   have hT:Shared.TypeIs { s with heap:=s.heap.push (aU w) } (.ref s.heap.objs.size) "set":=⟨_,hS,rfl⟩
   have hli:=F.called_set.init.lookup
   have hbi:=F.called_set.init.bind (.ref s.heap.objs.size)
   repeat (any_goals (first|assumption|wp_step))
   refine codeAny_mono (codeAny_call_builtin (R:=wants (fun r s₂=>r=.none/\∃ h' tk ks,s₂={ s with heap:=h',toks:=tk }/\KJ knd (fun v=>∃ x∈ts,v=.ref x) h' s.heap.objs.size ks/\(∀ z,z∈ks ↔ ∃ j,j < ts.length/\kv j=z) /\
     (∀ b o,b < s.heap.objs.size->s.heap.get? b=some o->h'.get? b=some o)) E) F.called_set.init.plain F.entry_set_init (check_set_init_1 hT ?_)) fun r₂ s₂ hr₂=>?_
   ·obtain ⟨ol,hol,hcl,nl,hdl⟩:=hl
    obtain ⟨ocls,odict,odata,oslots⟩:=ol
    simp only at hcl hdl
    subst hcl; subst hdl
    have hol':(s.heap.push (aU w)).get? l=some { cls:=.type "list",dict:=odict,data:=.seq (ts.map Value.ref).toArray nl,slots:=oslots }:=get?_push_of_some _ hol
    have hsls:=F.sub_list_set
    have hslf:=F.sub_list_frozenset
    have hne:(Value.type "list"==Value.type "dict")=false:=by decide
    have hl1:(s.heap.push (aU w)).IsList l (ts.map Value.ref).toArray:=⟨_,hol',rfl,nl,rfl⟩
    generalize hits:(ts.map Value.ref).toArray=items at *
    unfold Builtin.«set.__init__» noKeywords Builtin.Frozenset.updateFrom
    generalize hPI:pyIter=PI
    wp_walk
    subst hPI
    refine wpAny_pyIter_list hl1 ?_
    refine wpAny_bind (wpAny_runValue ?_)
    have hlS:l < s.heap.objs.size:=lt_size hol
    have hh3:A.in1.in1.in1.handled=none:=by simp [hh]
    have zP:(s.heap.push (aU w)).objs.size=s.heap.objs.size+1:=size_push ..
    have hneI:l≠(s.heap.push (aU w)).objs.size:=by rw [zP]; exact ne_of_lt (lt_succ_of_lt hlS)
    have hSf:s.heap.objs.size∉[(s.heap.push (aU w)).objs.size,l]:=by
     rw [zP]
     simp only [mem_cons,not_mem_nil,or_false,not_or]
     exact ⟨ne_of_lt (lt_succ_self _),ne_of_gt hlS⟩
    have vi:∀ i,i < items.size->ts[i]?=some (ts.getD i 0):=fun i hi=>by
     rw [hlen] at hi
     rw [getD_eq_getElem?_getD,List.getElem?_eq_getElem hi]
     rfl
    refine NS (knd:=knd) (by show A.units+1+1+1 < cLine; omega) ((Walks.list hh3 _ l hneI items).toS) s.heap.objs.size hSf (fun i=>ts.getD i 0) kv (fun i v hv=>?_) (by rw [hlen]; exact hb) (fun i hi=>?_) (items.size - 0) 0 _ [] (by omega) (zero_le _)
     ⟨⟨_,get?_push_size _ rfl,rfl,rfl⟩,(hl1.push _)⟩ (CZ (get?_push_of_some _ hS)) (fun i hi=>?_) (le_refl _) (fun z=>by simp) fun s' ks hm hS' hmem=>?_
    ·have hv:items[i]?=some v:=hv
     have hi:i < items.size:=(Array.getElem?_eq_some_iff.mp hv).1
     rw [← hits,List.getElem?_toArray,List.getElem?_map,vi i hi] at hv
     exact (Option.some.inj hv).symm
    ·have:=hlt i _ (vi i hi)
     rw [zP]
     simp only [mem_cons,not_mem_nil,or_false,not_or]
     exact ⟨ne_of_lt this,ne_of_lt (lt_succ_of_lt this)⟩
    ·exact tK (wr:=[]) (hk i _ (vi i hi)) not_mem_nil fun b o _ e=>get?_push_of_some _ (get?_push_of_some _ e)
    obtain ⟨h',g',d',tk',os'⟩:=s'
    have eg:g'=s.gens:=hm.gens
    have ed:d'=s.drawn:=hm.drawn
    have eo:os'=s.os:=hm.os
    subst eg ed eo
    refine wpAny_pure ?_
    refine wpAny_pure ⟨rfl,h',tk',ks,rfl,?_,fun z=>?_,fun b o hb e=>?_⟩
    ·obtain ⟨es,ep,t,q1,q2,q3,q4⟩:=hS'
     refine ⟨es,ep,t,q1,q2,q3,fun e he=>?_⟩
     obtain ⟨j,hj,ej⟩:=q4 e he
     exact ⟨_,mem_of_getElem? (vi j hj),ej⟩
    ·rw [hmem,hlen]
    ·have hb1:b≠s.heap.objs.size:=ne_of_lt hb
     have hb2:b≠(s.heap.push (aU w)).objs.size:=by rw [zP]; exact ne_of_lt (lt_succ_of_lt hb)
     exact hm.heap b o (by simp only [mem_cons,not_mem_nil,or_false,not_or]; exact ⟨hb1,hb2⟩) (get?_push_of_some _ (get?_push_of_some _ e))
   ·cases r₂ with
   |error e=>exact hr₂
   |ok fl₂ =>
     cases fl₂ with
    |ret r =>
      obtain ⟨rfl,h',tk,ks,rfl,q1,q2,q3⟩:=hr₂
      repeat (any_goals (first|assumption|wp_step))
      exact h _ _ _ q1 q2 q3
    |_=>exact hr₂.elim
 |_=>exact hr.elim
end
end L2
namespace L2
open PySem PySem.W PyProof.Rows
noncomputable def qO {α:Type} (n:Nat) (P:α->Prop):KasT α->Prop
|.ret a=>P a
|.ask i j k=>i < n/\j < n/\∀ b,qO n P (k b)
theorem qO.bind {α β:Type}{n:Nat}{P:α->Prop}{Q:β->Prop}{f:α->KasT β}:∀ {t:KasT α},qO n P t->(∀ a,P a->qO n Q (f a))->qO n Q (t.bind f)
|.ret a,h,g=>g a h
|.ask i j k,⟨h1,h2,h3⟩,g=>⟨h1,h2,fun b=>qO.bind (h3 b) g⟩
theorem qO.wp {α:Type}{n:Nat}{P:α->Prop}{Q:α->Shared->Prop}{s:Shared}{cmp:Nat->Nat->(Bool->Shared->Prop)->Shared->Prop} (hc:∀ i j (C:Bool->Shared->Prop),i < n->j < n->(∀ b,C b s)->cmp i j C s) (hq:∀ a,P a->Q a s):∀ {t:KasT α},qO n P t->t.kasWp cmp Q s
|.ret a,h=>hq a h
|.ask i j k,⟨h1,h2,h3⟩=>hc i j _ h1 h2 fun b=>qO.wp hc hq (h3 b)
noncomputable def qM (n:Nat) (p:Array Nat):Prop:=p.Perm (List.range n).toArray
theorem qM.lt {n:Nat}{p:Array Nat} (h:qM n p) (h0:0 < n) (k:Nat):p.getD k 0 < n:=by
 rw [Array.getD_eq_getD_getElem?]
 rcases lt_or_ge k p.size with c|c
 ·rw [Array.getElem?_eq_getElem c,Option.getD_some]
  have:p[k]∈(List.range n).toArray:=h.mem_iff.mp (Array.getElem_mem c)
  simpa using this
 ·rw [Array.getElem?_eq_none c]
  exact h0
theorem qM.rev {n:Nat}{p:Array Nat} (h:qM n p) (i j:Nat):qM n (kas_rev p i j):=(mirror_perm _ _ _ _).trans h
theorem qM.bub {n:Nat}{p:Array Nat} (h:qM n p) (i j:Nat):qM n (bubble p i j):=(bubble_perm _ _ _).trans h
section
variable {n:Nat} (h0:0 < n)
include h0
theorem zK {p:Array Nat} (hp:qM n p):∀ f m,qO n (fun _=>True) (kas_asc p f m)
|0,_=>trivial
|f+1,m=>⟨hp.lt h0 _,hp.lt h0 _,fun b=>by
  cases b
  ·exact zK hp f (m+1)
  ·exact trivial⟩
theorem oI:∀ f (p:Array Nat) m q,qM n p->qO n (fun r=>qM n r.1) (kas_desc f p m q)
|0,p,_,_,hp=>hp
|f+1,p,m,q,hp=>⟨hp.lt h0 _,hp.lt h0 _,fun b=>by
  cases b
  ·refine ⟨hp.lt h0 _,hp.lt h0 _,fun d=>?_⟩
   cases d
   ·exact oI f p (m+1) (q+1) hp
   ·exact hp
  ·show qO n _ (if q > 0 then _ else _)
   split
   ·exact oI f _ (m+1) 0 (hp.rev _ _)
   ·exact oI f p (m+1) 0 hp⟩
theorem BY {p:Array Nat} (hp:qM n p) (m k:Nat):qO n (fun r=>qM n r.2) (kas_tail3 m k p):=(zK h0 (hp.rev _ _) _ _).bind fun a _=>hp.rev _ _
theorem QL {p:Array Nat} (hp:qM n p) (m k:Nat):qO n (fun r=>qM n r.2) (kas_descPart m k p):=(oI h0 _ p _ _ hp).bind fun r hr=>by
 show qO n _ (if _ then _ else _)
 split
 ·exact BY h0 (qM.rev hr _ _) _ _
 ·exact BY h0 hr _ _
theorem IQ {p:Array Nat} (hp:qM n p) (k:Nat):qO n (fun r=>qM n r.2) (kas_count k p):=(zK h0 hp _ _).bind fun m _=>by
 show qO n _ (if _ then _ else _)
 split
 ·exact hp
 ·split
  ·refine ⟨hp.lt h0 _,hp.lt h0 _,fun b=>?_⟩
   cases b
   ·exact QL h0 (hp.rev _ _) _ _
   ·exact hp
  ·exact QL h0 hp _ _
theorem pW {p:Array Nat} (hp:qM n p) (k:Nat):∀ f l r,qO n (fun _=>True) (kas_place p k f l r)
|0,_,_=>trivial
|f+1,l,r=>by
  show qO n _ (if _ then _ else _)
  split
  ·exact trivial
  ·refine ⟨hp.lt h0 _,hp.lt h0 _,fun b=>?_⟩
   cases b
   ·exact pW hp k f _ _
   ·exact pW hp k f _ _
theorem IR:∀ f (p:Array Nat) k,qM n p->qO n (qM n) (kas_bin f p k)
|0,p,_,hp=>hp
|f+1,p,k,hp=>(pW h0 hp k _ _ _).bind fun l _=>IR f _ (k+1) (hp.bub _ _)
theorem NK:qO n (qM n) (kas_sort n):=(IQ h0 (Array.Perm.refl _) n).bind fun r hr=>by
 show qO n _ (if _ then _ else _)
 split
 ·exact IR h0 _ _ _ hr
 ·exact hr
end
noncomputable def vO (h:Heap) (v:Value):Prop:=∃ a o xs n ns,v=.ref a/\h.get? a=some o/\o.cls=.type "tuple"/\o.data=.seq xs n/\IntsAre xs.toList ns/\0 < ns.length
theorem vO.at {h h':Heap}{v:Value} (t:vO h v) (kp:∀ a o,h.get? a=some o->o.cls=.type "tuple"->h'.get? a=some o):vO h' v:=by
 obtain ⟨a,o,xs,n,ns,e,g,c,r⟩:=t
 exact ⟨a,o,xs,n,ns,e,kp _ _ g c,c,r⟩
section
variable {prog:Program} {w:World} {A:Around} {E:Value -> Shared -> Prop} {s:Shared}
theorem xF {b fin:Bool}{Q:Bool->Shared->Prop} (hq:∀ c,Q c s):∀ {us vs:List Value}{ns ms:List Int} (i:Nat),IntsAre us ns->IntsAre vs ms->KatLex prog w A b fin Q (us.zip vs) i s
|[],_,_,_,_,_,_=>by
  rw [List.zip_nil_left]
  exact hq _
|_::_,[],_,_,_,_,_=>hq _
|_::us,_::vs,_,_,i,.cons x t h1,.cons y u h2=>by
  refine kat_cons (wpAny_eqBool_int ?_)
  refine kat_go (fun _=>kat_yes (xF hq (i+1) h1 h2)) fun _=>kat_no ?_
  cases hb:(b&&i==0) with
 |true=>exact oneLt_int (hq _)
 |false=>exact kat_one _ _ (lt_int (hq _))
theorem KC {b:Bool}{vs:List Value} (hv:∀ v∈vs,vO s.heap v) {i j:Nat}{C:Bool->Shared->Prop} (hi:i < vs.length) (hj:j < vs.length) (hc:∀ b,C b s):kas_ask prog w A (tuples' b) vs i j C s:=by
 unfold kas_ask
 obtain ⟨x,ox,xs,n,ns,e1,g1,_,d1,i1,_⟩:=hv _ (List.getElem_mem hi)
 obtain ⟨y,oy,ys,m,ms,e2,g2,_,d2,i2,_⟩:=hv _ (List.getElem_mem hj)
 rw [getD_eq_getElem?_getD,List.getElem?_eq_getElem hi,getD_eq_getElem?_getD,List.getElem?_eq_getElem hj,Option.getD_some,Option.getD_some,e1,e2]
 exact kat_lt g1 d1 g2 d2 (xF hc 0 i1 i2)
theorem AI {h:Heap}:∀ {vs:List Value},(∀ v∈vs,vO h v)->∃ fs:List Value,KatTups h vs fs/\fs.length=vs.length/\∀ f∈fs,∃ x t,f=.int x t
|[],_=>⟨[],trivial,rfl,fun f hf=>nomatch hf⟩
|v::vs,h=>by
  obtain ⟨fs,t,l,r⟩:=AI fun v hv=>h v (mem_cons_of_mem _ hv)
  obtain ⟨x,ox,xs,n,ns,rfl,g1,c,d1,i1,l1⟩:=h v mem_cons_self
  obtain ⟨xl⟩:=xs
  cases i1 with
 |nil=>cases l1
 |cons y u i1 =>
   refine ⟨.int y u::fs,.cons g1 c d1 (by simp) t,by simp [l],fun f hf=>?_⟩
   rcases mem_cons.mp hf with rfl|hf
   ·exact ⟨y,u,rfl⟩
   ·exact r f hf
theorem qX {a:Addr}{vs:List Value}{n:Nat}{P:Fin->Shared->Prop} (ho:s.heap.get? a=some (seqObj "list" vs.toArray n)) (hv:∀ v∈vs,vO s.heap v) (hl:vs.length < 64)
  (h:∀ out:Array Value,out.toList.Perm vs->P (.done (.ret .none)) { s with heap:=sortedHeap s.heap a vs out }) :
  wpAny (model prog w) A (Builtin.«list.sort» ⟨[.ref a],[]⟩) P E s:=by
 rw [list_sort_plain]
 have hz:vs.toArray.size=vs.length:=by simp
 have b1:vs.toArray.size<=sizeLine:=by rw [hz,sizeLine_eq]; omega
 have ha:a < s.heap.objs.size:=lt_size ho
 refine wpAny_bind (listItems_at ho rfl ?_)
 refine wpAny_bind (listUpdate_at ho rfl ?_ b1 (by simp))
 obtain ⟨e1,g1⟩:∃ e1,(s.heap.update a (Obj.mapSeq fun _=>#[])).get? a=some (seqObj "list" #[] e1):=⟨_,get?_update_seq ho (fun _=>#[])⟩
 refine wpAny_bind (seqEpoch_at g1 rfl ?_)
 refine wpAny_bind (wpAny_newTuple ?_ (by rw [sizeLine_eq]; simpa using (by omega:vs.length<=_)))
 refine wpAny_bind (wpAny_newList ?_)
 refine wpAny_holding ?_
 have g2:(((s.heap.update a (Obj.mapSeq fun _=>#[])).push (seqObj "tuple" vs.toArray 0)).push (seqObj "list" #[] 0)).get? a=some (seqObj "list" #[] e1):=
  get?_push_of_some _ (get?_push_of_some _ g1)
 have hv2:∀ v∈vs,vO (((s.heap.update a (Obj.mapSeq fun _=>#[])).push (seqObj "tuple" vs.toArray 0)).push (seqObj "list" #[] 0)) v:=fun v hm=>(hv v hm).at fun b o e c=>by
  have hne:b≠a:=by
   rintro rfl
   rw [ho] at e
   cases e
   exact absurd (show Value.type "list"=Value.type "tuple" from c) (by decide)
  refine get?_push_of_some _ (get?_push_of_some _ ?_)
  rw [Heap.get?_update_ne _ _ _ _ hne]
  exact e
 show wpAny (model prog w) A _ P E { s with heap:=((s.heap.update a (Obj.mapSeq fun _=>#[])).push (seqObj "tuple" vs.toArray 0)).push (seqObj "list" #[] 0) }
 dsimp only
 by_cases h2:vs.toArray.size < 2
 ·rw [if_pos h2,if_pos h2]
  refine wpAny_bind (wpAny_pure ?_)
  rw [StateT.run_pure]
  refine wpAny_bind (wpAny_pure ?_)
  dsimp only
  refine wpAny_bind (seqEpoch_at g2 rfl ?_)
  refine wpAny_bind (listUpdate_at g2 rfl ?_ (hsz2:=by rw [Array.size_map]; show (pairsOf vs).size<=_; rw [pairsOf_size,sizeLine_eq]; omega))
  simp only [bne_self_eq_false,Bool.false_eq_true,if_false]
  refine wpAny_pure (h _ ?_)
  show ((pairsOf vs).map (·.2)).toList.Perm vs
  rw [Array.toList_map,pairsOf_toList,List.map_snd_zip (le_refl _)]
 ·rw [if_neg h2,if_neg h2]
  rw [hz] at h2
  obtain ⟨fs,t1,t2,t3⟩:=AI hv2
  refine wpAny_bind (kat_kind (T:=.type "int") t1 (by omega) (fun f hf=>?_) rfl ?_)
  ·obtain ⟨x,u,rfl⟩:=t3 f hf
   exact .now
  refine wpAny_bind (wpAny_mono (kat_run (Q:=fun st' s'=>s'={ s with heap:=((s.heap.update a (Obj.mapSeq fun _=>#[])).push (seqObj "tuple" vs.toArray 0)).push (seqObj "list" #[] 0) }/\failedOf st'=none/\((arrOf st').map (·.2)).toList.Perm vs)
   (G:=fun p s'=>s'={ s with heap:=((s.heap.update a (Obj.mapSeq fun _=>#[])).push (seqObj "tuple" vs.toArray 0)).push (seqObj "list" #[] 0) }/\qM vs.length p) rfl (by omega) hl (fun p st' s' p1 p2 p3 ⟨p4,p5⟩=>⟨p4,p3,?_⟩) (qO.wp (fun i j C hi hj hc=>KC hv2 hi hj hc) (fun p hp=>⟨rfl,hp⟩) (NK (by omega)))) ?_ fun _ _ e=>e)
  ·rw [kat_snds rfl p2]
   have q:=(Array.perm_iff_toList_perm.mp p5).map fun i=>vs.getD i Value.none
   refine q.trans (List.Perm.of_eq ?_)
   refine ext_getElem? fun i=>?_
   rw [List.getElem?_map]
   rcases lt_or_ge i vs.length with c|c
   ·rw [List.getElem?_range c]
    show some (vs.getD i Value.none)=_
    rw [getD_eq_getElem?_getD,List.getElem?_eq_getElem c]
    rfl
   ·rw [List.getElem?_eq_none (by simpa using c),List.getElem?_eq_none c]
    rfl
  rintro ⟨⟨⟩,st'⟩ s' ⟨rfl,hf,hp⟩
  dsimp only at hp hf ⊢
  refine wpAny_bind (seqEpoch_at g2 rfl ?_)
  refine wpAny_bind (listUpdate_at g2 rfl ?_ (hsz2:=by
   have:=hp.length_eq
   rw [Array.length_toList] at this
   rw [this,sizeLine_eq]
   omega))
  rw [hf]
  simp only [bne_self_eq_false,Bool.false_eq_true,if_false]
  exact wpAny_pure (h _ hp)
theorem yL {a:Addr}{P:List Value->Prop}{Q:Value->Shared->Prop} (hP:∀ vs,P vs->vs.length < 64/\∀ v∈vs,vO s.heap v)
  (hc:∀ (A':Around) (Q':List Value->Shared->Prop),A'.handled=A.handled->(∀ vs h' d tk,P vs->(∀ b o,s.heap.get? b=some o->h'.get? b=some o)->s.heap.objs.size<=h'.objs.size->Q' vs { s with heap:=h',drawn:=d,toks:=tk })->wpAny (model prog w) A' (collect (.ref a)) Q' E s)
  (h:∀ h' d tk L vs (its:List Value) n,P vs->its.Perm vs->s.heap.objs.size<=L->h'.get? L=some (seqObj "list" its.toArray n)->(∀ b o,s.heap.get? b=some o->h'.get? b=some o)->Q (.ref L) { s with heap:=h',drawn:=d,toks:=tk }) :
  wpAny (model prog w) A (call (.builtin "sorted") [.ref a]) Q E s:=by
 refine Calls.call_function_entry kind_sorted plain_sorted entry_sorted (args_sorted1 _) ?_
 unfold Builtin.«sorted»
 refine wpAny_bind (m:=checkCount "sorted" 1 1 _) (wpAny_pure ?_)
 refine wpAny_bind (hc _ _ (by simp) fun vs h1 d tk pv kp hge=>?_)
 obtain ⟨p1,p2⟩:=hP vs pv
 refine wpAny_bind (wpAny_newList ?_ (by rw [sizeLine_eq]; omega))
 have g0:(h1.push (seqObj "list" vs.toArray 0)).get? h1.objs.size=some (seqObj "list" vs.toArray 0):=get?_push_size _ rfl
 show wpAny _ _ _ _ _ { s with heap:=h1.push (seqObj "list" vs.toArray 0),drawn:=d,toks:=tk }
 refine wpAny_bind (wpAny_holding (wpAny_call_entry slot_list_sort ⟨_,g0,rfl⟩ entry_list_sort (qX g0 (fun v hv=>(p2 v hv).at fun b o e _=>get?_push_of_some _ (kp b o e)) p1 fun out a1=>⟨_,rfl,?_⟩) (args_list_sort _)))
 refine wpAny_pure ⟨_,rfl,?_⟩
 obtain ⟨e,he⟩:=sortedHeap_at (vs:=vs) (out:=out) g0
 refine h _ d tk h1.objs.size vs out.toList e pv a1 hge (by rw [Array.toArray_toList]; exact he) fun b o eb=>?_
 have hb1:=lt_size (kp b o eb)
 rw [sortedHeap_old (ne_of_lt hb1) (by rw [size_push']; exact lt_succ_of_lt hb1)]
 exact get?_push_of_some _ (kp b o eb)
end
end L2
namespace L2
open PySem PySem.W PyProof.Rows
noncomputable def KL (w:World) (a:Addr) (ps:List Addr):HO:=.ext fun h=>∃ es ep t,h.get? a=some (bM es ep t)/\t.fits es.size=true/\Tb w t es.size/\es.size < scanBound/\es.toList.map (·.2)=ps.map Value.ref
section
variable {X:Cx}
noncomputable def PY (w:World):List V->Hp->VK->Prop:=fun vs H Q=>∃ (p:Addr) (ts:List Addr) (kf:Addr->List aH),vs=[.ref p]/\H p=some (.lst (ts.map V.ref))/\(∀ t∈ts,H t=some (.tup ((kf t).map kV)))/\ts.length<=18 /\
 ∀ (l:Addr) (ps:List Addr),H l=none->(∀ q∈ps,q∈ts)->(ps.map kf).Nodup->(∀ t∈ts,kf t∈ps.map kf)->Q (.ref l) (upd H l (KL w l ps))
theorem rD:∀ {ts:List Addr}{us:List Value},aQ (ts.map V.ref) us->us=ts.map Value.ref
|[],_,.nil=>rfl
|t::ts,_,.cons r h=>by
  cases r
  rw [rD h]
  rfl
theorem rT:∀ (ts:List Addr),aQ (ts.map V.ref) (ts.map Value.ref)
|[]=>.nil
|t::ts=>.cons rfl (rT ts)
theorem FA (hc:X.calm=true) (hu:X.A.units+64 < cLine):jJ X (.type "set") (PY X.w):=by
 intro pins s σ H vs us Q I r h
 obtain ⟨p,ts,kf,rfl,hp,ht,hl,q⟩:=h
 obtain ⟨u,rfl,ru⟩:=r.one
 cases ru
 obtain ⟨z,its,n,rv,hlen,e⟩:=I.lstM hp
 cases rD rv
 refine GM (knd:=aY X.prog X.w) (ts:=ts) (kv:=fun i=>kf (ts.getD i 0)) (I.ok.hd hc) (by omega) ⟨_,e,rfl,n,rfl⟩ (fun i x hx=>?_) hl fun h' tk ks T hm kp=>?_
 ·have:ts.getD i 0=x:=by rw [getD_eq_getElem?_getD,hx]; rfl
  show IsTupleKey _ _ (kf (ts.getD i 0)) x
  rw [this]
  exact jT I.hok (ht x (mem_of_getElem? hx))
 ·obtain ⟨es,ep,t,g,T,h4,hB⟩:=T
  have hz:=kC T.fits
  have hsz:es.size<=18:=by rcases T.mask with ⟨_,c⟩|⟨_,c⟩ <;> omega
  -- the addresses of what is in the set
  obtain ⟨ps,eps⟩:∃ ps:List Addr,es.toList.map (·.2)=ps.map Value.ref:=by
   clear T hz hsz g
   generalize es.toList=l at hB
   induction l with
  |nil=>exact ⟨[],rfl⟩
  |cons a l ih =>
    obtain ⟨ps,e⟩:=ih fun x hx=>hB x (mem_cons_of_mem _ hx)
    obtain ⟨x,_,ex⟩:=hB a mem_cons_self
    exact ⟨x::ps,by rw [map_cons,e,ex]; rfl⟩
  have hps:∀ q∈ps,q∈ts:=fun q hq=>by
   have:Value.ref q∈es.toList.map (·.2):=by rw [eps]; exact List.mem_map_of_mem hq
   obtain ⟨e,he,e2⟩:=mem_map.mp this
   obtain ⟨x,hx,ex⟩:=hB e he
   rw [e2] at ex
   cases ex
   exact hx
  have hlt:∀ x∈ts,IsTupleKey (aY X.prog X.w) s.heap (kf x) x:=fun x hx=>jT I.hok (ht x hx)
  have eks:ps.map kf=ks:=by
   have hlp:ps.length=es.size:=by
    have:=congrArg List.length eps
    simpa using this.symm
   refine ext_getElem? fun i=>?_
   rw [List.getElem?_map]
   rcases lt_or_ge i ps.length with c|c
   ·have hik:i < ks.length:=by rw [T.sz]; omega
    rw [List.getElem?_eq_getElem c,List.getElem?_eq_getElem hik]
    obtain ⟨a,a1,a2⟩:=T.el i _ (List.getElem?_eq_getElem hik)
    have e3:=congrArg (·[i]?) eps
    simp only [List.getElem?_map,Array.getElem?_toList,a1,List.getElem?_eq_getElem c] at e3
    have e4:Value.ref a=Value.ref ps[i]:=Option.some.inj e3
    cases e4
    have a3:=tK (wr:=[]) (h':=h') (hlt ps[i] (hps _ (List.getElem_mem c))) not_mem_nil fun b o _ eb=>kp b o (lt_size eb) eb
    exact congrArg some (a3.inj a2)
   ·rw [List.getElem?_eq_none c,List.getElem?_eq_none (by rw [T.sz]; omega)]
    rfl
  refine ⟨.ref s.heap.objs.size,_,I.laid (o:=KL X.w s.heap.objs.size ps) (fun b o e=>kp b o (lt_size e) e) (le_refl _) ⟨⟨es,ep,t,g,T.fits,T.tb,by unfold scanBound; omega,eps⟩,⟨_,g⟩,fun h1 h2 ⟨es,ep,t,x1,x2⟩ k=>⟨es,ep,t,k _ x1,x2⟩⟩,rfl,q _ ps (I.hok.fresh (le_refl _)) hps (by rw [eks]; exact T.nd) fun x hx=>?_⟩
  rw [eks,hm]
  obtain ⟨j,hj,ej⟩:=List.getElem_of_mem hx
  refine ⟨j,hj,?_⟩
  show kf (ts.getD j 0)=kf x
  rw [getD_eq_getElem?_getD,List.getElem?_eq_getElem hj,ej]
  rfl
noncomputable def HL (w:World):List V->Hp->VK->Prop:=fun vs H Q=>∃ (p:Addr) (ps:List Addr) (nf:Addr->List Int),vs=[.ref p]/\H p=some (KL w p ps)/\(∀ t∈ps,H t=some (.tup ((nf t).map V.int))/\0 < (nf t).length)/\ps.length < 64 /\
 ∀ (l:Addr) (qs:List Addr),H l=none->qs.Perm ps->Q (.ref l) (upd H l (.lst (qs.map V.ref)))
theorem zT (hc:X.calm=true):jJ X (.builtin "sorted") (HL X.w):=by
 intro pins s σ H vs us Q I r h
 obtain ⟨p,ps,nf,rfl,hp,ht,hl,q⟩:=h
 obtain ⟨u,rfl,ru⟩:=r.one
 cases ru
 have hT:∀ t∈ps,vO s.heap (.ref t):=fun t hx=>by
  obtain ⟨h1,h2⟩:=ht t hx
  obtain ⟨_,its,rv,o,g,c,n,d⟩:=I.hok t _ h1
  exact ⟨t,o,_,n,nf t,rfl,g,c,d,kB rv,h2⟩
 obtain ⟨es,ep,t,g,hf,htb,hsz,eps⟩:=(show ∃ es ep t,s.heap.get? p=some (bM es ep t)/\t.fits es.size=true/\Tb X.w t es.size/\es.size < scanBound/\es.toList.map (·.2)=ps.map Value.ref from (I.hok p _ hp).1)
 refine yL (P:=fun vs=>vs.Perm (ps.map Value.ref)) (fun vs hv=>⟨by rw [hv.length_eq,length_map]; exact hl,fun v hm=>?_⟩) (fun A' Q' hA k=>?_) fun h' d tk L vs its n hv hpm hL g kp=>?_
 ·obtain ⟨x,hx,rfl⟩:=mem_map.mp (hv.mem_iff.mp hm)
  exact hT x hx
 ·refine nO (hA.trans (I.ok.hd hc)) g hf htb (fits_of_scanBound hsz) fun vs h' d tk hp kp hge=>k vs h' d tk ?_ kp hge
  rw [← eps]
  exact hp
 ·obtain ⟨qs,q1,q2⟩:=iX (hpm.trans hv) rfl
  subst q2
  have I1:=(I.dr d).laid (h':=h') (a:=L) (o:=.lst (qs.map V.ref)) (t':=tk) kp hL ⟨by
   have:=q1.length_eq
   rw [length_map,sizeLine_eq]
   omega,_,n,rT qs,g⟩
  exact ⟨.ref L,_,I1,rfl,q L qs (I.hok.fresh hL) q1⟩
theorem LZ {w:World}{H:Hp}{Q:VK}{p:Addr}{ts:List Addr}{kf:Addr->List aH} (hp:H p=some (.lst (ts.map V.ref))) (ht:∀ t∈ts,H t=some (.tup ((kf t).map kV))) (hl:ts.length<=18)
  (k:∀ (l:Addr) (ps:List Addr) (G:Hp),H l=none->aI H G->G l=some (KL w l ps)->(∀ q∈ps,q∈ts)->(ps.map kf).Nodup->(∀ t∈ts,kf t∈ps.map kf)->Q (.ref l) G):PY w [.ref p] H Q:=
 ⟨p,ts,kf,rfl,hp,ht,hl,fun l ps h0 h1 h2 h3=>k l ps _ h0 (aI.new h0) aB h1 h2 h3⟩
theorem GX {w:World}{H:Hp}{Q:VK}{p:Addr}{ps:List Addr}{nf:Addr->List Int} (hp:H p=some (KL w p ps)) (ht:∀ t∈ps,H t=some (.tup ((nf t).map V.int))/\0 < (nf t).length) (hl:ps.length < 64)
  (k:∀ (l:Addr) (qs:List Addr) (G:Hp),H l=none->aI H G->G l=some (.lst (qs.map V.ref))->qs.Perm ps->Q (.ref l) G):HL w [.ref p] H Q:=
 ⟨p,ps,nf,rfl,hp,ht,hl,fun l qs h0 h1=>k l qs _ h0 (aI.new h0) aB h1⟩
end
end L2
namespace L2
open PySem
theorem mF {H G:Hp}{d:Addr}{kvs:List (aH×V)}{o:Obj} (hk:H d=some (.dK kvs)) (s:aI (upd H d (.frz o (.dK kvs))) G):aI H (melt d G):=fun b u hb=>by
 by_cases z:b=d
 ·subst z
  rw [hk] at hb
  cases hb
  exact uS (s _ _ aB)
 ·rw [mG z]
  exact s _ _ (by rw [aJ z]; exact hb)
theorem fX:∀ {kvs:List (aH×V)}{i:Nat}{k:aH}{v:V},(kvs.map (·.1)).Nodup->kvs[i]?=some (k,v)->bA kvs k=some v
|[],i,_,_,_,h=>by simp at h
|p::kvs,0,k,v,_,h=>by
  cases h
  exact dE rfl
|p::kvs,i+1,k,v,nd,h=>by
  rw [map_cons,nodup_cons] at nd
  rw [List.getElem?_cons_succ] at h
  rw [cQ fun e=>nd.1 (mem_map.mpr ⟨(k,v),mem_of_getElem? h,e.symm⟩)]
  exact fX nd.2 h
noncomputable def qm (u:Int×Int) (m:Nat):Rat:=Rat.divInt (u.1 * m) u.2
theorem gX {u:Int×Int} (hu:lO u) (m:Nat):(bD u m).1=(qm u m).num/\(bD u m).2=((qm u m).den:Int):=by
 have h2:=hu.p2
 obtain ⟨a,b⟩:=NJ (t:=u.1 * m) (b:=u.2) (by omega)
 exact ⟨a.symm,b.symm⟩
theorem CC {u:Int×Int} (hu:lO u) {H:Hp}{v:V}{m:Nat}:cK H v (bD u m) ↔ lM H v (qm u m):=by
 obtain ⟨a,b⟩:=gX hu m
 unfold cK lM
 rw [a,b]
theorem yT {u:Int×Int} (hu:lO u) {m n:Nat} (h:n<=m):qm u m - qm u n=qm u (m - n):=by
 have h2:=hu.p2
 unfold qm
 rw [Rat.sub_eq_add_neg,Rat.neg_divInt,Rat.divInt_add_divInt _ _ (by omega) (by omega)]
 have e1:u.1 * (m:Int) * u.2+-(u.1 * (n:Int)) * u.2=u.1 * ((m - n:Nat):Int) * u.2:=by
  rw [Int.ofNat_sub h,Int.mul_sub,Int.sub_mul,Int.neg_mul]
  omega
 rw [e1]
 exact Rat.divInt_mul_right (by omega)
theorem mV {u:Int×Int} (hu:lO u) {m n:Nat} (h:bD u m=bD u n):m=n:=by
 obtain ⟨a1,_,a3,_⟩:=hu.tm m
 obtain ⟨_,_,b3,_⟩:=hu.tm n
 rw [← h] at b3
 have e:=a3.symm.trans b3
 have e2:=Int.eq_of_mul_eq_mul_right (by omega) e
 have e3:=Int.eq_of_mul_eq_mul_left (show u.1≠0 by have:=hu.p1; omega) e2
 omega
theorem OR {u:Int×Int} (hu:lO u) {m:Nat} (hm:m<=100000):Sz 8000 (qm u m):=by
 obtain ⟨a,b⟩:=gX hu m
 obtain ⟨c1,c2,_⟩:=hu.tm m
 have h3:=hu.p2
 have h4:=hu.s2
 refine ⟨by rw [← a]; exact Sm.mono (AK hu hm) (by decide),?_⟩
 show Sm 8000 ((qm u m).den:Int)
 rw [← b]
 refine Sm.mono (m:=100) (Sm.of (by omega) ?_) (by decide)
 have:=Int.le_of_dvd h3 c2
 show (bD u m).2 < ((2 ^ 100:Nat):Int)
 omega
noncomputable def FM (f:Int×Int):List aH:=[Sum.inl f.1,Sum.inl f.2]
theorem uW {f g:Int×Int} (h:FM f=FM g):f=g:=by
 unfold FM at h
 injection h with h1 h2
 injection h2 with h3 _
 injection h1 with h1
 injection h3 with h3
 exact Prod.ext h1 h3
noncomputable def AE (u:Int×Int) (H:Hp) (d:Addr) (sh:List (Str×Nat)):Prop:=∃ kvs:List (aH×V),H d=some (.dK kvs)/\Paired (fun (kv:aH×V) (x:Str×Nat)=>kv.1=Sum.inr x.1/\cK H kv.2 (bD u x.2)) kvs sh
theorem BC {u:Int×Int}{H:Hp}:∀ {kvs:List (aH×V)}{sh:List (Str×Nat)},Paired (fun (kv:aH×V) (x:Str×Nat)=>kv.1=Sum.inr x.1/\cK H kv.2 (bD u x.2)) kvs sh->kvs.map (·.1)=sh.map fun x=>Sum.inr x.1
|_,_,.nil=>rfl
|_,_,.cons r t=>by
  rw [map_cons,map_cons,BC t,r.1]
theorem BA {u:Int×Int}{H:Hp}{kvs:List (aH×V)}{sh:List (Str×Nat)} (p:Paired (fun (kv:aH×V) (x:Str×Nat)=>kv.1=Sum.inr x.1/\cK H kv.2 (bD u x.2)) kvs sh) (h:(sh.map (·.1)).Nodup):(kvs.map (·.1)).Nodup:=by
 rw [BC p]
 have:(sh.map fun x=>(Sum.inr x.1:aH))=(sh.map (·.1)).map Sum.inr:=by rw [map_map]; rfl
 rw [this]
 exact pairwise_map.mpr (h.imp fun hab e=>hab (Sum.inr.inj e))
noncomputable def KZ (H:Hp) (t:Addr):List aH:=match H t with
|some (.tup [.int a,.int b])=>[Sum.inl a,Sum.inl b]
|_=>[]
theorem zL {H:Hp}{t:Addr}{f:Int×Int} (h:H t=some (.tup [.int f.1,.int f.2])):KZ H t=FM f:=by
 unfold KZ
 rw [h]
 rfl
noncomputable def Bv (H:Hp) (t:Addr):List Int:=match H t with
|some (.tup [.int a,.int b])=>[a,b]
|_=>[]
theorem UO {H:Hp}{t:Addr}{f:Int×Int} (h:H t=some (.tup [.int f.1,.int f.2])):Bv H t=[f.1,f.2]:=by
 unfold Bv
 rw [h]
noncomputable abbrev VG (u:Int×Int) (H:Hp) (t:Addr) (m:Nat):Prop:=H t=some (.tup [.int (bD u m).1,.int (bD u m).2])
theorem AZ {u:Int×Int}{H:Hp}:∀ {kvs:List (aH×V)}{sh:List (Str×Nat)},Paired (fun (kv:aH×V) (x:Str×Nat)=>kv.1=Sum.inr x.1/\cK H kv.2 (bD u x.2)) kvs sh->∃ ts:List Addr,kvs.map (·.2)=ts.map V.ref/\Paired (fun t (x:Str×Nat)=>VG u H t x.2) ts sh
|_,_,.nil=>⟨[],rfl,.nil⟩
|_,_,.cons ⟨_,q,e,g⟩ t=>by
  obtain ⟨ts,e1,p1⟩:=AZ t
  exact ⟨q::ts,by rw [map_cons,map_cons,e1,e],.cons g p1⟩
theorem QF {α β:Type}{R:α->β->Prop}:∀ {l:List α},(∀ x∈l,∃ y,R x y)->∃ m,Paired R l m
|[],_=>⟨[],.nil⟩
|x::l,h=>by
  obtain ⟨y,hy⟩:=h x mem_cons_self
  obtain ⟨m,hm⟩:=QF fun z hz=>h z (mem_cons_of_mem _ hz)
  exact ⟨y::m,.cons hy hm⟩
theorem IB {α β γ:Type}{R:α->β->Prop}{f:α->γ}{g:β->γ} (h:∀ a b,R a b->f a=g b):∀ {l:List α}{m:List β},Paired R l m->l.map f=m.map g
|_,_,.nil=>rfl
|_,_,.cons r t=>by rw [map_cons,map_cons,h _ _ r,IB h t]
theorem oF {α β γ δ:Type}{R:α->β->Prop}{S:γ->δ->Prop}{f:α->γ}{g:β->δ} (h:∀ a b,R a b->S (f a) (g b)):∀ {l:List α}{m:List β},Paired R l m->Paired S (l.map f) (m.map g)
|_,_,.nil=>.nil
|_,_,.cons r t=>.cons (h _ _ r) (oF h t)
theorem yY {α β:Type}{R:α->β->Prop}{l:List α}{m:List β} (p:Paired R l m) {x:α} (hx:x∈l):∃ y∈m,R x y:=by
 obtain ⟨i,hi⟩:=List.getElem?_of_mem hx
 obtain ⟨y,h1,h2⟩:=Paired.at p hi
 exact ⟨y,mem_of_getElem? h1,h2⟩
theorem mC {α β:Type}{R:α->β->Prop}:∀ {l:List α}{m:List β},Paired R l m->∀ {y:β},y∈m->∃ x∈l,R x y
|_,_,.nil,_,h=>nomatch h
|_,_,.cons r t,y,h=>by
  rcases mem_cons.mp h with rfl|h
  ·exact ⟨_,mem_cons_self,r⟩
  ·obtain ⟨x,h1,h2⟩:=mC t h
   exact ⟨x,mem_cons_of_mem _ h1,h2⟩
theorem RL {u:Int×Int} (hu:lO u) {H:Hp}{ts ps qs:List Addr}{sh:List (Str×Nat)} (pt:Paired (fun t (x:Str×Nat)=>VG u H t x.2) ts sh) (h1:∀ q∈ps,q∈ts) (h2:(ps.map (KZ H)).Nodup) (h3:∀ t∈ts,KZ H t∈ps.map (KZ H)) (h4:qs.Perm ps) :
  ∃ ms:List Nat,Paired (VG u H) qs ms/\ms.Nodup/\∀ m,m∈ms ↔ ∃ x∈sh,x.2=m:=by
 obtain ⟨ms,hp⟩:=QF (R:=fun t m=>VG u H t m/\∃ x∈sh,x.2=m) (l:=qs) fun t ht=>by
  obtain ⟨x,hx,r⟩:=yY pt (h1 t (h4.mem_iff.mp ht))
  exact ⟨x.2,r,x,hx,rfl⟩
 have e:=IB (f:=KZ H) (g:=fun m=>FM (bD u m)) (fun a b r=>zL r.1) hp
 have nd:=(h4.map (KZ H)).nodup_iff.mpr h2
 rw [e] at nd
 refine ⟨ms,Pd.imp hp fun a b r=>r.1,(pairwise_map.mp nd).imp fun hab z=>hab (by rw [z]),fun m=>⟨fun hm=>?_,fun ⟨x,hx,ex⟩=>?_⟩⟩
 ·obtain ⟨_,_,r⟩:=mC hp hm
  exact r.2
 ·obtain ⟨t,ht,r⟩:=mC pt hx
  have:=(h4.map (KZ H)).mem_iff.mpr (h3 t ht)
  rw [e,zL r] at this
  obtain ⟨m',hm',e'⟩:=mem_map.mp this
  have:=mV hu (uW e')
  rw [← ex,← this]
  exact hm'
noncomputable def ZH:Str:="abcdefghijklmnopqrstuvwxyz"
noncomputable def QI (n:Nat):Str:=⟨#[97+n]⟩
theorem TW:∀ n,n < 26->ZH.cps.toList[n]?=some (97+n):=by decide +kernel
theorem NH:ZH.length=26:=by decide +kernel
noncomputable def fG (n:Nat):Str:=if n < 26 then QI n else QI (n / 26)++QI (n % 26)
theorem OJ {n:Nat} (h:n < 26):sZ ZH.cps.toList (n:Int)=some (97+n):=fT (TW n h)
inductive jW (ms:List Nat):List Nat->Nat->List Nat->List (Nat×Nat)->Prop
|nil:jW ms [] 0 [] []
|snoc {ns T L:List Nat} {a n:Nat} {es:List (Nat×Nat)} (h:jW ms ns a T es) (ha:a<=n) (g:nW ms (n - a) L):jW ms (ns++[n]) n (T++L) (es++[(n,(T++L).length)])
noncomputable def hZ (u:Int×Int) (es:List (Nat×Nat)):List (List aH×V):=es.map fun e=>(FM (bD u e.1),V.int (e.2:Int))
theorem jW.keys {ms ns T:List Nat}{a:Nat}{es:List (Nat×Nat)} (h:jW ms ns a T es):es.map (·.1)=ns:=by
 induction h with
|nil=>rfl
|snoc h ha g ih=>rw [map_append,ih]; rfl
theorem jW.le {ms ns T:List Nat}{a:Nat}{es:List (Nat×Nat)} (h:jW ms ns a T es):∀ e∈es,e.2<=T.length:=by
 induction h with
|nil=>intro e he; cases he
|snoc h ha g ih =>
  intro e he
  rw [length_append]
  rcases mem_append.mp he with c|c
  ·have:=ih e c; omega
  ·rw [mem_singleton.mp c]
   exact le_of_eq length_append
theorem JS {u:Int×Int} (hu:lO u) {es:List (Nat×Nat)}{n c:Nat} (h:n∉es.map (·.1)):cB (hZ u es) (FM (bD u n)) (V.int (c:Int))=hZ u (es++[(n,c)]):=by
 unfold cB
 rw [if_neg]
 ·unfold hZ
  rw [map_append]
  rfl
 ·intro z
  rw [any_eq_true] at z
  obtain ⟨p,hp,e⟩:=z
  obtain ⟨q,hq,rfl⟩:=mem_map.mp hp
  have:=mV hu (uW (of_decide_eq_true e))
  exact h (mem_map.mpr ⟨q,hq,this⟩)
theorem jW.len {ms ns T:List Nat}{a:Nat}{es:List (Nat×Nat)} (h:jW ms ns a T es):T.length<=a:=by
 induction h with
|nil=>exact le_refl _
|snoc h ha g ih =>
  have:=g.len
  rw [length_append]
  omega
theorem jW.last {ms ns T:List Nat}{a:Nat}{es:List (Nat×Nat)} (h:jW ms ns a T es):(ns=[]/\a=0)∨a∈ns:=by
 cases h with
|nil=>exact .inl ⟨rfl,rfl⟩
|snoc h ha g=>exact .inr (mem_append_right _ (mem_singleton.mpr rfl))
theorem Kp.ou {t p:Addr}{H G:Hp}{o:HO} (k:Kp t H G) (h:H p=none):Kp t H (L2.upd G p o):=fun b v nb e=>by
 rw [aJ (aA e h)]
 exact k _ _ nb e
theorem YA {H:Hp}{Q:VK}{v:V}{p t:Addr}{kvs:List (List aH×V)}{k:List aH} (h:Rd H p (.dT kvs)) (ht:H t=some (.tup (k.map kV))) (e:bA kvs k=some v) (q:Q v H):dG (.ref p) (.ref t) H Q:=⟨p,v,rfl,.inr ⟨kvs,k,t,h,rfl,ht,e.symm⟩,q⟩
noncomputable def VI (u:Int×Int) (H:Hp) (v:V) (x:Nat×Nat):Prop:=∃ t q,v=.ref t/\H t=some (.tup [.str (fG x.1),.str (fG (x.1+1)),.ref q])/\VG u H q x.2
theorem VI.tk {u:Int×Int}{H H':Hp}{v:V}{x:Nat×Nat} (h:VI u H v x) (k:TK H H'):VI u H' v x:=let ⟨t,q,e,a,b⟩:=h; ⟨t,q,e,k _ _ a,k _ _ b⟩
noncomputable def qU (T:List Nat) (k:Nat):List (Nat×Nat):=T.zipIdx.flatMap fun x=>List.replicate k (x.2,x.1)
theorem DY (T:List Nat) (m k:Nat):qU (T++[m]) k=qU T k++List.replicate k (T.length,m):=by
 unfold qU
 rw [List.zipIdx_append,List.flatMap_append]
 simp
theorem jR (k:Nat):∀ T:List Nat,(qU T k).length=T.length * k:=fun T=>by
 unfold qU
 rw [List.length_flatMap]
 have:(T.zipIdx.map fun x=>(List.replicate k (x.2,x.1)).length)=List.replicate T.length k:=by
  refine ext_getElem (by simp) fun i h1 h2=>by simp
 rw [this]
 have h2:∀ n,(List.replicate n k).sum=n * k:=fun n=>by
  induction n with
 |zero=>simp
 |succ n ih=>rw [replicate_succ,sum_cons,ih,succ_mul,Nat.add_comm]
 exact h2 _
theorem IA {α β:Type}{R:α->β->Prop}{a:α}{b:β} (h:R a b):∀ k,Paired R (List.replicate k a) (List.replicate k b)
|0=>.nil
|k+1=>.cons h (IA h k)
theorem BE {α:Type} (a:α):∀ k,(List.replicate k [a]).flatten=List.replicate k a
|0=>rfl
|k+1=>by rw [replicate_succ,flatten_cons,BE a k]; rfl
theorem xL {u:Int×Int} (hu:lO u):∀ {es:List (Nat×Nat)}{m:Nat},m∈es.map (·.1)->∃ c,es.lookup m=some c/\(m,c)∈es/\bA (hZ u es) (FM (bD u m))=some (V.int (c:Int))
|[],_,h=>nomatch h
|e::es,m,h=>by
  by_cases z:m=e.1
  ·refine ⟨e.2,by rw [lookup_cons]; simp [z],by rw [z]; exact mem_cons_self,?_⟩
   exact dE (p:=(FM (bD u e.1),V.int (e.2:Int))) (by rw [z])
  ·rcases mem_cons.mp h with c|c
   ·exact absurd c z
   ·obtain ⟨c',h1,h2,h3⟩:=xL hu c
    refine ⟨c',by rw [lookup_cons,beq_eq_false_iff_ne.mpr z]; exact h1,mem_cons_of_mem _ h2,?_⟩
    exact (cQ (p:=(FM (bD u e.1),V.int (e.2:Int))) fun e2=>z (mV hu (uW e2)).symm).trans h3
noncomputable def eJ (sh:List (Str×Nat)) (es:List (Nat×Nat)):List (aH×V):=sh.map fun x=>(Sum.inr x.1,V.str (fG ((es.lookup x.2).getD 0)))
theorem vA {sh:List (Str×Nat)}{es:List (Nat×Nat)} (h:(sh.map (·.1)).Nodup):((eJ sh es).map (·.1)).Nodup:=by
 unfold eJ
 rw [map_map]
 have:(sh.map ((fun p:aH×V=>p.1) ∘ fun x=>(Sum.inr x.1,V.str (fG ((es.lookup x.2).getD 0)))))=(sh.map (·.1)).map Sum.inr:=by rw [map_map]; rfl
 rw [this]
 exact pairwise_map.mpr (h.imp fun hab e=>hab (Sum.inr.inj e))
section
open PySem PySem.Spec PyProof.Rows
variable {X:Cx}
end
section
variable {Q:VK} {H:Hp} {σ:St} {D:dC}
end
theorem jW.le1 {ms ns T:List Nat}{a:Nat}{es:List (Nat×Nat)} (h:jW ms ns a T es):∀ e∈es,e.2<=e.1:=by
 induction h with
|nil=>intro e he; cases he
|snoc h ha g ih =>
  intro e he
  rcases mem_append.mp he with c|c
  ·exact ih e c
  ·rw [mem_singleton.mp c]
   exact (jW.snoc h ha g).len
noncomputable def LD (sh:List (Str×Nat)) (ns:List Nat):Prop:=ns.Pairwise (· < ·)/\∀ m,m∈ns ↔ ∃ x∈sh,x.2=m
noncomputable def lN (b:Bool):Nat:=if b then 2 else 1
theorem rM:∀ {l m:List Nat},l.Pairwise (· < ·)->m.Pairwise (· < ·)->(∀ x,x∈l ↔ x∈m)->l=m
|[],[],_,_,_=>rfl
|[],y::m,_,_,h=>nomatch (h y).mpr mem_cons_self
|x::l,[],_,_,h=>nomatch (h x).mp mem_cons_self
|x::l,y::m,h1,h2,h=>by
  rw [List.pairwise_cons] at h1 h2
  have e:x=y:=by
   rcases mem_cons.mp ((h x).mp mem_cons_self) with e|e
   ·exact e
   ·rcases mem_cons.mp ((h y).mpr mem_cons_self) with e'|e'
    ·exact e'.symm
    ·have:=h2.1 x e
     have:=h1.1 y e'
     omega
  subst e
  rw [rM h1.2 h2.2 fun z=>?_]
  constructor
  ·intro hz
   rcases mem_cons.mp ((h z).mp (mem_cons_of_mem _ hz)) with e|e
   ·have:=h1.1 z hz
    omega
   ·exact e
  ·intro hz
   rcases mem_cons.mp ((h z).mpr (mem_cons_of_mem _ hz)) with e|e
   ·have:=h2.1 z hz
    omega
   ·exact e
theorem LD.eq {sh:List (Str×Nat)}{l m:List Nat} (h1:LD sh l) (h2:LD sh m):l=m:=rM h1.1 h2.1 fun x=>(h1.2 x).trans (h2.2 x).symm
theorem jW.inv {S ns T:List Nat}{a:Nat}{es:List (Nat×Nat)} (h:jW S ns a T es):(ns=[]/\a=0/\T=[]/\es=[])∨∃ ns0 n a0 T0 L es0,ns=ns0++[n]/\jW S ns0 a0 T0 es0/\nW S (n - a0) L/\a=n/\T=T0++L/\es=es0++[(n,(T0++L).length)]:=by
 cases h with
|nil=>exact .inl ⟨rfl,rfl,rfl,rfl⟩
|snoc h ha g=>exact .inr ⟨_,_,_,_,_,_,rfl,h,g,rfl,rfl,rfl⟩
theorem jW.uniq {S ns T:List Nat}{a:Nat}{es:List (Nat×Nat)} (h:jW S ns a T es):∀ {a':Nat}{T':List Nat}{es':List (Nat×Nat)},jW S ns a' T' es'->a=a'/\T=T'/\es=es':=by
 induction h with
|nil =>
  intro a' T' es' h'
  rcases h'.inv with ⟨_,rfl,rfl,rfl⟩|⟨_,_,_,_,_,_,e,_⟩
  ·exact ⟨rfl,rfl,rfl⟩
  ·exact absurd e (by simp)
|snoc h ha g ih =>
  intro a' T' es' h'
  rcases h'.inv with ⟨e,_⟩|⟨ns0,n0,a0,T0,L0,es0,e,h2,g2,rfl,rfl,rfl⟩
  ·exact absurd e (by simp)
  ·obtain ⟨e1,e2⟩:=List.append_inj' e rfl
   cases e2
   subst e1
   obtain ⟨rfl,rfl,rfl⟩:=ih h2
   rw [g.uniq g2]
   exact ⟨rfl,rfl,rfl⟩
end L2
namespace L2
open PySem PySem.Spec PyProof.Rows
section
mutual
theorem kX.inj {H:Hp}:∀ (d e:Dt) {x:V},kX H d x->kX H e x->d=e
|.tup ds,.tup es,x,h1,h2=>by
  obtain ⟨p,vs,rfl,a,b⟩:=h1
  obtain ⟨q,ws,e1,c,d⟩:=h2
  cases e1
  rw [a] at c
  cases c
  rw [fV.inj ds es b d]
|.lst ds,.lst es,x,h1,h2=>by
  obtain ⟨p,vs,rfl,a,b⟩:=h1
  obtain ⟨q,ws,e1,c,d⟩:=h2
  cases e1
  rw [a] at c
  cases c
  rw [fV.inj ds es b d]
|.tup ds,.lst es,x,h1,h2=>by
  obtain ⟨p,vs,rfl,a,b⟩:=h1
  obtain ⟨q,ws,e1,c,d⟩:=h2
  cases e1
  rw [a] at c
  cases c
|.lst ds,.tup es,x,h1,h2=>by
  obtain ⟨p,vs,rfl,a,b⟩:=h1
  obtain ⟨q,ws,e1,c,d⟩:=h2
  cases e1
  rw [a] at c
  cases c
|.non,e,x,h1,h2=>by
  have h1:x=.non:=h1
  subst h1
  cases e <;> first|rfl|(have h2:V.non=_:=h2; cases h2)|(obtain ⟨_,_,z,_⟩:=h2; cases z)
|.bl b,e,x,h1,h2=>by
  have h1:x=.bl b:=h1
  subst h1
  cases e <;> first|(have h2:V.bl b=_:=h2; cases h2; rfl)|(have h2:V.bl b=_:=h2; cases h2; done)|(obtain ⟨_,_,z,_⟩:=h2; cases z)
|.int b,e,x,h1,h2=>by
  have h1:x=.int b:=h1
  subst h1
  cases e <;> first|(have h2:V.int b=_:=h2; cases h2; rfl)|(have h2:V.int b=_:=h2; cases h2; done)|(obtain ⟨_,_,z,_⟩:=h2; cases z)
|.str b,e,x,h1,h2=>by
  have h1:x=.str b:=h1
  subst h1
  cases e <;> first|(have h2:V.str b=_:=h2; cases h2; rfl)|(have h2:V.str b=_:=h2; cases h2; done)|(obtain ⟨_,_,z,_⟩:=h2; cases z)
|.tup ds,.non,x,h1,h2=>by obtain ⟨p,vs,rfl,_⟩:=h1; have h2:V.ref p=_:=h2; cases h2
|.tup ds,.bl _,x,h1,h2=>by obtain ⟨p,vs,rfl,_⟩:=h1; have h2:V.ref p=_:=h2; cases h2
|.tup ds,.int _,x,h1,h2=>by obtain ⟨p,vs,rfl,_⟩:=h1; have h2:V.ref p=_:=h2; cases h2
|.tup ds,.str _,x,h1,h2=>by obtain ⟨p,vs,rfl,_⟩:=h1; have h2:V.ref p=_:=h2; cases h2
|.lst ds,.non,x,h1,h2=>by obtain ⟨p,vs,rfl,_⟩:=h1; have h2:V.ref p=_:=h2; cases h2
|.lst ds,.bl _,x,h1,h2=>by obtain ⟨p,vs,rfl,_⟩:=h1; have h2:V.ref p=_:=h2; cases h2
|.lst ds,.int _,x,h1,h2=>by obtain ⟨p,vs,rfl,_⟩:=h1; have h2:V.ref p=_:=h2; cases h2
|.lst ds,.str _,x,h1,h2=>by obtain ⟨p,vs,rfl,_⟩:=h1; have h2:V.ref p=_:=h2; cases h2
theorem fV.inj {H:Hp}:∀ (ds es:List Dt) {xs:List V},fV H ds xs->fV H es xs->ds=es
|[],[],xs,_,_=>rfl
|[],e::es,xs,h1,h2=>by
  have h1:xs=[]:=h1
  subst h1
  obtain ⟨_,_,z,_⟩:=h2
  cases z
|d::ds,[],xs,h1,h2=>by
  have h2:xs=[]:=h2
  subst h2
  obtain ⟨_,_,z,_⟩:=h1
  cases z
|d::ds,e::es,xs,h1,h2=>by
  obtain ⟨v,r,rfl,a,b⟩:=h1
  obtain ⟨v',r',z,a',b'⟩:=h2
  cases z
  rw [kX.inj d e a a',fV.inj ds es b b']
end
noncomputable def vOf:Value->V
|.bool b=>.bl b
|.int i _=>.int i
|.str s _=>.str s
|.ref a=>.ref a
|_=>.non
theorem CK {H:Hp}{d:Dt}{x:V}{u:Value} (h:kX H d x) (r:aV x u):x=vOf u:=by
 cases d with
|non =>
  cases (show x=.non from h)
  cases r
  rfl
|bl b =>
  cases (show x=.bl b from h)
  cases r
  rfl
|int b =>
  cases (show x=.int b from h)
  obtain ⟨t,rfl⟩:=r
  rfl
|str b =>
  cases (show x=.str b from h)
  obtain ⟨t,rfl⟩:=r
  rfl
|tup ds =>
  obtain ⟨p,_,rfl,_⟩:=h
  cases r
  rfl
|lst ds =>
  obtain ⟨p,_,rfl,_⟩:=h
  cases r
  rfl
theorem LY {H:Hp}{d e:Dt}{x y:V}{u:Value} (h1:kX H d x) (h2:kX H e y) (r1:aV x u) (r2:aV y u):x=y:=(CK h1 r1).trans (CK h2 r2).symm
open Classical in
noncomputable def UM (H:Hp) (d:Dt) (u:Value):Bool:=decide (∃ x e,aV x u/\kX H e x/\vD e d=true)
open Classical in
theorem JC {H:Hp}{d e:Dt}{x:V}{u:Value} (r:aV x u) (h:kX H e x):UM H d u=vD e d:=by
 unfold UM
 cases c:vD e d with
|true=>exact decide_eq_true ⟨x,e,r,h,c⟩
|false =>
  refine decide_eq_false fun ⟨y,e',r',h',c'⟩=>?_
  have:=LY h h' r r'
  subst this
  rw [kX.inj e e' h h',c'] at c
  cases c
theorem CQ {H:Hp}{d:Dt}:∀ {ds:List Dt}{vs:List V}{us:List Value},fV H ds vs->aQ vs us->us.any (UM H d)=ds.any fun e=>vD e d
|[],vs,us,h,r=>by
  have h:vs=[]:=h
  subst h
  cases r
  rfl
|e::ds,vs,us,h,r=>by
  obtain ⟨v,w,rfl,a,b⟩:=h
  cases r with
 |cons r1 r2=>rw [any_cons,any_cons,JC r1 a,CQ b r2]
noncomputable def YN (neg:Bool):R2:=fun x y H Q=>∃ p vs d ds,y=.ref p/\H p=some (.lst vs)/\kX H d x/\fV H ds vs/\gI ds<=50/\Q (.bl (if neg then !(ds.any fun e=>vD e d) else ds.any fun e=>vD e d)) H
theorem CB {X:Cx}{pins:List (Addr×Obj)}{σ:St}{H:Hp}{s:Shared} (I:aN X pins σ H s) (hu:X.A.units+64 < cLine) {d:Dt}{x:V}{v:Value} (hd:kX H d x) (rx:aV x v):∀ {ds:List Dt}{vs:List V}{us:List Value},fV H ds vs->aQ vs us->gI ds<=50->∀ u∈us,SeqAt.EqAt X.A.in1 s u v (UM H d u)
|[],vs,us,h,r,_=>by
  have h:vs=[]:=h
  subst h
  cases r
  exact fun u hu=>by cases hu
|e::ds,vs,us,h,r,hl=>by
  obtain ⟨w,ws,rfl,a,b⟩:=h
  cases r with
 |cons r1 r2 =>
   have hl':max (sU e) (gI ds)<=50:=hl
   intro u hm
   rcases mem_cons.mp hm with rfl|hm
   ·rw [JC r1 a]
    exact JR I e d a hd r1 rx (by show X.A.units+1+sU e < cLine; omega)
   ·exact CB I hu hd rx b r2 (by omega) u hm
theorem DT {X:Cx} (hu:X.A.units+64 < cLine):jG X (compareOp .NotIn) (YN true):=by
 intro pins s σ H x y v u Q I rx ry h
 obtain ⟨p,vs,d,ds,rfl,hp,hd,hds,hl,q⟩:=h
 cases ry
 obtain ⟨its,r,t⟩:=fP I hp
 refine SeqAt.notIn_listAt (UM H d) t (fun w hw=>CB I hu hd rx hds r hl w (by simpa using hw)) ⟨.bl _,H,I,rfl,?_⟩
 rw [show its.toArray.any (UM H d)=its.any (UM H d) by simp,CQ hds r]
 exact q
end
section
theorem aN.turnI {X:Cx}{pins:List (Addr×Obj)}{σ:St}{H:Hp}{s:Shared}{h':Heap}{t':Nat} (ch:List Addr) (I:aN X pins σ H s) (hf:∀ b∈ch,nX X pins H b) (k:∀ b o,b∉ch->s.heap.get? b=some o->h'.get? b=some o):aN X pins σ H { s with heap:=h',toks:=t' }:=by
 refine I.step (g':=s.gens) (d':=s.drawn) (ch:=ch) (fun b hb=>?_) (fun b o _ _ hc e _=>k b o hc e) (fun b o _ _ hc e _=>⟨o.slots,k b o hc e⟩) (fun _ _ _ _ n=>n)
  (fun b o hc e=>⟨o,k b o hc e⟩) (fun _ _ e=>e) (fun _ _ _ e=>e) (fun b ps e=>⟨#[],by rw [e]; simp⟩) (fun m hm=>?_) (fun b u e=>?_) I.bare
 ·obtain ⟨f0,f1,f2,f3,f4,f5⟩:=hf b hb
  exact ⟨f3,f1,f4,f5⟩
 ·obtain ⟨o,es,ep,ho,r⟩:=hm
  exact ⟨o,es,ep,k _ o (fun z=>(hf _ z).2.1 rfl) ho,r⟩
 ·refine (I.hok b u e).stay (fun c v hc q=>k c v ?_ q) (fun _ q=>q) fun _ _ q=>q
  intro z
  have:=(hf c z).1
  rcases hc with rfl|hc
  ·rw [this] at e; cases e
  ·rw [this] at hc; cases hc
theorem IX {κ:Type}:∀ {kvs:List (κ×V)}{vs:List (κ×Value)}{i:Nat}{k:κ}{v:V},KV kvs vs->kvs[i]?=some (k,v)->∃ u,vs[i]?=some (k,u)/\aV v u
|_,_,_,_,_,.nil,e=>by simp at e
|_,_,0,k,v,.cons (b:=q) r _,e=>by
  simp at e
  subst e
  exact ⟨q.2,by simp; exact Prod.ext r.1.symm rfl,r.2⟩
|_,_,i+1,k,v,.cons _ t,e=>by
  obtain ⟨u,h,r⟩:=IX (i:=i) (k:=k) (v:=v) t (by simpa using e)
  exact ⟨u,by simpa using h,r⟩
theorem aN.pairAt {X:Cx}{pins:List (Addr×Obj)}{σ:St}{H:Hp}{s:Shared}{h2:Heap}{x y:V}{u u2:Value} (I:aN X pins σ H s) (I1:aN X pins σ H { s with heap:=h2,toks:=s.toks })
  (ru:aV x u) (ru2:aV y u2) (hT2:h2.get? s.heap.objs.size=some { cls:=.type "tuple",data:=.seq #[u,u2] }):aN X pins σ (upd H s.heap.objs.size (.tup [x,y])) { s with heap:=h2,toks:=s.toks }:=by
 have hTn:H s.heap.objs.size=none:=I.hok.fresh (le_refl _)
 have nn:∀ {b:Addr},b < s.heap.objs.size->H b=none->upd H s.heap.objs.size (.tup [x,y]) b=none:=fun {b} hb e=>by rw [aJ (ne_of_lt hb)]; exact e
 have old:∀ {b:Addr} {o:HO},H b=some o->upd H s.heap.objs.size (.tup [x,y]) b=some o:=fun {b o} e=>by rw [aJ (aA e hTn)]; exact e
 refine ⟨I1.ok,I1.os,I1.bare,⟨I1.base.keep,I1.base.slot,fun b o q n hx=>nn ?_ (I1.base.free b o q n hx),I1.base.there,fun b ys q=>old (I1.base.tups b ys q),fun b o v q=>old (I1.base.frzs b o v q),fun b ps q=>?_⟩,I1.loc,I1.cell,nn I.lt I1.free,fun y c q=>nn ?_ (I1.freeC y c q),fun p hp=>?_,fun b o q=>?_,I1.len⟩
 ·exact lt_of_lt_of_le (lt_size q) I.sz
 ·obtain ⟨more,z⟩:=I1.base.tbls b ps q
  exact ⟨more,old z⟩
 ·obtain ⟨v,z⟩:=I.cell y c q
  exact z.lt
 ·obtain ⟨z1,z2,z3⟩:=I1.pin p hp
  exact ⟨z1,nn (lt_size (I.pin p hp).1) z2,z3⟩
 ·by_cases hb:b=s.heap.objs.size
  ·subst hb
   rw [aB] at q
   cases q
   exact ⟨⟨by rw [sizeLine_eq]; simp,_,hT2,rfl⟩,[u,u2],.cons ru (.cons ru2 .nil),_,hT2,rfl,_,rfl⟩
  ·rw [aJ hb] at q
   exact (I1.hok b o q).stay (fun _ _ _ z=>z) (fun c z=>old z) fun c ys z=>old z
noncomputable def Av (a:Addr) (o:Obj) (kvs:List (aH×V)):It:=
 ⟨fun i H=>H a=some (.frz o (.dK kvs))/\i < kvs.length,fun i H x H'=>∃ T k v,x=.ref T/\H T=none/\H'=upd H T (.tup [kV k,v])/\kvs[i]?=some (k,v),fun i H=>H a=some (.frz o (.dK kvs))/\kvs.length<=i⟩
theorem yE {P:Program}{w:World}{K:Frag}{elts:List Expr}{k1:Nat}{tpos:Pos} (a it:Addr) (o:Obj) (kvs:List (aH×V)) :
  FH P w K (.Tuple elts k1 tpos) (Av a o kvs) [it] it (fun i h=>∃ es ep ok ov,o.data=.dict es ep/\IsItemIter h it a i kvs.length ep ok ov) where
 mem:=by simp
 obj:=fun i h st b hb=>by
  have e:b=it:=by simpa using hb
  subst e
  obtain ⟨_,_,_,_,_,e⟩:=st
  exact ⟨_,e,fun v z=>nomatch z⟩
 keep:=fun i h h' ⟨es,ep,ok,ov,q,st⟩ k=>⟨es,ep,ok,ov,q,k it (by simp) _ st⟩
 item:=by
  intro X hP hw hK hc i pins s σ H E I hf st hg
  subst hP hw hK
  obtain ⟨ha,hi⟩:=hg
  obtain ⟨hd,vs,es,ep,rel,ed,dd⟩:=oM I ha
  obtain ⟨es',ep',ok,ov,ed',st⟩:=st
  rw [ed] at ed'
  cases ed'
  obtain ⟨⟨k,v⟩,hx⟩:∃ p,kvs[i]?=some p:=⟨_,List.getElem?_eq_getElem hi⟩
  obtain ⟨u,hu,ru⟩:=IX rel hx
  have hlen:=rel.length
  rw [hlen] at st
  have lit:=lt_size st
  refine wpAny_pyNext_items_item st dd hu fun key h' hkey hit' hT hsz kp=>?_
  refine ⟨_,rfl,wpAny_letOwnedTupleGo_items (s:={ s with heap:=h' }) hit' fun h2 b1 sb=>?_⟩
  have hTz:s.heap.objs.size≠it:=ne_of_gt lit
  have k2:∀ c o,c∉[it]->s.heap.get? c=some o->h2.get? c=some o:=fun c o n q=>by
   have n':c≠it:=fun z=>n (by simp [z])
   exact (sb.2 c n').trans (kp c o n' q)
  have I1:aN X pins σ H { s with heap:=h2,toks:=s.toks }:=I.turnI [it] hf k2
  have hT2:h2.get? s.heap.objs.size=some { cls:=.type "tuple",data:=.seq #[key,u] }:=(sb.2 _ hTz).trans hT
  have I2:=I.pairAt I1 (uX hkey) ru hT2
  refine ⟨.ref s.heap.objs.size,_,I2,rfl,⟨s.heap.objs.size,k,v,rfl,I.hok.fresh (le_refl _),rfl,hx⟩,⟨es,ep,key,u,ed,by rw [hlen]; exact b1⟩,fun c hc=>?_⟩
  have e:c=it:=by simpa using hc
  subst e
  rw [aJ (Ne.symm hTz)]
  exact (hf c hc).1
 done:=by
  intro X hP hw hK hc i pins s σ H E I hf st hg
  subst hP hw hK
  obtain ⟨ha,hi⟩:=hg
  obtain ⟨hd,vs,es,ep,rel,ed,dd⟩:=oM I ha
  obtain ⟨es',ep',ok,ov,ed',st⟩:=st
  rw [ed] at ed'
  cases ed'
  have hlen:=rel.length
  rw [hlen] at st hi
  refine wpAny_pyNext_items_end (show X.A.in1.handled=none from I.ok.hd hc) st dd (by simpa using hi) fun h' eb=>⟨rfl,?_⟩
  exact I.turnI (t':=s.toks) [it] hf fun c o n q=>eb c o (fun z=>n (by simp [z])) q
 self:=fun _ _ _ _ _ ⟨_,_,_,_,_,st⟩ h=>PySem.W.kcp_self st h
section
variable {X:Cx}
noncomputable def JD (a:Addr) (tl:TE):TI:=fun σ H R=>tl σ H fun x H1=>x=.ref a/\∃ kvs,H1 a=some (.dK kvs)/\∀ o,R (Av a o kvs) (upd H1 a (.frz o (.dK kvs)))
theorem HU {l:Expr}{tl:TE}{elts:List Expr}{k1:Nat}{tpos apos pos:Pos} (a:Addr) (hl:PE X l tl)
  (hbase:attributeBase l "items" X.env (eval l X.env)=eval l X.env:=by rfl) (hline:(apos.endLine==pos.line)=true:=by rfl):PI X (.Tuple elts k1 tpos) (.Call (.Attribute l "items" apos) [] [] pos) (JD a tl):=by
 intro pins s σ H R I h
 refine wpAny_Call_method (T:="dict") (id:="dict.items") hbase rfl hline plainAttrs_dict PySem.F.slot_dict_items PySem.F.type_dict_items (cA (hl pins s σ H _ I h) fun v s1 ⟨x,H1,I1,r1,q1⟩=>?_)
 obtain ⟨e,kvs,hk,q⟩:=q1
 subst e
 cases r1
 obtain ⟨_,hd,vs,rel,o,es,ep,g,r⟩:=I1.hok a _ hk
 have dd:s1.heap.DictAt (aY X.prog X.w) a vs ep:=⟨o,es,g,r⟩
 have hm:=dd.dictOf
 have I2:=I1.freeze hk g
 refine ⟨hm.typeIs,hm.mapOf.noDict,?_⟩
 show wpAny _ _ (callWith pos (.builtin "dict.items") [.ref a] [] []) _ _ s1
 refine method_meetsIn PySem.F.slot_dict_items PySem.F.entry_dict_items rfl (PySem.evalArgs_none ⟨rfl,hm.typeIs,PySem.F.args_dict_items_1 _,_,meets_dict_items (aY X.prog X.w) a hd,⟨vs,hm⟩,?_⟩)
 refine wpAny_pyIter_items (knd:=aY X.prog X.w) (d:=a) (kvs:=vs) (ep:=ep) ⟨_,get?_push_size _ rfl,rfl,rfl⟩ (dd.push _) ?_
 have hsz:(s1.heap.push { cls:=.type "dict_items",data:=.fields #[.ref a] }).objs.size=s1.heap.objs.size+1:=size_push ..
 refine ⟨_,[_],_,_,_,rfl,(I2.kept (t':=s1.toks) fun b o e=>get?_push_of_some _ (get?_push_of_some _ e)),yE a _ o kvs,⟨es,ep,.none,.none,r.2.1,?_⟩,fun b hb=>?_,q o⟩
 ·rw [rel.length]
  exact get?_push_size _ rfl
 ·have e:b=(s1.heap.push { cls:=.type "dict_items",data:=.fields #[.ref a] }).objs.size:=by simpa using hb
  rw [hsz] at e
  subst e
  exact I2.fpOk (le_succ _) (I2.hok.fresh (le_succ _))
end
section
variable {X:Cx}
noncomputable def OV (tl:TE) (g:TG) (tb:TS):TS:=fun D σ H=>∃ a,iA H a/\LM (JD a tl) g tb (Dm a D) σ H
theorem MT {l:Expr}{elts:List Expr}{k1:Nat}{tpos apos cpos:Pos}{body:List Stmt}{tl:TE}{g:TG}{tb:TS}{pos:Pos} (hp:PassesOwn (model X.prog X.w) X.A X.env X.xe) (hc:X.calm=true) (hi:PE X l tl) (hg:PG X (.Tuple elts k1 tpos) g) (hb:tI X body tb)
  (hbase:attributeBase l "items" X.env (eval l X.env)=eval l X.env:=by rfl) (hline:(apos.endLine==cpos.line)=true:=by rfl)
  (hs:∀ x,foldedSetIterable (.Call (.Attribute l "items" apos) [] [] cpos) X.env x=pure x:=by intro _; rfl):PS X (.For (.Tuple elts k1 tpos) (.Call (.Attribute l "items" apos) [] [] cpos) body [] pos) (OV tl g tb):=by
 intro pins s σ H D I h
 obtain ⟨a,nf,h⟩:=h
 have h0:∀ o u,X.H₀ a≠some (.frz o u):=fun o u e=>nf _ _ (I.base.frzs a o u e)
 refine cA (dS hp hc (HU a hi hbase hline) hg hb hs pins s σ H (Dm a D) I h) fun f s' q=>?_
 cases f with
|next=>obtain ⟨σ',H',I',q⟩:=q; exact ⟨σ',_,I'.melt h0,q⟩
|brk=>obtain ⟨σ',H',I',q⟩:=q; exact ⟨σ',_,I'.melt h0,q⟩
|cont=>obtain ⟨σ',H',I',q⟩:=q; exact ⟨σ',_,I'.melt h0,q⟩
|ret u=>obtain ⟨v,σ',H',I',r,q⟩:=q; exact ⟨v,σ',_,I'.melt h0,r,q⟩
end
section
variable {D:dC} {σ:St} {H:Hp}
theorem SB {g:TG}{tl:TE}{tb:TS} (a:Addr) (nf:iA H a) (k:tl σ H fun x H1=>x=.ref a/\∃ kvs,H1 a=some (.dK kvs)/\∀ o,xJ g tb (Dm a D) σ (Av a o kvs) (upd H1 a (.frz o (.dK kvs)))):OV tl g tb D σ H:=⟨a,nf,k⟩
theorem MI {a:Addr}{o:Obj}{kvs:List (aH×V)}{g:TG}{tb:TS} (Pv:Nat->St->Hp->Prop) (h0:Pv 0 σ H) (hl:∀ i σ H,i<=kvs.length->Pv i σ H->H a=some (.frz o (.dK kvs)))
  (hs:∀ i k v T σ H,kvs[i]?=some (k,v)->H T=none->Pv i σ H->g (.ref T) σ (upd H T (.tup [kV k,v])) fun σ2 H2=>tb ⟨Pv (i+1),D.rt,D.nx,Pv (i+1)⟩ σ2 H2) (hd:∀ σ H,Pv kvs.length σ H->D.nx σ H):xJ g tb D σ (Av a o kvs) H:=by
 refine ⟨fun i m σ H=>m=kvs.length - i/\i<=kvs.length/\Pv i σ H,⟨_,rfl,zero_le _,h0⟩,?_⟩
 rintro i m σ H ⟨rfl,hi,p⟩
 by_cases hlt:i < kvs.length
 ·refine .inr ⟨⟨hl i σ H hi p,hlt⟩,Pv (i+1),fun σ' H' q=>⟨kvs.length - (i+1),by omega,rfl,hlt,q⟩,fun x H' y=>?_⟩
  obtain ⟨T,k,v,rfl,hT,rfl,e⟩:=y
  exact hs i k v T σ H e hT p
 ·have:i=kvs.length:=by omega
  subst this
  exact .inl ⟨⟨hl _ σ H (le_refl _) p,le_refl _⟩,hd σ H p⟩
end
end
end L2
namespace L2
open PySem
theorem NE (n:Nat):(fG n).cps.toList=if n < 26 then [97+n] else [97+n / 26,97+n % 26]:=by
 unfold fG
 split
 ·rfl
 ·show ((QI (n / 26)).cps++(QI (n % 26)).cps).toList=_
  rw [Array.toList_append]
  rfl
theorem iY {m n:Nat} (h:fG m=fG n):m=n:=by
 have e:=congrArg (fun s:Str=>s.cps.toList) h
 simp only [NE] at e
 split at e <;> split at e
 ·have:=List.cons.inj e; omega
 ·have:=congrArg List.length e; simp at this
 ·have:=congrArg List.length e; simp at this
 ·obtain ⟨e1,e2⟩:=List.cons.inj e
  obtain ⟨e2,_⟩:=List.cons.inj e2
  omega
theorem NG (k:Nat):∀ (T:List Nat) (n j:Nat) (x:Nat×Nat),((T.zipIdx n).flatMap fun x=>List.replicate k (x.2,x.1))[j]?=some x ↔ ∃ i,T[i]?=some x.2/\x.1=n+i/\i * k<=j/\j < i * k+k
|[],n,j,x=>by simp
|a::T,n,j,x=>by
  rw [List.zipIdx_cons,List.flatMap_cons,List.getElem?_append,length_replicate]
  by_cases hj:j < k
  ·rw [if_pos hj,List.getElem?_replicate,if_pos hj]
   constructor
   ·intro e
    cases e
    exact ⟨0,rfl,rfl,by omega,by omega⟩
   ·rintro ⟨i,h1,h2,h3,h4⟩
    cases i with
   |zero=>cases x; cases h1; cases h2; rfl
   |succ i=>rw [succ_mul] at h3; omega
  ·rw [if_neg hj,NG k T]
   constructor
   ·rintro ⟨i,h1,h2,h3,h4⟩
    exact ⟨i+1,h1,by omega,by rw [succ_mul]; omega,by rw [succ_mul]; omega⟩
   ·rintro ⟨i,h1,h2,h3,h4⟩
    cases i with
   |zero=>omega
   |succ i =>
     rw [succ_mul] at h3 h4
     exact ⟨i,h1,by omega,by omega,by omega⟩
noncomputable def sm (T:List Nat) (j:Nat):Nat:=(T.take j).sum
theorem tO {T:List Nat}{i a:Nat} (h:T[i]?=some a):sm T (i+1)=sm T i+a:=by
 unfold sm
 rw [take_add_one,h]
 simp
theorem RK {T:List Nat} (hT:∀ t∈T,0 < t) {i j:Nat} (hj:j<=T.length) (h:i < j):sm T i < sm T j:=by
 induction j with
|zero=>omega
|succ j ih =>
  have e:=List.getElem?_eq_getElem (show j < T.length by omega)
  rw [tO e]
  have:=hT _ (mem_of_getElem? e)
  by_cases c:i=j
  ·subst c; omega
  ·have:=ih (by omega) (by omega); omega
section
variable {u:Int×Int} (hu:lO u)
include hu
theorem uF (m n:Nat):qm u (m+n)=qm u m+qm u n:=by
 have e:=yT hu (show n<=m+n by omega)
 rw [Nat.add_sub_cancel] at e
 rw [← e,Rat.sub_add_cancel]
theorem oC:qm u 0=0:=by
 have e:=yT hu (le_refl 0)
 rw [Rat.sub_self] at e
 exact e.symm
theorem QC (m:Nat):0<=qm u m:=by
 obtain ⟨a,_⟩:=gX hu m
 obtain ⟨_,_,_,c,_⟩:=hu.tm m
 rw [a] at c
 exact Rat.num_nonneg.mp c
theorem SS {m n:Nat} (h:qm u m=qm u n):m=n:=mV hu (Prod.ext ((gX hu m).1.trans (h ▸ (gX hu n).1.symm)) ((gX hu m).2.trans (h ▸ (gX hu n).2.symm)))
theorem yU {m:Nat} (h:0 < m):0 < qm u m:=by
 have a:=QC hu m
 have b:qm u m≠0:=fun z=>by
  have:=SS hu (z.trans (oC hu).symm)
  omega
 grind
theorem YS {m n:Nat}:qm u m < qm u n ↔ m < n:=by
 have key:∀ {m n:Nat},m < n->qm u m < qm u n:=fun {m n} h=>by
  have e:=uF hu m (n - m)
  have p:=yU hu (show 0 < n - m by omega)
  rw [show m+(n - m)=n by omega] at e
  grind
 constructor
 ·intro h
  rcases lt_trichotomy m n with c|c|c
  ·exact c
  ·subst c; exact absurd h (Rat.lt_irrefl)
  ·have:=key c; grind
 ·exact key
theorem OS {m n:Nat}:(bD u m).1 * (bD u n).2 < (bD u n).1 * (bD u m).2 ↔ m < n:=by
 rw [(gX hu m).1,(gX hu n).1,(gX hu m).2,(gX hu n).2,← Rat.lt_iff]
 exact YS hu
theorem QD {m:Nat} (h:m<=1000):Bd u.2.toNat (2 ^ 70) (qm u m):=by
 obtain ⟨a,b⟩:=gX hu m
 obtain ⟨c1,c2,c3,c4,c5⟩:=hu.tm m
 have h1:=hu.s1
 have h2:=hu.p2
 have h3:=hu.p1
 have hb:u.1 * (m:Int)<=2 ^ 60 * 1000:=Int.mul_le_mul (Int.le_of_lt h1) (by omega) (by omega) (by decide)
 refine Bd.dvd (Bd.of (M:=2 ^ 70) ?_) ?_
 ·rw [← a]
  omega
 ·rw [b] at c2
  have:=Int.natAbs_dvd_natAbs.mpr c2
  rw [Int.natAbs_natCast,show u.2.natAbs=u.2.toNat by omega] at this
  exact this
end
noncomputable def iH (u:Int×Int) (T:List Nat) (k:Nat):List mR:=(qU T k).map fun x=>(fG x.1,fG (x.1+1),qm u x.2)
theorem nY {u:Int×Int}{T:List Nat}{k j:Nat}{r:eL aH} (h:(kn (iH u T k))[j]?=some r):∃ i a,T[i]?=some a/\r=(Sum.inr (fG i),Sum.inr (fG (i+1)),qm u a)/\i * k<=j/\j < i * k+k:=by
 obtain ⟨s,hs,rfl⟩:=CA h
 unfold iH at hs
 rw [List.getElem?_map] at hs
 obtain ⟨x,hx,rfl⟩:=Option.map_eq_some_iff.mp hs
 obtain ⟨i,h1,h2,h3,h4⟩:=(NG k T 0 j x).mp hx
 rw [Nat.zero_add] at h2
 rw [h2]
 exact ⟨i,x.2,h1,rfl,h3,h4⟩
theorem AJ {u:Int×Int}{T:List Nat}{k i a c:Nat} (h:T[i]?=some a) (hc:c < k):(kn (iH u T k))[i * k+c]?=some (Sum.inr (fG i),Sum.inr (fG (i+1)),qm u a):=by
 unfold kn iH
 rw [List.getElem?_map,List.getElem?_map,show (qU T k)[i * k+c]?=some (i,a) from (NG k T 0 _ (i,a)).mpr ⟨i,h,(Nat.zero_add i).symm,by omega,by omega⟩]
 rfl
noncomputable def Ce (push:aH->Option Rat):Prop:=∀ p t,push p=some t ↔ p=Sum.inr (fG 0)/\t=0
section
variable {u:Int×Int} {T:List Nat} {k:Nat} {push:aH -> Option Rat} {tk:Nat -> Option Rat} {m:aH -> Option Rat} (hu:lO u) (hp:Ce push)
include hu hp
theorem VD {p:aH}{t:Rat} (h:OQ (kn (iH u T k)) push tk p t):∃ j,j<=T.length/\p=Sum.inr (fG j)/\qm u (sm T j)<=t:=by
 induction h with
|push e =>
  obtain ⟨rfl,rfl⟩:=(hp _ _).mp e
  exact ⟨0,zero_le _,rfl,by show qm u 0<=0; rw [oC hu]; exact Rat.le_refl⟩
|run h hr hj hn ih =>
  obtain ⟨j,hj0,rfl,hle⟩:=ih
  obtain ⟨i,a,hi,rfl,_,_⟩:=nY hr
  have hil:=(List.getElem?_eq_some_iff.mp hi).1
  have e:=tO hi
  have na:=QC hu a
  rcases hj with ⟨e1,e2⟩|⟨e1,e2⟩
  ·have:=iY (Sum.inr.inj e1)
   subst this
   refine ⟨i+1,by omega,e2.symm,?_⟩
   rw [e,uF hu]
   exact Rat.add_le_add_right.mpr hle
  ·have:=iY (Sum.inr.inj e1)
   subst this
   refine ⟨i,by omega,e2.symm,?_⟩
   rw [e,uF hu] at hle
   show _<=_+qm u a
   grind
theorem KD (pass:∀ i,i < T.length->∃ c,c < k/\tk (i * k+c)=none):∀ j,j<=T.length->OQ (kn (iH u T k)) push tk (Sum.inr (fG j)) (qm u (sm T j))
|0,_=>.push ((hp _ _).mpr ⟨rfl,oC hu⟩)
|j+1,h=>by
  obtain ⟨c,hc,e⟩:=pass j h
  have hj:=List.getElem?_eq_getElem (show j < T.length from h)
  rw [tO hj,uF hu]
  exact .run (KD pass j (by omega)) (AJ hj hc) (.inl ⟨rfl,rfl⟩) (fun u e2=>by rw [e] at e2; cases e2)
theorem VC (hT:∀ t∈T,0 < t) {c:Nat} (out:∀ j,c * k<=j->j < c * k+k->tk j=some 0) {p:aH}{t:Rat} (h:OQ (kn (iH u T k)) push tk p t):0<=t/\∃ j,j<=c/\p=Sum.inr (fG j):=by
 induction h with
|push e =>
  obtain ⟨rfl,rfl⟩:=(hp _ _).mp e
  exact ⟨Rat.le_refl,0,zero_le _,rfl⟩
|@run q s p k2 r h hr hj hn ih =>
  obtain ⟨h0,j,hj0,rfl⟩:=ih
  obtain ⟨i,a,hi,rfl,l1,l2⟩:=nY hr
  have pa:=yU hu (hT _ (mem_of_getElem? hi))
  have pp:0 < s+qm u a:=by grind
  refine ⟨Rat.le_of_lt pp,?_⟩
  have hic:i≠c:=fun z=>by
   subst z
   exact Rat.not_le.mpr pp (hn 0 (out _ l1 l2))
  rcases hj with ⟨e1,e2⟩|⟨e1,e2⟩
  ·have:=iY (Sum.inr.inj e1)
   exact ⟨i+1,by omega,e2.symm⟩
  ·have:=iY (Sum.inr.inj e1)
   exact ⟨i,by omega,e2.symm⟩
theorem zO (F:xY (kn (iH u T k)) push tk m) (pass:∀ i,i < T.length->∃ c,c < k/\tk (i * k+c)=none) {j:Nat} (hj:j<=T.length):m (Sum.inr (fG j))=some (qm u (sm T j)):=by
 obtain ⟨v,e,le⟩:=F.le _ _ (KD hu hp pass j hj)
 obtain ⟨i,_,e2,l2⟩:=VD hu hp (F.arr _ _ e)
 have:=iY (Sum.inr.inj e2)
 subst this
 rw [e,Rat.le_antisymm le l2]
theorem ES (F:xY (kn (iH u T k)) push tk m) (hT:∀ t∈T,0 < t) {c:Nat} (out:∀ j,c * k<=j->j < c * k+k->tk j=some 0) {j:Nat} (hj:c < j):m (Sum.inr (fG j))=none:=by
 cases e:m (Sum.inr (fG j)) with
|none=>rfl
|some v =>
  obtain ⟨_,i,hi,e2⟩:=VC hu hp hT out (F.arr _ _ e)
  have:=iY (Sum.inr.inj e2)
  omega
end
theorem QT:∀ (l s:List Nat) (m:AL aH Rat),(∀ j:Nat,cE m (Sum.inl (j:Int))=if j∈s then some 0 else none)->∀ j:Nat,cE ((l.map fun n:Nat=>((Sum.inl (n:Int):aH),(0:Rat))).foldl eG m) (Sum.inl (j:Int))=if j∈s∨j∈l then some 0 else none
|[],s,m,h,j=>by simpa using h j
|n::l,s,m,h,j=>by
  have e:∀ j:Nat,cE (eG m (Sum.inl (n:Int),0)) (Sum.inl (j:Int))=if j∈s++[n] then some 0 else none:=fun j=>by
   unfold eG
   simp only [h n]
   by_cases c:n∈s
   ·rw [if_pos c]
    simp only [Rat.lt_irrefl,if_false]
    rw [h j]
    by_cases z:j=n
    ·subst z; simp [c]
    ·simp [z]
   ·rw [if_neg c]
    simp only
    by_cases z:j=n
    ·subst z
     rw [xU,if_pos rfl]
     simp
    ·rw [xU,if_neg (fun w=>z (by have:=Sum.inl.inj w; omega)),h j]
     simp [z]
  have:=QT l (s++[n]) _ e j
  rw [map_cons,foldl_cons,this]
  simp [or_assoc]
theorem WD (l:List Nat) (j:Nat):cE (lst (l.map fun n:Nat=>((Sum.inl (n:Int):aH),(0:Rat)))) (Sum.inl (j:Int))=if j∈l then some 0 else none:=by
 have:=QT l [] [] (fun j=>rfl) j
 simpa [lst] using this
theorem TU:fG 0=Str.ofString "a":=by decide +kernel
theorem psA:Ce (cE (lst [((Sum.inr (Str.ofString "a"):aH),(0:Rat))])):=fun p t=>by
 show Option.map (·.2) (List.find? (fun kv:aH×Rat=>decide (kv.1=p)) [(Sum.inr (Str.ofString "a"),0)])=some t ↔ _
 rw [TU,find?_cons]
 by_cases c:(Sum.inr (Str.ofString "a"):aH)=p
 ·rw [decide_eq_true c]
  exact ⟨fun e=>⟨c.symm,(Option.some.inj e).symm⟩,fun e=>congrArg some e.2.symm⟩
 ·rw [decide_eq_false c]
  exact ⟨(fun e=>nomatch e),fun e=>absurd e.1.symm c⟩
noncomputable def VJ (u:Int×Int) (T:List Nat) (k:Nat) (outs:List Nat) (H:Hp) (d:Addr):Prop:=∃ (m:aH->Option Rat) (ys:List Str) (push:aH->Option Rat) (tk:Nat->Option Rat),Ce push/\(∀ j,tk j=if j∈outs then some 0 else none)/\xY (kn (iH u T k)) push tk m/\DQ rB H d (ys.map fun y=>(Sum.inr y,m (Sum.inr y)))/\ys.Nodup/\∀ j,j<=T.length->fG j∈ys
theorem BQ {H:Hp}{d:Addr}{ys:List Str}{m:aH->Option Rat} (h:DQ rB H d (ys.map fun y=>(Sum.inr y,m (Sum.inr y)))) (nd:ys.Nodup) {y:Str} (hy:y∈ys):∃ kvs v,H d=some (.dK kvs)/\bA kvs (Sum.inr y)=some v/\rB H v (m (Sum.inr y)):=by
 obtain ⟨kvs,g,kq⟩:=h
 have e0:cE (ys.map fun y=>((Sum.inr y:aH),m (Sum.inr y))) (Sum.inr y)=some (m (Sum.inr y)):=cI (by
  rw [map_map]
  exact pairwise_map.mpr (nd.imp fun h e=>h (Sum.inr.inj e))) (mem_map.mpr ⟨y,hy,rfl⟩)
 rcases kq.val (k:=Sum.inr y) with ⟨_,e⟩|⟨v,b,e1,e2,r⟩
 ·rw [e0] at e; cases e
 ·rw [e0] at e2; cases e2
  exact ⟨kvs,v,g,e1,r⟩
theorem HS {u:Int×Int}{T:List Nat}{k:Nat}{outs:List Nat}{H:Hp}{d:Addr} (hu:lO u) (h:VJ u T k outs H d) (pass:∀ i,i < T.length->∃ c,c < k/\i * k+c∉outs) {j:Nat} (hj:j<=T.length):∃ kvs v,H d=some (.dK kvs)/\bA kvs (Sum.inr (fG j))=some v/\lM H v (qm u (sm T j)):=by
 obtain ⟨m,ys,push,tk,hp,ht,F,dq,nd,mem⟩:=h
 obtain ⟨kvs,v,g,e,o⟩:=BQ dq nd (mem j hj)
 rw [zO hu hp F (fun i hi=>let ⟨c,a,b⟩:=pass i hi; ⟨c,a,by rw [ht,if_neg b]⟩) hj] at o
 exact ⟨kvs,v,g,e,o⟩
theorem BR {u:Int×Int}{T:List Nat}{k:Nat}{outs:List Nat}{H:Hp}{d:Addr} (hu:lO u) (h:VJ u T k outs H d) (hT:∀ t∈T,0 < t) {c:Nat} (out:∀ j,c * k<=j->j < c * k+k->j∈outs) {j:Nat} (hc:c < j) (hj:j<=T.length):∃ kvs,H d=some (.dK kvs)/\bA kvs (Sum.inr (fG j))=some .non:=by
 obtain ⟨m,ys,push,tk,hp,ht,F,dq,nd,mem⟩:=h
 obtain ⟨kvs,v,g,e,o⟩:=BQ dq nd (mem j hj)
 rw [ES hu hp F hT (fun i a b=>by rw [ht,if_pos (out i a b)]) hc] at o
 cases o
 exact ⟨kvs,g,e⟩
structure LC (u:Int×Int) (T:List Nat) (k:Nat) (H:Hp) (ln:Addr):Prop where
 hu:lO u
 net:∃ rv,H ln=some (.lst rv)/\Paired (VI u H) rv (qU T k)
 ne:T≠[]
 len:T.length<=29
 pos:∀ t∈T,0 < t
 le:∀ t∈T,t<=40
 k0:0 < k
 k2:k<=2
theorem LC.sm {u:Int×Int}{T:List Nat}{k:Nat}{H H':Hp}{ln:Addr} (h:LC u T k H ln) (s:aI H H'):LC u T k H' ln:=⟨h.hu,let ⟨rv,a,b⟩:=h.net; ⟨rv,s _ _ a,Pd.imp b fun v x r=>r.tk s.tk⟩,h.ne,h.len,h.pos,h.le,h.k0,h.k2⟩
theorem LC.inN {u:Int×Int}{T:List Nat}{k:Nat}{H:Hp}{ln:Addr} (h:LC u T k H ln):tJ H ln (kn (iH u T k)) u.2.toNat (2 ^ 70):=by
 obtain ⟨rv,g,p⟩:=h.net
 have hm:∀ r∈kn (iH u T k),∃ a,a∈T/\r.2.2=qm u a:=fun r hr=>by
  obtain ⟨j,hj⟩:=List.getElem?_of_mem hr
  obtain ⟨i,a,hi,rfl,_⟩:=nY hj
  exact ⟨a,mem_of_getElem? hi,rfl⟩
 refine ⟨⟨rv,g,?_⟩,?_,fun r hr=>?_,fun r hr=>?_⟩
 ·unfold kn iH
  rw [map_map]
  have:=oF (R:=VI u H) (S:=xW H) (f:=id) (g:=(fun r:mR=>((Sum.inr r.1:aH),(Sum.inr r.2.1:aH),r.2.2)) ∘ fun x:Nat×Nat=>(fG x.1,fG (x.1+1),qm u x.2)) (fun v x r=>by
   obtain ⟨t,q,e,a,b⟩:=r
   exact ⟨t,.ref q,e,a,(CC h.hu).mp ⟨q,rfl,b⟩⟩) p
  rw [map_id] at this
  exact this
 ·unfold kn iH
  rw [length_map,length_map,jR]
  have:=Nat.mul_le_mul h.len h.k2
  omega
 ·obtain ⟨a,ha,e⟩:=hm r hr
  rw [e]
  exact QD h.hu (by have:=h.le a ha; omega)
 ·obtain ⟨a,ha,e⟩:=hm r hr
  rw [e]
  exact yU h.hu (h.pos a ha)
theorem LC.room {u:Int×Int}{T:List Nat}{k:Nat}{H:Hp}{ln:Addr} (h:LC u T k H ln):xX u.2.toNat (2 ^ 70):=by
 have h1:=h.hu.p2
 have h2:=h.hu.s2
 have h3:u.2.toNat < 2 ^ 60:=by omega
 refine ⟨by omega,lt_of_lt_of_le h3 (Nat.pow_le_pow_right (by decide) (by decide)),?_⟩
 refine lt_of_lt_of_le (Nat.mul_lt_mul_of_pos_left h3 (by decide)) ?_
 exact le_trans (show 2 ^ 70 * 1000 * 2 ^ 60<=2 ^ 200 by decide) (Nat.pow_le_pow_right (by decide) (by decide))
theorem yF {u:Int×Int}{T:List Nat}{k:Nat}{x:Str} (h:x∈names (iH u T k)):∃ j,j<=T.length/\x=fG j:=by
 unfold names at h
 have key:∀ r∈iH u T k,∃ i,i < T.length/\r.1=fG i/\r.2.1=fG (i+1):=fun r hr=>by
  obtain ⟨j,hj⟩:=List.getElem?_of_mem hr
  have hj2:(kn (iH u T k))[j]?=some (Sum.inr r.1,Sum.inr r.2.1,r.2.2):=by unfold kn; rw [List.getElem?_map,hj]; rfl
  obtain ⟨i,a,hi,e,_⟩:=nY hj2
  have e1:=congrArg (·.1) e
  have e2:=congrArg (·.2.1) e
  exact ⟨i,(List.getElem?_eq_some_iff.mp hi).1,Sum.inr.inj e1,Sum.inr.inj e2⟩
 rcases mem_append.mp h with h|h
 ·obtain ⟨r,hr,rfl⟩:=mem_map.mp h
  obtain ⟨i,hi,e,_⟩:=key r hr
  exact ⟨i,by omega,e⟩
 ·obtain ⟨r,hr,rfl⟩:=mem_map.mp h
  obtain ⟨i,hi,_,e⟩:=key r hr
  exact ⟨i+1,hi,e⟩
theorem FW {u:Int×Int}{T:List Nat}{k:Nat} (hk:0 < k) (hT:T≠[]) {j:Nat} (hj:j<=T.length):fG j∈names (iH u T k):=by
 have hl:=length_pos_iff.mpr hT
 have key:∀ i,i < T.length->∃ r∈iH u T k,r.1=fG i/\r.2.1=fG (i+1):=fun i hi=>by
  have e:=AJ (u:=u) (List.getElem?_eq_getElem hi) hk
  obtain ⟨s,hs,e2⟩:=CA e
  have e1:=congrArg (·.1) e2
  have e3:=congrArg (·.2.1) e2
  exact ⟨s,mem_of_getElem? hs,(Sum.inr.inj e1).symm,(Sum.inr.inj e3).symm⟩
 unfold names
 cases j with
|zero =>
  obtain ⟨r,hr,e,_⟩:=key 0 hl
  exact mem_append_left _ (mem_map.mpr ⟨r,hr,e⟩)
|succ j =>
  obtain ⟨r,hr,_,e⟩:=key j hj
  exact mem_append_right _ (mem_map.mpr ⟨r,hr,e⟩)
theorem nW.sum {S L:List Nat}{n:Nat} (h:nW S n L):L.sum=n:=by
 induction h with
|nil=>rfl
|cons _ h _ _ _ _ _ ih=>rw [sum_cons,ih]; omega
theorem nW.mem2 {S L:List Nat}{n:Nat} (h:nW S n L):∀ t∈L,t∈S/\0 < t:=by
 induction h with
|nil=>intro t h; cases h
|cons a _ b _ _ _ _ ih =>
  intro t h
  rcases mem_cons.mp h with rfl|h
  ·exact ⟨a,b⟩
  ·exact ih t h
theorem jW.mem {S ns T:List Nat}{a:Nat}{es:List (Nat×Nat)} (h:jW S ns a T es):∀ t∈T,t∈S/\0 < t:=by
 induction h with
|nil=>intro t h; cases h
|snoc h ha g ih =>
  intro t ht
  rcases mem_append.mp ht with c|c
  ·exact ih t c
  ·exact g.mem2 t c
theorem jW.max {S ns T:List Nat}{a:Nat}{es:List (Nat×Nat)} (h:jW S ns a T es):∀ n∈ns,n<=a:=by
 induction h with
|nil=>intro t h; cases h
|snoc h ha g ih =>
  intro t ht
  rcases mem_append.mp ht with c|c
  ·have:=ih t c; omega
  ·rw [mem_singleton.mp c]; exact le_refl _
theorem jW.sums {S ns T:List Nat}{a:Nat}{es:List (Nat×Nat)} (h:jW S ns a T es):T.sum=a/\∀ e∈es,sm T e.2=e.1:=by
 induction h with
|nil=>exact ⟨rfl,fun e h=>nomatch h⟩
|snoc h ha g ih =>
  have e1:=g.sum
  have e2:=ih.1
  refine ⟨by rw [List.sum_append]; omega,fun e he=>?_⟩
  rcases mem_append.mp he with c|c
  ·rw [← ih.2 e c]
   unfold sm
   rw [List.take_append_of_le_length (h.le e c)]
  ·rw [mem_singleton.mp c]
   unfold sm
   rw [take_length,List.sum_append]
   show _=_
   omega
theorem xD {m:Nat}:∀ {l:List (Nat×Nat)},m∈l.map (·.1)->∃ c,l.lookup m=some c/\(m,c)∈l
|[],h=>nomatch h
|e::l,h=>by
  by_cases z:m=e.1
  ·exact ⟨e.2,by rw [lookup_cons]; simp [z],by rw [z]; exact mem_cons_self⟩
  ·obtain ⟨c,h1,h2⟩:=xD (l:=l) (by rcases mem_cons.mp h with c|c; exact absurd c z; exact c)
   exact ⟨c,by rw [lookup_cons,beq_eq_false_iff_ne.mpr z]; exact h1,mem_cons_of_mem _ h2⟩
theorem jW.at {S ns T:List Nat}{a:Nat}{es:List (Nat×Nat)} (h:jW S ns a T es) {n:Nat} (hn:n∈ns):∃ c,es.lookup n=some c/\c<=T.length/\sm T c=n/\(c=0 ↔ n=0)/\(n=a->c=T.length):=by
 obtain ⟨c,h1,h2⟩:=xD (m:=n) (l:=es) (by rw [h.keys]; exact hn)
 have h3:=h.le _ h2
 have h4:=h.sums.2 _ h2
 have hp:∀ t∈T,0 < t:=fun t ht=>(h.mem t ht).2
 refine ⟨c,h1,h3,h4,⟨fun z=>?_,fun z=>?_⟩,fun z=>?_⟩
 ·subst z; exact h4.symm
 ·have:=h.le1 _ h2
  simp only at this
  omega
 ·rcases lt_or_ge c T.length with l|l
  ·have:=RK hp (le_refl _) l
   have e:sm T T.length=a:=by unfold sm; rw [take_length]; exact h.sums.1
   simp only at h4
   omega
  ·simp only at h3
   omega
theorem RM {F:V->Nat->Prop}{kv:List (aH×V)}{sh:List (Str×Nat)} (p:Paired (fun (kv:aH×V) (x:Str×Nat)=>kv.1=Sum.inr x.1/\F kv.2 x.2) kv sh) (nd:(sh.map (·.1)).Nodup) (z:Str) {v:V}{m:Nat} (hv:F v m) :
  ∃ sh',Paired (fun (kv:aH×V) (x:Str×Nat)=>kv.1=Sum.inr x.1/\F kv.2 x.2) (cB kv (Sum.inr z) v) sh'/\(sh'.map (·.1)).Nodup/\sh'.length<=sh.length+1/\sh'≠[]/\∀ y∈sh',y∈sh∨y.2=m:=by
 by_cases c:z∈sh.map (·.1)
 ·refine ⟨sh.map fun x=>if x.1=z then (x.1,m) else x,?_,?_,by rw [length_map]; omega,?_,fun y hy=>?_⟩
  ·unfold cB
   rw [if_pos]
   ·refine oF (fun a b r=>?_) p
    by_cases e:b.1=z
    ·rw [if_pos (by rw [r.1,e]),if_pos e]
     exact ⟨r.1,hv⟩
    ·rw [if_neg (fun w=>e (Sum.inr.inj (r.1.symm.trans w))),if_neg e]
     exact r
   ·rw [any_eq_true]
    obtain ⟨x,hx,e⟩:=mem_map.mp c
    obtain ⟨y,hy,r⟩:=mC p hx
    exact ⟨y,hy,decide_eq_true (by rw [r.1,e])⟩
  ·rw [map_map,show ((fun x:Str×Nat=>x.1) ∘ fun x=>if x.1=z then (x.1,m) else x)=(·.1) from funext fun x=>by show (if x.1=z then (x.1,m) else x).1=x.1; split <;> rfl]
   exact nd
  ·intro e
   rw [List.map_eq_nil_iff] at e
   rw [e] at c
   cases c
  ·obtain ⟨x,hx,rfl⟩:=mem_map.mp hy
   split
   ·exact .inr rfl
   ·exact .inl hx
 ·refine ⟨sh++[(z,m)],?_,?_,by simp,by simp,fun y hy=>?_⟩
  ·unfold cB
   rw [if_neg]
   ·exact Paired.snoc p ⟨rfl,hv⟩
   ·intro w
    rw [any_eq_true] at w
    obtain ⟨y,hy,e⟩:=w
    obtain ⟨x,hx,r⟩:=yY p hy
    exact c (mem_map.mpr ⟨x,hx,Sum.inr.inj (r.1.symm.trans (of_decide_eq_true e))⟩)
  ·rw [map_append]
   exact nodup_append.mpr ⟨nd,by simp,fun a ha b' hb' e=>by
    have e2:b'=z:=by simpa using hb'
    exact c (by rw [← e2,← e]; exact ha)⟩
  ·rcases mem_append.mp hy with h|h
   ·exact .inl h
   ·exact .inr (by rw [mem_singleton.mp h])
theorem MC {H:Hp}{Q:VK}{l q:Addr}{f:Int×Int}{fs:List (Int×Int)} (h:LQ cK H l fs) (hq:H q=some (.tup [.int f.1,.int f.2])) (hf:f∈fs) (k:Q (.bl false) H):YN true (.ref q) (.ref l) H Q:=by
 obtain ⟨vs,g,p⟩:=h
 refine ⟨l,vs,.tup [.int f.1,.int f.2],ZO fs,rfl,g,EX hq,CL p,le_trans (CD fs) (by decide),?_⟩
 rw [show ((ZO fs).any fun e=>vD e (.tup [.int f.1,.int f.2]))=true from any_eq_true.mpr ⟨.tup [.int f.1,.int f.2],mem_map.mpr ⟨f,hf,rfl⟩,(UV f.1 f.2 f.1 f.2).trans (decide_eq_true ⟨rfl,rfl⟩)⟩]
 exact k
theorem ZE {H:Hp}{Q:VK}{p q:Addr} (h1:H p=some (.lst [])) (h2:H q=some (.lst [])) (k:Q (.bl false) H):yS (.ref p) (.ref q) H Q:=ZF (ds:=[]) (es:=[]) ⟨p,[],rfl,h1,rfl⟩ ⟨q,[],rfl,h2,rfl⟩ (by decide) k
theorem GD {S:List Nat} (h:1∈S) (n:Nat):gP S n n:=⟨List.replicate n 1,fun x hx=>by rw [(List.mem_replicate.mp hx).2]; exact h,by simp,by simp⟩
end L2
namespace L2
open PySem PySem.Spec PyProof.Rows
theorem ZC {H:Hp}{a:Addr} (h:H a=none) (o:HO):∃ G,upd H a o=G/\aI H G/\G a=some o:=⟨_,rfl,aI.new h,aB⟩
theorem nB {H:Hp}{Q:VK}{xs:List V} (k:∀ p G,H p=none->aI H G->G p=some (.lst xs)->Q (.ref p) G) (h:xs.length<=1000 := by exact Nat.le_of_ble_eq_true rfl):TX Q xs H:=cL (fun p e=>k p _ e (aI.new e) aB) h
theorem gE {H:Hp}{Q:VK}{xs:List V} (k:∀ p G,H p=none->aI H G->G p=some (.tup xs)->Q (.ref p) G) (h:xs.length<=1000 := by exact Nat.le_of_ble_eq_true rfl):RD Q xs H:=bZ (fun p e=>k p _ e (aI.new e) aB) h
theorem dY {X:Cx}{e:Expr}{te:TE} (ha:PE X e te) (hs:starEach [e] X.env=(false,eval e X.env)::starEach [] X.env):PA X [e] (nJ te qQ):=@cZ _ _ _ _ _ ha (@eV _) hs
theorem dM {X:Cx}{e f:Expr}{te tf:TE} (ha:PE X e te) (hb:PE X f tf) (h1:starEach [f] X.env=(false,eval f X.env)::starEach [] X.env) (h2:starEach [e,f] X.env=(false,eval e X.env)::starEach [f] X.env):PA X [e,f] (nJ te (nJ tf qQ)):=@cZ _ _ _ _ _ ha (@dY _ _ _ hb h1) h2
theorem zA {X:Cx}{e f g:Expr}{te tf tg:TE} (ha:PE X e te) (hb:PE X f tf) (hc:PE X g tg) (h1:starEach [g] X.env=(false,eval g X.env)::starEach [] X.env) (h2:starEach [f,g] X.env=(false,eval f X.env)::starEach [g] X.env) (h3:starEach [e,f,g] X.env=(false,eval e X.env)::starEach [f,g] X.env):PA X [e,f,g] (nJ te (nJ tf (nJ tg qQ))):=@cZ _ _ _ _ _ ha (@dM _ _ _ _ _ hb hc h1 h2) h3
theorem nP {X:Cx}{a:Expr}{ta:TE}{i:Int}{j:Nat}{pos p2:Pos} (ha:PE X a ta):PE X (.Subscript a (.Constant (.int i) j pos) p2) (VO (pF X.K) ta (tC (.int i))):=@cD _ _ _ _ _ _ _ eI ha (@aE _ _ _ _) (fun _ _=>rfl)
end L2
namespace Lw
open PySem L2
set_option maxHeartbeats 0
set_option compiler.extract_closed false
set_option hygiene false
local macro_rules | `(tactic| walk_at "st") => `(tactic| first
 |with_reducible assumption
  | ((with_reducible refine Ct.new ?_ ?hn); (case hn => with_reducible assumption); walk_at "st"))
local macro_rules | `(tactic| walk_at "kp") => `(tactic| first
 |with_reducible assumption
 |with_reducible exact Kp.refl _ _
  | ((with_reducible refine Kp.trans ?_ (Kp.new ?hn)); (case hn => with_reducible assumption); walk_at "kp"))
local macro_rules | `(tactic| walk_at "sm") => `(tactic| first
 |with_reducible assumption
 |with_reducible exact aI.refl _
  | ((with_reducible refine aI.trans ?_ (aI.new ?hn)); (case hn => with_reducible assumption); walk_at "sm"))
local macro_rules | `(tactic| walk_at "hp") => `(tactic| first
 |with_reducible assumption
 |with_reducible exact aB
 |((with_reducible refine aL ?hn ?_); (case hn => with_reducible assumption); walk_at "hp")
 |((with_reducible refine iQ ?hn ?_); (case hn => first|with_reducible assumption|(refine Ne.symm ?_; with_reducible assumption)); walk_at "hp")
 |((with_reducible refine aI.app ?hn ?_); (case hn => with_reducible assumption); walk_at "hp")
  | ((with_reducible refine Kp.app ?hk ?hn ?_); (case hk => with_reducible assumption); (case hn => first | with_reducible assumption | (refine Ne.symm ?_; with_reducible assumption)); walk_at "hp"))
local macro_rules | `(tactic| walk_at "tk") => `(tactic| first
 |with_reducible exact TK.refl _
 |with_reducible assumption
 |((with_reducible refine TK.trans ?_ (TK.new ?hn)); (case hn => with_reducible assumption); walk_at "tk")
 |((with_reducible refine TK.trans ?_ (TK.lst ?hn)); (case hn => walk_at "hp"); walk_at "tk")
 |((with_reducible refine TK.trans ?_ (TK.dic ?hn)); (case hn => walk_at "hp"); walk_at "tk")
 |((with_reducible refine TK.trans ?_ (TK.frz ?hn)); (case hn => walk_at "hp"); walk_at "tk")
 |((with_reducible refine TK.trans ?_ TK.melt); walk_at "tk")
 |((with_reducible refine TK.trans ?_ (aI.tk ?hn)); (case hn => with_reducible assumption); walk_at "tk")
  | ((with_reducible refine TK.trans ?_ (Ct.tk ?hs ?hn)); (case hn => with_reducible assumption); (case hs => with_reducible assumption); walk_at "tk"))
local macro_rules | `(tactic| walk_at "fq") => `(tactic| first
 |with_reducible assumption
  | ((with_reducible refine lM.tk ?fa ?ft); (case fa => with_reducible assumption); (case ft => walk_at "tk")))
local macro_rules | `(tactic| walk_at "go1") => `(tactic| first
 |with_reducible refine GY ?_
 |((with_reducible refine XD ?_); (with_reducible refine XE ?_))
 |((with_reducible refine WX ?_); (with_reducible refine Bb ?_))
 |((with_reducible refine YC ?_); (with_reducible refine Bh ?_))
 |with_reducible (first|refine YH ?_|refine MG ?_)
 |((with_reducible refine' WU ?rv ?_); case rv => exact rfl)
 |with_reducible (first|refine r_c ?_|refine Be ?_|refine Az ?_|refine YK ?_|refine r_U ?_|refine ZZ ?_)
 |((with_reducible refine PO ?mc ?_); case mc => first|decide|omega)
 |((with_reducible refine RW ?mc ?_); case mc => first|decide|omega)
 |((with_reducible refine kN ?mc ?_); case mc => first|exact eN.r (by decide) (by decide)|exact eN.l (by decide) (by decide)|exact eN.l (by omega) (by omega)|exact eN.r (by omega) (by omega))
 |((with_reducible refine iF ?mc ?_); case mc => first|exact kY.of (by decide) (by decide)|exact kY.of (by omega) (by omega))
 |with_reducible (first|refine RS ?_|refine RO ?_|refine Ba ?_|refine Bj ?_|refine XQ ?_|refine Bg ?_|refine YI ?_|refine Bc ?_|refine XF ?_|refine SM ?_|refine SN ?_|refine WZ ?_|refine RV ?_|refine SC ?_|refine PN ?_|refine SH ?_|refine WV ?_|refine PP ?_|refine SJ ?_|refine MN ?_|refine Bk ?_|refine SF ?_|refine XV ?_|refine SE ?_|refine SD ?_|refine ML ?_|refine MJ ?_|refine Bi ?_|refine YF ?_|refine MH ?_|refine SA ?_|refine ME ?_|refine WW ?_|refine XB ?_|refine SG ?_|refine HI ?_|refine RY ?_|refine HJ ?_|refine RZ ?_|refine GZ ?_)
 |((with_reducible refine' YD ?ih ?_); (case ih => walk_at "hp"))
 |((with_reducible refine' YE ?ih ?_); (case ih => walk_at "hp"))
 |((with_reducible refine' MF ?ih ?_); (case ih => walk_at "hp"))
 |with_reducible (first|refine XA ?_|refine RT ?_|refine QV ?_|refine ZG ?_|refine Br ?_|refine ZS ?_|refine YJ ?_|refine XR ?_|refine SI ?_|refine RQ ?_|refine RP ?_|refine MD ?_)
 |((with_reducible refine' HG ?ih ?_); (case ih => walk_at "hp"))
 |((with_reducible refine' XL ?ih ?ie ?_); (case ih => walk_at "hp"); (case ie => exact rfl))
 |((with_reducible refine' fE ?ih ?ie ?_); (case ih => walk_at "hp"); (case ie => exact rfl))
 |with_reducible (first|refine BH ?_|refine Bu ?_|refine Bt ?_|refine i_T ?_|refine i_F ?_|refine UN ?_)
 |((with_reducible refine ZK ?dc ?_); case dc => omega)
  | ((with_reducible refine ZL ?dc ?_); case dc => omega))
local macro_rules | `(tactic| walk_at "go") => `(tactic| repeat (walk_at "go1"))
local macro_rules | `(tactic| walk_at "gos") => `(tactic| repeat ((fail_if_success (with_reducible refine GY ?_)); walk_at "go1"))
set_option hygiene true
local macro_rules | `(tactic| walk_at "go1") => `(tactic| first
 |with_reducible refine MA ?_
  | with_reducible refine r_rng1H ?_)
theorem NW {P:List Value->Prop} (h:P []):∀ us:List Value,us.length=0->P us:=fun us e=>(length_eq_zero_iff.mp e).symm ▸ h
theorem rA {n:Nat}{P:List Value->Prop} (h:∀ a us,us.length=n->P (a::us)):∀ us:List Value,us.length=n+1->P us:=fun us=>List.casesOn (motive:=fun us=>us.length=n+1->P us) us (fun e=>absurd e (Nat.succ_ne_zero n).symm) fun a us e=>h a us (Nat.succ.inj e)
theorem ZQ {P:List Value->Prop} (h:∀ a0,P [a0]):∀ us:List Value,us.length=1->P us:=rA fun a0=>NW (h a0)
theorem ET {P:List Value->Prop} (h:∀ a0 a1,P [a0,a1]):∀ us:List Value,us.length=2->P us:=rA fun a0=>rA fun a1=>NW (h a0 a1)
theorem NY {P:List Value->Prop} (h:∀ a0 a1 a2,P [a0,a1,a2]):∀ us:List Value,us.length=3->P us:=rA fun a0=>rA fun a1=>rA fun a2=>NW (h a0 a1 a2)
theorem ZP {P:List Value->Prop} (h:∀ a0 a1 a2 a3,P [a0,a1,a2,a3]):∀ us:List Value,us.length=4->P us:=rA fun a0=>rA fun a1=>rA fun a2=>rA fun a3=>NW (h a0 a1 a2 a3)
local macro_rules | `(tactic| w_left) => `(tactic| first | exact Or.inl rfl | exact Or.inr rfl | exact fun _ _ _ _ _ _ => ZQ fun _ => rfl | exact fun _ _ _ _ _ _ => ET fun _ _ => rfl | exact fun _ _ _ _ _ _ => NY fun _ _ _ => rfl | exact ⟨rfl,rfl,rfl,by decide +kernel,rfl,by decide +kernel,by decide +kernel⟩)
local macro_rules | `(tactic| w_means) => `(tactic| first | exact .inl rfl | exact .inr rfl | assumption)
local macro_rules | `(tactic| w_fin) => `(tactic| walk_at "go")
noncomputable def kI (i:Nat):Stmt:=PySem.Challenge.pw_tilefall_k63_whole_made_nets_play.main.body.getD i (.Pass ⟨0,0,0,0⟩)
theorem UK {n:Nat}{S:List Nat} (h:UL (V.int (n:Int)) ((S.map Int.ofNat).map V.int)=true):n∈S:=by
 unfold UL at h
 rw [any_eq_true] at h
 obtain ⟨v,hv,e⟩:=h
 rw [map_map] at hv
 obtain ⟨s,hs,rfl⟩:=mem_map.mp hv
 have:(s:Int)=n:=by simpa [NU] using e
 rw [← Int.ofNat.inj this]
 exact hs
noncomputable abbrev tT:Addr:=98
noncomputable abbrev LT (H:Hp):Prop:=fL 98 ⟨33,59,33,79⟩ (("sorted_by"++".<locals>.":Str)++"<lambda>") H
theorem LT.ex {H:Hp} (h:LT H):∃ ps,H tT=some (.tbl ps):=by
 rcases h with h|⟨_,h,_⟩
 ·exact ⟨_,h⟩
 ·exact ⟨_,h⟩
theorem kT {H H':Hp}{a:Addr}{o:HO} (k:Kp tT H H') (t:LT H) (h:H a=some o) (ho:∀ ps,o≠.tbl ps):H' a=some o:=
 let ⟨ps,e⟩:=t.ex; k _ _ (cP h e (ho ps)) h
theorem VQ {H H':Hp}{a:Addr} (k:Kp tT H H') (t':LT H') (h:H' a=none):H a=none:=by
 cases e:H a with
|none=>rfl
|some o =>
  obtain ⟨ps,e2⟩:=t'.ex
  rw [k _ _ (Ne.symm (aA e2 h)) e] at h; cases h
theorem LT.lst {H:Hp}{p:Addr}{xs ys:List V} (t:LT H) (h:H p=some (.lst xs)):LT (L2.upd H p (.lst ys)):=by
 rcases t with t|⟨c,t,u⟩
 ·exact .inl (by rw [aJ (cP t h (by intro z; cases z))]; exact t)
 ·exact .inr ⟨c,by rw [aJ (cP t h (by intro z; cases z))]; exact t,by rw [aJ (cP u h (by intro z; cases z))]; exact u⟩
theorem cK.tk {H H':Hp}{v:V}{f:Int×Int} (h:cK H v f) (k:Kp tT H H') (t:LT H):cK H' v f:=
 let ⟨q,e,g⟩:=h; ⟨q,e,kT k t g (fun _ z=>by cases z)⟩
theorem LQ.tk {H H':Hp}{l:Addr}{fs:List (Int×Int)} (h:LQ cK H l fs) (k:Kp tT H H') (t:LT H):LQ cK H' l fs:=
 let ⟨vs,a,b⟩:=h; ⟨vs,kT k t a (fun _ z=>by cases z),Pd.imp b fun v f x=>cK.tk x k t⟩
theorem sR:∀ xs:List Int,(xs.map V.int).all mM=true
|[]=>rfl
|x::xs=>by rw [map_cons,all_cons,sR xs]; rfl
theorem LQ.sm {H H':Hp}{l:Addr}{fs:List (Int×Int)} (h:LQ cK H l fs) (k:aI H H'):LQ cK H' l fs:=
 let ⟨vs,a,b⟩:=h; ⟨vs,k _ _ a,Pd.imp b fun v f x=>cK.same x k⟩
local macro_rules | `(tactic| walk_at "go1") => `(tactic| first
 |with_reducible (first|refine Bf ?_|refine XS ?_|refine XJ ?_)
  | ((with_reducible refine XI ?jy ?_); case jy => first | omega | decide +kernel))
theorem AE.tk {u:Int×Int}{H H':Hp}{d:Addr}{sh:List (Str×Nat)} (h:AE u H d sh) (k:Kp tT H H') (t:LT H):AE u H' d sh:=
 let ⟨kvs,a,b⟩:=h; ⟨kvs,kT k t a (fun _ z=>by cases z),Pd.imp b fun v f x=>⟨x.1,cK.tk x.2 k t⟩⟩
theorem AE.sm {u:Int×Int}{H H':Hp}{d:Addr}{sh:List (Str×Nat)} (h:AE u H d sh) (k:aI H H'):AE u H' d sh:=
 let ⟨kvs,a,b⟩:=h; ⟨kvs,k _ _ a,Pd.imp b fun v f x=>⟨x.1,cK.same x.2 k⟩⟩
structure kH (mg:Str->Option Value) (xt x1 x3 x4:Addr):Prop where
 t:mg "TileError"=some (.ref xt)
 m_NoNet:mg "NoNet"=some (.ref x1)
 m_NoSum:mg "NoSum"=some (.ref x3)
 m_TooMany:mg "TooMany"=some (.ref x4)
 zV:mg "ValueError"=none
structure bN (K:Frag) (xt x1 x3 x4 C:Addr) (i:Nat):Prop where
 x:Cb K C
 e:Aq K C
 v:kitOne K (.ref C) (.type "ValueError")=some true
 t:exmOne K (.ref C) (.ref xt)=some true
 k1:kitOne K (.ref C) (.ref x1)=some (Nat.beq 1 i)
 k3:kitOne K (.ref C) (.ref x3)=some (Nat.beq 3 i)
 k4:kitOne K (.ref C) (.ref x4)=some (Nat.beq 4 i)
noncomputable abbrev eS:Stmt:=kI 6
theorem cO:aO ["one","other","rest"] ["one","other"] (aD eS):=by w_left
noncomputable abbrev tZ:Stmt:=kI 7
theorem jM:aO ["one","other","shared","part","top","divisor"] ["one","other"] (aD tZ):=by w_left
noncomputable abbrev lB:Stmt:=kI 8
theorem wG:aO ["one","other"] ["one","other"] (aD lB):=by w_left
noncomputable abbrev mZ:Stmt:=kI 9
theorem yM:aO ["one","other"] ["one","other"] (aD mZ):=by w_left
noncomputable abbrev fR:Stmt:=kI 10
theorem eX:aO ["fractions","bottom","each"] ["fractions"] (aD fR):=by w_left
noncomputable abbrev cU:Stmt:=kI 11
theorem lU:aO ["fractions","things","pairs"] ["fractions","things"] (aD cU):=by w_left
noncomputable abbrev iU:Stmt:=kI 13
theorem fD:aO ["times","tops","unit","top"] ["times"] (aD iU):=by w_left
noncomputable abbrev eF:Stmt:=kI 14
theorem dL:aO ["parts","last","fewest","whole","counts"] ["parts","last"] (aD eF):=by w_left
noncomputable abbrev iW:Stmt:=kI 15
theorem iB:aO ["parts","fewest","left","place","part"] ["parts","fewest","left"] (aD iW):=by w_left
noncomputable abbrev mY:Stmt:=kI 16
theorem cS:aO ["box","time","falling","parts","left","fewest","made","place"] ["box","time"] (aD mY):=by w_left
noncomputable abbrev gB:Stmt:=kI 20
theorem wF:aO ["net"] ["net"] (aD gB):=by w_left
noncomputable abbrev iC:Stmt:=kI 21
theorem eB:aO ["net","beside","number","run"] ["net"] (aD iC):=by w_left
noncomputable abbrev iD:Stmt:=kI 23
theorem eC:aO ["number","name"] ["number"] (aD iD):=by w_left
noncomputable abbrev cY:Stmt:=kI 24
theorem gY:aO ["show","moments"] ["show"] (aD cY):=by w_left
noncomputable abbrev dO:Stmt:=kI 25
theorem bG:aO ["box","show","double","times","ends","ahead","moment","times_over","net","number","time","hung"] ["box","show","double"] (aD dO):=by w_left
noncomputable abbrev fN:Stmt:=kI 27
theorem cX:aO ["deeds","least","thing","moment"] ["deeds"] (aD fN):=by w_left
noncomputable abbrev pB:Stmt:=kI 28
theorem DK:aO ["taken","number","moment"] ["taken","number","moment"] (aD pB):=by w_left
noncomputable abbrev iE:Stmt:=kI 29
theorem eE:aO ["waiting","earliest","post"] ["waiting"] (aD iE):=by w_left
noncomputable abbrev dQ:Stmt:=kI 30
theorem bQ:aO ["net","pushes","takings","beside","taken","pushed","waiting","fallen","post","number","other","moment"] ["net","pushes","takings"] (aD dQ):=by w_left
noncomputable abbrev bU:Stmt:=kI 31
theorem jH:aO ["net","pushes","takings","fallen"] ["net","pushes","takings"] (aD bU):=by w_left
noncomputable abbrev nA:Stmt:=kI 33
theorem yN:aO ["_law_script","_law_k"] ["_law_script","_law_k"] (aD nA):=by w_left
noncomputable abbrev tX:Stmt:=kI 34
theorem GO:aO ["_law_cell","_law_k"] ["_law_cell","_law_k"] (aD tX):=by w_left
noncomputable abbrev tY:Stmt:=kI 35
theorem GP:aO ["_law_cell"] ["_law_cell"] (aD tY):=by w_left
noncomputable abbrev mX:Stmt:=kI 36
theorem fZ:aO ["_law_script","_law_first","_law_many","_law_size","_law_found","_law_cell","_law_k"] ["_law_script","_law_first","_law_many","_law_size"] (aD mX):=by w_left
noncomputable abbrev pA:Stmt:=kI 37
theorem jX:aO ["_law_top","_law_bottom","_law_one","_law_other"] ["_law_top","_law_bottom"] (aD pA):=by w_left
noncomputable abbrev yO:Stmt:=kI 38
theorem LS:aO ["_law_number"] ["_law_number"] (aD yO):=by w_left
noncomputable abbrev tV:Stmt:=kI 39
theorem lV:aO ["_law_numbers_here","_law_sizes_here","_law_number","_law_size"] ["_law_numbers_here"] (aD tV):=by w_left
noncomputable abbrev iV:Stmt:=kI 40
theorem wE:aO ["_law_unit_here","_law_sizes_here"] ["_law_unit_here","_law_sizes_here"] (aD iV):=by w_left
noncomputable abbrev yP:Stmt:=kI 41
theorem lW:aO ["_law_unit_here","_law_cell","_law_many","_law_show_here","_law_bells","_law_k"] ["_law_unit_here","_law_cell","_law_many"] (aD yP):=by w_left
noncomputable abbrev lY:Stmt:=kI 42
theorem DJ:aO ["_law_net","_law_out"] ["_law_net","_law_out"] (aD lY):=by w_left
noncomputable abbrev tW:Stmt:=kI 43
theorem lX:aO ["_law_net","_law_hung","_law_show_here","_law_out","_law_found","_law_bell","_law_post"] ["_law_net","_law_hung","_law_show_here","_law_out"] (aD tW):=by w_left
noncomputable abbrev yQ:Stmt:=kI 44
theorem iT:aO ["_law_show_here","_law_found","_law_most","_law_bell","_law_moment"] ["_law_show_here"] (aD yQ):=by w_left
noncomputable abbrev kM:Stmt:=kI 45
theorem eR:aO ["_law_script","_law_number","_law_sizes_here","_law_unit_here","_law_box","_law_show_here","_law_last_here","_law_net","_law_hung","_law_at","_law_k"] ["_law_script"] (aD kM):=by w_left
noncomputable def AV:Sp:=fun vs H Q _=>∃ (a b:Int),vs=[.int a,.int b]/\Q (.int (Int.gcd a b:Int)) H
noncomputable def yJ:Sp:=fun vs H Q _=>∃ (x y:V) (q r:Rat),vs=[x,y]/\lM H x q/\lM H y r/\Sz 8000 q/\Sz 8000 r/\∀ v H',lM H' v (q+r)->aI H H'->Q v H'
noncomputable def GG:Sp:=fun vs H Q _=>∃ (x y:V) (q r:Rat),vs=[x,y]/\lM H x q/\lM H y r/\Sz 8000 q/\Sz 8000 r/\∀ v H',lM H' v (q - r)->aI H H'->Q v H'
noncomputable def lR:Sp:=fun vs H Q _=>∃ (x y:V) (q r:Rat),vs=[x,y]/\lM H x q/\lM H y r/\Sz 8000 q/\Sz 8000 r/\Q (.bl (decide (q < r))) H
noncomputable def yH:Sp:=fun vs H Q _=>∃ (l:Addr) (fs:List (Int×Int)) (B:Int),vs=[.ref l]/\LQ cK H l fs/\fs.length<=500/\0 < B/\Sm 100 B/\(∀ f∈fs,0 < f.2/\f.2 ∣ B/\Sm 100 f.1) /\
 ∀ (p:Addr) (H':Hp) (D:Int),H p=none->aI H H'->0 < D->Sm 100 D->(∀ f∈fs,f.2 ∣ D)->H' p=some (.lst ((DB D fs).map V.int))->Q (.ref p) H'
noncomputable def iR (K:Frag):Sp:=fun vs H Q _=>∃ (l:Addr) (ms:List Nat) (u:Int×Int),vs=[.ref l,.ref l]/\lO u/\LQ cK H l (ms.map (bD u))/\(∀ m∈ms,m<=100000)/\ms.length < 64/\LT H /\
 ∀ (p:Addr) (H':Hp) (ns:List Nat),H p=none->Kp tT H H'->LT H'->ns.Perm ms->ns.Pairwise (·<=·)->LQ cK H' p (ns.map (bD u))->Q (.ref p) H'
noncomputable def AO:Sp:=fun vs H Q _=>∃ (l:Addr) (ms:List Nat) (u:Int×Int),vs=[.ref l]/\lO u/\LQ cK H l (ms.map (bD u))/\(∀ m∈ms,m<=100000)/\ms.length<=200/\(∃ m∈ms,0 < m) /\
 ∀ (p:Addr) (H':Hp),H p=none->aI H H'->H' p=some (.lst (((ms.map (· / dU ms)).map Int.ofNat).map V.int))->Q (.ref p) H'
noncomputable def qJ (F:List (Option Nat)) (w:Nat) (S:List Nat):List Nat:=S.filterMap fun s=>if s<=w then (F[w - s]?).join else none
theorem qI {F:List (Option Nat)}{w:Nat}{S:List Nat}{k:Nat}:k∈qJ F w S ↔ ∃ s∈S,s<=w/\F[w - s]?=some (some k):=by
 unfold qJ
 rw [mem_filterMap]
 constructor
 ·rintro ⟨s,hs,h⟩
  split at h
  ·rename_i hl
   refine ⟨s,hs,hl,?_⟩
   cases e:F[w - s]? with
  |none=>rw [e] at h; cases h
  |some o=>rw [e] at h; rw [show o=some k from h]
  ·cases h
 ·rintro ⟨s,hs,hl,h⟩
  exact ⟨s,hs,by rw [if_pos hl,h]; rfl⟩
theorem FX {S:List Nat}{F:List (Option Nat)}{i:Nat}{o:Option Nat} (hS:∀ s∈S,0 < s) (hF:F.length=i+1) (hB:∀ w o,F[w]?=some o->kQ S w o)
  (h0:o=none->qJ F (i+1) S=[]) (h1:∀ k,o=some k->∃ j,k=j+1/\j∈qJ F (i+1) S/\∀ x∈qJ F (i+1) S,j<=x):kQ S (i+1) o:=by
 refine JB (t:=fun m=>(F[m]?).join) (by omega) hS (fun m hm=>?_) (fun e s hs hl=>?_) fun k e=>?_
 ·rw [List.getElem?_eq_getElem (show m < F.length by omega)]
  exact hB m _ (List.getElem?_eq_getElem (by omega))
 ·have hm:i+1 - s < F.length:=by have:=hS s hs; omega
  cases e2:F[i+1 - s]? with
 |none=>rfl
 |some p =>
   cases p with
  |none=>rfl
  |some k =>
    have:=qI.mpr ⟨s,hs,hl,e2⟩
    rw [h0 e] at this
    cases this
 ·obtain ⟨j,e1,hj,hm⟩:=h1 k e
  obtain ⟨s,hs,hl,e2⟩:=qI.mp hj
  refine ⟨j,e1,⟨s,hs,hl,by show (F[i+1 - s]?).join=_; rw [e2]; rfl⟩,fun s' hs' hl' x hx=>hm x (qI.mpr ⟨s',hs',hl',?_⟩)⟩
  cases e3:F[i+1 - s']? with
 |none=>have:(F[i+1 - s']?).join=some x:=hx; rw [e3] at this; cases this
 |some p=>have:(F[i+1 - s']?).join=some x:=hx; rw [e3] at this; rw [show p=some x from this]
noncomputable def Ar (S:List Nat) (n:Nat) (F:List (Option Nat)):Prop:=F.length=n+1/\∀ w o,F[w]?=some o->kQ S w o
noncomputable def wA:Sp:=fun vs H Q _=>∃ (p:Addr) (S:List Nat) (n:Nat),vs=[.ref p,.int n]/\H p=some (.lst ((S.map Int.ofNat).map V.int))/\(∀ s∈S,0 < s)/\S.length<=100/\n<=900 /\
 ∀ (l:Addr) (H':Hp) (F:List (Option Nat)),H l=none->aI H H'->H' l=some (.lst (F.map oV))->Ar S n F->Q (.ref l) H'
noncomputable def AW:Sp:=fun vs H Q _=>∃ (p:Addr) (S:List Nat) (f:Addr) (F:List (Option Nat)) (n k last:Nat),vs=[.ref p,.ref f,.int n]/\H p=some (.lst ((S.map Int.ofNat).map V.int))/\(∀ s∈S,0 < s)/\S.length<=100 /\
 H f=some (.lst (F.map oV))/\Ar S last F/\0 < n/\n<=last/\F[n]?=some (some (k+1)) /\
 ∀ (i s:Nat) (H':Hp),aI H H'->S[i]?=some s->s<=n->kQ S (n - s) (some k)->(∀ j s',j < i->S[j]?=some s'->s'<=n->¬ kQ S (n - s') (some k))->Q (.int i) H'
noncomputable def GF (K:Frag) (x:Addr):Sp:=fun vs H Q E=>∃ (l:Addr) (ms:List Nat) (u:Int×Int) (n:Nat) (tq:Addr),vs=[.ref l,.ref tq]/\lO u/\LQ cK H l (ms.map (bD u))/\cK H (.ref tq) (bD u n)/\(∀ m∈ms,0 < m)/\(∀ m∈ms,m<=100000)/\n<=900/\ms≠[]/\ms.length < 50/\LT H /\
 ((∀ k,¬ gP ms n k)->∀ H',Kp tT H H'->LT H'->E (.ref x) none H') /\
 ∀ (L:List Nat) (l':Addr) (H':Hp),nW ms n L->H l'=none->Kp tT H H'->LT H'->LQ cK H' l' (L.map (bD u))->Q (.ref l') H'
noncomputable def AS (w:World):Sp:=fun vs H Q _=>∃ (l:Addr) (n:List mR) (U:List Str),vs=[.ref l]/\LQ xW H l (kn n)/\n.length<=120/\U.length < 64/\(∀ x∈names n,x∈U)/\∀ p H' ys,H p=none->aI H H'->H' p=some (.lst (ys.map V.str))->Cu ys->ys.Nodup->(∀ x,x∈ys ↔ x∈names n)->Q (.ref p) H'
noncomputable def PK:Sp:=fun vs H Q _=>∃ (l:Addr) (net:List (eL aH)),vs=[.ref l]/\LQ xW H l net/\net.length<=120/\∀ d H',H d=none->aI H H'->OP H' d net->Q (.ref d) H'
noncomputable def oY:Sp:=fun vs H Q _=>∃ (n:Nat),vs=[.int n]/\n < 676/\∀ H',aI H H'->Q (.str (fG n)) H'
noncomputable def vY:Sp:=fun vs H Q _=>∃ (d:Addr) (sh:List (Str×Nat)) (u:Int×Int),vs=[.ref d]/\lO u/\AE u H d sh/\(sh.map (·.1)).Nodup/\(∀ x∈sh,x.2<=100000)/\sh.length<=18/\LT H /\
 ∀ (l:Addr) (H':Hp) (ns:List Nat),H l=none->Kp tT H H'->LT H'->ns.Pairwise (· < ·)->(∀ m,m∈ns ↔ ∃ x∈sh,x.2=m)->LQ cK H' l (ns.map (bD u))->Q (.ref l) H'
noncomputable def tN (K:Frag) (x1 x3 x4:Addr):Sp:=fun vs H Q E=>∃ (l:Addr) (ms:List Nat) (u:Int×Int) (d:Addr) (sh:List (Str×Nat)) (tw:Bool),vs=[.ref l,.ref d,.bl tw]/\lO u/\LQ cK H l (ms.map (bD u))/\(∀ m∈ms,0 < m)/\(∀ m∈ms,m<=100000)/\ms≠[]/\ms.length < 50/\AE u H d sh/\(sh.map (·.1)).Nodup/\(∀ x∈sh,x.2<=900)/\sh.length<=18/\LT H /\
 (∀ ns1 n ns2 a T es H',LD sh (ns1++n::ns2)->jW ms ns1 a T es->(∀ k,¬ gP ms (n - a) k)->Kp tT H H'->LT H'->E (.ref x3) none H') /\
 (∀ ns a T es H',LD sh ns->jW ms ns a T es->120 < T.length * lN tw->Kp tT H H'->LT H'->E (.ref x4) none H') /\
 (∀ ns a es H',LD sh ns->jW ms ns a [] es->Kp tT H H'->LT H'->E (.ref x1) none H') /\
 ∀ ns a T es (p ln dh:Addr) (rv:List V) (H':Hp),LD sh ns->jW ms ns a T es->T≠[]->T.length * lN tw<=120->Kp tT H H'->LT H'->H' p=some (.tup [.ref ln,.ref dh])->H ln=none->H dh=none->H' ln=some (.lst rv)->Paired (VI u H') rv (qU T (lN tw))->H' dh=some (.dK (eJ sh es))->Q (.ref p) H'
theorem LT.dT {H:Hp}{p:Addr}{xs ys:List (List aH×V)} (t:LT H) (h:H p=some (.dT xs)):LT (L2.upd H p (.dT ys)):=by
 rcases t with t|⟨c,t,u⟩
 ·exact .inl (by rw [aJ (cP t h (by intro z; cases z))]; exact t)
 ·exact .inr ⟨c,by rw [aJ (cP t h (by intro z; cases z))]; exact t,by rw [aJ (cP u h (by intro z; cases z))]; exact u⟩
noncomputable def PH:Sp:=fun vs H Q _=>∃ (l:Addr) (ds:List (aH×Rat)),vs=[.ref l]/\LQ LF H l ds/\ds.length<=500/\(∀ x∈ds,Sz 8000 x.2)/\∀ d H',H d=none->aI H H'->DQ lM H' d (lst ds)->Q (.ref d) H'
noncomputable def IC (tm:AL aH Rat) (k:Int) (t:Rat):Bool:=match cE tm (Sum.inl k) with|none=>false|some u=>decide (u < t)
noncomputable def PF:Sp:=fun vs H Q _=>∃ (d:Addr) (tm:AL aH Rat) (k:Int) (v:V) (t:Rat),vs=[.ref d,.int k,v]/\DQ lM H d tm/\lM H v t/\(∀ x∈tm,Sz 8000 x.2)/\Sz 8000 t/\Q (.bl (IC tm k t)) H
noncomputable def PJ:Sp:=fun vs H Q _=>∃ (a:Addr) (W:AL aH (dX aH)),vs=[.ref a]/\DQ gQ H a W/\(W.map (·.1)).Nodup/\(∀ x∈W,Sz 8000 x.2.1)/\W≠[]/\∀ p e,(p,e)∈W->(∀ w∈W,e.1<=w.2.1)->Q (kV p) H
noncomputable def oU (ts:List (aH×Rat)):Nat->Option Rat:=fun k=>cE (lst ts) (Sum.inl (k:Int))
noncomputable def GH:Sp:=fun vs H Q _=>∃ (l:Addr) (net:List (eL aH)) (lp:Addr) (ps:List (aH×Rat)) (vt:V) (ts:List (aH×Rat)) (D M:Nat),vs=[.ref l,.ref lp,vt]/\tJ H l net D M/\KN H lp ps D M/\FI H vt ts/\xX D M /\
 ∀ d H' F,H d=none->aI H H'->DQ gQ H' d F->AG net (cE (lst ps)) (oU ts) F->F.length<=ps.length+2 * net.length->(∀ x∈F,Bd D (M * 1000) x.2.1)->Q (.ref d) H'
noncomputable def RJ (w:World):Sp:=fun vs H Q _=>∃ (l:Addr) (n:List mR) (lp:Addr) (ps:List (aH×Rat)) (vt:V) (ts:List (aH×Rat)) (D M:Nat) (U:List Str),vs=[.ref l,.ref lp,vt]/\tJ H l (kn n) D M/\KN H lp ps D M/\FI H vt ts/\xX D M/\U.length < 64/\(∀ x∈names n,x∈U) /\
 ∀ d H' F ys,H d=none->aI H H'->DQ rB H' d (ys.map fun y=>(Sum.inr y,fH F (Sum.inr y)))->AG (kn n) (cE (lst ps)) (oU ts) F->(∀ x∈F,Bd D (M * 1000) x.2.1)->Cu ys->ys.Nodup->(∀ x,x∈ys ↔ x∈names n)->Q (.ref d) H'
noncomputable def yI (K:Frag):Sp:=fun vs H Q _=>∃ (a:Addr) (ns:List Int) (k:Int),vs=[.ref a,.int k]/\bX K H a (ns.map V.int)/\0<=k/\∀ r,Q (.int r) H
noncomputable def nZ:Sp:=fun vs H Q _=>∃ (c k:Int),vs=[.int c,.int k]/\0<=k/\k<=1000/\∀ r,0<=r->r < 2147483647->Q (.int r) H
noncomputable def AU:Sp:=fun vs H Q _=>∃ (c:Int),vs=[.int c]/\∀ r,Q (.int r) H
noncomputable def rL (K:Frag):Sp:=fun vs H Q _=>∃ (a:Addr) (ns:List Int) (f:Int) (m:Int) (z:Int),vs=[.ref a,.int f,.int m,.int z]/\bX K H a (ns.map V.int)/\0<=f/\f<=1000/\0<=m/\m<=500/\0 < z/\z < 2 ^ 64/\∀ p H' (xs:List Int),H p=none->aI H H'->H' p=some (.lst (xs.map V.int))->xs.length=m.toNat->(∀ x∈xs,0<=x/\x < z)->Q (.ref p) H'
noncomputable def oX:Sp:=fun vs H Q _=>∃ (t b:Int),vs=[.int t,.int b]/\0 < b/\Sm 8000 t/\Sm 8000 b /\
 ∀ p,H p=none->Q (.ref p) (upd H p (.tup [.int (eO t b),.int (eA t b)]))
noncomputable def GE:Sp:=fun vs H Q _=>∃ (n:Int),vs=[.int n]/\∀ (p:Addr) (u:Int×Int) (H':Hp),lO u->H p=none->aI H H'->H' p=some (.tup [.int u.1,.int u.2])->Q (.ref p) H'
noncomputable def AR (K:Frag):Sp:=fun vs H Q _=>∃ (p:Addr) (xs:List Int),vs=[.ref p]/\H p=some (.lst (xs.map V.int))/\(∀ x∈xs,0<=x/\x < 80)/\xs.length<=6/\xs≠[] /\
 ∀ (l:Addr) (S:List Nat) (H':Hp),H l=none->aI H H'->H' l=some (.lst ((S.map Int.ofNat).map V.int))->(∀ s∈S,0 < s/\s<=40)->S.length<=6->S≠[]->(0∈xs->1∈S)->Q (.ref l) H'
noncomputable def AQ:Sp:=fun vs H Q _=>∃ (a:Addr) (u:Int×Int) (p:Addr) (S:List Nat),vs=[.ref a,.ref p]/\lO u/\H a=some (.tup [.int u.1,.int u.2])/\H p=some (.lst ((S.map Int.ofNat).map V.int))/\(∀ s∈S,s<=100000)/\S.length<=900 /\
 ∀ (l:Addr) (H':Hp),H l=none->aI H H'->LQ cK H' l (S.map (bD u))->Q (.ref l) H'
noncomputable abbrev VS:List V:=[.str "ding",.str "a.b",.str "dong",.str "x",.str "bell",.str "a"]
theorem VA {i:Int} (h0:0<=i) (h1:i < 6):∃ z:Str,sZ VS i=some (.str z):=by
 rcases (show i=0∨i=1∨i=2∨i=3∨i=4∨i=5 by omega) with rfl|rfl|rfl|rfl|rfl|rfl <;> exact ⟨_,rfl⟩
noncomputable def vX:Sp:=fun vs H Q _=>∃ (pu:Addr) (u:Int×Int) (c m:Int),vs=[.ref pu,.int c,.int m]/\lO u/\H pu=some (.tup [.int u.1,.int u.2])/\1<=m/\m<=6 /\
 ∀ (d:Addr) (H':Hp) (sh:List (Str×Nat)),H d=none->aI H H'->AE u H' d sh->(sh.map (·.1)).Nodup->sh.length<=6->sh≠[]->(∀ y∈sh,y.2<=29)->Q (.ref d) H'
noncomputable def kZ:Sp:=fun vs H Q _=>∃ (ln lo:Addr) (u:Int×Int) (T:List Nat) (kk:Nat) (outs:List Nat),vs=[.ref ln,.ref lo]/\LC u T kk H ln/\H lo=some (.lst (outs.map fun n:Nat=>V.int (n:Int)))/\outs.length<=2 /\
 ∀ (d:Addr) (H':Hp),aI H H'->VJ u T kk outs H' d->Q (.ref d) H'
noncomputable def rK:Sp:=fun vs H Q _=>∃ (ln dh ds lo:Addr) (u:Int×Int) (T:List Nat) (kk:Nat) (outs:List Nat) (sh:List (Str×Nat)) (es:List (Nat×Nat)),vs=[.ref ln,.ref dh,.ref ds,.ref lo]/\LC u T kk H ln/\H dh=some (.dK (eJ sh es))/\AE u H ds sh/\(sh.map (·.1)).Nodup/\sh.length<=6/\(∀ y∈sh,y.2<=29)/\H lo=some (.lst (outs.map fun n:Nat=>V.int (n:Int)))/\outs.length<=2/\(∀ i,i < T.length->∃ c,c < kk/\i * kk+c∉outs) /\
 (∀ x∈sh,∃ c,es.lookup x.2=some c/\c<=T.length/\sm T c=x.2/\(c=0 ↔ x.2=0))/\∀ H',aI H H'->Q (.bl true) H'
noncomputable def vZ:Sp:=fun vs H Q _=>∃ (d:Addr) (u:Int×Int) (sh:List (Str×Nat)),vs=[.ref d]/\lO u/\AE u H d sh/\(sh.map (·.1)).Nodup/\sh.length<=6/\sh≠[]/\(∀ y∈sh,y.2<=29) /\
 ∀ (b:Str) (m:Nat) (H':Hp),(b,m)∈sh->(∀ x∈sh,x.2<=m)->aI H H'->Q (.str b) H'
noncomputable def AT (K:Frag):Sp:=fun vs H Q _=>∃ (a:Addr) (ns:List Int),vs=[.ref a]/\bX K H a (ns.map V.int)/\ns.length<=63/\LT H/\∀ H',Q (.bl true) H'
theorem IK {K:Frag}{x1 x3 x4:Addr}{l d:Addr}{u:Int×Int}{S:List Nat}{sh:List (Str×Nat)}{tw:Bool}{H:Hp}{Q:VK}{E:XK}{b:Str}{mb:Nat} (hu:lO u) (lq:LQ cK H l (S.map (bD u))) (hS:∀ s∈S,0 < s/\s<=40) (h1:1∈S) (hSl:S.length<=6) (gs:AE u H d sh) (nd:(sh.map (·.1)).Nodup) (hsl:sh.length<=6) (hsb:∀ y∈sh,y.2<=29) (t:LT H) (hbm:(b,mb)∈sh) (hmax:∀ x∈sh,x.2<=mb) (hm0:mb≠0)
  (k:∀ T es p ln dh H',Kp tT H H'->LT H'->H' p=some (.tup [.ref ln,.ref dh])->H ln=none->H dh=none->LC u T (lN tw) H' ln->H' dh=some (.dK (eJ sh es))->(∀ x∈sh,∃ c,es.lookup x.2=some c/\c<=T.length/\sm T c=x.2/\(c=0 ↔ x.2=0))->es.lookup mb=some T.length->(∀ t∈T,t∈S)->(∃ ns a,LD sh ns/\jW S ns a T es)->Q (.ref p) H'):tN K x1 x3 x4 [.ref l,.ref d,.bl tw] H Q E:=by
 have h29:=hsb _ hbm
 have tw2:0 < lN tw/\lN tw<=2:=by cases tw <;> decide
 have ha:∀ {ns a T es},LD sh ns->jW S ns a T es->a=mb:=fun {ns a T es} m d=>by
  have l1:=d.max _ ((m.2 mb).mpr ⟨_,hbm,rfl⟩)
  rcases d.last with ⟨_,e⟩|h
  ·omega
  ·obtain ⟨x,hx,e⟩:=(m.2 a).mp h
   have:=hmax x hx
   omega
 refine ⟨l,S,u,d,sh,tw,rfl,hu,lq,fun s hs=>(hS s hs).1,fun s hs=>by have:=hS s hs; omega,(fun e=>by rw [e] at h1; cases h1),by omega,gs,nd,fun x hx=>by have:=hsb x hx; omega,by omega,t,?_,?_,?_,?_⟩
 ·intro ns1 n ns2 a T es H' _ _ no
  exact absurd (GD h1 _) (no _)
 ·intro ns a T es H' m d lt
  have e:=ha m d
  have:=d.len
  have:=Nat.mul_le_mul (show T.length<=29 by simp only at h29; omega) tw2.2
  omega
 ·intro ns a es H' m d
  have e:=ha m d
  have:=d.sums.1
  exact absurd (e.symm.trans this.symm) hm0
 ·intro ns a T es p ln dh rv H' m d ne _ kp lt gp hln hdh gl prv gh
  have e:=ha m d
  have:=d.len
  have mem:∀ x∈sh,x.2∈ns:=fun x hx=>(m.2 _).mpr ⟨x,hx,rfl⟩
  refine k T es p ln dh H' kp lt gp hln hdh ⟨hu,⟨rv,gl,prv⟩,ne,by simp only at h29; omega,fun t ht=>(d.mem t ht).2,fun t ht=>(hS t (d.mem t ht).1).2,tw2.1,tw2.2⟩ gh (fun x hx=>?_) ?_ (fun t ht=>(d.mem t ht).1) ⟨ns,a,m,d⟩
  ·obtain ⟨c,a1,a2,a3,a4,_⟩:=d.at (mem x hx)
   exact ⟨c,a1,a2,a3,a4⟩
  ·obtain ⟨c,a1,_,_,_,a5⟩:=d.at (mem _ hbm)
   rw [a1,a5 e.symm]
section
variable {P:Program} {w:World} {K:Frag} {mg:Str -> Option Value} {base:Heap} {k:Nat} {xt x1 x3 x4:Addr}
theorem mE (T:Bl mg) (d:Df K mg "common_divisor" eS ["one","other"]) (W:kH mg xt x1 x3 x4) (R_NoSum:bN K xt x1 x3 x4 x3 3) (R1:bN K xt x1 x3 x4 x1 1) (R4:bN K xt x1 x3 x4 x4 4):bJ P w K mg base (k+1) "common_divisor" ["one","other"] AV:=by
 refine bJ.of d cO (fun vs H Q E h=>?_) (fun f cdv A outer s H vs Q E hr h=>?_)
 ·obtain ⟨a,b,rfl,_⟩:=h
  rfl
 ·obtain ⟨a,b,rfl,q⟩:=h
  refine ⟨_,(@aC _ _ _ _ _ (@iI _ _ _ _ _ _ PassesOwn.never (@aX _ _ _ _ _ _ _ _ (pN hr.units) (pv 1) (@aE _ _ _ _) (bB _)) (@aC _ _ _ _ _ (@aK _ _ (i:=2) _ _ _ _ cO.nd rfl (by w_left) (@aM _ _ _ _ _ _ _ _ MW (pv 0) (pv 1)) (by rfl) (by w_means)) (@aC _ _ _ _ _ (@aK _ _ (i:=0) _ _ _ _ cO.nd rfl (by w_left) (pv 1) (by rfl) (by w_means)) (@aF _ _ _ (@aK _ _ (i:=1) _ _ _ _ cO.nd rfl (by w_left) (pv 2) (by rfl) (by w_means)))))) (@aF _ _ _ (@aS _ _ _ _ (@bP _ _ _ _ _ _ _ _ _ QW rfl T.z_abs KB (@dY _ _ _ (pv 0) (by rfl)) (by decide) (by decide) (by rfl) (by rfl))))),?_⟩
  w_fin
  refine oR (fun σ H'=>∃ (one other:Int) (o:Option V),σ=[some (.int one),some (.int other),o]/\H'=H/\Int.gcd one other=Int.gcd a b)
   (fun σ _=>match σ with|[_,some (.int z),_]=>z.natAbs|_=>0) ⟨_,_,_,rfl,rfl,rfl⟩ ?_ ?_
  ·rintro σ H' ⟨one,other,o,rfl,rfl,hg⟩
   w_fin
   refine xI (fun c=>?_) (fun c=>?_)
   ·subst c
    w_fin
    rw [Int.gcd_zero_right] at hg
    have e:(if one < 0 then -one else one)=(Int.gcd a b:Int):=by rw [← hg]; split <;> omega
    rw [e]
    exact q
   ·w_fin
    refine ⟨⟨_,_,_,rfl,rfl,by rw [EN c]; exact hg⟩,?_⟩
    show (one.fmod other).natAbs < other.natAbs
    exact NP c
  ·intro σ H Q Q' hQ h
   obtain ⟨v,e1,h⟩:=h
   rcases h with ⟨e2,b',e3,q'⟩|⟨d,e,e2,e3,e4,e5,b',e6,q'⟩
   ·exact ⟨v,e1,.inl ⟨e2,b',e3,hQ _ _ q'⟩⟩
   ·exact ⟨v,e1,.inr ⟨d,e,e2,e3,e4,e5,b',e6,hQ _ _ q'⟩⟩
theorem II (T:Bl mg) (d:Df K mg "added" tZ ["one","other"]) (W:kH mg xt x1 x3 x4) (R_NoSum:bN K xt x1 x3 x4 x3 3) (R1:bN K xt x1 x3 x4 x1 1) (R4:bN K xt x1 x3 x4 x4 4) (o0a:bJ P w K mg base k "common_divisor" ["one","other"] AV):bJ P w K mg base (k+1) "added" ["one","other"] yJ:=by
 refine bJ.of d jM (fun vs H Q E h=>?_) (fun f cdv A outer s H vs Q E hr h=>?_)
 ·obtain ⟨x,y,q1,q2,rfl,_⟩:=h
  rfl
 ·obtain ⟨x,y,q1,q2,rfl,⟨p1,rfl,h1⟩,⟨p2,rfl,h2⟩,z1,z2,q⟩:=h
  refine ⟨_,(@aC _ _ _ _ _ (@aK _ _ (i:=2) _ _ _ _ jM.nd rfl (by w_left) (@aG _ _ _ _ _ _ _ _ _ _ o0a hr rfl (@dM _ _ _ _ _ (@nP _ _ _ _ _ _ _ (pv 0)) (@nP _ _ _ _ _ _ _ (pv 1)) (by rfl) (by rfl)) (by decide) (by rfl) (by rfl)) (by rfl) (by w_means)) (@aC _ _ _ _ _ (@aK _ _ (i:=3) _ _ _ _ jM.nd rfl (by w_left) (@aM _ _ _ _ _ _ _ _ bI (@nP _ _ _ _ _ _ _ (pv 1)) (pv 2)) (by rfl) (by w_means)) (@aC _ _ _ _ _ (@aK _ _ (i:=4) _ _ _ _ jM.nd rfl (by w_left) (@aM _ _ _ _ _ _ _ _ bY (@aM _ _ _ _ _ _ _ _ bE (@nP _ _ _ _ _ _ _ (pv 0)) (pv 3)) (@aM _ _ _ _ _ _ _ _ bE (@nP _ _ _ _ _ _ _ (pv 1)) (@aM _ _ _ _ _ _ _ _ bI (@nP _ _ _ _ _ _ _ (pv 0)) (pv 2)))) (by rfl) (by w_means)) (@aC _ _ _ _ _ (@aK _ _ (i:=5) _ _ _ _ jM.nd rfl (by w_left) (@aG _ _ _ _ _ _ _ _ _ _ o0a hr rfl (@dM _ _ _ _ _ (pv 4) (pv 2) (by rfl) (by rfl)) (by decide) (by rfl) (by rfl)) (by rfl) (by w_means)) (@aF _ _ _ (@aS _ _ _ _ (@bH _ _ _ _ _ (@dM _ _ _ _ _ (@aM _ _ _ _ _ _ _ _ bI (pv 4) (pv 5)) (@aM _ _ _ _ _ _ _ _ bE (@aM _ _ _ _ _ _ _ _ bI (@nP _ _ _ _ _ _ _ (pv 0)) (pv 5)) (pv 3)) (by rfl) (by rfl))))))))),?_⟩
  have hq1:=q1.den_pos
  have hq2:=q2.den_pos
  obtain ⟨s0,k0,sb,ks,⟨gp,cop,wr⟩,zu,zv,zf,zb⟩:=FG (a:=q1.num) (b:=q1.den) (c:=q2.num) (d:=q2.den) (by omega) (by omega) q1.reduced q2.reduced rfl rfl rfl rfl rfl
  have M:∀ {m n:Nat} {i j:Int},Sm m i->Sm n j->m<=60000000->n<=60000000->eN i j:=fun h1 h2 h3 h4=>eN.s h1 h2 h3 h4
  have sb1:Sm 8000 (q1.den:Int):=z1.2
  have sb2:Sm 8000 (q2.den:Int):=z2.2
  w_fin
  refine ⟨_,_,rfl,?_⟩
  generalize (Int.gcd (q1.den:Int) (q2.den:Int):Int)=s at s0 k0 sb ks gp cop wr zu zv zf zb ⊢
  have hs:Sm 8000 s:=Sm.le (by omega) sb1
  have hds:∀ z,kY z s:=fun _=>⟨by omega,hs⟩
  w_fin
  refine iF (hds _) ?_
  generalize (q2.den:Int).fdiv s=u at k0 ks gp cop wr zu zv zf zb ⊢
  have hu:Sm 8000 u:=Sm.le zu sb2
  w_fin
  refine kN (M (m:=8000) z1.1 hu (by decide) (by decide)) ?_
  w_fin
  refine iF (hds _) ?_
  generalize (q1.den:Int).fdiv s=v at k0 ks gp cop wr zv zf zb ⊢
  have hv:Sm 8000 v:=Sm.le zv sb1
  w_fin
  refine kN (M (m:=8000) z2.1 hv (by decide) (by decide)) ?_
  w_fin
  refine ⟨_,s,rfl,?_⟩
  generalize (Int.gcd (q1.num * u+q2.num * v) s:Int)=k' at k0 ks gp cop wr zf zb ⊢
  have hk:Sm 8000 k':=Sm.le (by omega) hs
  have hdk:∀ z,kY z k':=fun _=>⟨by omega,hk⟩
  w_fin
  refine iF (hdk _) ?_
  w_fin
  refine iF (hdk _) ?_
  w_fin
  have hbk:Sm 8000 ((q1.den:Int).fdiv k'):=Sm.le zb sb1
  refine kN (M hbk hu (by decide) (by decide)) ?_
  w_fin
  refine bZ fun p hp=>?_
  w_fin
  have e:=GW (t:=q1.num * q2.den+q2.num * q1.den) (b:=q1.den * q2.den) (Int.mul_ne_zero (by omega) (by omega)) gp cop wr
  rw [← AA] at e
  refine q _ _ ⟨p,rfl,?_⟩ (aI.new hp)
  rw [e.1,e.2]
  exact aB
theorem wT (T:Bl mg) (d:Df K mg "lessened" lB ["one","other"]) (W:kH mg xt x1 x3 x4) (R_NoSum:bN K xt x1 x3 x4 x3 3) (R1:bN K xt x1 x3 x4 x1 1) (R4:bN K xt x1 x3 x4 x4 4) (o0y:bJ P w K mg base k "added" ["one","other"] yJ):bJ P w K mg base (k+1) "lessened" ["one","other"] GG:=by
 refine bJ.of d wG (fun vs H Q E h=>?_) (fun f cdv A outer s H vs Q E hr h=>?_)
 ·obtain ⟨x,y,q1,q2,rfl,_⟩:=h
  rfl
 ·obtain ⟨x,y,q1,q2,rfl,fx,⟨p2,rfl,h2⟩,z1,z2,q⟩:=h
  refine ⟨_,(@aF _ _ _ (@aS _ _ _ _ (@aG _ _ _ _ _ _ _ _ _ _ o0y hr rfl (@dM _ _ _ _ _ (pv 0) (@bH _ _ _ _ _ (@dM _ _ _ _ _ (@YT _ _ _ _ _ _ RC (@nP _ _ _ _ _ _ _ (pv 1))) (@nP _ _ _ _ _ _ _ (pv 1)) (by rfl) (by rfl))) (by rfl) (by rfl)) (by decide) (by rfl) (by rfl)))),?_⟩
  w_fin
  refine bZ fun p hp=>?_
  w_fin
  refine ⟨x,.ref p,q1,-q2,rfl,fx.tk (TK.new hp),⟨p,rfl,by rw [Rat.neg_num,Rat.neg_den]; exact aB⟩,z1,z2.neg,fun v H' fv s1=>?_⟩
  w_fin
  exact q v H' (by rw [Rat.sub_eq_add_neg]; exact fv) ((aI.new hp).trans s1)
theorem zF (T:Bl mg) (d:Df K mg "is_less" mZ ["one","other"]) (W:kH mg xt x1 x3 x4) (R_NoSum:bN K xt x1 x3 x4 x3 3) (R1:bN K xt x1 x3 x4 x1 1) (R4:bN K xt x1 x3 x4 x4 4):bJ P w K mg base (k+1) "is_less" ["one","other"] lR:=by
 refine bJ.of d yM (fun vs H Q E h=>?_) (fun f cdv A outer s H vs Q E hr h=>?_)
 ·obtain ⟨x,y,q1,q2,rfl,_⟩:=h
  rfl
 ·obtain ⟨x,y,q1,q2,rfl,⟨p1,rfl,h1⟩,⟨p2,rfl,h2⟩,z1,z2,q⟩:=h
  refine ⟨_,(@aF _ _ _ (@aS _ _ _ _ (@oE _ _ _ _ _ _ _ _ wO (@aM _ _ _ _ _ _ _ _ bE (@nP _ _ _ _ _ _ _ (pv 0)) (@nP _ _ _ _ _ _ _ (pv 1))) (@aM _ _ _ _ _ _ _ _ bE (@nP _ _ _ _ _ _ _ (pv 1)) (@nP _ _ _ _ _ _ _ (pv 0))) (bB _)))),?_⟩
  have M:∀ {i j:Int},i.natAbs < 2 ^ 8000->j.natAbs < 2 ^ 8000->eN i j:=fun h1 h2=>eN.s (m:=8000) (n:=8000) h1 h2 (by decide) (by decide)
  w_fin
  refine kN (M z1.1 z2.2) ?_
  w_fin
  refine kN (M z2.1 z1.2) ?_
  w_fin
  rw [IS]
  exact q
theorem qR (T:Bl mg) (d:Df K mg "whole_tops" fR ["fractions"]) (W:kH mg xt x1 x3 x4) (R_NoSum:bN K xt x1 x3 x4 x3 3) (R1:bN K xt x1 x3 x4 x1 1) (R4:bN K xt x1 x3 x4 x4 4) (o0a:bJ P w K mg base k "common_divisor" ["one","other"] AV):bJ P w K mg base (k+1) "whole_tops" ["fractions"] yH:=by
 refine bJ.of d eX (fun vs H Q E h=>?_) (fun f cdv A outer s H vs Q E hr h=>?_)
 ·obtain ⟨l,fs,B,rfl,_⟩:=h
  rfl
 ·obtain ⟨l,fs,B,rfl,hl,hn,hB,hB2,hf,q⟩:=h
  refine ⟨_,(@aC _ _ _ _ _ (@aK _ _ (i:=1) _ _ _ _ eX.nd rfl (by w_left) (@aE _ _ _ _) (by rfl) (by w_means)) (@aC _ _ _ _ _ (@dS _ _ _ _ _ _ _ _ PassesOwn.never rfl (@cH _ _ _ _ (pv 0)) (@aP _ _ (i:=2) _ eX.nd rfl (by w_left) (by w_means)) (@aF _ _ _ (@aK _ _ (i:=1) _ _ _ _ eX.nd rfl (by w_left) (@aM _ _ _ _ _ _ _ _ bE (@aM _ _ _ _ _ _ _ _ bI (pv 1) (@aG _ _ _ _ _ _ _ _ _ _ o0a hr rfl (@dM _ _ _ _ _ (pv 1) (@nP _ _ _ _ _ _ _ (pv 2)) (by rfl) (by rfl)) (by decide) (by rfl) (by rfl))) (@nP _ _ _ _ _ _ _ (pv 2))) (by rfl) (by w_means))) (by intro _; rfl)) (@aF _ _ _ (@aS _ _ _ _ (@eZ _ _ _ _ _ _ _ _ _ _ _ _ _ _ (@dA _ _ (sc:=aD fR) (N:=["fractions","bottom","each"]) (tn:=["each"]) (names:=["bottom"]) (is:=[1]) rfl rfl (by decide +kernel) (by decide +kernel) rfl (by decide +kernel) rfl (by decide +kernel) (by decide +kernel) (by decide +kernel)) rfl (@cH _ _ _ _ (pv 0)) (fun _ _ _ _=>(@aP _ _ (i:=0) _ (show (["each","bottom"]:List Str).Nodup by decide +kernel) rfl (Or.inl rfl) (Or.inr rfl))) (fun _ _ _ _=>(@aM _ _ _ _ _ _ _ _ bE (@cD _ _ _ _ _ _ _ gH (pv 0) (@aE _ _ _ _) (fun _ _=>rfl)) (@aM _ _ _ _ _ _ _ _ bI (pv 1) (@cD _ _ _ _ _ _ _ gH (pv 0) (@aE _ _ _ _) (fun _ _=>rfl))))) (fun _ _ _ _=>(@cV _)) (by intro _; rfl)))))),?_⟩
  obtain ⟨vs,hv,pv⟩:=hl
  have hvl:=Paired.length pv
  have smD:∀ D,0 < D->D ∣ B->Sm 100 D:=fun D h1 h2=>Sm.le (le_of_dvd (by omega) (Int.natAbs_dvd_natAbs.mpr h2)) hB2
  w_fin
  refine cG (bX.of hv) ?_
  refine nC (xs:=vs) (fun i σ G=>∃ (D:Int) (o:Option V),σ=[some (.ref l),some (.int D),o]/\G=H/\0 < D/\D ∣ B/\∀ f∈fs.take i,f.2 ∣ D) ⟨1,_,rfl,rfl,by decide,⟨B,by simp⟩,fun f hf=>by simp at hf⟩ ?_ ?_ ?_
  ·rintro i σ G hi ⟨D,o,rfl,rfl,_⟩
   exact bX.of hv
  ·rintro i x σ G hx ⟨D,o,rfl,rfl,hD,hDB,hDf⟩
   obtain ⟨f,hf1,tq,rfl,ht⟩:=Paired.at pv hx
   obtain ⟨f1,f2,f3⟩:=hf f (mem_of_getElem? hf1)
   obtain ⟨s1,s2,s3,s4⟩:=IU hD f1 hDB f2
   have gp:0 < (Int.gcd D f.2:Int):=by
    have:=mJ (t:=D) (b:=f.2) (by omega)
    omega
   have sg':Sm 8000 (Int.gcd D f.2:Int):=Sm.mono (Sm.le (b:=D) (by have:=le_of_dvd (by omega) (Int.gcd_dvd_natAbs_left D f.2); omega) (smD D hD hDB)) (by decide)
   have sm1:Sm 60000000 (D.fdiv (Int.gcd D f.2:Int)):=Sm.mono (Sm.le (b:=D) (eW (by omega) (mO (by omega) (Int.gcd_dvd_left ..))) (smD D hD hDB)) (by decide)
   have sm2:Sm 60000000 f.2:=Sm.mono (smD f.2 f1 f2) (by decide)
   w_fin
   refine ⟨D,f.2,rfl,?_⟩
   w_fin
   refine iF ⟨by omega,sg'⟩ ?_
   w_fin
   refine kN (.inr ⟨sm1,sm2⟩) ?_
   w_fin
   refine ⟨_,_,rfl,rfl,s1,s2,fun g hg=>?_⟩
   rw [take_add_one,hf1] at hg
   rcases mem_append.mp hg with h|h
   ·exact Int.dvd_trans (hDf g h) s3
   ·rw [mem_singleton.mp h]; exact s4
  ·rintro σ G ⟨D,o,rfl,rfl,hD,hDB,hDf⟩
   have hDf':∀ f∈fs,f.2 ∣ D:=fun f hf'=>hDf f (by rw [take_of_length_le (by omega)]; exact hf')
   have sD:=smD D hD hDB
   w_fin
   refine cG (bX.of hv) ?_
   refine gZ (xs:=vs) (by omega) (fun acc i ys G'=>Kp acc G G'/\ys=(DB D (fs.take i)).map V.int) (fun acc h0=>⟨Kp.new h0,rfl⟩) ?_ ?_ ?_
   ·rintro acc i ys G' h0 _ ⟨kp,_⟩
    exact bX.of (kp _ _ (aA hv h0) hv)
   ·rintro acc i ys G' x h0 hx hly ha ⟨kp,rfl⟩
    obtain ⟨f,hf1,tq,rfl,ht⟩:=Paired.at pv hx
    have htG:G' tq=some (.tup [.int f.1,.int f.2]):=kp _ _ (aA ht h0) ht
    obtain ⟨f1,f2,f3⟩:=hf f (mem_of_getElem? hf1)
    have sm2:Sm 8000 f.2:=Sm.mono (smD f.2 f1 f2) (by decide)
    have sm1:Sm 60000000 (D.fdiv f.2):=Sm.mono (Sm.le (b:=D) (eW (by omega) (mO (by omega) (hDf' f (mem_of_getElem? hf1)))) sD) (by decide)
    w_fin
    refine iF ⟨by omega,sm2⟩ ?_
    w_fin
    refine kN (.inr ⟨Sm.mono f3 (by decide),sm1⟩) ?_
    w_fin
    refine gJ (List.getElem?_eq_some_iff.mp hx).1 hly ha ⟨kp.trans Kp.upd,?_⟩
    rw [take_add_one,hf1]
    simp [DB]
   ·rintro acc ys G' h0 ha hly ⟨kp,rfl⟩
    rw [take_of_length_le (by omega)] at ha
    w_fin
    exact q acc G' D h0 (fun b o e=>kp _ _ (aA e h0) e) hD sD hDf' ha
theorem uR (T:Bl mg) (d:Ay K mg "sorted_by" cU ["fractions","things"] 100 98) (BB:rC mg base) (W:kH mg xt x1 x3 x4) (R_NoSum:bN K xt x1 x3 x4 x3 3) (R1:bN K xt x1 x3 x4 x1 1) (R4:bN K xt x1 x3 x4 x4 4) (o0i:bJ P w K mg base k "whole_tops" ["fractions"] yH):bJ P w K mg base (k+1) "sorted_by" ["fractions","things"] (iR K):=by
 refine bJ.ofC d lU (fun vs H Q E h=>?_) (fun f A outer s H vs Q E hr h=>?_)
 ·obtain ⟨l,ms,u,rfl,_⟩:=h
  rfl
 ·obtain ⟨l,ms,u,rfl,hu,hl,hn,h64,hT,q⟩:=h
  refine ⟨_,(@aC _ _ _ _ _ (@aK _ _ (i:=2) _ _ _ _ lU.nd rfl (by w_left) (@DP _ _ _ _ _ _ _ _ _ _ _ _ _ _ _ _ _ _ hr rfl rfl T.z_sorted rfl T.z_zip rfl d.hd BB rfl rfl (@dM _ _ _ _ _ (@aG _ _ _ _ _ _ _ _ _ _ o0i hr rfl (@dY _ _ _ (pv 0) (by rfl)) (by decide) (by rfl) (by rfl)) (pv 1) (by rfl) (by rfl)) (by rfl) (by rfl) (by rfl)) (by rfl) (by w_means)) (@aF _ _ _ (@aS _ _ _ _ (@eZ _ _ _ _ _ _ _ _ _ _ _ _ _ _ (@dA _ _ (sc:=aD cU) (N:=["fractions","things","pairs"]) (tn:=["pair"]) (names:=[]) (is:=[]) rfl rfl (by decide +kernel) (by decide +kernel) rfl (by decide +kernel) rfl (by decide +kernel) (by decide +kernel) (by decide +kernel)) rfl (@cH _ _ _ _ (pv 2)) (fun _ _ _ _=>(@aP _ _ (i:=0) _ (show (["pair"]:List Str).Nodup by decide +kernel) rfl (Or.inl rfl) (Or.inr rfl))) (fun _ _ _ _=>(@cD _ _ _ _ _ _ _ gH (pv 0) (@aE _ _ _ _) (fun _ _=>rfl))) (fun _ _ _ _=>(@cV _)) (by intro _; rfl))))),?_⟩
  have hlq:=hl
  obtain ⟨vs,hv,pv⟩:=hl
  have hvl:=Paired.length pv
  rw [length_map] at hvl
  have smF:∀ m∈ms,Sm 100 (bD u m).1:=fun m hm=>AK hu (hn m hm)
  w_fin
  refine ⟨l,ms.map (bD u),u.2,rfl,hlq,by rw [length_map]; omega,hu.p2,Sm.of (by have:=hu.p2; omega) (by have:=hu.s2; show u.2 < ((2 ^ 100:Nat):Int); omega),fun f hf=>?_,fun p1 H1 D hp1 s1 hD sD hDf h1=>?_⟩
  ·obtain ⟨m,hm,rfl⟩:=mem_map.mp hf
   obtain ⟨a1,a2,_⟩:=hu.tm m
   exact ⟨a1,a2,smF m hm⟩
  have hDm:∀ m∈ms,(bD u m).2 ∣ D:=fun m hm=>hDf _ (mem_map.mpr ⟨m,hm,rfl⟩)
  w_fin
  refine ⟨p1,l,DB D (ms.map (bD u)),vs,rfl,bX.of h1,bX.of (s1 _ _ hv),by simp [DB,hvl],by simp [DB]; omega,fL.same hT s1,fun pl G tr hpl kp hTG hG htr hperm hpw=>?_⟩
  have ek:(DB D (ms.map (bD u))).zip vs=(ms.zip vs).map fun p=>((bD u p.1).1 * D.fdiv (bD u p.1).2,p.2):=by
   unfold DB
   rw [map_map,List.zip_map_left]
   rfl
  obtain ⟨ys,pys,eys⟩:=iX hperm ek
  have kpH:Kp tT H G:=s1.kp.trans kp
  have memY:∀ y∈ys,y.1∈ms/\cK H y.2 (bD u y.1):=fun y hy=>by
   have hy':=pys.mem_iff.mp hy
   obtain ⟨i,hi⟩:=List.getElem?_of_mem hy'
   rw [List.getElem?_zip_eq_some] at hi
   obtain ⟨f,hf1,hf2⟩:=Paired.at pv hi.2
   rw [List.getElem?_map,hi.1] at hf1
   cases hf1
   exact ⟨mem_of_getElem? hi.1,hf2⟩
  have htl:tr.length<=500:=by
   have:=hperm.length_eq
   rw [length_map,length_zip] at this
   omega
  w_fin
  refine cG (bX.of hG) ?_
  refine gZ (xs:=tr.map fun p=>V.ref p.1) (by rw [length_map]; omega) (fun acc i zs G'=>Kp acc G G'/\zs=(tr.take i).map fun p=>p.2.2) (fun acc h0=>⟨Kp.new h0,rfl⟩) ?_ ?_ ?_
  ·rintro acc i zs G' h0 _ ⟨kp',_⟩
   exact bX.of (kp' _ _ (aA hG h0) hG)
  ·rintro acc i zs G' x h0 hx hly ha ⟨kp',rfl⟩
   rw [List.getElem?_map] at hx
   obtain ⟨tp,htp,rfl⟩:=Option.map_eq_some_iff.mp hx
   have htG:=htr tp (mem_of_getElem? htp)
   have htG':G' tp.1=_:=kp' _ _ (aA htG h0) htG
   w_fin
   refine gJ (by rw [length_map]; exact (List.getElem?_eq_some_iff.mp htp).1) hly ha ⟨kp'.trans Kp.upd,?_⟩
   rw [take_add_one,htp]
   simp
  ·rintro acc zs G' h0 ha hly ⟨kp',rfl⟩
   rw [length_map,take_length] at ha
   have sG:aI G G':=fun b o e=>kp' _ _ (aA e h0) e
   have kpG:Kp tT H G':=kpH.trans sG.kp
   have e2:(tr.map fun p=>p.2.2)=ys.map (·.2):=by
    have:=congrArg (List.map Prod.snd) eys
    simpa [map_map,Function.comp_def] using this
   w_fin
   refine q acc G' (ys.map (·.1)) (VQ kpH hTG h0) kpG (fL.same hTG sG) ?_ ?_ ⟨_,ha,?_⟩
   ·have:=pys.map (·.1)
    rwa [List.map_fst_zip (by omega)] at this
   ·have h1:(tr.map (·.2)).Pairwise (fun p q=>p.1<=q.1):=pairwise_map.mpr hpw
    rw [eys,pairwise_map] at h1
    rw [pairwise_map]
    refine h1.imp_of_mem fun {a b} ha hb hab=>?_
    exact WB hu hD (hDm _ (memY a ha).1) (hDm _ (memY b hb).1) hab
   ·rw [e2,map_map]
    have:∀ (l:List (Nat×V)),(∀ y∈l,cK H y.2 (bD u y.1))->Paired (cK G') (l.map (·.2)) (l.map (bD u ∘ (·.1))):=fun l=>by
     induction l with
    |nil=>intro _; exact .nil
    |cons y l ih=>intro hy; exact .cons (cK.tk (hy y mem_cons_self) kpG hT) (ih fun z hz=>hy z (mem_cons_of_mem _ hz))
    exact this ys fun y hy=>(memY y hy).2
theorem wP (T:Bl mg) (d:Df K mg "units_of" iU ["times"]) (W:kH mg xt x1 x3 x4) (R_NoSum:bN K xt x1 x3 x4 x3 3) (R1:bN K xt x1 x3 x4 x1 1) (R4:bN K xt x1 x3 x4 x4 4) (o0a:bJ P w K mg base k "common_divisor" ["one","other"] AV) (o0i:bJ P w K mg base k "whole_tops" ["fractions"] yH):bJ P w K mg base (k+1) "units_of" ["times"] AO:=by
 refine bJ.of d fD (fun vs H Q E h=>?_) (fun f cdv A outer s H vs Q E hr h=>?_)
 ·obtain ⟨l,ms,u,rfl,_⟩:=h
  rfl
 ·obtain ⟨l,ms,u,rfl,hu,hl,hn,h64,hp,q⟩:=h
  refine ⟨_,(@aC _ _ _ _ _ (@aK _ _ (i:=1) _ _ _ _ fD.nd rfl (by w_left) (@aG _ _ _ _ _ _ _ _ _ _ o0i hr rfl (@dY _ _ _ (pv 0) (by rfl)) (by decide) (by rfl) (by rfl)) (by rfl) (by w_means)) (@aC _ _ _ _ _ (@aK _ _ (i:=2) _ _ _ _ fD.nd rfl (by w_left) (@aE _ _ _ _) (by rfl) (by w_means)) (@aC _ _ _ _ _ (@dS _ _ _ _ _ _ _ _ PassesOwn.never rfl (@cH _ _ _ _ (pv 1)) (@aP _ _ (i:=3) _ fD.nd rfl (by w_left) (by w_means)) (@aF _ _ _ (@aK _ _ (i:=2) _ _ _ _ fD.nd rfl (by w_left) (@aG _ _ _ _ _ _ _ _ _ _ o0a hr rfl (@dM _ _ _ _ _ (pv 2) (pv 3) (by rfl) (by rfl)) (by decide) (by rfl) (by rfl)) (by rfl) (by w_means))) (by intro _; rfl)) (@aF _ _ _ (@aS _ _ _ _ (@eZ _ _ _ _ _ _ _ _ _ _ _ _ _ _ (@dA _ _ (sc:=aD iU) (N:=["times","tops","unit","top"]) (tn:=["top"]) (names:=["unit"]) (is:=[2]) rfl rfl (by decide +kernel) (by decide +kernel) rfl (by decide +kernel) rfl (by decide +kernel) (by decide +kernel) (by decide +kernel)) rfl (@cH _ _ _ _ (pv 1)) (fun _ _ _ _=>(@aP _ _ (i:=0) _ (show (["top","unit"]:List Str).Nodup by decide +kernel) rfl (Or.inl rfl) (Or.inr rfl))) (fun _ _ _ _=>(@aM _ _ _ _ _ _ _ _ bI (pv 0) (pv 1))) (fun _ _ _ _=>(@cV _)) (by intro _; rfl))))))),?_⟩
  have smF:∀ m∈ms,Sm 100 (bD u m).1:=fun m hm=>AK hu (hn m hm)
  w_fin
  refine ⟨l,ms.map (bD u),u.2,rfl,hl,by rw [length_map]; omega,hu.p2,Sm.of (by have:=hu.p2; omega) (by have:=hu.s2; show u.2 < ((2 ^ 100:Nat):Int); omega),fun f hf=>?_,fun p1 H1 D hp1 s1 hD sD hDf h1=>?_⟩
  ·obtain ⟨m,hm,rfl⟩:=mem_map.mp hf
   obtain ⟨a1,a2,_⟩:=hu.tm m
   exact ⟨a1,a2,smF m hm⟩
  have hDm:∀ m∈ms,(bD u m).2 ∣ D:=fun m hm=>hDf _ (mem_map.mpr ⟨m,hm,rfl⟩)
  obtain ⟨ts,ets⟩:∃ ts:List Nat,DB D (ms.map (bD u))=ts.map Int.ofNat:=⟨(DB D (ms.map (bD u))).map Int.toNat,by
   rw [map_map]
   refine ((map_congr_left fun x hx=>?_).trans (map_id _)).symm
   obtain ⟨f,hf,rfl⟩:=mem_map.mp hx
   obtain ⟨m,hm,rfl⟩:=mem_map.mp hf
   exact Int.toNat_of_nonneg (WA hu hD (hDm m hm))⟩
  have ett:ts.map (· * u.2.toNat)=ms.map (· * (u.1 * D).toNat):=by
   have h2:=hu.p2
   have h3:=Int.mul_pos hu.p1 hD
   have e:(DB D (ms.map (bD u))).map (· * u.2)=ms.map fun (m:Nat)=>(m:Int) * (u.1 * D):=by
    unfold DB
    rw [map_map,map_map]
    exact map_congr_left fun m hm=>FV hu (hDm m hm)
   rw [ets,map_map] at e
   have:=congrArg (List.map Int.toNat) e
   rw [map_map,map_map] at this
   refine (map_congr_left fun x _=>?_).trans (this.trans (map_congr_left fun x _=>?_))
   ·show x * u.2.toNat=((x:Int) * u.2).toNat
    rw [Int.toNat_mul (by omega) (by omega),Int.toNat_natCast]
   ·show ((x:Int) * (u.1 * D)).toNat=x * (u.1 * D).toNat
    rw [Int.toNat_mul (by omega) (by omega),Int.toNat_natCast]
  have eud:=FS (by have:=hu.p2; omega) (by have:=Int.mul_pos hu.p1 hD; omega) ett hp
  have htl:ts.length=ms.length:=by have:=congrArg List.length ett; simpa using this
  rw [ets] at h1
  have gpos:0 < dU ts/\Sm 8000 (dU ts:Int):=by
   obtain ⟨m,hm,hm0⟩:=hp
   obtain ⟨i,hi⟩:=List.getElem?_of_mem hm
   have:=congrArg (fun l=>l[i]?) ett
   simp only [List.getElem?_map,hi,Option.map_some] at this
   obtain ⟨x,hx,ex⟩:=Option.map_eq_some_iff.mp this
   have hx0:0 < x:=Nat.pos_of_ne_zero fun z=>by
    rw [z,zero_mul] at ex
    have:=mul_pos hm0 (show 0 < (u.1 * D).toNat by have:=Int.mul_pos hu.p1 hD; omega)
    omega
   refine ⟨mK (mem_of_getElem? hx) hx0,?_⟩
   have hxm:(x:Int)∈DB D (ms.map (bD u)):=by rw [ets]; exact mem_map.mpr ⟨x,mem_of_getElem? hx,rfl⟩
   obtain ⟨f,hf,ef⟩:=mem_map.mp hxm
   obtain ⟨m',hm',rfl⟩:=mem_map.mp hf
   obtain ⟨a1,a2,a3,a4,a5⟩:=hu.tm m'
   have s1':Sm 100 (bD u m').1:=smF m' hm'
   have s2':Sm 100 (D.fdiv (bD u m').2):=Sm.le (b:=D) (eW (by omega) (mO (by omega) (hDm m' hm'))) sD
   have s3':=Sm.mul s1' s2'
   rw [ef] at s3'
   refine Sm.mono (Sm.le (b:=(x:Int)) ?_ s3') (by decide)
   have:=le_of_dvd hx0 (jU (mem_of_getElem? hx))
   omega
  w_fin
  refine cG (bX.of h1) ?_
  refine nC (xs:=(ts.map Int.ofNat).map V.int) (fun i σ G=>∃ (o:Option V),σ=[some (.ref l),some (.ref p1),some (.int (dU (ts.take i):Int)),o]/\G=H1) ⟨_,rfl,rfl⟩ ?_ ?_ ?_
  ·rintro i σ G hi ⟨o,rfl,rfl⟩
   exact bX.of h1
  ·rintro i x σ G hx ⟨o,rfl,rfl⟩
   rw [map_map,List.getElem?_map] at hx
   obtain ⟨x,hx',rfl⟩:=Option.map_eq_some_iff.mp hx
   w_fin
   refine ⟨_,_,rfl,?_⟩
   w_fin
   refine ⟨some (V.int (Int.ofNat x)),?_,rfl⟩
   rw [take_add_one,hx']
   show _=[_,_,some (V.int (dU (ts.take i++[x]):Int)),_]
   rw [sO]
   rfl
  ·rintro σ G ⟨o,rfl,rfl⟩
   rw [length_map,length_map,take_length]
   obtain ⟨gpos,sg'⟩:=gpos
   w_fin
   refine cG (bX.of h1) ?_
   refine gZ (xs:=(ts.map Int.ofNat).map V.int) (by rw [length_map,length_map]; omega) (fun acc i ys G'=>Kp acc G G'/\ys=(((ts.take i).map (· / dU ts)).map Int.ofNat).map V.int) (fun acc h0=>⟨Kp.new h0,rfl⟩) ?_ ?_ ?_
   ·rintro acc i ys G' h0 _ ⟨kp,_⟩
    exact bX.of (kp _ _ (aA h1 h0) h1)
   ·rintro acc i ys G' x h0 hx hly ha ⟨kp,rfl⟩
    rw [map_map,List.getElem?_map] at hx
    obtain ⟨x,hx',rfl⟩:=Option.map_eq_some_iff.mp hx
    w_fin
    refine iF ⟨by omega,sg'⟩ ?_
    w_fin
    refine gJ (by rw [length_map,length_map]; exact (List.getElem?_eq_some_iff.mp hx').1) hly ha ⟨kp.trans Kp.upd,?_⟩
    rw [take_add_one,hx']
    simp only [map_append,map_cons,map_nil,Option.toList]
    congr 3
    rw [Int.fdiv_eq_ediv_of_nonneg _ (Int.natCast_nonneg _)]
    rfl
   ·rintro acc ys G' h0 ha hly ⟨kp,rfl⟩
    rw [length_map,length_map,take_length,eud] at ha
    w_fin
    exact q acc G' (s1.free h0) (s1.trans fun b o e=>kp _ _ (aA e h0) e) ha
theorem nQ (T:Bl mg) (d:Df K mg "fewest_parts" eF ["parts","last"]) (W:kH mg xt x1 x3 x4) (R_NoSum:bN K xt x1 x3 x4 x3 3) (R1:bN K xt x1 x3 x4 x1 1) (R4:bN K xt x1 x3 x4 x4 4):bJ P w K mg base (k+1) "fewest_parts" ["parts","last"] wA:=by
 refine bJ.of d dL (fun vs H Q E h=>?_) (fun f cdv A outer s H vs Q E hr h=>?_)
 ·obtain ⟨p,S,n,rfl,_⟩:=h
  rfl
 ·obtain ⟨p,S,n,rfl,hp,hS,hl,hn,q⟩:=h
  refine ⟨_,(@aC _ _ _ _ _ (@aK _ _ (i:=2) _ _ _ _ dL.nd rfl (by w_left) (@bV _ _ _ _ (@dY _ _ _ (@aE _ _ _ _) (by rfl))) (by rfl) (by w_means)) (@aC _ _ _ _ _ (@dS _ _ _ _ _ _ _ _ PassesOwn.never rfl (@rW _ _ _ _ _ _ _ rfl T.z_range (@dM _ _ _ _ _ (@aE _ _ _ _) (@aM _ _ _ _ _ _ _ _ bY (pv 1) (@aE _ _ _ _)) (by rfl) (by rfl)) (by rfl) (by rfl)) (@aP _ _ (i:=3) _ dL.nd rfl (by w_left) (by w_means)) (@aC _ _ _ _ _ (@MS _ _ _ _ _ _ _ _ _ _ _ _ _ _ (i:=4) _ _ _ dL.nd rfl (by w_left) (@dA _ _ (sc:=aD eF) (N:=["parts","last","fewest","whole","counts"]) (tn:=["part"]) (names:=["whole","fewest"]) (is:=[3,2]) rfl rfl (by decide +kernel) (by decide +kernel) rfl (by decide +kernel) rfl (by decide +kernel) (by decide +kernel) (by decide +kernel)) rfl (@cH _ _ _ _ (pv 0)) (fun _ _ _ _=>(@aP _ _ (i:=0) _ (show (["part","whole","fewest"]:List Str).Nodup by decide +kernel) rfl (Or.inl rfl) (Or.inr rfl))) (fun _ _ _ _=>(@cD _ _ _ _ _ _ _ gH (pv 2) (@aM _ _ _ _ _ _ _ _ uP (pv 1) (pv 0)) (fun _ _=>rfl))) (fun _ _ _ _=>(@BN _ _ _ (@PW.pt _ _ _ (@uH _ _ _ _ _ _ _ (@aX _ _ _ _ _ _ _ _ QH (pv 0) (pv 1) (bB _)) (@uG _ _ _ _ (@aX _ _ _ _ _ _ _ _ wN (@cD _ _ _ _ _ _ _ gH (pv 2) (@aM _ _ _ _ _ _ _ _ uP (pv 1) (pv 0)) (fun _ _=>rfl)) (@eU _ _ _) (bB _))))))) (by intro _; rfl) (by rfl) (by w_means)) (@aF _ _ _ (@fS _ _ _ _ (@jQ _ _ _ _ _ _ _ _ _ _ _ _ plainAttrs_list PySem.F.slot_list_append PySem.F.type_list_append dZ (pv 2) (@dY _ _ _ (@pI _ _ _ _ _ _ _ _ (@yV _ _ _ (pv 4) (by intro _; rfl)) (@aM _ _ _ _ _ _ _ _ bY (@bP _ _ _ _ _ _ _ _ _ (UX rfl) rfl T.z_min UZ (@dY _ _ _ (pv 4) (by rfl)) (by decide) (by decide) (by rfl) (by rfl)) (@aE _ _ _ _)) (@eU _ _ _)) (by rfl)) (by rfl) (by rfl) (by rfl) (by rfl) (by rfl)) (by rfl)))) (by intro _; rfl)) (@aF _ _ _ (@aS _ _ _ _ (pv 2))))),?_⟩
  w_fin
  refine cL fun l hl0=>?_
  w_fin
  refine ⟨1,(n:Int)+1,rfl,by omega,?_⟩
  have en:((n:Int)+1 - 1).toNat=n:=by omega
  rw [en]
  refine uC (n:=n) (fun i σ G=>∃ (F:List (Option Nat)) (o1 o2:Option V),σ=[some (.ref p),some (.int n),some (.ref l),o1,o2]/\Kp l H G/\G l=some (.lst (F.map oV))/\Ar S i F) ⟨[some 0],_,_,rfl,Kp.new hl0,aB,rfl,?_⟩ ?_ ?_
  ·intro w o h
   cases w with
  |zero=>cases h; exact JA
  |succ w=>simp at h
  ·rintro i σ G hi ⟨F,o1,o2,rfl,kp,hF,hFl,hFb⟩
   have sG:aI H G:=fun b o e=>kp _ _ (aA e hl0) e
   have hpG:=sG _ _ hp
   have ix:∀ s∈S,s<=i+1->∃ o,F[i+1 - s]?=some o:=fun s hs hl1=>⟨_,List.getElem?_eq_getElem (by have:=hS s hs; omega)⟩
   w_fin
   refine cG (bX.of hpG) ?_
   refine wJ (xs:=(S.map Int.ofNat).map V.int) (by rw [length_map,length_map]; omega) (fun acc j ys G'=>Kp acc G G'/\ys=((qJ F (i+1) (S.take j)).map Int.ofNat).map V.int) (fun acc h0=>⟨Kp.new h0,rfl⟩) ?_ ?_ ?_
   ·rintro acc j ys G' h0 _ ⟨kp',_⟩
    exact bX.of (kp' _ _ (aA hpG h0) hpG)
   ·rintro acc j ys G' x h0 hx hly ha ⟨kp',rfl⟩
    rw [map_map,List.getElem?_map] at hx
    obtain ⟨s,hs,e⟩:=Option.map_eq_some_iff.mp hx
    obtain rfl:x=V.int (s:Int):=e.symm
    have hsS:=mem_of_getElem? hs
    have hlt:j < ((S.map Int.ofNat).map V.int).length:=by rw [length_map,length_map]; exact (List.getElem?_eq_some_iff.mp hs).1
    have hF':G' l=some (.lst (F.map oV)):=kp' _ _ (aA hF h0) hF
    have skip:(if s<=i+1 then (F[i+1 - s]?).join else none)=none->JP ((S.map Int.ofNat).map V.int).length acc (fun j ys G'=>Kp acc G G'/\ys=((qJ F (i+1) (S.take j)).map Int.ofNat).map V.int) (((qJ F (i+1) (S.take j)).map Int.ofNat).map V.int) j G':=fun e=>by
     refine JO hlt hly ha ⟨kp',?_⟩
     rw [take_add_one,hs]
     unfold qJ
     rw [List.filterMap_append]
     simp [e]
    w_fin
    refine xI (fun c=>?_) (fun c=>?_)
    ·have hle:s<=i+1:=by have:(s:Int)<=1+i:=c; omega
     obtain ⟨o,ho⟩:=ix s hsS hle
     have hix:sZ (F.map oV) (1+(i:Int) - (s:Int))=some (oV o):=by
      rw [show 1+(i:Int) - (s:Int)=((i+1 - s:Nat):Int) by omega]
      exact fT (by rw [List.getElem?_map,ho]; rfl)
     w_fin
     refine fE hF' hix ?_
     w_fin
     cases o with
    |none =>
      refine GZ ?_
      w_fin
      exact skip (by rw [if_pos hle,ho]; rfl)
    |some k =>
      refine RU ?_
      w_fin
      refine fE hF' hix ?_
      w_fin
      refine UR hlt hly ha ⟨kp'.trans Kp.upd,?_⟩
      rw [take_add_one,hs]
      unfold qJ
      rw [List.filterMap_append]
      simp [hle,ho,oV]
    ·w_fin
     exact skip (by rw [if_neg (by have:¬ (s:Int)<=1+i:=c; omega)])
   ·rintro acc ys G' h0 ha hly ⟨kp',rfl⟩
    rw [length_map,length_map,take_length] at ha
    have hF':G' l=some (.lst (F.map oV)):=kp' _ _ (aA hF h0) hF
    have sG':aI G G':=fun b o e=>kp' _ _ (aA e h0) e
    generalize hcs:qJ F (i+1) S=cs at ha
    have fin:∀ o,(o=none->cs=[])->(∀ k,o=some k->∃ j,k=j+1/\j∈cs/\∀ x∈cs,j<=x)->Ar S (i+1) (F++[o]):=fun o h0 h1=>by
     refine ⟨by rw [length_append,hFl]; rfl,fun w o' h=>?_⟩
     rcases lt_or_ge w F.length with hw|hw
     ·rw [List.getElem?_append_left hw] at h
      exact hFb w o' h
     ·rw [List.getElem?_append_right hw] at h
      have hw0:w - F.length=0:=by
       rcases Nat.eq_zero_or_pos (w - F.length) with z|z
       ·exact z
       ·rw [List.getElem?_eq_none (by simp only [length_singleton]; exact z)] at h; cases h
      rw [hw0] at h
      cases h
      rw [show w=i+1 by omega]
      exact FX hS hFl hFb (fun e=>by rw [hcs]; exact h0 e) fun k e=>by rw [hcs]; exact h1 k e
    w_fin
    cases cs with
   |nil =>
     refine ⟨false,.inl ⟨_,bX.of ha,rfl⟩,?_⟩
     w_fin
     refine jI hF' (by rw [length_map]; omega) ?_
     w_fin
     exact ⟨F++[none],_,_,rfl,(kp.trans sG'.kp).trans Kp.upd,by rw [aB,map_append]; rfl,fin none (fun _=>rfl) fun k e=>by cases e⟩
   |cons c cs =>
     refine ⟨true,.inl ⟨_,bX.of ha,rfl⟩,?_⟩
     w_fin
     refine RX ha (by simp) fun m hm hmin=>?_
     obtain ⟨j,hj,rfl⟩:=mem_map.mp hm
     w_fin
     refine jI hF' (by rw [length_map]; omega) ?_
     w_fin
     exact ⟨F++[some (j+1)],_,_,rfl,(kp.trans sG'.kp).trans Kp.upd,by rw [aB,map_append]; rfl,fin (some (j+1)) (fun e=>by cases e) fun k e=>⟨j,by cases e; rfl,hj,fun x hx=>by have:=hmin x (mem_map.mpr ⟨x,hx,rfl⟩); exact Int.ofNat_le.mp this⟩⟩
  ·rintro σ G ⟨F,o1,o2,rfl,kp,hF,hT⟩
   w_fin
   exact q l G F hl0 (fun b o e=>kp _ _ (aA e hl0) e) hF hT
theorem qS (T:Bl mg) (d:Df K mg "first_part" iW ["parts","fewest","left"]) (W:kH mg xt x1 x3 x4) (R_NoSum:bN K xt x1 x3 x4 x3 3) (R1:bN K xt x1 x3 x4 x1 1) (R4:bN K xt x1 x3 x4 x4 4):bJ P w K mg base (k+1) "first_part" ["parts","fewest","left"] AW:=by
 refine bJ.of d iB (fun vs H Q E h=>?_) (fun f cdv A outer s H vs Q E hr h=>?_)
 ·obtain ⟨p,S,f',F,n,k',last,rfl,_⟩:=h
  rfl
 ·obtain ⟨p,S,f',F,n,k',last,rfl,hp,hS,hl,hF,hT,h0,h1,hk,q⟩:=h
  refine ⟨_,(@aC _ _ _ _ _ (@dS _ _ _ _ _ _ _ _ PassesOwn.never rfl (@uM _ _ _ _ _ _ _ _ rfl T.z_enumerate (@dY _ _ _ (pv 0) (by rfl)) (by rfl)) (@jP _ _ _ _ _ (n:=2) rfl (@bO _ _ _ _ _ (@aP _ _ (i:=3) _ iB.nd rfl (by w_left) (by w_means)) (@bO _ _ _ _ _ (@aP _ _ (i:=4) _ iB.nd rfl (by w_left) (by w_means)) (@hV _) (by rfl)) (by rfl)) (by rfl) (by rfl)) (@aF _ _ _ (@fF _ _ _ _ _ _ _ _ (@PW.pt _ _ _ (@uH _ _ _ _ _ _ _ (@aX _ _ _ _ _ _ _ _ QH (pv 4) (pv 2) (bB _)) (@uG _ _ _ _ (@aX _ _ _ _ _ _ _ _ (pO hr.units) (@cD _ _ _ _ _ _ _ eI (pv 1) (@aM _ _ _ _ _ _ _ _ uP (pv 2) (pv 4)) (fun _ _=>rfl)) (@aM _ _ _ _ _ _ _ _ uP (@cD _ _ _ _ _ _ _ eI (pv 1) (pv 2) (fun _ _=>rfl)) (@aE _ _ _ _)) (bB _))))) (@aF _ _ _ (@aS _ _ _ _ (pv 3))) (@cC _))) (by intro _; rfl)) (@aF _ _ _ (@aS _ _ _ _ (@eU _ _ _)))),?_⟩
  have hx0:∃ s∈S,s<=n/\kQ S (n - s) (some k'):=by
   have hB:=hT.2 n _ hk
   obtain ⟨s,j,hs,hl',ej,hj⟩:=hB.1.head h0
   cases ej
   refine ⟨s,hs,hl',hj,fun i hi=>?_⟩
   have:=hB.2 _ (hi.cons hs hl')
   omega
  have at':∀ s,0 < s->s<=n->∃ o,F[n - s]?=some o/\kQ S (n - s) o:=fun s h2 h3=>by
   have hlt:n - s < F.length:=by rw [hT.1]; omega
   exact ⟨_,List.getElem?_eq_getElem hlt,hT.2 _ _ (List.getElem?_eq_getElem hlt)⟩
  w_fin
  refine ⟨p,rfl,⟨_,bX.of hp⟩,?_⟩
  refine yR (xs:=(S.map Int.ofNat).map V.int) (fun i σ G=>∃ (o1 o2:Option V),σ=[some (.ref p),some (.ref f'),some (.int n),o1,o2]/\aI H G/\∀ j s',j < i->S[j]?=some s'->s'<=n->¬ kQ S (n - s') (some k')) ⟨_,_,rfl,aI.refl _,fun j s' h=>by omega⟩ ?_ ?_ ?_
  ·rintro i σ G hi ⟨o1,o2,rfl,sG,_⟩
   exact bX.of (sG _ _ hp)
  ·rintro i x T' σ G hx hT' ⟨o1,o2,rfl,sG,hno⟩
   rw [map_map,List.getElem?_map] at hx
   obtain ⟨s',hs,e⟩:=Option.map_eq_some_iff.mp hx
   obtain rfl:x=V.int (s':Int):=e.symm
   have hsS:=mem_of_getElem? hs
   have s2:=sG.trans (aI.new (o:=.tup [.int i,.int (s':Int)]) hT')
   have ht:=aB (H:=G) (a:=T') (o:=.tup [.int i,.int (s':Int)])
   generalize L2.upd G T' (.tup [.int i,.int (s':Int)])=G2 at s2 ht ⊢
   have more:(s'<=n->¬ kQ S (n - s') (some k'))->∀ j s'',j < i+1->S[j]?=some s''->s''<=n->¬ kQ S (n - s'') (some k'):=fun h j s'' hj hs'' hl''=>by
    rcases lt_or_ge j i with h3|h3
    ·exact hno j s'' h3 hs'' hl''
    ·have:j=i:=by omega
     subst this
     rw [hs] at hs''
     cases hs''
     exact h hl''
   have hF2:=s2 _ _ hF
   w_fin
   refine xI (fun c=>?_) (fun c=>?_)
   ·have hle:s'<=n:=by omega
    obtain ⟨o,ho,hb⟩:=at' s' (hS s' hsS) hle
    w_fin
    refine fE hF2 (v:=oV o) (by rw [show (n:Int) - (s':Int)=((n - s':Nat):Int) by omega]; exact fT (by rw [List.getElem?_map,ho]; rfl)) ?_
    w_fin
    refine fE hF2 (v:=V.int ((k'+1:Nat):Int)) (fT (by rw [List.getElem?_map,hk]; rfl)) ?_
    w_fin
    cases o with
   |none =>
     refine Bw ?_
     w_fin
     exact ⟨_,_,rfl,s2,more fun _ h=>by have:=h.uniq hb; cases this⟩
   |some j =>
     refine QV ?_
     w_fin
     refine xI (fun c2=>?_) (fun c2=>?_)
     ·have:j=k':=by omega
      subst this
      w_fin
      exact q i s' G2 s2 hs hle hb hno
     ·w_fin
      exact ⟨_,_,rfl,s2,more fun _ h=>by have:=h.uniq hb; cases this; omega⟩
   ·w_fin
    exact ⟨_,_,rfl,s2,more fun h=>by omega⟩
  ·rintro σ G ⟨o1,o2,rfl,sG,hno⟩
   obtain ⟨s,hs,hl',hb⟩:=hx0
   obtain ⟨j,hj⟩:=List.getElem?_of_mem hs
   rw [length_map,length_map] at hno
   exact absurd hb (hno j s (List.getElem?_eq_some_iff.mp hj).1 hj hl')
theorem zD (T:Bl mg) (d:Df K mg "made_of" mY ["box","time"]) (W:kH mg xt x1 x3 x4) (R_NoSum:bN K xt x1 x3 x4 x3 3) (R1:bN K xt x1 x3 x4 x1 1) (R4:bN K xt x1 x3 x4 x4 4) (o0j:bJ P w K mg base k "first_part" ["parts","fewest","left"] AW) (o0d:bJ P w K mg base k "fewest_parts" ["parts","last"] wA) (o0m:bJ P w K mg base k "units_of" ["times"] AO) (o0k:bJ P w K mg base k "sorted_by" ["fractions","things"] (iR K)):qN P w K mg base (k+1) "made_of" ["box","time"] [] (GF K x3):=by
 refine qN.of d cS (fun vs H Q E h=>?_) (fun f cdv A outer s H vs Q E hr h=>?_)
 ·obtain ⟨l,ms,u,n,tq,rfl,_⟩:=h
  rfl
 ·obtain ⟨l,ms,u,n,tq,rfl,hu,hl,ht,hp,hm,hn,h1,h64,hT,q1,q2⟩:=h
  refine ⟨_,(@aC _ _ _ _ _ (@aK _ _ (i:=2) _ _ _ _ cS.nd rfl (by w_left) (@MU _ _ _ _ _ _ _ rfl rfl T.z_list rfl T.z_reversed (@aG _ _ _ _ _ _ _ _ _ _ o0k hr rfl (@dM _ _ _ _ _ (pv 0) (pv 0) (by rfl) (by rfl)) (by decide) (by rfl) (by rfl)) (by rfl) (by rfl)) (by rfl) (by w_means)) (@aC _ _ _ _ _ (@aK _ _ (i:=3) _ _ _ _ cS.nd rfl (by w_left) (@aG _ _ _ _ _ _ _ _ _ _ o0m hr rfl (@dY _ _ _ (@aM _ _ _ _ _ _ _ _ bY (pv 2) (@bV _ _ _ _ (@dY _ _ _ (pv 1) (by rfl)))) (by rfl)) (by decide) (by rfl) (by rfl)) (by rfl) (by w_means)) (@aC _ _ _ _ _ (@aK _ _ (i:=4) _ _ _ _ cS.nd rfl (by w_left) (@TC _ _ _ _ _ _ _ _ _ plainAttrs_list PySem.F.slot_list_pop PySem.F.type_list_pop TV (pv 3) (by rfl) (by rfl)) (by rfl) (by w_means)) (@aC _ _ _ _ _ (@aK _ _ (i:=5) _ _ _ _ cS.nd rfl (by w_left) (@aG _ _ _ _ _ _ _ _ _ _ o0d hr rfl (@dM _ _ _ _ _ (pv 3) (pv 4) (by rfl) (by rfl)) (by decide) (by rfl) (by rfl)) (by rfl) (by w_means)) (@aC _ _ _ _ _ (@fF _ _ _ _ _ _ _ _ (@aX _ _ _ _ _ _ _ _ oG (@cD _ _ _ _ _ _ _ eI (pv 5) (pv 4) (fun _ _=>rfl)) (@eU _ _ _) (bB _)) (@aF _ _ _ (@nD _ _ _ _ _ _ _ _ _ _ (fun _ _ _ _ _ _ _ _ I m q=>yA I m q) rfl rfl W.m_NoSum R_NoSum.e (@dY _ _ _ (@fO _ _ _ _) (by rfl)) (by decide) (by rfl) (by rfl))) (@cC _)) (@aC _ _ _ _ _ (@aK _ _ (i:=6) _ _ _ _ cS.nd rfl (by w_left) (@bV _ _ _ _ (@eV _)) (by rfl) (by w_means)) (@aC _ _ _ _ _ (@PS.nox _ _ _ (@iI _ _ _ _ _ _ PassesOwn.never (@aX _ _ _ _ _ _ _ _ BU (pv 4) (@aE _ _ _ _) (bB _)) (@aC _ _ _ _ _ (@aK _ _ (i:=7) _ _ _ _ cS.nd rfl (by w_left) (@aG _ _ _ _ _ _ _ _ _ _ o0j hr rfl (@zA _ _ _ _ _ _ _ (pv 3) (pv 5) (pv 4) (by rfl) (by rfl) (by rfl)) (by decide) (by rfl) (by rfl)) (by rfl) (by w_means)) (@aC _ _ _ _ _ (@fS _ _ _ _ (@jQ _ _ _ _ _ _ _ _ _ _ _ _ plainAttrs_list PySem.F.slot_list_append PySem.F.type_list_append dZ (pv 6) (@dY _ _ _ (@cD _ _ _ _ _ _ _ eI (pv 2) (pv 7) (fun _ _=>rfl)) (by rfl)) (by rfl) (by rfl) (by rfl) (by rfl) (by rfl)) (by rfl)) (@aF _ _ _ (@SU _ _ (i:=4) _ _ _ _ _ _ cS.nd rfl (by w_left) (@cD _ _ _ _ _ _ _ eI (pv 3) (pv 7) (fun _ _=>rfl)) UJ (by first|exact .inl rfl|exact .inr rfl))))))) (@aF _ _ _ (@aS _ _ _ _ (pv 6)))))))))),?_⟩
  w_fin
  refine WY ?_
  w_fin
  refine ⟨l,ms,u,rfl,hu,hl,hm,by omega,hT,fun p1 H1 ns hp1 kp1 hT1 pn sn hq1=>?_⟩
  obtain ⟨vs,hv,pv⟩:=hq1
  refine ⟨p1,vs,rfl,hv,fun p2 hp2=>?_⟩
  have hlen:ns.length=ms.length:=pn.length_eq
  have k2:Kp tT H (L2.upd H1 p2 (.lst vs.reverse)):=kp1.trans (aI.new hp2).kp
  have s2:=aI.new (o:=.lst vs.reverse) hp2
  have t2:=fL.same hT1 s2
  have h2:=aB (H:=H1) (a:=p2) (o:=.lst vs.reverse)
  generalize L2.upd H1 p2 (.lst vs.reverse)=H2 at k2 s2 t2 h2 ⊢
  have hq2:LQ cK H2 p2 ((ns.reverse).map (bD u)):=⟨_,h2,by
   rw [List.map_reverse]
   exact HZ (Pd.imp pv fun v f x=>cK.same x s2)⟩
  have ht2:cK H2 (.ref tq) (bD u n):=cK.tk ht k2 hT
  w_fin
  refine nB fun p3 H3 hp3 s3 h3=>?_
  have hvl:vs.length=ns.length:=by have:=Paired.length pv; rwa [length_map] at this
  w_fin
  refine QX (s3 _ _ h2) h3 (by rw [length_reverse]; simp; omega) fun p4 hp4=>?_
  have s4:=s3.trans (aI.new (o:=.lst (vs.reverse++[V.ref tq])) hp4)
  have h4:=aB (H:=H3) (a:=p4) (o:=.lst (vs.reverse++[V.ref tq]))
  generalize L2.upd H3 p4 (.lst (vs.reverse++[V.ref tq]))=H4 at s4 h4 ⊢
  have memr:∀ m,m∈ns.reverse ↔ m∈ms:=fun m=>by rw [List.mem_reverse]; exact pn.mem_iff
  have hq4:LQ cK H4 p4 ((ns.reverse++[n]).map (bD u)):=⟨_,h4,by
   obtain ⟨vs',e1,e2⟩:=hq2
   rw [h2] at e1
   cases e1
   rw [map_append]
   exact Pd.snoc (Pd.imp e2 fun v f x=>cK.same x s4) (cK.same ht2 s4)⟩
  have hex:∃ m∈ns.reverse++[n],0 < m:=by
   obtain ⟨m,hm'⟩:=List.exists_mem_of_ne_nil _ h1
   exact ⟨m,mem_append_left _ ((memr m).mpr hm'),hp m hm'⟩
  w_fin
  refine ⟨p4,ns.reverse++[n],u,rfl,hu,hq4,fun m hm'=>?_,by rw [length_append,length_reverse]; simp; omega,hex,fun p5 H5 hp5 s5 h5=>?_⟩
  ·rcases mem_append.mp hm' with h|h
   ·exact hm m ((memr m).mp h)
   ·rw [mem_singleton.mp h]; omega
  have hg0:0 < dU (ns.reverse++[n]):=let ⟨m,a,b⟩:=hex; mK a b
  have hgd:∀ m∈ns.reverse++[n],dU (ns.reverse++[n]) ∣ m:=fun m h=>jU h
  generalize dU (ns.reverse++[n])=g at h5 hg0 hgd
  rw [map_append,map_append,map_append] at h5
  have hgS:∀ m∈ns.reverse,g ∣ m:=fun m h=>hgd m (mem_append_left _ h)
  have hgn:n / g * g=n:=div_mul_cancel (hgd n (mem_append_right _ (by simp)))
  have hln:n / g<=n:=Nat.div_le_self _ _
  obtain ⟨S,hS⟩:∃ S,S=ns.reverse.map (· / g):=⟨_,rfl⟩
  rw [← hS] at h5
  have hSl:S.length=ms.length:=by rw [hS,length_map,length_reverse,hlen]
  have hSp:∀ s∈S,0 < s:=fun s hs=>by
   rw [hS] at hs
   obtain ⟨m,hm',rfl⟩:=mem_map.mp hs
   exact Nat.div_pos (le_of_dvd (hp m ((memr m).mp hm')) (hgS m hm')) hg0
  have hSd:S.Pairwise (· ≥ ·):=by
   rw [hS,pairwise_map]
   refine (List.pairwise_reverse.mpr sn).imp fun {a b} hab=>Nat.div_le_div_right hab
  have b5:Kp tT H H5:=(k2.trans s4.kp).trans s5.kp
  have t5:LT H5:=fL.same (fL.same t2 s4) s5
  have f5:∀ {a:Addr},H5 a=none->H a=none:=fun h=>VQ b5 t5 h
  have isBm:∀ o,kQ S (n / g) o->kQ ms n o:=fun o h=>by
   rw [hS] at h
   have:=(kQ.scale hg0 hgS).mp h
   rw [hgn] at this
   exact this.perm memr
  w_fin
  refine SK h5 ?_
  refine ⟨p5,_,V.int ((n / g:Nat):Int),rfl,rfl,h5,by simp,?_⟩
  rw [show (((S.map Int.ofNat).map V.int)++(([n].map (· / g)).map Int.ofNat).map V.int).dropLast=(S.map Int.ofNat).map V.int by simp]
  have k6:Kp p5 H5 (L2.upd H5 p5 (.lst ((S.map Int.ofNat).map V.int))):=Kp.upd
  have h6:=aB (H:=H5) (a:=p5) (o:=.lst ((S.map Int.ofNat).map V.int))
  generalize L2.upd H5 p5 (.lst ((S.map Int.ofNat).map V.int))=H6 at k6 h6 ⊢
  have hp5H:H p5=none:=VQ (k2.trans s4.kp) (fL.same t2 s4) hp5
  have b6:Kp tT H H6:=fun b o nb e=>k6 _ _ (aA e hp5H) (b5 _ _ nb e)
  have t6:LT H6:=by
   have e:=fL.same t2 s4
   have hk:∀ b o,H4 b=some o->H6 b=some o:=fun b o h=>k6 _ _ (aA h hp5) (s5 _ _ h)
   exact fL.same e hk
  have s6:aI H2 H6:=fun b o h=>k6 _ _ (aA (s4 _ _ h) hp5) (s5 _ _ (s4 _ _ h))
  w_fin
  refine ⟨p5,S,n / g,rfl,h6,hSp,by omega,by omega,fun p7 H7 F hp7 s7 h7 hF=>?_⟩
  have b7:Kp tT H H7:=b6.trans s7.kp
  have t7:LT H7:=fL.same t6 s7
  have s27:=s6.trans s7
  obtain ⟨o,ho⟩:∃ o,F[n / g]?=some o:=⟨_,List.getElem?_eq_getElem (by rw [hF.1]; omega)⟩
  have hBo:=hF.2 _ _ ho
  w_fin
  refine fE h7 (v:=oV o) (fT (by rw [List.getElem?_map,ho]; rfl)) ?_
  cases o with
 |none =>
   refine HI ?_
   w_fin
   exact ⟨by rw [sizeLine_eq]; decide,q1 (isBm none hBo) H7 b7 t7⟩
 |some k0 =>
   refine HJ ?_
   w_fin
   refine cL fun p8 hp8=>?_
   have hp8H:H p8=none:=VQ b7 t7 hp8
   w_fin
   refine uA (fun σ G=>∃ (lf kk:Nat) (L:List Nat) (o:Option V) (ws:List V),σ=[some (.ref l),some (.ref tq),some (.ref p2),some (.ref p5),some (.int lf),some (.ref p7),some (.ref p8),o]/\Kp p8 H7 G/\G p8=some (.lst ws)/\Paired (cK G) ws ((L.map (· * g)).map (bD u))/\lf<=n / g/\kQ S lf (some kk)/\L.length+lf<=n / g/\∀ M,nW S lf M->nW S (n / g) (L++M))
    (fun σ _=>match σ with|[_,_,_,_,some (.int z),_,_,_]=>z.toNat|_=>0) ⟨n / g,k0,[],_,[],rfl,Kp.new hp8,aB,.nil,le_refl _,hBo,by simp,fun M h=>h⟩ ?_
   rintro σ G ⟨lf,kk,L,o,ws,rfl,kG,hG,pG,hlf,hB,hLl,hM⟩
   have sG:aI H7 G:=fun b o h=>kG _ _ (aA h hp8) h
   have wl:ws.length=L.length:=by have:=Paired.length pG; simpa using this
   w_fin
   refine xI (fun c=>?_) (fun c=>?_)
   ·have h0:0 < lf:=by omega
    w_fin
    refine RB ?_
    obtain ⟨kk,rfl⟩:∃ j,kk=j+1:=by
     obtain ⟨s,j,_,_,e,_⟩:=hB.1.head h0
     exact ⟨j,e⟩
    have hFk:F[lf]?=some (some (kk+1)):=by
     obtain ⟨o',ho'⟩:∃ o',F[lf]?=some o':=⟨_,List.getElem?_eq_getElem (by rw [hF.1]; omega)⟩
     rw [ho',(hF.2 _ _ ho').uniq hB]
    w_fin
    refine ⟨p5,S,p7,F,lf,kk,n / g,rfl,sG _ _ (s7 _ _ h6),hSp,by omega,sG _ _ h7,hF,h0,hlf,hFk,fun i s1 G1 sG1 hi hle hb1 hno=>?_⟩
    have hi':i < S.length:=(List.getElem?_eq_some_iff.mp hi).1
    obtain ⟨m1,hm1,em1⟩:∃ m1,ns.reverse[i]?=some m1/\m1 / g=s1:=by
     rw [hS,List.getElem?_map] at hi
     obtain ⟨m1,a,b⟩:=Option.map_eq_some_iff.mp hi
     exact ⟨m1,a,b⟩
    have em2:s1 * g=m1:=by rw [← em1]; exact div_mul_cancel (hgS m1 (mem_of_getElem? hm1))
    have sA:aI H2 G1:=(s27.trans sG).trans sG1
    obtain ⟨vs2,e1,e2⟩:=LQ.sm hq2 sA
    rw [sA _ _ h2] at e1
    cases e1
    obtain ⟨v1,hv1,hf1⟩:=Pd.get e2 (i:=i) (b:=bD u m1) (by rw [List.getElem?_map,hm1]; rfl)
    have hG1:=sG1 _ _ hG
    w_fin
    refine fE (sA _ _ h2) (v:=v1) (fT hv1) ?_
    w_fin
    refine jI hG1 (by omega) ?_
    have kE:Kp p8 G1 (L2.upd G1 p8 (.lst (ws++[v1]))):=Kp.upd
    have hE:=aB (H:=G1) (a:=p8) (o:=.lst (ws++[v1]))
    generalize L2.upd G1 p8 (.lst (ws++[v1]))=G2 at kE hE ⊢
    have hp5':G2 p5=some (.lst ((S.map Int.ofNat).map V.int)):=kE _ _ (aA (s7 _ _ h6) hp8) (sG1 _ _ (sG _ _ (s7 _ _ h6)))
    have kT2:∀ {v f},cK G1 v f->cK G2 v f:=fun ⟨q,a,b⟩=>⟨q,a,kE _ _ (cP b hG1 (by intro z; cases z)) b⟩
    w_fin
    refine YG rfl ?_
    w_fin
    refine fE hp5' (v:=V.int (s1:Int)) (fT (by rw [map_map,List.getElem?_map,hi]; rfl)) ?_
    w_fin
    refine XO ?_
    w_fin
    have hs1:=hSp s1 (mem_of_getElem? hi)
    have elf:(lf:Int) - (s1:Int)=((lf - s1:Nat):Int):=by omega
    rw [elf]
    refine ⟨⟨lf - s1,kk,L++[s1],_,ws++[v1],rfl,fun b o nb h=>kE _ _ nb (sG1 _ _ (kG _ _ nb h)),hE,?_,by omega,hb1,by simp; omega,fun M hM'=>?_⟩,by show ((lf - s1:Nat):Int).toNat < (lf:Int).toNat; omega⟩
    ·rw [map_append,map_append]
     refine Pd.snoc (Pd.imp pG fun v f x=>kT2 (cK.same x sG1)) ?_
     show cK G2 v1 (bD u (s1 * g))
     rw [em2]
     exact kT2 hf1
    ·rw [append_assoc]
     refine hM _ (.cons (mem_of_getElem? hi) hle hs1 hB hb1 (fun s' hs' hl' hb'=>?_) hM')
     obtain ⟨j,hj⟩:=List.getElem?_of_mem hs'
     rcases lt_or_ge j i with h|h
     ·exact absurd hb' (hno j s' h hj hl')
     ·rcases lt_or_ge i j with h2'|h2'
      ·have:=List.pairwise_iff_getElem.mp hSd i j hi' (List.getElem?_eq_some_iff.mp hj).1 h2'
       have e3:=(List.getElem?_eq_some_iff.mp hi).2
       have e4:=(List.getElem?_eq_some_iff.mp hj).2
       rw [e3,e4] at this
       exact this
      ·have:j=i:=by omega
       subst this
       rw [hi] at hj
       cases hj
       exact le_refl _
   ·have:lf=0:=by omega
    subst this
    w_fin
    have hfin:=hM [] .nil
    rw [append_nil,hS] at hfin
    have h9:=nW.scale hg0 hgS hfin
    rw [hgn] at h9
    refine q2 (L.map (· * g)) p8 G (h9.perm memr) hp8H (fun b o nb h=>kG _ _ (aA h hp8H) (b7 _ _ nb h)) (fL.same t7 sG) ⟨ws,hG,pG⟩
theorem wR (T:Bl mg) (d:Df K mg "posts_of" gB ["net"]) (W:kH mg xt x1 x3 x4) (R_NoSum:bN K xt x1 x3 x4 x3 3) (R1:bN K xt x1 x3 x4 x1 1) (R4:bN K xt x1 x3 x4 x4 4):bJ P w K mg base (k+1) "posts_of" ["net"] (AS w):=by
 refine bJ.of d wF (fun vs H Q E h=>?_) (fun f cdv A outer s H vs Q E hr h=>?_)
 ·obtain ⟨l,n,U,rfl,_⟩:=h
  rfl
 ·obtain ⟨l,n,U,rfl,⟨vs',hl,pvs⟩,hlen,hU,hUn,q⟩:=h
  refine ⟨_,(@aF _ _ _ (@aS _ _ _ _ (@bP _ _ _ _ _ _ _ _ _ (zU rfl) rfl T.z_sorted nF (@dY _ _ _ (@iJ _ _ _ _ _ _ _ _ _ (FB rfl) rfl T.z_set KA (@dY _ _ _ (@aM _ _ _ _ _ _ _ _ bY (@eZ _ _ _ _ _ _ _ _ _ _ _ _ _ _ (@dA _ _ (sc:=aD gB) (N:=["net"]) (tn:=["run"]) (names:=[]) (is:=[]) rfl rfl (by decide +kernel) (by decide +kernel) rfl (by decide +kernel) rfl (by decide +kernel) (by decide +kernel) (by decide +kernel)) rfl (@cH _ _ _ _ (pv 0)) (fun _ _ _ _=>(@aP _ _ (i:=0) _ (show (["run"]:List Str).Nodup by decide +kernel) rfl (Or.inl rfl) (Or.inr rfl))) (fun _ _ _ _=>(@cD _ _ _ _ _ _ _ gH (pv 0) (@aE _ _ _ _) (fun _ _=>rfl))) (fun _ _ _ _=>(@cV _)) (by intro _; rfl)) (@eZ _ _ _ _ _ _ _ _ _ _ _ _ _ _ (@dA _ _ (sc:=aD gB) (N:=["net"]) (tn:=["run"]) (names:=[]) (is:=[]) rfl rfl (by decide +kernel) (by decide +kernel) rfl (by decide +kernel) rfl (by decide +kernel) (by decide +kernel) (by decide +kernel)) rfl (@cH _ _ _ _ (pv 0)) (fun _ _ _ _=>(@aP _ _ (i:=0) _ (show (["run"]:List Str).Nodup by decide +kernel) rfl (Or.inl rfl) (Or.inr rfl))) (fun _ _ _ _=>(@cD _ _ _ _ _ _ _ gH (pv 0) (@aE _ _ _ _) (fun _ _=>rfl))) (fun _ _ _ _=>(@cV _)) (by intro _; rfl))) (by rfl)) (by decide) (by decide) (by rfl) (by rfl)) (by rfl)) (by decide) (by decide) (by rfl) (by rfl)))),?_⟩
  have hvl:vs'.length=n.length:=(Paired.length pvs).trans (by simp [kn])
  w_fin
  refine cG (bX.of hl) ?_
  refine gZ (xs:=vs') (by omega) (fun acc i ys G=>Kp acc H G/\ys=(n.take i).map fun r=>V.str r.1) (fun acc h0=>⟨Kp.new h0,rfl⟩) ?_ ?_ ?_
  ·intro acc i ys G h0 _ ⟨kp,_⟩
   exact bX.of (kp _ _ (aA hl h0) hl)
  ·intro acc i ys G x h0 hx hyl hG ⟨kp,e⟩
   obtain ⟨r,hr,p,u,rfl,hp,fu⟩:=Paired.at pvs hx
   obtain ⟨sr,hs,rfl⟩:=CA hr
   have hp1:=hp
   have hpG:=kp _ _ (aA hp1 h0) hp1
   w_fin
   refine gJ (List.getElem?_eq_some_iff.mp hx).1 hyl hG ⟨Kp.trans kp Kp.upd,?_⟩
   have hi:i < n.length:=(List.getElem?_eq_some_iff.mp hs).1
   rw [take_succ_eq_append_getElem hi,map_append,← e]
   have:n[i]=sr:=by
    rw [List.getElem?_eq_getElem hi] at hs
    exact Option.some.inj hs
   rw [this]
   rfl
  ·intro a1 ys1 G1 h1 hG1 hy1 ⟨kp1,e1⟩
   have hl1:=kp1 _ _ (aA hl h1) hl
   rw [hvl,take_length] at e1
   subst e1
   w_fin
   refine cG (bX.of hl1) ?_
   refine gZ (xs:=vs') (by omega) (fun acc i ys G=>Kp acc G1 G/\ys=(n.take i).map fun r=>V.str r.2.1) (fun acc h0=>⟨Kp.new h0,rfl⟩) ?_ ?_ ?_
   ·intro acc i ys G h0 _ ⟨kp,_⟩
    exact bX.of (kp _ _ (aA hl1 h0) hl1)
   ·intro acc i ys G x h0 hx hyl hG ⟨kp,e⟩
    obtain ⟨r,hr,p,u,rfl,hp,fu⟩:=Paired.at pvs hx
    obtain ⟨sr,hs,rfl⟩:=CA hr
    have hp1:=kp1 _ _ (aA hp h1) hp
    have hpG:=kp _ _ (aA hp1 h0) hp1
    w_fin
    refine gJ (List.getElem?_eq_some_iff.mp hx).1 hyl hG ⟨Kp.trans kp Kp.upd,?_⟩
    have hi:i < n.length:=(List.getElem?_eq_some_iff.mp hs).1
    rw [take_succ_eq_append_getElem hi,map_append,← e]
    have:n[i]=sr:=by
     rw [List.getElem?_eq_getElem hi] at hs
     exact Option.some.inj hs
    rw [this]
    rfl
   ·intro a2 ys2 G2 h2 hG2 hy2 ⟨kp2,e2⟩
    rw [hvl,take_length] at e2
    subst e2
    have h1G:=kp2 _ _ (aA hG1 h2) hG1
    w_fin
    refine .inr (.inl ⟨a1,a2,_,_,rfl,rfl,h1G,hG2,kA (by simp; omega),fun a3 h3=>?_⟩)
    w_fin
    have hcat:((n.map fun r=>V.str r.1)++n.map fun r=>V.str r.2.1)=(names n).map V.str:=by
     rw [names,map_append,map_map,map_map]
     rfl
    rw [hcat]
    refine ⟨a3,names n,rfl,aB,by simp [names]; omega,fun a4 zs h4 nd hz=>?_⟩
    w_fin
    refine ⟨a4,zs,rfl,.inl aB,lt_of_le_of_lt (iZ nd fun x hx=>hUn x ((hz x).mp hx)) hU,fun a5 ys h5 hpm hs=>?_⟩
    w_fin
    have sH:aI H (upd (upd (upd G2 a3 (.lst ((names n).map V.str))) a4 (OM w a4 zs)) a5 (.lst (ys.map V.str))):=fun b o hb=>by
     have hb1:=kp1 _ _ (aA hb h1) hb
     exact aL h5 (aL h4 (aL h3 (kp2 _ _ (aA hb1 h2) hb1)))
    refine q a5 _ ys ?_ sH aB hs (hpm.nodup_iff.mpr nd) fun x=>(hpm.mem_iff).trans (hz x)
    cases z:H a5 with
   |none=>rfl
   |some o =>
     have hb1:=kp1 _ _ (aA z h1) z
     rw [aL h4 (aL h3 (kp2 _ _ (aA hb1 h2) hb1))] at h5
     cases h5
theorem pP (T:Bl mg) (d:Df K mg "runs_beside" iC ["net"]) (W:kH mg xt x1 x3 x4) (R_NoSum:bN K xt x1 x3 x4 x3 3) (R1:bN K xt x1 x3 x4 x1 1) (R4:bN K xt x1 x3 x4 x4 4):bJ P w K mg base (k+1) "runs_beside" ["net"] PK:=by
 refine bJ.of d eB (fun vs H Q E h=>?_) (fun f cdv A outer s H vs Q E hr h=>?_)
 ·obtain ⟨l,net,rfl,_⟩:=h
  rfl
 ·obtain ⟨l,net,rfl,⟨vs',hl,pvs⟩,hlen,q⟩:=h
  refine ⟨_,(@aC _ _ _ _ _ (@aK _ _ (i:=1) _ _ _ _ eB.nd rfl (by w_left) (@mB _ _) (by rfl) (by w_means)) (@aC _ _ _ _ _ (@dS _ _ _ _ _ _ _ _ PassesOwn.never rfl (@uM _ _ _ _ _ _ _ _ rfl T.z_enumerate (@dY _ _ _ (pv 0) (by rfl)) (by rfl)) (@jP _ _ _ _ _ (n:=2) rfl (@bO _ _ _ _ _ (@aP _ _ (i:=2) _ eB.nd rfl (by w_left) (by w_means)) (@bO _ _ _ _ _ (@aP _ _ (i:=3) _ eB.nd rfl (by w_left) (by w_means)) (@hV _) (by rfl)) (by rfl)) (by rfl) (by rfl)) (@aC _ _ _ _ _ (@fS _ _ _ _ (@jQ _ _ _ _ _ _ _ _ _ _ _ _ plainAttrs_list PySem.F.slot_list_append PySem.F.type_list_append dZ (@jQ _ _ _ _ _ _ _ _ _ _ _ _ plainAttrs_dict PySem.F.slot_dict_setdefault PySem.F.type_dict_setdefault sI (pv 1) (@dM _ _ _ _ _ (@nP _ _ _ _ _ _ _ (pv 3)) (@bV _ _ _ _ (@eV _)) (by rfl) (by rfl)) (by rfl) (by rfl) (by rfl) (by rfl) (by rfl)) (@dY _ _ _ (@bH _ _ _ _ _ (@dM _ _ _ _ _ (pv 2) (@nP _ _ _ _ _ _ _ (pv 3)) (by rfl) (by rfl))) (by rfl)) (by rfl) (by rfl) (by rfl) (by rfl) (by rfl)) (by rfl)) (@aF _ _ _ (@fS _ _ _ _ (@jQ _ _ _ _ _ _ _ _ _ _ _ _ plainAttrs_list PySem.F.slot_list_append PySem.F.type_list_append dZ (@jQ _ _ _ _ _ _ _ _ _ _ _ _ plainAttrs_dict PySem.F.slot_dict_setdefault PySem.F.type_dict_setdefault sI (pv 1) (@dM _ _ _ _ _ (@nP _ _ _ _ _ _ _ (pv 3)) (@bV _ _ _ _ (@eV _)) (by rfl) (by rfl)) (by rfl) (by rfl) (by rfl) (by rfl) (by rfl)) (@dY _ _ _ (@bH _ _ _ _ _ (@dM _ _ _ _ _ (pv 2) (@nP _ _ _ _ _ _ _ (pv 3)) (by rfl) (by rfl))) (by rfl)) (by rfl) (by rfl) (by rfl) (by rfl) (by rfl)) (by rfl)))) (by intro _; rfl)) (@aF _ _ _ (@aS _ _ _ _ (pv 1))))),?_⟩
  w_fin
  refine uD fun dd hd=>?_
  w_fin
  refine e_K (aL hd hl) ?_
  have hvl:vs'.length=net.length:=Paired.length pvs
  refine yR (xs:=vs') (fun i σ H1=>∃ o1 o2 f,σ=[some (.ref l),some (.ref dd),o1,o2]/\BI H H1 dd f (2 * i)/\vQ net i f/\∀ q,(f q).length<=2 * i) ⟨_,_,_,rfl,BI.start hd,vQ.zero,fun _=>le_refl _⟩ ?_ ?_ ?_
  ·rintro i σ H1 _ ⟨o1,o2,f,rfl,B,_⟩
   exact bX.of (B.same _ _ hl)
  ·rintro i x T0 σ H1 hx hT ⟨o1,o2,f,rfl,B,bs,hlf⟩
   have hi:i < net.length:=by
    have:=(List.getElem?_eq_some_iff.mp hx).1
    omega
   obtain ⟨r,hr,p,u,rfl,hp,fu⟩:=Paired.at pvs hx
   have hpd:p≠dd:=aA hp hd
   have B1:=B.alloc (o:=.tup [.int i,.ref p]) hT
   have hp1:=B1.same _ _ hp
   have hT2:upd H1 T0 (.tup [.int i,.ref p]) T0=some (.tup [.int i,.ref p]):=aB
   generalize upd H1 T0 (.tup [.int i,.ref p])=H2 at B1 hp1 hT2 ⊢
   obtain ⟨kvs1,a1,b1,c1,e1,g1⟩:=B1.ex
   w_fin
   refine cL fun l1 hl1=>?_
   w_fin
   refine pC (aL hl1 a1) (by omega) (fun u1 hu1=>?_) (fun hu1=>?_)
   ·obtain ⟨m1,rfl,hm1,xs1,hx1,px1⟩:=e1 _ _ hu1
    w_fin
    refine bZ fun t1 ht1=>?_
    w_fin
    have hxl1:=Paired.length px1
    have hfl1:=hlf r.1
    refine jI (aL ht1 (aL hl1 hx1)) (by omega) ?_
    have C1:=B1.more (p:=r.1) (x:=(i,r.2.1)) a1 hu1 hx1 hl1 ht1
    generalize upd (upd (upd H2 l1 _) t1 _) m1 _=H21 at C1 ⊢
    have hq1:=C1.same _ _ hp
    obtain ⟨kvs2,a2,b2,c2,e2,g2⟩:=C1.ex
    w_fin
    refine cL fun l2 hl2=>?_
    w_fin
    refine pC (aL hl2 a2) (by omega) (fun u2 hu2=>?_) (fun hu2=>?_)
    ·obtain ⟨m2,rfl,hm2,xs2,hx2,px2⟩:=e2 _ _ hu2
     w_fin
     refine bZ fun t2 ht2=>?_
     w_fin
     have hxl2:=Paired.length px2
     have hfl2:=(fB (p:=r.1) (x:=(i,r.2.1)) hlf) r.2.1
     refine jI (aL ht2 (aL hl2 hx2)) (by omega) ?_
     have C2:=C1.more (p:=r.2.1) (x:=(i,r.1)) a2 hu2 hx2 hl2 ht2
     generalize upd (upd (upd H21 l2 _) t2 _) m2 _=H212 at C2 ⊢
     have hq2:=C2.same _ _ hp
     w_fin
     exact ⟨_,_,_,rfl,C2,bs.next hr,fun q=>fB (fB hlf) q⟩
    ·have hdl2:l2≠dd:=fun z=>by subst z; rw [hl2] at a2; cases a2
     w_fin
     refine bZ fun t2 ht2=>?_
     w_fin
     refine jI (aL ht2 (iQ hdl2 aB)) (by decide) ?_
     have C2:=C1.new (p:=r.2.1) (x:=(i,r.1)) a2 hu2 hl2 ht2
     generalize upd (upd (upd (upd H21 l2 _) _ _) t2 _) l2 _=H212 at C2 ⊢
     have hq2:=C2.same _ _ hp
     w_fin
     exact ⟨_,_,_,rfl,C2,bs.next hr,fun q=>fB (fB hlf) q⟩
   ·have hdl1:l1≠dd:=fun z=>by subst z; rw [hl1] at a1; cases a1
    w_fin
    refine bZ fun t1 ht1=>?_
    w_fin
    refine jI (aL ht1 (iQ hdl1 aB)) (by decide) ?_
    have C1:=B1.new (p:=r.1) (x:=(i,r.2.1)) a1 hu1 hl1 ht1
    generalize upd (upd (upd (upd H2 l1 _) _ _) t1 _) l1 _=H21 at C1 ⊢
    have hq1:=C1.same _ _ hp
    obtain ⟨kvs2,a2,b2,c2,e2,g2⟩:=C1.ex
    w_fin
    refine cL fun l2 hl2=>?_
    w_fin
    refine pC (aL hl2 a2) (by omega) (fun u2 hu2=>?_) (fun hu2=>?_)
    ·obtain ⟨m2,rfl,hm2,xs2,hx2,px2⟩:=e2 _ _ hu2
     w_fin
     refine bZ fun t2 ht2=>?_
     w_fin
     have hxl2:=Paired.length px2
     have hfl2:=(fB (p:=r.1) (x:=(i,r.2.1)) hlf) r.2.1
     refine jI (aL ht2 (aL hl2 hx2)) (by omega) ?_
     have C2:=C1.more (p:=r.2.1) (x:=(i,r.1)) a2 hu2 hx2 hl2 ht2
     generalize upd (upd (upd H21 l2 _) t2 _) m2 _=H212 at C2 ⊢
     have hq2:=C2.same _ _ hp
     w_fin
     exact ⟨_,_,_,rfl,C2,bs.next hr,fun q=>fB (fB hlf) q⟩
    ·have hdl2:l2≠dd:=fun z=>by subst z; rw [hl2] at a2; cases a2
     w_fin
     refine bZ fun t2 ht2=>?_
     w_fin
     refine jI (aL ht2 (iQ hdl2 aB)) (by decide) ?_
     have C2:=C1.new (p:=r.2.1) (x:=(i,r.1)) a2 hu2 hl2 ht2
     generalize upd (upd (upd (upd H21 l2 _) _ _) t2 _) l2 _=H212 at C2 ⊢
     have hq2:=C2.same _ _ hp
     w_fin
     exact ⟨_,_,_,rfl,C2,bs.next hr,fun q=>fB (fB hlf) q⟩
  ·rintro σ H1 ⟨o1,o2,f,rfl,B,bs,hlf⟩
   rw [hvl] at bs hlf
   w_fin
   exact q dd H1 hd B.same (B.bes bs hlf)
theorem pQ (T:Bl mg) (d:Df K mg "post_called" iD ["number"]) (W:kH mg xt x1 x3 x4) (R_NoSum:bN K xt x1 x3 x4 x3 3) (R1:bN K xt x1 x3 x4 x1 1) (R4:bN K xt x1 x3 x4 x4 4) {tk_LETTERS:Tok} (g_LETTERS:mg "LETTERS"=some (.str "abcdefghijklmnopqrstuvwxyz" tk_LETTERS)):bJ P w K mg base (k+1) "post_called" ["number"] oY:=by
 refine bJ.of d eC (fun vs H Q E h=>?_) (fun f cdv A outer s H vs Q E hr h=>?_)
 ·obtain ⟨n,rfl,_⟩:=h
  rfl
 ·obtain ⟨n,rfl,hn,q⟩:=h
  refine ⟨_,(@aC _ _ _ _ _ (@aK _ _ (i:=1) _ _ _ _ eC.nd rfl (by w_left) (@cD _ _ _ _ _ _ _ eI (@hX _ _ (v:=(.str "abcdefghijklmnopqrstuvwxyz")) _ _ rfl g_LETTERS ⟨_,rfl⟩ (by decide)) (@aM _ _ _ _ _ _ _ _ dD (pv 0) (@bP _ _ _ _ _ _ _ _ _ jV rfl T.z_len gM (@dY _ _ _ (@hX _ _ (v:=(.str "abcdefghijklmnopqrstuvwxyz")) _ _ rfl g_LETTERS ⟨_,rfl⟩ (by decide)) (by rfl)) (by decide) (by decide) (by rfl) (by rfl))) (fun _ _=>rfl)) (by rfl) (by w_means)) (@aC _ _ _ _ _ (@iI _ _ _ _ _ _ PassesOwn.never (@aX _ _ _ _ _ _ _ _ YY (pv 0) (@bP _ _ _ _ _ _ _ _ _ jV rfl T.z_len gM (@dY _ _ _ (@hX _ _ (v:=(.str "abcdefghijklmnopqrstuvwxyz")) _ _ rfl g_LETTERS ⟨_,rfl⟩ (by decide)) (by rfl)) (by decide) (by decide) (by rfl) (by rfl)) (bB _)) (@aC _ _ _ _ _ (@aK _ _ (i:=0) _ _ _ _ eC.nd rfl (by w_left) (@aM _ _ _ _ _ _ _ _ bI (pv 0) (@bP _ _ _ _ _ _ _ _ _ jV rfl T.z_len gM (@dY _ _ _ (@hX _ _ (v:=(.str "abcdefghijklmnopqrstuvwxyz")) _ _ rfl g_LETTERS ⟨_,rfl⟩ (by decide)) (by rfl)) (by decide) (by decide) (by rfl) (by rfl))) (by rfl) (by w_means)) (@aF _ _ _ (@aK _ _ (i:=1) _ _ _ _ eC.nd rfl (by w_left) (@aM _ _ _ _ _ _ _ _ bY (@cD _ _ _ _ _ _ _ eI (@hX _ _ (v:=(.str "abcdefghijklmnopqrstuvwxyz")) _ _ rfl g_LETTERS ⟨_,rfl⟩ (by decide)) (@aM _ _ _ _ _ _ _ _ dD (pv 0) (@bP _ _ _ _ _ _ _ _ _ jV rfl T.z_len gM (@dY _ _ _ (@hX _ _ (v:=(.str "abcdefghijklmnopqrstuvwxyz")) _ _ rfl g_LETTERS ⟨_,rfl⟩ (by decide)) (by rfl)) (by decide) (by decide) (by rfl) (by rfl))) (fun _ _=>rfl)) (pv 1)) (by rfl) (by w_means))))) (@aF _ _ _ (@aS _ _ _ _ (pv 1))))),?_⟩
  have hL:(Str.length "abcdefghijklmnopqrstuvwxyz")=26:=NH
  have at':∀ m:Nat,m < 26->sZ (Str.ofString "abcdefghijklmnopqrstuvwxyz").cps.toList (m:Int)=some (97+m):=fun m h=>OJ h
  w_fin
  refine uB (by rw [hL,sizeLine_eq]; decide) ?_
  rw [hL]
  w_fin
  refine PQ (by rw [hL]; decide) (by rw [show (n:Int) % ((26:Nat):Int)=((n % 26:Nat):Int) by omega]; exact at' _ (mod_lt _ (by decide))) ?_
  w_fin
  refine uA (fun σ G=>∃ (m:Nat) (z:Str),σ=[some (.int m),some (.str z)]/\G=H/\((m=n/\z=QI (n % 26))∨(26<=n/\m=n / 26/\z=QI (n / 26)++QI (n % 26)))) (fun σ _=>match σ with|some (.int m)::_=>m.toNat|_=>0) ⟨n,_,rfl,rfl,.inl ⟨rfl,rfl⟩⟩ ?_
  rintro σ G ⟨m,z,rfl,rfl,hc⟩
  w_fin
  refine uB (by rw [hL,sizeLine_eq]; decide) ?_
  rw [hL]
  w_fin
  refine xI (fun c=>?_) (fun c=>?_)
  ·rcases hc with ⟨rfl,rfl⟩|⟨_,rfl,_⟩
   ·w_fin
    refine RB ?_
    w_fin
    refine uB (by rw [hL,sizeLine_eq]; decide) ?_
    rw [hL]
    w_fin
    rw [show Int.fdiv (m:Int) ((26:Nat):Int)=((m / 26:Nat):Int) by rw [Int.fdiv_eq_ediv_of_nonneg _ (by decide)]; omega]
    w_fin
    refine uB (by rw [hL,sizeLine_eq]; decide) ?_
    rw [hL]
    w_fin
    refine PQ (by rw [hL]; decide) (by rw [show ((m / 26:Nat):Int) % ((26:Nat):Int)=((m / 26:Nat):Int) by omega]; exact at' _ (by omega)) ?_
    w_fin
    refine ZY (show 1+1<=1000 by decide) ?_
    w_fin
    refine ⟨⟨m / 26,_,rfl,rfl,.inr ⟨by omega,rfl,rfl⟩⟩,?_⟩
    show ((m / 26:Nat):Int).toNat < (m:Int).toNat
    omega
   ·omega
  ·w_fin
   have hz:z=fG n:=by
    unfold fG
    rcases hc with ⟨rfl,rfl⟩|⟨h1,rfl,rfl⟩
    ·rw [if_pos (by omega),Nat.mod_eq_of_lt (by omega)]
    ·rw [if_neg (by omega)]
   rw [hz]
   exact q G (aI.refl _)
theorem mD (T:Bl mg) (d:Df K mg "rising_moments" cY ["show"]) (W:kH mg xt x1 x3 x4) (R_NoSum:bN K xt x1 x3 x4 x3 3) (R1:bN K xt x1 x3 x4 x1 1) (R4:bN K xt x1 x3 x4 x4 4) (o0k:bJ P w K mg base k "sorted_by" ["fractions","things"] (iR K)):bJ P w K mg base (k+1) "rising_moments" ["show"] vY:=by
 refine bJ.of d gY (fun vs H Q E h=>?_) (fun f cdv A outer s H vs Q E hr h=>?_)
 ·obtain ⟨d,sh,u,rfl,_⟩:=h
  rfl
 ·obtain ⟨d,sh,u,rfl,hu,hs,hnd,hm,h18,hT,q⟩:=h
  refine ⟨_,(@aC _ _ _ _ _ (@aK _ _ (i:=1) _ _ _ _ gY.nd rfl (by w_left) (@bP _ _ _ _ _ _ _ _ _ (zT rfl) rfl T.z_sorted nF (@dY _ _ _ (@iJ _ _ _ _ _ _ _ _ _ (FA rfl hr.units) rfl T.z_set KA (@dY _ _ _ (@pJ _ _ _ _ _ _ _ _ _ _ _ _ _ _ (@dA _ _ (sc:=aD cY) (N:=["show","moments"]) (tn:=["bell"]) (names:=["show"]) (is:=[0]) rfl rfl (by decide +kernel) (by decide +kernel) rfl (by decide +kernel) rfl (by decide +kernel) (by decide +kernel) (by decide +kernel)) rfl (pv 0) (fun _ _ _ _=>(@aP _ _ (i:=0) _ (show (["bell","show"]:List Str).Nodup by decide +kernel) rfl (Or.inl rfl) (Or.inr rfl))) (fun _ _ _ _=>(@bL _ _ _ _ _ _ hr.u1 (pv 1) (pv 0) (fun _ _=>rfl))) (fun _ _ _ _=>(@cV _)) (by intro _; rfl)) (by rfl)) (by decide) (by decide) (by rfl) (by rfl)) (by rfl)) (by decide) (by decide) (by rfl) (by rfl)) (by rfl) (by w_means)) (@aF _ _ _ (@aS _ _ _ _ (@aG _ _ _ _ _ _ _ _ _ _ o0k hr rfl (@dM _ _ _ _ _ (pv 1) (pv 1) (by rfl) (by rfl)) (by decide) (by rfl) (by rfl))))),?_⟩
  obtain ⟨kvs,hk,pk⟩:=hs
  have hlk:=Paired.length pk
  have ndk:=BA pk hnd
  w_fin
  refine uE d (iA.dK hk) ?_
  w_fin
  refine ⟨rfl,kvs,hk,fun o'=>?_⟩
  have hfz:L2.upd H d (.frz o' (.dK kvs)) d=some (.frz o' (.dK kvs)):=aB
  have back:∀ G',aI (L2.upd H d (.frz o' (.dK kvs))) G'->aI H (melt d G'):=fun G s=>mF hk s
  generalize L2.upd H d (.frz o' (.dK kvs))=HF at hfz back ⊢
  refine pE (by omega) (fun acc i ys G=>Kp acc HF G/\ys=(kvs.take i).map (·.2)) (fun acc h=>⟨Kp.new h,rfl⟩) ?_ ?_ ?_
  ·intro acc i ys G hacc _ ⟨kp,_⟩
   exact kp _ _ (aA hfz hacc) hfz
  ·rintro acc i ys G k0 v0 hacc hx hyl hG ⟨kp,rfl⟩
   have dG:=kp _ _ (aA hfz hacc) hfz
   w_fin
   refine pD (.inr ⟨o',dG⟩) (fX ndk hx) ?_
   w_fin
   refine gJ (List.getElem?_eq_some_iff.mp hx).1 hyl hG ⟨kp.trans Kp.upd,?_⟩
   rw [take_add_one,hx]
   simp
  ·rintro acc ys G hacc hG hyl ⟨kp,rfl⟩
   have sG:aI H (melt d G):=back G fun b o e=>kp _ _ (aA e hacc) e
   have hGm:melt d G acc=some (.lst ((kvs.take kvs.length).map (·.2))):=fI (fun _ _ z=>nomatch z) hG
   generalize melt d G=G1 at sG hGm ⊢
   rw [take_length] at hGm
   have pk1:=Pd.imp pk (G:=fun (kv:aH×V) (x:Str×Nat)=>kv.1=Sum.inr x.1/\cK G1 kv.2 (bD u x.2)) fun v x r=>⟨r.1,cK.same r.2 sG⟩
   obtain ⟨ts,ets,pt⟩:=AZ pk1
   rw [ets] at hGm
   have tl:=Paired.length pt
   have tat:∀ t∈ts,∃ m,VG u G1 t m:=fun t ht=>let ⟨x,_,r⟩:=yY pt ht; ⟨x.2,r⟩
   w_fin
   refine LZ (kf:=KZ G1) hGm (fun t ht=>?_) (by omega) fun l ps G2 hl sS gS h1 h2 h3=>?_
   ·obtain ⟨m,r⟩:=tat t ht
    rw [zL r]
    exact r
   have pl:ps.length<=18:=by
    have:=iZ h2 (m:=ts.map (KZ G1)) fun k hk=>by
     obtain ⟨q,hq,rfl⟩:=mem_map.mp hk
     exact List.mem_map_of_mem (h1 q hq)
    rw [length_map,length_map] at this
    omega
   w_fin
   refine GX (nf:=Bv G2) gS (fun t ht=>?_) (by omega) fun l2 qs G3 hl2 s3 g3 hp=>?_
   ·obtain ⟨m,r⟩:=tat t (h1 t ht)
    have r2:VG u G2 t m:=sS _ _ r
    rw [UO r2]
    exact ⟨r2,succ_pos _⟩
   obtain ⟨ms,p1,p2,p3⟩:=RL hu pt h1 h2 h3 hp
   have sA:=(sG.trans sS).trans s3
   have s13:=sS.trans s3
   have hq3:LQ cK G3 l2 (ms.map (bD u)):=⟨_,g3,oF (fun t m r=>⟨t,rfl,s13 _ _ r⟩) p1⟩
   have hml:ms.length<=18:=by
    have:=Paired.length p1
    have:=hp.length_eq
    omega
   have t3:=fL.same hT sA
   w_fin
   refine ⟨l2,ms,u,rfl,hu,hq3,fun m hm'=>?_,by omega,t3,fun p H' ns hp' k' t' pn sn hq=>?_⟩
   ·obtain ⟨x,hx,rfl⟩:=(p3 m).mp hm'
    exact hm x hx
   w_fin
   refine q p H' ns (sA.free hp') (sA.kp.trans k') t' ?_ (fun m=>by rw [pn.mem_iff]; exact p3 m) hq
   exact (sn.and (pn.nodup_iff.mpr p2)).imp fun h=>by omega
theorem wS (T:Bl mg) (d:Ax K mg "made_net" dO ["box","show","double"] [.bl false] 2 ["double"]) (W:kH mg xt x1 x3 x4) (R_NoSum:bN K xt x1 x3 x4 x3 3) (R1:bN K xt x1 x3 x4 x1 1) (R4:bN K xt x1 x3 x4 x4 4) {tk_MOST_RUNS:Tok} (g_MOST_RUNS:mg "MOST_RUNS"=some (.int 120 tk_MOST_RUNS)) (o0f:bJ P w K mg base k "post_called" ["number"] oY) (o0b:bJ P w K mg base k "rising_moments" ["show"] vY) (o0p:bJ P w K mg base k "lessened" ["one","other"] GG) (o0s:qN P w K mg base k "made_of" ["box","time"] [] (GF K x3)):kS P w K mg base (k+1) "made_net" ["box","show","double"] [.bl false] 2 ["double"] (tN K x1 x3 x4):=by
 refine kS.of d bG (fun vs H Q E h=>?_) (fun f cdv A outer s H vs Q E hr h=>?_)
 ·obtain ⟨l,ms,u,ds,sh,tw,rfl,_⟩:=h
  rfl
 ·obtain ⟨l,ms,u,ds,sh,tw,rfl,hu,hl,hp,hm,h1,h64,hs,hnd,hsm,h18,hT,q1,q2,q3,q4⟩:=h
  refine ⟨_,(@aC _ _ _ _ _ (@aK _ _ (i:=3) _ _ _ _ bG.nd rfl (by w_left) (@bV _ _ _ _ (@eV _)) (by rfl) (by w_means)) (@aC _ _ _ _ _ (@aK _ _ (i:=4) _ _ _ _ bG.nd rfl (by w_left) (@HW _ _) (by rfl) (by w_means)) (@aC _ _ _ _ _ (@aK _ _ (i:=5) _ _ _ _ bG.nd rfl (by w_left) (@bH _ _ _ _ _ (@dM _ _ _ _ _ (@aE _ _ _ _) (@aE _ _ _ _) (by rfl) (by rfl))) (by rfl) (by w_means)) (@aC _ _ _ _ _ (@dS _ _ _ _ _ _ _ _ PassesOwn.leaving rfl (@cH _ _ _ _ (@aG _ _ _ _ _ _ _ _ _ _ o0b hr rfl (@dY _ _ _ (pv 1) (by rfl)) (by decide) (by rfl) (by rfl))) (@aP _ _ (i:=6) _ bG.nd rfl (by w_left) (by w_means)) (@aC _ _ _ _ _ (@fS _ _ _ _ (@jQ _ _ _ _ _ _ _ _ _ _ _ _ plainAttrs_list PySem.F.slot_list_extend PySem.F.type_list_extend sJ (pv 3) (@dY _ _ _ (@wM _ _ _ _ _ _ _ _ _ _ _ _ o0s hr rfl YU (@dM _ _ _ _ _ (pv 0) (@aG _ _ _ _ _ _ _ _ _ _ o0p hr rfl (@dM _ _ _ _ _ (pv 6) (pv 5) (by rfl) (by rfl)) (by decide) (by rfl) (by rfl)) (by rfl) (by rfl)) (by decide) (by rfl) (by rfl)) (by rfl)) (by rfl) (by rfl) (by rfl) (by rfl) (by rfl)) (by rfl)) (@aC _ _ _ _ _ (@lZ _ _ _ _ _ _ _ _ _ hr.u1 (pv 4) (pv 6) (@bP _ _ _ _ _ _ _ _ _ jV rfl T.z_len gM (@dY _ _ _ (pv 3) (by rfl)) (by decide) (by decide) (by rfl) (by rfl)) rfl) (@aF _ _ _ (@aK _ _ (i:=5) _ _ _ _ bG.nd rfl (by w_left) (pv 6) (by rfl) (by w_means))))) (by intro _; rfl)) (@aC _ _ _ _ _ (@aK _ _ (i:=7) _ _ _ _ bG.nd rfl (by w_left) (@pI _ _ _ _ _ _ _ _ (@lC _ _ _ (pv 2) (by intro _; rfl)) (@aE _ _ _ _) (@aE _ _ _ _)) (by rfl) (by w_means)) (@aC _ _ _ _ _ (@fF _ _ _ _ _ _ _ _ (@aX _ _ _ _ _ _ _ _ BU (@aM _ _ _ _ _ _ _ _ bE (@bP _ _ _ _ _ _ _ _ _ jV rfl T.z_len gM (@dY _ _ _ (pv 3) (by rfl)) (by decide) (by decide) (by rfl) (by rfl)) (pv 7)) (@hX _ _ (v:=(.int 120)) _ _ rfl g_MOST_RUNS ⟨_,rfl⟩ (by decide)) (bB _)) (@aF _ _ _ (@nD _ _ _ _ _ _ _ _ _ _ (fun _ _ _ _ _ _ _ _ I m q=>yA I m q) rfl rfl W.m_TooMany R4.e (@dY _ _ _ (@SY _ _ _ _ _ _ (@uL _ _ _ _ _ (@fO _ _ _ _) (@uL _ _ _ _ _ (@SZ _ _ _ _ (@hX _ _ (v:=(.int 120)) _ _ rfl g_MOST_RUNS ⟨_,rfl⟩ (by decide))) (@uL _ _ _ _ _ (@fO _ _ _ _) (@SV _)))) (by decide)) (by rfl)) (by decide) (by rfl) (by rfl))) (@cC _)) (@aC _ _ _ _ _ (@fF _ _ _ _ _ _ _ _ (@yW _ _ _ _ (@yV _ _ _ (pv 3) (by intro _; rfl))) (@aF _ _ _ (@nD _ _ _ _ _ _ _ _ _ _ (fun _ _ _ _ _ _ _ _ I m q=>yA I m q) rfl rfl W.m_NoNet R1.e (@dY _ _ _ (@fO _ _ _ _) (by rfl)) (by decide) (by rfl) (by rfl))) (@cC _)) (@aC _ _ _ _ _ (@aK _ _ (i:=8) _ _ _ _ bG.nd rfl (by w_left) (@bV _ _ _ _ (@eV _)) (by rfl) (by w_means)) (@aC _ _ _ _ _ (@dS _ _ _ _ _ _ _ _ PassesOwn.leaving rfl (@uM _ _ _ _ _ _ _ _ rfl T.z_enumerate (@dY _ _ _ (pv 3) (by rfl)) (by rfl)) (@jP _ _ _ _ _ (n:=2) rfl (@bO _ _ _ _ _ (@aP _ _ (i:=9) _ bG.nd rfl (by w_left) (by w_means)) (@bO _ _ _ _ _ (@aP _ _ (i:=10) _ bG.nd rfl (by w_left) (by w_means)) (@hV _) (by rfl)) (by rfl)) (by rfl) (by rfl)) (@aF _ _ _ (@fS _ _ _ _ (@jQ _ _ _ _ _ _ _ _ _ _ _ _ plainAttrs_list PySem.F.slot_list_extend PySem.F.type_list_extend sJ (pv 8) (@dY _ _ _ (@aM _ _ _ _ _ _ _ _ TH (@bV _ _ _ _ (@dY _ _ _ (@bH _ _ _ _ _ (@zA _ _ _ _ _ _ _ (@aG _ _ _ _ _ _ _ _ _ _ o0f hr rfl (@dY _ _ _ (pv 9) (by rfl)) (by decide) (by rfl) (by rfl)) (@aG _ _ _ _ _ _ _ _ _ _ o0f hr rfl (@dY _ _ _ (@aM _ _ _ _ _ _ _ _ bY (pv 9) (@aE _ _ _ _)) (by rfl)) (by decide) (by rfl) (by rfl)) (pv 10) (by rfl) (by rfl) (by rfl))) (by rfl))) (pv 7)) (by rfl)) (by rfl) (by rfl) (by rfl) (by rfl) (by rfl)) (by rfl))) (by intro _; rfl)) (@aC _ _ _ _ _ (@aK _ _ (i:=11) _ _ _ _ bG.nd rfl (by w_left) (@iJ _ _ _ _ _ _ _ _ _ (lI rfl) rfl T.z_dict vJ (@dY _ _ _ (@pJ _ _ _ _ _ _ _ _ _ _ _ _ _ _ (@dA _ _ (sc:=aD dO) (N:=["box","show","double","times","ends","ahead","moment","times_over","net","number","time","hung"]) (tn:=["bell"]) (names:=["show","ends"]) (is:=[1,4]) rfl rfl (by decide +kernel) (by decide +kernel) rfl (by decide +kernel) rfl (by decide +kernel) (by decide +kernel) (by decide +kernel)) rfl (pv 1) (fun _ _ _ _=>(@aP _ _ (i:=0) _ (show (["bell","show","ends"]:List Str).Nodup by decide +kernel) rfl (Or.inl rfl) (Or.inr rfl))) (fun _ _ _ _=>(@bH _ _ _ _ _ (@dM _ _ _ _ _ (pv 0) (@aG _ _ _ _ _ _ _ _ _ _ o0f hr rfl (@dY _ _ _ (@bL _ _ _ _ _ _ hr.u1 (pv 2) (@bL _ _ _ _ _ _ hr.u1 (pv 1) (pv 0) (fun _ _=>rfl)) (fun _ _=>rfl)) (by rfl)) (by decide) (by rfl) (by rfl)) (by rfl) (by rfl)))) (fun _ _ _ _=>(@cV _)) (by intro _; rfl)) (by rfl)) (by decide) (by decide) (by rfl) (by rfl)) (by rfl) (by w_means)) (@aF _ _ _ (@aS _ _ _ _ (@bH _ _ _ _ _ (@dM _ _ _ _ _ (pv 8) (pv 11) (by rfl) (by rfl))))))))))))))),?_⟩
  w_fin
  refine nB fun p3 H3 hp3 s3 g3=>?_
  w_fin
  refine MK fun p4 hp4=>?_
  have s4:=s3.trans (aI.new (o:=.dT []) hp4)
  have g34:L2.upd H3 p4 (.dT []) p3=_:=aL hp4 g3
  have g4:=aB (H:=H3) (a:=p4) (o:=.dT [])
  generalize L2.upd H3 p4 (.dT [])=H4 at s4 g34 g4 ⊢
  w_fin
  refine bZ fun p5 hp5=>?_
  have s5:=s4.trans (aI.new (o:=.tup [.int 0,.int 1]) hp5)
  have g35:L2.upd H4 p5 (.tup [.int 0,.int 1]) p3=_:=aL hp5 g34
  have g45:L2.upd H4 p5 (.tup [.int 0,.int 1]) p4=_:=aL hp5 g4
  have g5:=aB (H:=H4) (a:=p5) (o:=.tup [.int 0,.int 1])
  generalize L2.upd H4 p5 (.tup [.int 0,.int 1])=H5 at s5 g35 g45 g5 ⊢
  have t5:=fL.same hT s5
  w_fin
  refine ⟨ds,sh,u,rfl,hu,AE.sm hs s5,hnd,fun x hx=>by have:=hsm x hx; omega,h18,t5,fun lr H6 ns hlr k6 t6 hns hmem hq6=>?_⟩
  have g36:=kT k6 t5 g35 (fun _ z=>by cases z)
  have g46:=kT k6 t5 g45 (fun _ z=>by cases z)
  have g56:=kT k6 t5 g5 (fun _ z=>by cases z)
  have hp3n:H p3=none:=hp3
  have hp4n:H p4=none:=s3.free hp4
  have k06:Kp tT H H6:=s5.kp.trans k6
  obtain ⟨mv,hmv,pmv⟩:=hq6
  have lmv:=Paired.length pmv
  rw [length_map] at lmv
  have msh:LD sh ns:=⟨hns,hmem⟩
  have nsl:ns.length<=18:=by
   have:=iZ (hns.imp fun h=>ne_of_lt h) (m:=sh.map (·.2)) fun m hm'=>by
    obtain ⟨x,hx,e⟩:=(hmem m).mp hm'
    exact mem_map.mpr ⟨x,hx,e⟩
   rw [length_map] at this
   omega
  have ns9:∀ m∈ns,m<=900:=fun m hm'=>by obtain ⟨x,hx,rfl⟩:=(hmem m).mp hm'; exact hsm x hx
  w_fin
  refine cG (bX.of hmv) ?_
  refine nC (xs:=mv) (fun i σ G=>∃ (a:Nat) (T:List Nat) (es:List (Nat×Nat)) (va:V) (o6 o7 o8 o9 o10 o11:Option V),σ=[some (.ref l),some (.ref ds),some (.bl tw),some (.ref p3),some (.ref p4),some va,o6,o7,o8,o9,o10,o11]/\Kp tT H G/\LT G/\G lr=some (.lst mv)/\TK H6 G/\LQ cK G p3 (T.map (bD u))/\G p4=some (.dT (hZ u es))/\cK G va (bD u a)/\jW ms (ns.take i) a T es)
   ⟨0,[],[],_,_,_,_,_,_,_,rfl,k06,t6,hmv,fun _ _ h=>h,⟨[],g36,.nil⟩,g46,⟨p5,rfl,by rw [lQ hu]; exact g56⟩,.nil⟩ ?_ ?_ ?_
  ·rintro i σ G hi ⟨a,T,es,va,o6,o7,o8,o9,o10,o11,rfl,kG,tG,hlG,_⟩
   exact bX.of hlG
  ·rintro i x σ G hx ⟨a,T,es,va,o6,o7,o8,o9,o10,o11,rfl,kG,tG,hlG,tk,h3,h4,ha,hM⟩
   obtain ⟨fx,hfx,tx,rfl,gx⟩:=Paired.at pmv hx
   rw [List.getElem?_map] at hfx
   obtain ⟨n,hn,rfl⟩:=Option.map_eq_some_iff.mp hfx
   have hnm:=mem_of_getElem? hn
   have hn9:=ns9 n hnm
   have gxG:=tk _ _ gx
   have hil:i < ns.length:=(List.getElem?_eq_some_iff.mp hn).1
   have ens:ns=ns.take i++n::ns.drop (i+1):=by
    have e2:n=ns[i]:=by rw [List.getElem?_eq_getElem hil] at hn; exact (Option.some.inj hn).symm
    rw [e2,← List.drop_eq_getElem_cons hil,take_append_drop]
   have htk:ns.take (i+1)=ns.take i++[n]:=by rw [take_add_one,hn]; rfl
   have hlt:∀ m∈ns.take i,m < n:=fun m hm'=>by
    rw [ens] at hns
    exact (List.pairwise_append.mp hns).2.2 m hm' n mem_cons_self
   have han:a<=n:=by
    rcases hM.last with ⟨_,e⟩|e
    ·omega
    ·exact le_of_lt (hlt a e)
   have hlen:=hM.len
   obtain ⟨v30,g30,p30⟩:=h3
   w_fin
   refine ⟨.ref tx,va,qm u n,qm u a,rfl,(CC hu).mp ⟨tx,rfl,gxG⟩,(CC hu).mp ha,OR hu (by omega),OR hu (by omega),fun v G1 fv s1=>?_⟩
   rw [yT hu han] at fv
   obtain ⟨tq,rfl,gq⟩:=(CC hu).mpr fv
   have t1:=fL.same tG s1
   have k1:Kp tT H G1:=kG.trans s1.kp
   refine ⟨l,ms,u,n - a,tq,rfl,hu,LQ.tk hl k1 hT,⟨tq,rfl,gq⟩,hp,hm,by omega,h1,h64,t1,fun hno G2 k2 t2=>?_,fun L l' G2 hL hl' k2 t2 hq=>?_⟩
   ·exact q1 _ n _ a T es G2 (by rw [← ens]; exact msh) hM hno (k1.trans k2) t2
   have kG2:Kp tT G G2:=s1.kp.trans k2
   obtain ⟨v3,g3',p3'⟩:=LQ.tk ⟨v30,g30,p30⟩ kG2 tG
   obtain ⟨wl,gl',pl'⟩:=hq
   have l3:=Paired.length p3'
   have ll:=Paired.length pl'
   rw [length_map] at l3 ll
   have hLl:=hL.len
   w_fin
   refine PU g3' gl' (by omega) ?_
   have g42:=kT kG2 tG h4 (fun _ z=>by cases z)
   have glr:=kT kG2 tG hlG (fun _ z=>by cases z)
   have ne34:p4≠p3:=cP g42 g3' (by intro z; cases z)
   have tkU:TK G2 (L2.upd G2 p3 (.lst (v3++wl))):=TK.lst g3'
   have k3:Kp tT H (L2.upd G2 p3 (.lst (v3++wl))):=(k1.trans k2).ou hp3n
   have t3:LT (L2.upd G2 p3 (.lst (v3++wl))):=LT.lst t2 g3'
   have tkk:TK H6 (L2.upd G2 p3 (.lst (v3++wl))):=fun b xs h=>tkU _ _ (kT kG2 tG (tk _ _ h) (fun _ z=>by cases z))
   have g33:L2.upd G2 p3 (.lst (v3++wl)) p3=_:=aB
   have g43:L2.upd G2 p3 (.lst (v3++wl)) p4=_:=(aJ ne34).trans g42
   have nlr:lr≠p3:=fun z=>by subst z; rw [g35] at hlr; cases hlr
   have glr3:L2.upd G2 p3 (.lst (v3++wl)) lr=_:=(aJ nlr).trans glr
   have q33:Paired (cK (L2.upd G2 p3 (.lst (v3++wl)))) (v3++wl) ((T++L).map (bD u)):=by
    rw [map_append]
    exact Pd.app (Pd.imp p3' fun v f x=>let ⟨q,e,g⟩:=x; ⟨q,e,tkU _ _ g⟩) (Pd.imp pl' fun v f x=>let ⟨q,e,g⟩:=x; ⟨q,e,tkU _ _ g⟩)
   generalize L2.upd G2 p3 (.lst (v3++wl))=G3 at k3 t3 tkk g33 g43 glr3 q33 ⊢
   have gx3:=tkk _ _ gx
   have el:((v3++wl).length:Int)=((T++L).length:Nat):=by rw [length_append,length_append,l3,ll]
   have hnot:n∉es.map (·.1):=by
    rw [hM.keys]
    intro z
    exact absurd (hlt n z) (lt_irrefl _)
   have hel:es.length<=18:=by
    have e2:=congrArg List.length hM.keys
    rw [length_map,length_take] at e2
    omega
   w_fin
   refine XW (k:=FM (bD u n)) g43 gx3 (by unfold hZ; rw [length_map]; omega) ?_
   rw [el,JS hu hnot]
   have k4:=k3.ou (o:=.dT (hZ u (es++[(n,(T++L).length)]))) hp4n
   have t4:=LT.dT (ys:=hZ u (es++[(n,(T++L).length)])) t3 g43
   have tk4:TK G3 (L2.upd G3 p4 (.dT (hZ u (es++[(n,(T++L).length)])))):=fun b xs h=>by rw [aJ (cP h g43 (by intro z; cases z))]; exact h
   have g44:L2.upd G3 p4 (.dT (hZ u (es++[(n,(T++L).length)]))) p4=_:=aB
   have g34':L2.upd G3 p4 (.dT (hZ u (es++[(n,(T++L).length)]))) p3=_:=(aJ (Ne.symm ne34)).trans g33
   have nl4:lr≠p4:=fun z=>by subst z; rw [g45] at hlr; cases hlr
   have glr4:L2.upd G3 p4 (.dT (hZ u (es++[(n,(T++L).length)]))) lr=_:=(aJ nl4).trans glr3
   generalize L2.upd G3 p4 (.dT (hZ u (es++[(n,(T++L).length)])))=G4 at k4 t4 tk4 g44 g34' glr4 ⊢
   w_fin
   exact ⟨n,T++L,_,.ref tx,_,_,_,_,_,_,rfl,k4,t4,glr4,fun b xs h=>tk4 _ _ (tkk _ _ h),⟨_,g34',Pd.imp q33 fun v f x=>let ⟨q,e,g⟩:=x; ⟨q,e,tk4 _ _ g⟩⟩,g44,⟨tx,rfl,tk4 _ _ gx3⟩,by rw [htk]; exact .snoc hM han hL⟩
  ·rintro σ G ⟨a,T,es,va,o6,o7,o8,o9,o10,o11,rfl,kG,tG,hlG,tk,⟨v3,g3',p3'⟩,h4,ha,hM⟩
   rw [lmv,take_length] at hM
   have hlen:=hM.len
   have l3:=Paired.length p3'
   rw [length_map] at l3
   refine XE ?_
   refine GY ?_
   refine PX (fun σ F=>σ=[some (.ref l),some (.ref ds),some (.bl tw),some (.ref p3),some (.ref p4),some va,o6,some (.int (lN tw)),o8,o9,o10,o11]/\F=G) ?_ ?_
   ·rintro σ F ⟨rfl,rfl⟩
    have tw2:1<=lN tw/\lN tw<=2:=by cases tw <;> decide
    have ha9:a<=900:=by
     rcases hM.last with ⟨_,e⟩|e
     ·omega
     ·exact ns9 a e
    have sm1:Sm 60000000 (v3.length:Int):=Sm.mono (m:=100) (Sm.of (by omega) (by show (v3.length:Int) < ((2 ^ 100:Nat):Int); omega)) (by decide)
    have sm2:Sm 60000000 (lN tw:Int):=Sm.mono (m:=100) (Sm.of (by omega) (by show (lN tw:Int) < ((2 ^ 100:Nat):Int); omega)) (by decide)
    w_fin
    rw [l3,← Int.natCast_mul]
    refine xI (fun c=>?_) (fun c=>?_)
    ·w_fin
     refine XT (i:=120) (by decide) fun z hz=>?_
     w_fin
     exact fun _=>And.intro (show 1<=sizeLine by rw [sizeLine_eq]; decide) (q2 ns a T es F msh hM (by omega) kG tG)
    have c120:T.length * lN tw<=120:=by omega
    have tl120:T.length<=120:=le_trans (Nat.le_mul_of_pos_right _ (by omega)) c120
    w_fin
    cases T with
   |nil =>
     cases p3'
     refine ⟨false,.inl ⟨_,bX.of g3',rfl⟩,?_⟩
     w_fin
     exact And.intro (show 1<=sizeLine by rw [sizeLine_eq]; decide) (q3 ns a es F msh hM kG tG)
   |cons t0 tr =>
    have hT0:t0::tr≠[]:=List.cons_ne_nil _ _
    generalize t0::tr=T at *
    have hv0:v3≠[]:=fun z=>by
     rw [z] at l3
     exact hT0 (length_eq_zero_iff.mp l3.symm)
    refine ⟨true,.inl ⟨_,bX.of g3',by cases v3 with
    |nil=>exact absurd rfl hv0
    |cons _ _=>rfl⟩,?_⟩
    w_fin
    refine cL fun p8 hp8=>?_
    have hp8H:H p8=none:=VQ kG tG hp8
    obtain ⟨F8,zE,s8,g8⟩:=ZC hp8 (.lst [])
    rw [zE]
    have t8:=fL.same tG s8
    have g38:=s8 _ _ g3'
    have g48:=s8 _ _ h4
    have pv8:=Pd.imp p3' (G:=cK F8) fun v f x=>cK.same x s8
    have k8:Kp tT H F8:=kG.trans s8.kp
    have n38:p3≠p8:=fun z=>by subst z; rw [hp8] at g3'; cases g3'
    have n48:p4≠p8:=fun z=>by subst z; rw [hp8] at h4; cases h4
    w_fin
    refine ⟨p3,rfl,⟨_,bX.of g38⟩,?_⟩
    refine yR (xs:=v3) (fun i σ G=>∃ (o9 o10 o11:Option V) (rv:List V),σ=[some (.ref l),some (.ref ds),some (.bl tw),some (.ref p3),some (.ref p4),some va,o6,some (.int (lN tw)),some (.ref p8),o9,o10,o11]/\Kp tT H G/\LT G/\G p3=some (.lst v3)/\G p4=some (.dT (hZ u es))/\TK F8 G/\G p8=some (.lst rv)/\Paired (VI u G) rv (qU (T.take i) (lN tw)))
     ⟨_,_,_,[],rfl,k8,t8,g38,g48,fun _ _ h=>h,g8,.nil⟩ ?_ ?_ ?_
    ·rintro i σ G hi ⟨o9,o10,o11,rv,rfl,_,_,hg3,_⟩
     exact bX.of hg3
    ·rintro i x T' σ G hx hT' ⟨o9,o10,o11,rv,rfl,kG1,tG1,hg3,hg4,tk1,hg8,prv⟩
     obtain ⟨fx,hfx,tx,rfl,gx⟩:=Paired.at pv8 hx
     rw [List.getElem?_map] at hfx
     obtain ⟨m,hm9,rfl⟩:=Option.map_eq_some_iff.mp hfx
     have hi:i < T.length:=(List.getElem?_eq_some_iff.mp hm9).1
     obtain ⟨G2,zE,s2,ht2⟩:=ZC hT' (.tup [.int i,.ref tx])
     rw [zE]
     have gxG:=s2 _ _ (tk1 _ _ gx)
     have hg82:=s2 _ _ hg8
     w_fin
     refine ⟨i,rfl,by omega,fun G3 s3=>?_⟩
     w_fin
     refine ⟨i+1,by rw [Int.natCast_succ],by omega,fun G4 s4=>?_⟩
     have s24:=(s2.trans s3).trans s4
     w_fin
     refine bZ fun t5 ht5=>?_
     have s5:=s24.trans (aI.new (o:=.tup [.str (fG i),.str (fG (i+1)),.ref tx]) ht5)
     have g5:=aB (H:=G4) (a:=t5) (o:=.tup [.str (fG i),.str (fG (i+1)),.ref tx])
     generalize L2.upd G4 t5 (.tup [.str (fG i),.str (fG (i+1)),.ref tx])=G5 at s5 g5 ⊢
     w_fin
     refine cL fun p6 hp6=>?_
     have s6:=s5.trans (aI.new (o:=.lst [.ref t5]) hp6)
     have g56:L2.upd G5 p6 (.lst [.ref t5]) t5=_:=aL hp6 g5
     have g6:=aB (H:=G5) (a:=p6) (o:=.lst [.ref t5])
     generalize L2.upd G5 p6 (.lst [.ref t5])=G6 at s6 g56 g6 ⊢
     w_fin
     refine ⟨p6,(lN tw:Int),[.ref t5],rfl,rfl,g6,by omega,by omega,by rw [sizeLine_eq]; show 1 * _<=_; omega,fun p7 hp7=>?_⟩
     rw [BE,Int.toNat_natCast]
     have s7:=s6.trans (aI.new (o:=.lst (List.replicate (lN tw) (.ref t5))) hp7)
     have g57:L2.upd G6 p7 (.lst (List.replicate (lN tw) (.ref t5))) t5=_:=aL hp7 g56
     have g7:=aB (H:=G6) (a:=p7) (o:=.lst (List.replicate (lN tw) (.ref t5)))
     generalize L2.upd G6 p7 (.lst (List.replicate (lN tw) (.ref t5)))=G7 at s7 g57 g7 ⊢
     w_fin
     have lrv:=Paired.length prv
     rw [jR] at lrv
     have ltk:(T.take i).length * lN tw<=T.length * lN tw:=Nat.mul_le_mul_right _ (by rw [length_take]; omega)
     have g87:=s7 _ _ hg8
     refine PU g87 g7 (by rw [length_replicate]; omega) ?_
     have tkU:TK G7 (L2.upd G7 p8 (.lst (rv++List.replicate (lN tw) (.ref t5)))):=TK.lst g87
     have kU:Kp tT H (L2.upd G7 p8 (.lst (rv++List.replicate (lN tw) (.ref t5)))):=(kG1.trans s7.kp).ou hp8H
     have tU:LT (L2.upd G7 p8 (.lst (rv++List.replicate (lN tw) (.ref t5)))):=LT.lst (fL.same tG1 s7) g87
     have gU:L2.upd G7 p8 (.lst (rv++List.replicate (lN tw) (.ref t5))) p8=_:=aB
     have gU3:L2.upd G7 p8 (.lst (rv++List.replicate (lN tw) (.ref t5))) p3=_:=(aJ n38).trans (s7 _ _ hg3)
     have gU4:L2.upd G7 p8 (.lst (rv++List.replicate (lN tw) (.ref t5))) p4=_:=(aJ n48).trans (s7 _ _ hg4)
     generalize L2.upd G7 p8 (.lst (rv++List.replicate (lN tw) (.ref t5)))=G8 at tkU kU tU gU gU3 gU4 ⊢
     have tkA:TK G G8:=fun b xs h=>tkU _ _ (s7 _ _ h)
     w_fin
     refine ⟨_,_,_,_,rfl,kU,tU,gU3,gU4,fun b xs h=>tkA _ _ (tk1 _ _ h),gU,?_⟩
     rw [show T.take (i+1)=T.take i++[m] by rw [take_add_one,hm9]; rfl,DY]
     refine Pd.app (Pd.imp prv fun v x r=>r.tk tkA) (IA ⟨t5,tx,rfl,?_,tkA _ _ (tk1 _ _ gx)⟩ _)
     rw [show (T.take i).length=i by rw [length_take]; omega]
     exact tkU _ _ g57
    ·rintro σ G ⟨o9,o10,o11,rv,rfl,kG1,tG1,hg3,hg4,tk1,hg8,prv⟩
     rw [l3,take_length] at prv
     obtain ⟨kvs,hk,pk⟩:=AE.tk hs kG1 hT
     have hlk:=Paired.length pk
     have ndk:=BA pk hnd
     w_fin
     refine uE ds (iA.dK hk) ?_
     w_fin
     refine ⟨rfl,kvs,hk,fun o'=>?_⟩
     have hfz:L2.upd G ds (.frz o' (.dK kvs)) ds=some (.frz o' (.dK kvs)):=aB
     have back:∀ G',aI (L2.upd G ds (.frz o' (.dK kvs))) G'->aI G (melt ds G'):=fun G s=>mF hk s
     have tkF:TK G (L2.upd G ds (.frz o' (.dK kvs))):=TK.dic hk
     have g4F:L2.upd G ds (.frz o' (.dK kvs)) p4=_:=(aJ (cP hg4 hk (by intro z; cases z))).trans hg4
     generalize L2.upd G ds (.frz o' (.dK kvs))=HF at hfz back tkF g4F ⊢
     have hvl:(eJ sh es).length=sh.length:=by unfold eJ; rw [length_map]
     refine pE (by omega) (fun acc i ys G'=>Kp acc HF G'/\mS G' ys ((eJ sh es).take i)) (fun acc h=>⟨Kp.new h,.nil⟩) ?_ ?_ ?_
     ·intro acc i ys G' hacc _ ⟨kp,_⟩
      exact kp _ _ (aA hfz hacc) hfz
     ·rintro acc i ys G' k0 v0 hacc hx hyl hG ⟨kp,pr⟩
      have dG:=kp _ _ (aA hfz hacc) hfz
      have g4G:=kp _ _ (aA g4F hacc) g4F
      obtain ⟨x,hxs,ek,tq,rfl,gq⟩:=Paired.at pk hx
      have gqG:=kp _ _ (aA (tkF _ _ gq) hacc) (tkF _ _ gq)
      have xm:x.2∈es.map (·.1):=by
       rw [hM.keys]
       exact (hmem _).mpr ⟨x,mem_of_getElem? hxs,rfl⟩
      obtain ⟨c1,e1,e2,e3⟩:=xL hu xm
      have hc1:=hM.le _ e2
      have hvx:(eJ sh es)[i]?=some (Sum.inr x.1,V.str (fG c1)):=by
       unfold eJ
       rw [List.getElem?_map,hxs]
       show some (Sum.inr x.1,V.str (fG ((es.lookup x.2).getD 0)))=_
       rw [e1]
       rfl
      cases (show k0=Sum.inr x.1 from ek)
      w_fin
      refine jN (.inr ⟨o',dG⟩) (fX ndk hx) ?_
      w_fin
      refine YA (k:=FM (bD u x.2)) (.inl g4G) gqG e3 ?_
      w_fin
      refine ⟨c1,rfl,by have:c1<=T.length:=hc1; omega,fun G2 s2=>?_⟩
      w_fin
      refine bZ fun t5 ht5=>?_
      have s5:=s2.trans (aI.new (o:=.tup [kV (Sum.inr x.1),.str (fG c1)]) ht5)
      have g5:=aB (H:=G2) (a:=t5) (o:=.tup [kV (Sum.inr x.1),.str (fG c1)])
      generalize L2.upd G2 t5 (.tup [kV (Sum.inr x.1),.str (fG c1)])=G5 at s5 g5 ⊢
      have hG5:=s5 _ _ hG
      refine gJ (List.getElem?_eq_some_iff.mp hx).1 hyl hG5 ⟨(kp.trans s5.kp).trans Kp.upd,?_⟩
      have tkU:TK G5 (L2.upd G5 acc (.lst (ys++[.ref t5]))):=TK.lst hG5
      rw [take_add_one,hvx]
      exact Pd.snoc (Pd.imp pr fun v kv ⟨a,e,g⟩=>⟨a,e,tkU _ _ (s5 _ _ g)⟩) ⟨t5,rfl,tkU _ _ g5⟩
     ·rintro acc ys G' hacc hG hyl ⟨kp,pr⟩
      have sG:aI G (melt ds G'):=back G' fun b o e=>kp _ _ (aA e hacc) e
      have hGm:melt ds G' acc=some (.lst ys):=fI (fun _ _ z=>nomatch z) hG
      have pr2:mS (melt ds G') ys ((eJ sh es).take kvs.length):=Pd.imp pr fun v kv ⟨a,e,g⟩=>⟨a,e,TK.melt _ _ g⟩
      generalize melt ds G'=G1 at sG hGm pr2 ⊢
      rw [take_of_length_le (by omega)] at pr2
      w_fin
      refine ⟨acc,ys,eJ sh es,rfl,hGm,pr2,by omega,fun dh hdh=>?_⟩
      rw [jZ (by rw [nil_append]; exact vA hnd),nil_append]
      have sd:=sG.trans (aI.new (o:=.dK (eJ sh es)) hdh)
      have gd:=aB (H:=G1) (a:=dh) (o:=.dK (eJ sh es))
      generalize L2.upd G1 dh (.dK (eJ sh es))=G2 at sd gd ⊢
      w_fin
      refine bZ fun pr hpr=>?_
      have se:=sd.trans (aI.new (o:=.tup [.ref p8,.ref dh]) hpr)
      have ge:L2.upd G2 pr (.tup [.ref p8,.ref dh]) dh=_:=aL hpr gd
      have gp:=aB (H:=G2) (a:=pr) (o:=.tup [.ref p8,.ref dh])
      generalize L2.upd G2 pr (.tup [.ref p8,.ref dh])=G3 at se ge gp ⊢
      w_fin
      exact q4 ns a T es pr p8 dh rv G3 msh hM hT0 c120 (kG1.trans se.kp) (fL.same tG1 se) gp hp8H (VQ kG1 tG1 (sG.free hdh)) (se _ _ hg8) (Pd.imp prv fun v x r=>r.tk fun b xs h=>se _ _ h) ge
   ·intro NX hN
    cases tw
    ·w_fin
     exact hN _ _ ⟨rfl,rfl⟩
    ·w_fin
     exact hN _ _ ⟨rfl,rfl⟩
theorem nE (T:Bl mg) (d:Df K mg "least_moments" fN ["deeds"]) (W:kH mg xt x1 x3 x4) (R_NoSum:bN K xt x1 x3 x4 x3 3) (R1:bN K xt x1 x3 x4 x1 1) (R4:bN K xt x1 x3 x4 x4 4) (o0t:bJ P w K mg base k "is_less" ["one","other"] lR):bJ P w K mg base (k+1) "least_moments" ["deeds"] PH:=by
 refine bJ.of d cX (fun vs H Q E h=>?_) (fun f cdv A outer s H vs Q E hr h=>?_)
 ·obtain ⟨l,ds,rfl,_⟩:=h
  rfl
 ·obtain ⟨l,ds,rfl,⟨vs',hl,pvs⟩,hlen,hsz,q⟩:=h
  refine ⟨_,(@aC _ _ _ _ _ (@aK _ _ (i:=1) _ _ _ _ cX.nd rfl (by w_left) (@mB _ _) (by rfl) (by w_means)) (@aC _ _ _ _ _ (@dS _ _ _ _ _ _ _ _ PassesOwn.never rfl (@cH _ _ _ _ (pv 0)) (@jP _ _ _ _ _ (n:=2) rfl (@bO _ _ _ _ _ (@aP _ _ (i:=2) _ cX.nd rfl (by w_left) (by w_means)) (@bO _ _ _ _ _ (@aP _ _ (i:=3) _ cX.nd rfl (by w_left) (by w_means)) (@hV _) (by rfl)) (by rfl)) (by rfl) (by rfl)) (@aF _ _ _ (@fF _ _ _ _ _ _ _ _ (@PW.pt _ _ _ (@nK _ _ _ _ _ _ _ (@uI _ _ _ _ _ _ (@rY _ _ _ _ _ hr.u1 (pv 2) (pv 1)) (by first|exact nobehind _ (by decide) (by decide)|rfl)) (@jO _ _ _ _ (@lC _ _ _ (@aG _ _ _ _ _ _ _ _ _ _ o0t hr rfl (@dM _ _ _ _ _ (pv 3) (@bL _ _ _ _ _ _ hr.u1 (pv 1) (pv 2) (fun _ _=>rfl)) (by rfl) (by rfl)) (by decide) (by rfl) (by rfl)) (by intro _; rfl))))) (@aF _ _ _ (@lZ _ _ _ _ _ _ _ _ _ hr.u1 (pv 1) (pv 2) (pv 3) rfl)) (@cC _))) (by intro _; rfl)) (@aF _ _ _ (@aS _ _ _ _ (pv 1))))),?_⟩
  w_fin
  refine uD fun d hd=>?_
  w_fin
  refine cG (bX.of (aL hd hl)) ?_
  have hvl:vs'.length=ds.length:=Paired.length pvs
  refine nC (xs:=vs') (fun i σ H1=>∃ o1 o2,σ=[some (.ref l),some (.ref d),o1,o2]/\aI H H1/\DQ lM H1 d (lst (ds.take i))) ⟨_,_,rfl,aI.new hd,[],aB,.nil⟩ ?_ ?_ ?_
  ·rintro i σ H1 _ ⟨o1,o2,rfl,s1,_⟩
   exact bX.of (s1 _ _ hl)
  ·rintro i x σ H1 hx ⟨o1,o2,rfl,s1,kvs,hk,kq⟩
   have hi:i < ds.length:=by
    have:=(List.getElem?_eq_some_iff.mp hx).1
    omega
   obtain ⟨y,hy,p,u,rfl,hp,fu⟩:=Paired.at pvs hx
   obtain ⟨kk,qq⟩:=y
   have hy2:ds[i]=(kk,qq):=by
    rw [List.getElem?_eq_getElem hi] at hy
    exact Option.some.inj hy
   have hp1:=s1 _ _ hp
   have fu1:lM H1 u qq:=fu.tk s1.tk
   have zq:Sz 8000 qq:=hsz (kk,qq) (hy2 ▸ List.getElem_mem hi)
   have hkl:kvs.length<=1000:=by
    have h1:=kq.len
    have h2:(lst (ds.take i)).length<=ds.length:=by
     have:=BW (ds.take i)
     rw [length_take] at this
     omega
    omega
   have et:ds.take (i+1)=ds.take i++[(kk,qq)]:=by rw [take_succ_eq_append_getElem hi,hy2]
   have fin:eG (lst (ds.take i)) (kk,qq)=fU (lst (ds.take i)) kk qq->∃ o1 o2,[some (V.ref l),some (V.ref d),some (kV kk),some u]=[some (V.ref l),some (V.ref d),o1,o2]/\aI H (upd H1 d (.dK (cB kvs kk u)))/\DQ lM (upd H1 d (.dK (cB kvs kk u))) d (lst (ds.take (i+1))):=fun e=>by
    refine ⟨_,_,rfl,fun c o hc=>?_,_,aB,?_⟩
    ·rw [aJ (aA hc hd)]
     exact s1 _ _ hc
    ·rw [et,xC,e]
     exact ((kq.put (k:=kk) fu1).imp fun v b f=>f.tk (TK.dic hk))
   w_fin
   refine PV (.inl hk) ?_
   rcases kq.val (k:=kk) with ⟨e1,e2⟩|⟨v1,r1,e1,e2,f1⟩
   ·rw [e1]
    w_fin
    refine rV hk hkl ?_
    w_fin
    refine fin ?_
    unfold eG
    rw [e2]
   ·rw [e1]
    w_fin
    refine pD (.inl hk) e1 ?_
    w_fin
    have zr:Sz 8000 r1:=hsz (kk,r1) (List.mem_of_mem_take (oH (eK e2)))
    refine ⟨u,v1,qq,r1,rfl,fu1,f1,zq,zr,?_⟩
    w_fin
    refine xI (fun c=>?_) (fun c=>?_)
    ·w_fin
     refine rV hk hkl ?_
     w_fin
     refine fin ?_
     unfold eG
     rw [e2]
     exact if_pos c
    ·w_fin
     refine ⟨_,_,rfl,s1,kvs,hk,?_⟩
     rw [et,xC]
     unfold eG
     rw [e2]
     show KQ lM H1 kvs (if qq < r1 then _ else _)
     rw [if_neg c]
     exact kq
  ·rintro σ H1 ⟨o1,o2,rfl,s1,dq⟩
   w_fin
   rw [hvl,take_length] at dq
   exact q d H1 hd s1 dq
theorem DW (T:Bl mg) (d:Df K mg "is_out" pB ["taken","number","moment"]) (W:kH mg xt x1 x3 x4) (R_NoSum:bN K xt x1 x3 x4 x3 3) (R1:bN K xt x1 x3 x4 x1 1) (R4:bN K xt x1 x3 x4 x4 4) (o0t:bJ P w K mg base k "is_less" ["one","other"] lR):bJ P w K mg base (k+1) "is_out" ["taken","number","moment"] PF:=by
 refine bJ.of d DK (fun vs H Q E h=>?_) (fun f cdv A outer s H vs Q E hr h=>?_)
 ·obtain ⟨dd,tm,kk,v,t,rfl,_⟩:=h
  rfl
 ·obtain ⟨dd,tm,kk,v,t,rfl,⟨kvs,hk,kq⟩,ft,zm,zt,q⟩:=h
  refine ⟨_,(@aF _ _ _ (@aS _ _ _ _ (@HY _ _ _ _ _ _ _ (@TB _ _ _ _ _ _ (@yZ _ _ _ _ _ hr.u1 (pv 1) (pv 0)) (by first|exact nobehind _ (by decide) (by decide)|rfl)) (@yX _ _ _ _ _ (@aG _ _ _ _ _ _ _ _ _ _ o0t hr rfl (@dM _ _ _ _ _ (@bL _ _ _ _ _ _ hr.u1 (pv 0) (pv 1) (fun _ _=>rfl)) (pv 2) (by rfl) (by rfl)) (by decide) (by rfl) (by rfl)))))),?_⟩
  w_fin
  refine XZ (.inl hk) ?_
  unfold IC at q
  rcases kq.val (k:=Sum.inl kk) with ⟨e1,e2⟩|⟨v1,r1,e1,e2,f1⟩
  ·rw [e2] at q
   rw [e1]
   w_fin
   exact q
  ·rw [e2] at q
   rw [e1]
   w_fin
   refine YB (.inl hk) e1 ?_
   w_fin
   refine ⟨v1,v,r1,t,rfl,f1,ft,zm (Sum.inl kk,r1) (eK e2),zt,?_⟩
   w_fin
   exact q
theorem pR (T:Bl mg) (d:Df K mg "earliest_of" iE ["waiting"]) (W:kH mg xt x1 x3 x4) (R_NoSum:bN K xt x1 x3 x4 x3 3) (R1:bN K xt x1 x3 x4 x1 1) (R4:bN K xt x1 x3 x4 x4 4) (o0t:bJ P w K mg base k "is_less" ["one","other"] lR):bJ P w K mg base (k+1) "earliest_of" ["waiting"] PJ:=by
 refine bJ.of d eE (fun vs H Q E h=>?_) (fun f cdv A outer s H vs Q E hr h=>?_)
 ·obtain ⟨a,W,rfl,_⟩:=h
  rfl
 ·obtain ⟨a,W,rfl,⟨kvs,hk,kq⟩,nd,zW,hne,q⟩:=h
  refine ⟨_,(@aC _ _ _ _ _ (@aK _ _ (i:=1) _ _ _ _ eE.nd rfl (by w_left) (@eU _ _ _) (by rfl) (by w_means)) (@aC _ _ _ _ _ (@BO _ _ _ _ _ _ _ _ PassesOwn.never rfl (pv 0) (@aP _ _ (i:=2) _ eE.nd rfl (by w_left) (by w_means)) (@aF _ _ _ (@fF _ _ _ _ _ _ _ _ (@PW.pt _ _ _ (@nK _ _ _ _ _ _ _ (@aX _ _ _ _ _ _ _ _ oG (pv 1) (@eU _ _ _) (bB _)) (@jO _ _ _ _ (@lC _ _ _ (@aG _ _ _ _ _ _ _ _ _ _ o0t hr rfl (@dM _ _ _ _ _ (@cD _ _ _ _ _ _ _ eI (@bL _ _ _ _ _ _ hr.u1 (pv 0) (pv 2) (fun _ _=>rfl)) (@aE _ _ _ _) (fun _ _=>rfl)) (@cD _ _ _ _ _ _ _ eI (@bL _ _ _ _ _ _ hr.u1 (pv 0) (pv 1) (fun _ _=>rfl)) (@aE _ _ _ _) (fun _ _=>rfl)) (by rfl) (by rfl)) (by decide) (by rfl) (by rfl)) (by intro _; rfl))))) (@aF _ _ _ (@aK _ _ (i:=1) _ _ _ _ eE.nd rfl (by w_left) (pv 2) (by rfl) (by w_means))) (@cC _))) (by intro _; rfl)) (@aF _ _ _ (@aS _ _ _ _ (pv 1))))),?_⟩
  w_fin
  refine HK a (iA.dK hk) ?_
  w_fin
  refine ⟨rfl,kvs,hk,fun o=>?_⟩
  have ek:∀ {p:aH} {e:dX aH},(p,e)∈W->∃ v,bA kvs p=some v/\gQ (upd H a (.frz o (.dK kvs))) v e:=fun {p e} hp=>by
   rcases kq.val (k:=p) with ⟨_,e2⟩|⟨v1,r1,e1,e2,f1⟩
   ·rw [cI nd hp] at e2
    cases e2
   ·rw [cI nd hp] at e2
    cases e2
    exact ⟨v1,e1,f1.tk (TK.dic hk)⟩
  refine BG (fun i σ H1=>H1=upd H a (.frz o (.dK kvs))/\∃ e o2,σ=[some (.ref a),some e,o2]/\((i=0/\e=.non)∨∃ p en,(p,en)∈W/\e=kV p/\∀ j w,j < i->W[j]?=some w->en.1<=w.2.1)) ⟨rfl,_,_,rfl,.inl ⟨rfl,rfl⟩⟩ ?_ ?_ ?_
  ·rintro i σ H1 _ ⟨rfl,_⟩
   exact aB
  ·rintro i c v σ H1 hx ⟨rfl,e,o2,rfl,he⟩
   have hi:i < W.length:=by
    have h1:=(List.getElem?_eq_some_iff.mp hx).1
    have h2:=kq.len
    omega
   obtain ⟨y,hy,e0,_⟩:=Paired.at kq hx
   obtain ⟨c',en⟩:=y
   cases (show c=c' from e0)
   have hm:(c,en)∈W:=mem_of_getElem? hy
   obtain ⟨v1,e1,p1,u1,rfl,h1,f1⟩:=ek hm
   rcases he with ⟨rfl,rfl⟩|⟨p,ep,hp,rfl,le⟩
   ·w_fin
    refine ⟨rfl,_,_,rfl,.inr ⟨c,en,hm,rfl,fun j w hj hw=>?_⟩⟩
    have:j=0:=by omega
    subst this
    rw [hw] at hy
    cases hy
    exact Rat.le_refl
   ·obtain ⟨v2,e2,p2,u2,rfl,h2,f2⟩:=ek hp
    w_fin
    refine pD (.inr ⟨_,aB⟩) e1 ?_
    w_fin
    refine pD (.inr ⟨_,aB⟩) e2 ?_
    w_fin
    refine ⟨u1,u2,en.1,ep.1,rfl,f1,f2,zW _ hm,zW _ hp,?_⟩
    w_fin
    refine xI (fun c1=>?_) (fun c1=>?_)
    ·w_fin
     refine ⟨rfl,_,_,rfl,.inr ⟨c,en,hm,rfl,fun j w hj hw=>?_⟩⟩
     by_cases z:j=i
     ·subst z
      rw [hw] at hy
      cases hy
      exact Rat.le_refl
     ·exact Rat.le_trans (Rat.le_of_lt c1) (le j w (by omega) hw)
    ·w_fin
     refine ⟨rfl,_,_,rfl,.inr ⟨p,ep,hp,rfl,fun j w hj hw=>?_⟩⟩
     by_cases z:j=i
     ·subst z
      rw [hw] at hy
      cases hy
      exact Rat.not_lt.mp c1
     ·exact le j w (by omega) hw
  ·rintro σ H1 ⟨rfl,e,o2,rfl,he⟩
   have hl:=kq.len
   have hW:W.length≠0:=fun z=>hne (length_eq_zero_iff.mp z)
   rcases he with ⟨z,_⟩|⟨p,ep,hp,rfl,le⟩
   ·omega
   ·refine BH ?_
    rw [xB aB,LK,FR hk]
    w_fin
    refine q p ep hp fun w hw=>?_
    obtain ⟨j,hj⟩:=List.getElem?_of_mem hw
    exact le j w (by have:=(List.getElem?_eq_some_iff.mp hj).1; omega) hj
theorem wU (T:Bl mg) (d:VY K mg "falls_of" dQ ["net","pushes","takings"] [.non]) (W:kH mg xt x1 x3 x4) (R_NoSum:bN K xt x1 x3 x4 x3 3) (R1:bN K xt x1 x3 x4 x1 1) (R4:bN K xt x1 x3 x4 x4 4) (o0t:bJ P w K mg base k "is_less" ["one","other"] lR) (o0x:bJ P w K mg base k "is_out" ["taken","number","moment"] PF) (o0y:bJ P w K mg base k "added" ["one","other"] yJ) (o0g:bJ P w K mg base k "earliest_of" ["waiting"] PJ) (o0c:bJ P w K mg base k "least_moments" ["deeds"] PH) (o0h:bJ P w K mg base k "runs_beside" ["net"] PK):lK P w K mg base (k+1) "falls_of" ["net","pushes","takings"] [.non] GH:=by
 refine lK.of d bQ (fun vs H Q E h=>?_) (fun f cdv A outer s H vs Q E hr h=>?_)
 ·obtain ⟨l,net,lp,ps,vt,ts,DD,MM,rfl,_⟩:=h
  rfl
 ·obtain ⟨l,net,lp,ps,vt,ts,DD,MM,rfl,hnet,hps,hts,hR,q⟩:=h
  refine ⟨_,(@aC _ _ _ _ _ (@aK _ _ (i:=3) _ _ _ _ bQ.nd rfl (by w_left) (@aG _ _ _ _ _ _ _ _ _ _ o0h hr rfl (@dY _ _ _ (pv 0) (by rfl)) (by decide) (by rfl) (by rfl)) (by rfl) (by w_means)) (@aC _ _ _ _ _ (@aK _ _ (i:=4) _ _ _ _ bQ.nd rfl (by w_left) (@aG _ _ _ _ _ _ _ _ _ _ o0c hr rfl (@dY _ _ _ (@SX _ _ _ _ _ _ _ (pv 2) (@yX _ _ _ _ _ (@bV _ _ _ _ (@eV _)))) (by rfl)) (by decide) (by rfl) (by rfl)) (by rfl) (by w_means)) (@aC _ _ _ _ _ (@aK _ _ (i:=5) _ _ _ _ bQ.nd rfl (by w_left) (@aG _ _ _ _ _ _ _ _ _ _ o0c hr rfl (@dY _ _ _ (pv 1) (by rfl)) (by decide) (by rfl) (by rfl)) (by rfl) (by w_means)) (@aC _ _ _ _ _ (@aK _ _ (i:=6) _ _ _ _ bQ.nd rfl (by w_left) (@iJ _ _ _ _ _ _ _ _ _ (lI rfl) rfl T.z_dict vJ (@dY _ _ _ (@pJ _ _ _ _ _ _ _ _ _ _ _ _ _ _ (@dA _ _ (sc:=aD dQ) (N:=["net","pushes","takings","beside","taken","pushed","waiting","fallen","post","number","other","moment"]) (tn:=["post"]) (names:=["pushed"]) (is:=[5]) rfl rfl (by decide +kernel) (by decide +kernel) rfl (by decide +kernel) rfl (by decide +kernel) (by decide +kernel) (by decide +kernel)) rfl (pv 5) (fun _ _ _ _=>(@aP _ _ (i:=0) _ (show (["post","pushed"]:List Str).Nodup by decide +kernel) rfl (Or.inl rfl) (Or.inr rfl))) (fun _ _ _ _=>(@bH _ _ _ _ _ (@dM _ _ _ _ _ (pv 0) (@bH _ _ _ _ _ (@zA _ _ _ _ _ _ _ (@bL _ _ _ _ _ _ hr.u1 (pv 1) (pv 0) (fun _ _=>rfl)) (@eU _ _ _) (@eU _ _ _) (by rfl) (by rfl) (by rfl))) (by rfl) (by rfl)))) (fun _ _ _ _=>(@cV _)) (by intro _; rfl)) (by rfl)) (by decide) (by decide) (by rfl) (by rfl)) (by rfl) (by w_means)) (@aC _ _ _ _ _ (@aK _ _ (i:=7) _ _ _ _ bQ.nd rfl (by w_left) (@mB _ _) (by rfl) (by w_means)) (@aC _ _ _ _ _ (@iI _ _ _ _ _ _ PassesOwn.never (@yV _ _ _ (pv 6) (by intro _; rfl)) (@aC _ _ _ _ _ (@aK _ _ (i:=8) _ _ _ _ bQ.nd rfl (by w_left) (@aG _ _ _ _ _ _ _ _ _ _ o0g hr rfl (@dY _ _ _ (pv 6) (by rfl)) (by decide) (by rfl) (by rfl)) (by rfl) (by w_means)) (@aC _ _ _ _ _ (@lZ _ _ _ _ _ _ _ _ _ hr.u1 (pv 7) (pv 8) (@HV _ _ _ _ _ _ _ (pv 6) (pv 8) ⟨rfl,rfl,rfl,rfl⟩) rfl) (@aF _ _ _ (@dS _ _ _ _ _ _ _ _ PassesOwn.never rfl (@cH _ _ _ _ (@HX _ _ _ _ _ _ _ _ _ hr.u1 (pv 3) (pv 8) (@bV _ _ _ _ (@eV _)) ⟨rfl,rfl,rfl,rfl⟩)) (@jP _ _ _ _ _ (n:=2) rfl (@bO _ _ _ _ _ (@aP _ _ (i:=9) _ bQ.nd rfl (by w_left) (by w_means)) (@bO _ _ _ _ _ (@aP _ _ (i:=10) _ bQ.nd rfl (by w_left) (by w_means)) (@hV _) (by rfl)) (by rfl)) (by rfl) (by rfl)) (@aC _ _ _ _ _ (@aK _ _ (i:=11) _ _ _ _ bQ.nd rfl (by w_left) (@aG _ _ _ _ _ _ _ _ _ _ o0y hr rfl (@dM _ _ _ _ _ (@cD _ _ _ _ _ _ _ eI (@bL _ _ _ _ _ _ hr.u1 (pv 7) (pv 8) (fun _ _=>rfl)) (@aE _ _ _ _) (fun _ _=>rfl)) (@cD _ _ _ _ _ _ _ eI (@cD _ _ _ _ _ _ _ eI (pv 0) (pv 9) (fun _ _=>rfl)) (@aE _ _ _ _) (fun _ _=>rfl)) (by rfl) (by rfl)) (by decide) (by rfl) (by rfl)) (by rfl) (by w_means)) (@aC _ _ _ _ _ (@fF _ _ _ _ _ _ _ _ (@PW.pt _ _ _ (@nK _ _ _ _ _ _ _ (@uI _ _ _ _ _ _ (@yZ _ _ _ _ _ hr.u1 (pv 10) (pv 7)) (by first|exact nobehind _ (by decide) (by decide)|rfl)) (@jO _ _ _ _ (@lC _ _ _ (@aG _ _ _ _ _ _ _ _ _ _ o0x hr rfl (@zA _ _ _ _ _ _ _ (pv 4) (pv 9) (pv 11) (by rfl) (by rfl) (by rfl)) (by decide) (by rfl) (by rfl)) (by intro _; rfl))))) (@aF _ _ _ (@wK _ _)) (@cC _)) (@aF _ _ _ (@fF _ _ _ _ _ _ _ _ (@PW.pt _ _ _ (@nK _ _ _ _ _ _ _ (@uI _ _ _ _ _ _ (@rY _ _ _ _ _ hr.u1 (pv 10) (pv 6)) (by first|exact nobehind _ (by decide) (by decide)|rfl)) (@jO _ _ _ _ (@lC _ _ _ (@aG _ _ _ _ _ _ _ _ _ _ o0t hr rfl (@dM _ _ _ _ _ (pv 11) (@cD _ _ _ _ _ _ _ eI (@bL _ _ _ _ _ _ hr.u1 (pv 6) (pv 10) (fun _ _=>rfl)) (@aE _ _ _ _) (fun _ _=>rfl)) (by rfl) (by rfl)) (by decide) (by rfl) (by rfl)) (by intro _; rfl))))) (@aF _ _ _ (@lZ _ _ _ _ _ _ _ _ _ hr.u1 (pv 6) (pv 10) (@bH _ _ _ _ _ (@zA _ _ _ _ _ _ _ (pv 11) (pv 9) (pv 8) (by rfl) (by rfl) (by rfl))) rfl)) (@cC _))))) (by intro _; rfl)))))) (@aF _ _ _ (@aS _ _ _ _ (pv 7))))))))),?_⟩
  w_fin
  refine ⟨l,net,rfl,hnet.lq,hnet.len,fun dB H1 hB s1 bes=>?_⟩
  w_fin
  refine XC (hts.sm s1) fun lt H2 s2 lq2=>?_
  w_fin
  refine ⟨lt,ts,rfl,lq2,le_trans hts.len (by decide),hts.sz,fun dT H3 hT s3 tq=>?_⟩
  w_fin
  have s13:=(s1.trans s2).trans s3
  have hlp:=hps.len
  refine ⟨lp,ps,rfl,(hps.sm s13).lq,by omega,fun x hx=>hR.sz (hps.bd x hx) (by omega),fun dP H4 hP s4 pq=>?_⟩
  w_fin
  obtain ⟨kP,hkP,qP⟩:=pq
  refine uE dP (iA.dK hkP) ?_
  w_fin
  refine ⟨rfl,kP,hkP,fun ob=>?_⟩
  have hPl:kP.length<=100:=by
   have h1:=qP.len
   have h2:=BW ps
   omega
  refine pE (by omega) (fun acc i ys G=>Kp acc (upd H4 dP (.frz ob (.dK kP))) G/\Paired (fun v (x:aH×dX aH)=>∃ a u,v=.ref a/\G a=some (.tup [kV x.1,u])/\gQ G u x.2) ys (((lst ps).map fun x=>(x.1,(x.2,none))).take i)) ?_ ?_ ?_ ?_
  ·intro acc h0
   exact ⟨Kp.new h0,.nil⟩
  ·intro acc i ys G h0 _ ⟨k,_⟩
   exact k _ _ (fun z=>by subst z; rw [aB] at h0; cases h0) aB
  ·intro acc i ys G kk v h0 hx hyl hG ⟨kp,pr⟩
   have hdP:G dP=some (.frz ob (.dK kP)):=kp _ _ (fun z=>by subst z; rw [aB] at h0; cases h0) aB
   have hi:i < (lst ps).length:=by
    have h1:=(List.getElem?_eq_some_iff.mp hx).1
    have h2:=qP.len
    omega
   obtain ⟨y,hy,e0,fv⟩:=Paired.at qP hx
   obtain ⟨kk',qq⟩:=y
   cases (show kk=kk' from e0)
   have hag:cE (lst ps) kk=some qq:=cI (zI ps) (mem_of_getElem? hy)
   obtain ⟨v1,e1,f1⟩:∃ v1,bA kP kk=some v1/\lM G v1 qq:=by
    rcases qP.val (k:=kk) with ⟨_,e2⟩|⟨v1,r1,e1,e2,f1⟩
    ·rw [hag] at e2
     cases e2
    ·rw [hag] at e2
     cases e2
     refine ⟨v1,e1,f1.tk (TK.trans (TK.dic hkP) fun p xs h=>kp _ _ (aA h h0) h)⟩
   w_fin
   refine pD (.inr ⟨_,hdP⟩) e1 ?_
   w_fin
   refine bZ fun t1 ht1=>?_
   w_fin
   refine bZ fun t2 ht2=>?_
   have hG2:=aL (o:=.tup [kV kk,.ref t1]) ht2 (aL (o:=.tup [v1,.non,.non]) ht1 hG)
   refine gJ (List.getElem?_eq_some_iff.mp hx).1 hyl hG2 ⟨?_,?_⟩
   ·exact Kp.trans (Kp.trans (Kp.trans kp (Kp.new ht1)) (Kp.new ht2)) Kp.upd
   ·have tk:TK (upd (upd G t1 (.tup [v1,.non,.non])) t2 (.tup [kV kk,.ref t1])) (upd (upd (upd G t1 (.tup [v1,.non,.non])) t2 (.tup [kV kk,.ref t1])) acc (.lst (ys++[.ref t2]))):=TK.lst hG2
    have tk2:=((TK.new (o:=.tup [v1,.non,.non]) ht1).trans (TK.new (o:=.tup [kV kk,.ref t1]) ht2)).trans tk
    have hi':i < ((lst ps).map fun x=>(x.1,((x.2,none):dX aH))).length:=by rw [length_map]; exact hi
    rw [take_succ_eq_append_getElem hi']
    have:((lst ps).map fun x=>(x.1,((x.2,none):dX aH)))[i]=(kk,(qq,none)):=by
     rw [List.getElem_map]
     rw [List.getElem?_eq_getElem hi] at hy
     rw [Option.some.inj hy]
    rw [this]
    refine Pd.snoc (Pd.imp pr fun v x ⟨a,u,e,h,f⟩=>⟨a,u,e,tk2 _ _ h,f.tk tk2⟩) ⟨t2,.ref t1,rfl,tk _ _ aB,t1,v1,rfl,tk _ _ (aL ht2 aB),f1.tk tk2⟩
  ·intro acc ys G h0 hG hyl ⟨kp,pr⟩
   have hdP:G dP=some (.frz ob (.dK kP)):=kp _ _ (fun z=>by subst z; rw [aB] at h0; cases h0) aB
   have hap:acc≠dP:=fun z=>by subst z; rw [aB] at h0; cases h0
   have s5:aI H4 (melt dP G):=fun b o h=>by
    rw [xB hdP]
    by_cases hb:b=dP
    ·subst hb
     rw [hkP] at h
     rw [aB]
     exact h
    ·rw [aJ hb]
     refine kp _ _ (fun z=>?_) (by rw [aJ hb]; exact h)
     subst z
     rw [aJ hb,h] at h0
     cases h0
   have tk5:TK G (melt dP G):=TK.melt
   have hacc:melt dP G acc=some (.lst ys):=by rw [mG hap]; exact hG
   have pr2:=Pd.imp (G:=fun v (x:aH×dX aH)=>∃ a u,v=.ref a/\melt dP G a=some (.tup [kV x.1,u])/\gQ (melt dP G) u x.2) pr fun v x ⟨a,u,e,h,f⟩=>⟨a,u,e,tk5 _ _ h,f.tk tk5⟩
   have hlW:kP.length=((lst ps).map fun x=>(x.1,((x.2,none):dX aH))).length:=by rw [length_map]; exact qP.len
   rw [hlW,take_length] at pr2
   obtain ⟨k0,pa,kq0⟩:=pM pr2
   show qQ _ _ _
   generalize melt dP G=H5 at *
   w_fin
   refine ⟨acc,ys,k0,rfl,hacc,pa,by omega,fun dW hW=>?_⟩
   have nd0:(((lst ps).map fun x=>(x.1,((x.2,none):dX aH))).map (·.1)).Nodup:=by
    rw [map_map]
    exact zI ps
   rw [jZ (by rw [nil_append,kq0.keys]; exact nd0),nil_append]
   w_fin
   refine uD fun dF hF=>?_
   w_fin
   have hWF:dW≠dF:=fun z=>by subst z; rw [aB] at hF; cases hF
   have hW0:upd (upd H5 dW (.dK k0)) dF (.dK []) dW=some (.dK k0):=aL hF aB
   have hF0:upd (upd H5 dW (.dK k0)) dF (.dK []) dF=some (.dK []):=aB
   have s50:aI H5 (upd (upd H5 dW (.dK k0)) dF (.dK [])):=(aI.new hW).trans (aI.new hF)
   have bes5:=bes.sm ((s2.trans s3).trans (s4.trans s5))
   have tq5:=tq.sm lM.tk (s4.trans s5)
   have sH5:=s13.trans (s4.trans s5)
   have hFn:H5 dF=none:=by
    cases z:H5 dF with
   |none=>rfl
   |some o=>rw [aJ (Ne.symm hWF),z] at hF; cases hF
   have hBW:dB≠dW/\dB≠dF:=by
    obtain ⟨kvs,f,z1,_⟩:=bes5
    exact ⟨aA z1 hW,aA z1 hFn⟩
   have hTW:dT≠dW/\dT≠dF:=by
    obtain ⟨kvs,z1,_⟩:=tq5
    exact ⟨aA z1 hW,aA z1 hFn⟩
   have hWn:H dW=none:=by
    cases z:H dW with
   |none=>rfl
   |some o=>rw [sH5 _ _ z] at hW; cases hW
   have hFn':H dF=none:=by
    cases z:H dF with
   |none=>rfl
   |some o=>rw [sH5 _ _ z] at hFn; cases hFn
   have bes0:=bes5.sm s50
   have tq0:=tq5.sm lM.tk s50
   have net0:=hnet.sm (sH5.trans s50)
   have sH0:=sH5.trans s50
   have kq00:=kq0.imp (H':=upd (upd H5 dW (.dK k0)) dF (.dK [])) fun v b f=>f.tk s50.tk
   generalize upd (upd H5 dW (.dK k0)) dF (.dK [])=H0 at *
   refine oR (fun σ H1=>∃ W F kW kF o8 o9 o10 o11,σ=[some (.ref l),some (.ref lp),some vt,some (.ref dB),some (.ref dT),some (.ref dP),some (.ref dW),some (.ref dF),o8,o9,o10,o11]/\kJ dW dF H0 H1/\H1 dW=some (.dK kW)/\KQ gQ H1 kW W/\H1 dF=some (.dK kF)/\KQ gQ H1 kF F/\iO net (cE (lst ps)) (oU ts) (fun _ _ _=>True) W F/\(∀ x∈W,Bd DD (MM * (F.length+1)) x.2.1)/\∀ x∈F,Bd DD (MM * F.length) x.2.1) (fun σ H1=>1000 - (match H1 dF with|some (.dK kvs)=>kvs.length|_=>0)) ?_ ?_ ?_
   ·refine ⟨_,_,k0,[],_,_,_,_,rfl,kJ.refl _,hW0,kq00,hF0,.nil,iO.start nd0 (fun p e he=>?_) (fun p t he=>?_),fun x hx=>?_,fun x hx=>by simp at hx⟩
    ·obtain ⟨y,hy,e2⟩:=mem_map.mp he
     cases e2
     exact ⟨rfl,cI (zI ps) hy⟩
    ·exact mem_map.mpr ⟨(p,t),eK he,rfl⟩
    ·obtain ⟨y,hy,rfl⟩:=mem_map.mp hx
     exact (hps.bd y (oH hy)).mono (by simp)
   ·rintro σ H1 ⟨W,F,kW,kF,o8,o9,o10,o11,rfl,kp1,hW1,qW,hF1,qF,I,bW,bF⟩
    have hl:=hnet.len
    have hlens:=I.lens
    w_fin
    refine LL hW1 (fun hne=>?_) (fun hnil=>?_)
    ·w_fin
     have hWne:W≠[]:=fun z=>hne (length_eq_zero_iff.mp (by rw [qW.len,z]; rfl))
     have szW:∀ {m:Nat} {t:Rat},m<=1000->Bd DD (MM * m) t->Sz 8000 t:=fun hm hb=>hR.sz hb (mul_le_mul_left _ hm)
     refine ⟨dW,W,rfl,⟨kW,hW1,qW⟩,I.ndW,fun x hx=>szW (by omega) (bW x hx),hWne,fun p e hp hmin=>?_⟩
     w_fin
     have hagW:cE W p=some e:=cI I.ndW hp
     obtain ⟨v1,e1,f1⟩:∃ v1,bA kW p=some v1/\gQ H1 v1 e:=by
      rcases qW.val (k:=p) with ⟨_,e2⟩|⟨v1,r1,e1,e2,f1⟩
      ·rw [hagW] at e2
       cases e2
      ·rw [hagW] at e2
       cases e2
       exact ⟨v1,e1,f1⟩
     refine ⟨dW,rfl,.inl ⟨kW,.inl hW1⟩,?_⟩
     w_fin
     refine ⟨kW,p,v1,hW1,rfl,e1,?_⟩
     w_fin
     have hF1':upd H1 dW (.dK (cJ kW p)) dF=some (.dK kF):=iQ (Ne.symm hWF) hF1
     have hkF:kF.length<=1000:=by
      have:=qF.len
      omega
     refine rV hF1' hkF ?_
     have hpF:p∉F.map (·.1):=I.dis p (mem_map.mpr ⟨_,hp,rfl⟩)
     have tkd:TK H1 (upd (upd H1 dW (.dK (cJ kW p))) dF (.dK (cB kF p v1))):=(TK.dic hW1).trans (TK.dic hF1')
     have qW2:KQ gQ (upd (upd H1 dW (.dK (cJ kW p))) dF (.dK (cB kF p v1))) (cJ kW p) (gN W p):=(qW.drop).imp fun v b f=>f.tk tkd
     have qF2:KQ gQ (upd (upd H1 dW (.dK (cJ kW p))) dF (.dK (cB kF p v1))) (cB kF p v1) (F++[(p,e)]):=by
      rw [← FC hpF]
      exact (qF.put f1).imp fun v b f=>f.tk tkd
     have kp2:kJ dW dF H0 (upd (upd H1 dW (.dK (cJ kW p))) dF (.dK (cB kF p v1))):=(kp1.trans kJ.l).trans kJ.r
     have hW2:upd (upd H1 dW (.dK (cJ kW p))) dF (.dK (cB kF p v1)) dW=some (.dK (cJ kW p)):=iQ hWF aB
     have hF2:upd (upd H1 dW (.dK (cJ kW p))) dF (.dK (cB kF p v1)) dF=some (.dK (cB kF p v1)):=aB
     have hFlen:(cB kF p v1).length=F.length+1:=by rw [qF2.len]; simp
     generalize cB kF p v1=kF2 at *
     generalize cJ kW p=kW2 at *
     generalize upd (upd H1 dW (.dK kW2)) dF (.dK kF2)=H2' at *
     w_fin
     refine ⟨dB,rfl,.inl ⟨_,.inl (bes0.k2 kp2 hW0 hF0 hBW.1 hBW.2).choose_spec.choose_spec.1⟩,?_⟩
     w_fin
     refine cL fun z0 hz0=>?_
     w_fin
     have kp3:kJ dW dF H0 (upd H2' z0 (.lst [])):=kp2.trans (aI.new hz0).kp2
     have hW3:upd H2' z0 (.lst []) dW=some (.dK kW2):=aL hz0 hW2
     have hF3:upd H2' z0 (.lst []) dF=some (.dK kF2):=aL hz0 hF2
     have qW3:KQ gQ (upd H2' z0 (.lst [])) kW2 (gN W p):=qW2.imp fun v b f=>f.tk (TK.new hz0)
     have qF3:KQ gQ (upd H2' z0 (.lst [])) kF2 (F++[(p,e)]):=qF2.imp fun v b f=>f.tk (TK.new hz0)
     refine SL (bes0.k2 kp3 hW0 hF0 hBW.1 hBW.2) aB fun lb L lqL hLl hL=>?_
     generalize upd H2' z0 (.lst [])=H3' at *
     obtain ⟨xs,hxs,pxs⟩:=lqL
     refine cG (bX.of hxs) ?_
     have hxl:=Paired.length pxs
     have hle:∀ w∈F++[(p,e)],w.2.1<=e.1:=fun w hw=>by
      rcases mem_append.mp hw with hw|hw
      ·exact I.mono w hw _ hp
      ·rw [mem_singleton] at hw
       subst hw
       exact Rat.le_refl
     have hpe:(p,e)∈F++[(p,e)]:=mem_append_right _ (by simp)
     have be:Bd DD (MM * (F.length+1)) e.1:=bW _ hp
     refine nC (xs:=xs) (fun i σ G=>∃ W' kW' o9 o10 o11,σ=[some (.ref l),some (.ref lp),some vt,some (.ref dB),some (.ref dT),some (.ref dP),some (.ref dW),some (.ref dF),some (kV p),o9,o10,o11]/\kJ dW dF H0 G/\kJ dW dF H3' G/\G dW=some (.dK kW')/\KQ gQ G kW' W'/\G dF=some (.dK kF2)/\KQ gQ G kF2 (F++[(p,e)])/\iO net (cE (lst ps)) (oU ts) (fun q j y=>q≠p∨(j,y)∈L.take i) W' (F++[(p,e)])/\∀ x∈W',Bd DD (MM * (F.length+2)) x.2.1) ?_ ?_ ?_ ?_
     ·refine ⟨_,_,_,_,_,rfl,kp3,kJ.refl _,hW3,qW3,hF3,qF3,I.pop hp hmin fun q k x hc=>hc.elim id fun z=>by simp at z,fun x hx=>(bW x (iL.mp hx).1).mono (mul_le_mul_left _ (by omega))⟩
     ·rintro i σ G _ ⟨W',kW',o9',o10',o11',rfl,k0',k3',_⟩
      exact bX.of (k3'.lst hW3 hF3 hxs)
     ·rintro i x σ G hx ⟨W',kW',o9',o10',o11',rfl,k0',k3',gW,qW',gF,qF',I',bW'⟩
      have hi:i < L.length:=by
       have:=(List.getElem?_eq_some_iff.mp hx).1
       omega
      obtain ⟨y,hy,t0,rfl,ht0⟩:=Paired.at pxs hx
      obtain ⟨j,xk⟩:=y
      have hy2:L[i]=(j,xk):=by
       rw [List.getElem?_eq_getElem hi] at hy
       exact Option.some.inj hy
      have ht1:=k3'.tk hW3 hF3 _ _ ht0
      obtain ⟨r,hr,hj⟩:=(hL j xk).mp (mem_of_getElem? hy)
      have hrm:r∈net:=mem_of_getElem? hr
      have htake:∀ q jj yy,(q≠p∨(jj,yy)∈L.take (i+1))->(q≠p∨(jj,yy)∈L.take i)∨(q=p/\jj=j/\yy=xk):=fun q jj yy h=>by
       by_cases hq:q=p
       ·rcases h with h|h
        ·exact .inl (.inl h)
        ·rw [take_succ_eq_append_getElem hi,hy2] at h
         rcases mem_append.mp h with h|h
         ·exact .inl (.inr h)
         ·rw [mem_singleton] at h
          cases h
          exact .inr ⟨hq,rfl,rfl⟩
       ·exact .inl (.inl hq)
      have hbm:Bd DD (MM * (F.length+2)) (e.1+r.2.2):=(be.add hR.ne (hnet.bd r hrm)).mono (by rw [Nat.mul_add,Nat.mul_add]; omega)
      have fin1:∀ σ2 G2,aI G G2->(∃ o9 o10 o11,σ2=[some (.ref l),some (.ref lp),some vt,some (.ref dB),some (.ref dT),some (.ref dP),some (.ref dW),some (.ref dF),some (kV p),o9,o10,o11])->(xk∈(F++[(p,e)]).map (·.1)∨¬ eM (oU ts) j (e.1+r.2.2)∨∃ u,(xk,u)∈W'/\u.1<=e.1+r.2.2)->∃ W' kW' o9 o10 o11,σ2=[some (.ref l),some (.ref lp),some vt,some (.ref dB),some (.ref dT),some (.ref dP),some (.ref dW),some (.ref dF),some (kV p),o9,o10,o11]/\kJ dW dF H0 G2/\kJ dW dF H3' G2/\G2 dW=some (.dK kW')/\KQ gQ G2 kW' W'/\G2 dF=some (.dK kF2)/\KQ gQ G2 kF2 (F++[(p,e)])/\iO net (cE (lst ps)) (oU ts) (fun q j y=>q≠p∨(j,y)∈L.take (i+1)) W' (F++[(p,e)])/\∀ x∈W',Bd DD (MM * (F.length+2)) x.2.1:=by
       rintro σ2 G2 sg ⟨o9,o10,o11,rfl⟩ hc
       exact ⟨W',kW',_,_,_,rfl,k0'.trans sg.kp2,k3'.trans sg.kp2,sg _ _ gW,qW'.imp fun v b f=>f.tk sg.tk,sg _ _ gF,qF'.imp fun v b f=>f.tk sg.tk,I'.turn hpe hr hj hle (hnet.pos r hrm) htake (.inl ⟨rfl,hc⟩),bW'⟩
      have fin2:∀ σ2 G1 t3 vm,aI G G1->G1 t3=none->lM G1 vm (e.1+r.2.2)->(∃ o9 o10 o11,σ2=[some (.ref l),some (.ref lp),some vt,some (.ref dB),some (.ref dT),some (.ref dP),some (.ref dW),some (.ref dF),some (kV p),o9,o10,o11])->(xk∉(F++[(p,e)]).map (·.1)/\eM (oU ts) j (e.1+r.2.2)/\∀ u,(xk,u)∈W'->e.1+r.2.2<=u.1)->(fun G2=>∃ W' kW' o9 o10 o11,σ2=[some (.ref l),some (.ref lp),some vt,some (.ref dB),some (.ref dT),some (.ref dP),some (.ref dW),some (.ref dF),some (kV p),o9,o10,o11]/\kJ dW dF H0 G2/\kJ dW dF H3' G2/\G2 dW=some (.dK kW')/\KQ gQ G2 kW' W'/\G2 dF=some (.dK kF2)/\KQ gQ G2 kF2 (F++[(p,e)])/\iO net (cE (lst ps)) (oU ts) (fun q j y=>q≠p∨(j,y)∈L.take (i+1)) W' (F++[(p,e)])/\∀ x∈W',Bd DD (MM * (F.length+2)) x.2.1) (upd (upd G1 t3 (.tup [vm,.int j,kV p])) dW (.dK (cB kW' xk (.ref t3)))):=by
       rintro σ2 G1 t3 vm sg hn3 fm ⟨o9,o10,o11,rfl⟩ ⟨c1,c2,c3⟩
       have sg2:=sg.trans (aI.new (o:=.tup [vm,.int j,kV p]) hn3)
       have gW2:=sg2 _ _ gW
       have tkw:TK (upd G1 t3 (.tup [vm,.int j,kV p])) (upd (upd G1 t3 (.tup [vm,.int j,kV p])) dW (.dK (cB kW' xk (.ref t3)))):=TK.dic gW2
       have WC:=sg2.tk.trans tkw
       refine ⟨fU W' xk (e.1+r.2.2,some (j,p)),cB kW' xk (.ref t3),_,_,_,rfl,(k0'.trans sg2.kp2).trans kJ.l,(k3'.trans sg2.kp2).trans kJ.l,aB,?_,iQ (Ne.symm hWF) (sg2 _ _ gF),qF'.imp fun v b f=>f.tk WC,I'.turn hpe hr hj hle (hnet.pos r hrm) htake (.inr ⟨c1,c2,c3,rfl⟩),fun x hx=>?_⟩
       ·exact (qW'.imp fun v b f=>f.tk WC).put ⟨t3,vm,rfl,tkw _ _ aB,(fm.tk (TK.new hn3)).tk tkw⟩
       ·obtain ⟨x1,x2⟩:=x
        rcases iK hx with ⟨_,rfl⟩|⟨_,h⟩
        ·exact hbm
        ·exact bW' _ h
      have hagF:cE (F++[(p,e)]) p=some e:=cI I'.ndF hpe
      obtain ⟨ve,e3,pe,ue,rfl,hpe2,fe⟩:∃ v1,bA kF2 p=some v1/\gQ G v1 e:=by
       rcases qF'.val (k:=p) with ⟨_,e2⟩|⟨v1,r1,e1,e2,f1⟩
       ·rw [hagF] at e2
        cases e2
       ·rw [hagF] at e2
        cases e2
        exact ⟨v1,e1,f1⟩
      obtain ⟨vn,hvn,pvn⟩:=net0.lq
      have hvnG:=k0'.lst hW0 hF0 hvn
      obtain ⟨vr,hvr,pr0,ur,rfl,hpr0,fr0⟩:=Pd.get pvn hr
      have WD:=k0'.tk hW0 hF0
      have hprG:=WD _ _ hpr0
      have frG:=fr0.tk WD
      w_fin
      refine pD (.inl gF) e3 ?_
      w_fin
      refine fE hvnG (fT hvr) ?_
      w_fin
      refine ⟨ue,ur,e.1,r.2.2,rfl,fe,frG,szW (by omega) be,hR.sz (hnet.bd r hrm) (by omega),fun vm G2 fm sg=>?_⟩
      w_fin
      have gF2:=sg _ _ gF
      have gW2:=sg _ _ gW
      refine XY (.inl gF2) ?_
      have szm:Sz 8000 (e.1+r.2.2):=szW (by omega) hbm
      rcases qF'.val (k:=xk) with ⟨e4,e5⟩|⟨v4,r4,e4,e5,f4⟩
      ·rw [e4]
       w_fin
       have hnF:xk∉(F++[(p,e)]).map (·.1):=zZ e5
       obtain ⟨kT,gT,qT⟩:=tq0
       have gT2:G2 dT=some (.dK kT):=sg _ _ (k0' _ _ hTW.1 hTW.2 gT)
       refine ⟨dT,lst ts,j,vm,e.1+r.2.2,rfl,⟨kT,gT2,qT.imp fun v b f=>(f.tk WD).tk sg.tk⟩,fm,fun x hx=>hts.sz x (oH hx),szm,?_⟩
       have hout:IC (lst ts) j (e.1+r.2.2)=true/\¬ eM (oU ts) j (e.1+r.2.2)∨IC (lst ts) j (e.1+r.2.2)=false/\eM (oU ts) j (e.1+r.2.2):=by
        unfold IC eM oU
        cases cE (lst ts) (Sum.inl (j:Int)) with
       |none=>exact .inr ⟨rfl,fun u e=>nomatch e⟩
       |some u =>
         by_cases c:u < e.1+r.2.2
         ·exact .inl ⟨decide_eq_true c,fun h=>Rat.not_le.mpr c (h u rfl)⟩
         ·exact .inr ⟨decide_eq_false c,fun u' e=>by cases e; exact Rat.not_lt.mp c⟩
       rcases hout with ⟨ho,hno⟩|⟨ho,hno⟩
       ·rw [ho]
        w_fin
        exact fin1 _ G2 sg ⟨_,_,_,rfl⟩ (.inr (.inl hno))
       ·rw [ho]
        w_fin
        refine PV (.inl gW2) ?_
        have hkW:kW'.length<=1000:=by
         have h1:=qW'.len
         have h2:=I'.lens
         omega
        rcases qW'.val (k:=xk) with ⟨e6,e7⟩|⟨v6,r6,e6,e7,p6,u6,rfl,h6,f6⟩
        ·rw [e6]
         w_fin
         refine bZ fun t3 ht3=>?_
         w_fin
         refine rV (aL ht3 gW2) hkW ?_
         w_fin
         exact fin2 _ G2 t3 vm sg ht3 fm ⟨_,_,_,rfl⟩ ⟨hnF,hno,fun u hu=>absurd hu (nG e7 u)⟩
        ·rw [e6]
         have h62:=sg.tk _ _ h6
         w_fin
         refine pD (.inl gW2) e6 ?_
         w_fin
         have hm6:=eK e7
         refine ⟨vm,u6,e.1+r.2.2,r6.1,rfl,fm,f6.tk sg.tk,szm,szW (by omega) (bW' _ hm6),?_⟩
         w_fin
         refine xI (fun c=>?_) (fun c=>?_)
         ·w_fin
          refine bZ fun t3 ht3=>?_
          w_fin
          refine rV (aL ht3 gW2) hkW ?_
          w_fin
          refine fin2 _ G2 t3 vm sg ht3 fm ⟨_,_,_,rfl⟩ ⟨hnF,hno,fun u hu=>?_⟩
          have:=Option.some.inj ((cI I'.ndW hu).symm.trans e7)
          subst this
          exact Rat.le_of_lt c
         ·w_fin
          exact fin1 _ G2 sg ⟨_,_,_,rfl⟩ (.inr (.inr ⟨r6,hm6,Rat.not_lt.mp c⟩))
      ·rw [e4]
       w_fin
       exact fin1 _ G2 sg ⟨_,_,_,rfl⟩ (.inl (mem_map.mpr ⟨_,eK e5,rfl⟩))
     ·rintro σ G ⟨W',kW',o9',o10',o11',rfl,k0',k3',gW,qW',gF,qF',I',bW'⟩
      rw [hxl,take_length] at I'
      refine ⟨⟨W',F++[(p,e)],kW',kF2,_,_,_,_,rfl,k0',gW,qW',gF,qF',I'.imp fun q k x r h1 h2 _=>?_,fun x hx=>?_,fun x hx=>?_⟩,?_⟩
      ·by_cases hq:q=p
       ·subst hq
        exact .inr ((hL k x).mpr ⟨r,h1,h2⟩)
       ·exact .inl hq
      ·rw [length_append]
       exact bW' x hx
      ·rw [length_append]
       rcases mem_append.mp hx with hx|hx
       ·exact (bF x hx).mono (mul_le_mul_left _ (by simp))
       ·rw [mem_singleton] at hx
        subst hx
        exact be
      ·have hql:=qF.len
       simp only [gF,hF1]
       omega
    ·have hWnil:W=[]:=length_eq_zero_iff.mp (by rw [← qW.len,hnil]; rfl)
     subst hWnil
     w_fin
     refine q dF H1 F hFn' (kp1.same sH0 hWn hFn') ⟨kF,hF1,qF⟩ I.done hlens.2 fun x hx=>(bF x hx).mono (mul_le_mul_left _ (by omega))
   ·rintro σ H Q Q' h ⟨v,e,k,t,b⟩
    exact ⟨v,e,k,t,h _ _ b⟩
theorem nR (T:Bl mg) (d:VY K mg "fall_moments" bU ["net","pushes","takings"] [.non]) (W:kH mg xt x1 x3 x4) (R_NoSum:bN K xt x1 x3 x4 x3 3) (R1:bN K xt x1 x3 x4 x1 1) (R4:bN K xt x1 x3 x4 x4 4) (o0q:bJ P w K mg base k "posts_of" ["net"] (AS w)) (o0n:lK P w K mg base k "falls_of" ["net","pushes","takings"] [.non] GH):lK P w K mg base (k+1) "fall_moments" ["net","pushes","takings"] [.non] (RJ w):=by
 refine lK.of d jH (fun vs H Q E h=>?_) (fun f cdv A outer s H vs Q E hr h=>?_)
 ·obtain ⟨l,n,lp,ps,vt,ts,DD,MM,U,rfl,_⟩:=h
  rfl
 ·obtain ⟨l,n,lp,ps,vt,ts,DD,MM,U,rfl,hnet,hps,hts,hR,hU,hUn,q⟩:=h
  refine ⟨_,(@aC _ _ _ _ _ (@aK _ _ (i:=3) _ _ _ _ jH.nd rfl (by w_left) (@aG _ _ _ _ _ _ _ _ _ _ o0n.f hr rfl (@zA _ _ _ _ _ _ _ (pv 0) (pv 1) (pv 2) (by rfl) (by rfl) (by rfl)) (by decide) (by rfl) (by rfl)) (by rfl) (by w_means)) (@aF _ _ _ (@aS _ _ _ _ (@iJ _ _ _ _ _ _ _ _ _ (lI rfl) rfl T.z_dict vJ (@dY _ _ _ (@eZ _ _ _ _ _ _ _ _ _ _ _ _ _ _ (@dA _ _ (sc:=aD bU) (N:=["net","pushes","takings","fallen"]) (tn:=["post"]) (names:=["fallen"]) (is:=[3]) rfl rfl (by decide +kernel) (by decide +kernel) rfl (by decide +kernel) rfl (by decide +kernel) (by decide +kernel) (by decide +kernel)) rfl (@cH _ _ _ _ (@aG _ _ _ _ _ _ _ _ _ _ o0q hr rfl (@dY _ _ _ (pv 0) (by rfl)) (by decide) (by rfl) (by rfl))) (fun _ _ _ _=>(@aP _ _ (i:=0) _ (show (["post","fallen"]:List Str).Nodup by decide +kernel) rfl (Or.inl rfl) (Or.inr rfl))) (fun _ _ _ _=>(@bH _ _ _ _ _ (@dM _ _ _ _ _ (pv 0) (@pI _ _ _ _ _ _ _ _ (@uI _ _ _ _ _ _ (@yZ _ _ _ _ _ hr.u1 (pv 0) (pv 1)) (by first|exact nobehind _ (by decide) (by decide)|rfl)) (@cD _ _ _ _ _ _ _ gH (@bL _ _ _ _ _ _ hr.u1 (pv 1) (pv 0) (fun _ _=>rfl)) (@aE _ _ _ _) (fun _ _=>rfl)) (@eU _ _ _)) (by rfl) (by rfl)))) (fun _ _ _ _=>(@cV _)) (by intro _; rfl)) (by rfl)) (by decide) (by decide) (by rfl) (by rfl))))),?_⟩
  w_fin
  refine ⟨l,kn n,lp,ps,vt,ts,DD,MM,rfl,hnet,hps,hts,hR,fun dF H1 F hF s1 fq fo hFl bF=>?_⟩
  w_fin
  refine ⟨l,n,U,rfl,(hnet.sm s1).lq,by have:=hnet.len; simpa [kn] using this,hU,hUn,fun lq H2 ys hlq s2 hys srt nd mem=>?_⟩
  w_fin
  refine cG (bX.of hys) ?_
  obtain ⟨kF,hkF,qF⟩:=fq
  have hyl:ys.length < 64:=lt_of_le_of_lt (iZ nd fun x hx=>hUn x ((mem x).mp hx)) hU
  refine gZ (xs:=ys.map V.str) (by rw [length_map]; omega) (fun acc i zs G=>Kp acc H2 G/\Paired (fun v (x:aH×Option Rat)=>∃ a u,v=.ref a/\G a=some (.tup [kV x.1,u])/\rB G u x.2) zs ((ys.map fun y=>(Sum.inr y,fH F (Sum.inr y))).take i)) (fun acc h0=>⟨Kp.new h0,.nil⟩) ?_ ?_ ?_
  ·intro acc i zs G h0 _ ⟨kp,_⟩
   exact bX.of (kp _ _ (aA hys h0) hys)
  ·intro acc i zs G x h0 hx hzl hG ⟨kp,pr⟩
   rw [List.getElem?_map] at hx
   cases hy:ys[i]? with
  |none=>rw [hy] at hx; cases hx
  |some y =>
    rw [hy] at hx
    cases (Option.some.inj hx:V.str y=x)
    have hi:i < ys.length:=(List.getElem?_eq_some_iff.mp hy).1
    have hkF2:=s2 _ _ hkF
    have hkFG:G dF=some (.dK kF):=kp _ _ (aA hkF2 h0) hkF2
    have tkG:TK H1 G:=s2.tk.trans fun p xs h=>kp _ _ (aA h h0) h
    have fin:∀ G1 u t1,aI G G1->G1 t1=none->rB G1 u (fH F (Sum.inr y))->CP (ys.map V.str).length acc (fun i zs G=>Kp acc H2 G/\Paired (fun v (x:aH×Option Rat)=>∃ a u,v=.ref a/\G a=some (.tup [kV x.1,u])/\rB G u x.2) zs ((ys.map fun y=>(Sum.inr y,fH F (Sum.inr y))).take i)) zs i (.ref t1) (upd G1 t1 (.tup [.str y,u])):=fun G1 u t1 sg ht ou=>by
     have hG2:=aL (o:=.tup [.str y,u]) ht (sg _ _ hG)
     refine gJ (by rw [length_map]; exact hi) hzl hG2 ⟨Kp.trans (Kp.trans kp (fun b o _ h=>aL ht (sg _ _ h))) Kp.upd,?_⟩
     have tk:TK (upd G1 t1 (.tup [.str y,u])) (upd (upd G1 t1 (.tup [.str y,u])) acc (.lst (zs++[.ref t1]))):=TK.lst hG2
     have tk2:=(sg.tk.trans (TK.new (o:=.tup [.str y,u]) ht)).trans tk
     have hi':i < (ys.map fun y=>((Sum.inr y:aH),fH F (Sum.inr y))).length:=by rw [length_map]; exact hi
     rw [take_succ_eq_append_getElem hi']
     have:(ys.map fun y=>((Sum.inr y:aH),fH F (Sum.inr y)))[i]=(Sum.inr y,fH F (Sum.inr y)):=by
      rw [List.getElem_map]
      rw [List.getElem?_eq_getElem hi] at hy
      rw [Option.some.inj hy]
     rw [this]
     exact Pd.snoc (Pd.imp pr fun v x ⟨a,u,e,h,f⟩=>⟨a,u,e,tk2 _ _ h,f.tk tk2⟩) ⟨t1,u,rfl,tk _ _ aB,(ou.tk (TK.new ht)).tk tk⟩
    w_fin
    refine XX (.inl hkFG) ?_
    rcases qF.val (k:=Sum.inr y) with ⟨e1,e2⟩|⟨v1,r1,e1,e2,p1,u1,rfl,h1,f1⟩
    ·rw [e1]
     w_fin
     refine bZ fun t1 ht1=>?_
     refine fin G .non t1 (aI.refl _) ht1 ?_
     unfold fH
     rw [e2]
     rfl
    ·rw [e1]
     w_fin
     refine jN (.inl hkFG) e1 ?_
     have h1G:=tkG _ _ h1
     w_fin
     refine bZ fun t1 ht1=>?_
     refine fin G u1 t1 (aI.refl _) ht1 ?_
     unfold fH
     rw [e2]
     exact f1.tk tkG
  ·intro acc zs G h0 hG hzl ⟨kp,pr⟩
   have hlW:(ys.map V.str).length=(ys.map fun y=>((Sum.inr y:aH),fH F (Sum.inr y))).length:=by simp
   rw [hlW,take_length] at pr
   obtain ⟨k0,pa,kq0⟩:=pM pr
   w_fin
   rw [length_map] at hzl
   refine ⟨acc,zs,k0,rfl,hG,pa,by omega,fun dR hdR=>?_⟩
   have nd0:((ys.map fun y=>((Sum.inr y:aH),fH F (Sum.inr y))).map (·.1)).Nodup:=by
    rw [map_map]
    exact pairwise_map.mpr (nd.imp fun h e=>h (Sum.inr.inj e))
   rw [jZ (by rw [nil_append,kq0.keys]; exact nd0),nil_append]
   w_fin
   have sG:aI H G:=fun b o hb=>by
    have h2:=s2 _ _ (s1 _ _ hb)
    exact kp _ _ (aA h2 h0) h2
   refine q dR _ F ys ?_ (sG.trans (aI.new hdR)) ⟨k0,aB,kq0.imp fun v b f=>f.tk (TK.new hdR)⟩ fo bF srt nd mem
   cases z:H dR with
  |none=>rfl
  |some o=>rw [sG _ _ z] at hdR; cases hdR
theorem zG (T:Bl mg) (d:Df K mg "_law_cell_at" nA ["_law_script","_law_k"]) (W:kH mg xt x1 x3 x4) (R_NoSum:bN K xt x1 x3 x4 x3 3) (R1:bN K xt x1 x3 x4 x1 1) (R4:bN K xt x1 x3 x4 x4 4):bJ P w K mg base (k+1) "_law_cell_at" ["_law_script","_law_k"] (yI K):=by
 refine bJ.of d yN (fun vs H Q E h=>?_) (fun f cdv A outer s H vs Q E hr h=>?_)
 ·obtain ⟨a,ns,k',rfl,_⟩:=h
  rfl
 ·obtain ⟨a,ns,k',rfl,hS,h0,q⟩:=h
  refine ⟨_,(@aC _ _ _ _ _ (@fF _ _ _ _ _ _ _ _ (@aX _ _ _ _ _ _ _ _ wO (pv 1) (@bP _ _ _ _ _ _ _ _ _ jV rfl T.z_len gM (@dY _ _ _ (pv 0) (by rfl)) (by decide) (by decide) (by rfl) (by rfl)) (bB _)) (@aF _ _ _ (@aS _ _ _ _ (@cD _ _ _ _ _ _ _ eI (pv 0) (pv 1) (fun _ _=>rfl)))) (@cC _)) (@aF _ _ _ (@aS _ _ _ _ (@aE _ _ _ _)))),?_⟩
  w_fin
  refine HH hS ?_
  w_fin
  refine xI (fun c=>?_) (fun c=>?_)
  ·rw [length_map] at c
   obtain ⟨z,_,hz⟩:=Bq (ns:=ns) h0 c
   w_fin
   refine XM hS hz ?_
   w_fin
   exact q z
  ·w_fin
   exact q 0
theorem IG (T:Bl mg) (d:Df K mg "_law_mixed" tX ["_law_cell","_law_k"]) (W:kH mg xt x1 x3 x4) (R_NoSum:bN K xt x1 x3 x4 x3 3) (R1:bN K xt x1 x3 x4 x1 1) (R4:bN K xt x1 x3 x4 x4 4):bJ P w K mg base (k+1) "_law_mixed" ["_law_cell","_law_k"] nZ:=by
 refine bJ.of d GO (fun vs H Q E h=>?_) (fun f cdv A outer s H vs Q E hr h=>?_)
 ·obtain ⟨c,k',rfl,_⟩:=h
  rfl
 ·obtain ⟨c,k',rfl,h0,h1,q⟩:=h
  refine ⟨_,(@aF _ _ _ (@aS _ _ _ _ (@aM _ _ _ _ _ _ _ _ dD (@aM _ _ _ _ _ _ _ _ bY (@aM _ _ _ _ _ _ _ _ bY (@aM _ _ _ _ _ _ _ _ bE (@aM _ _ _ _ _ _ _ _ dD (@aM _ _ _ _ _ _ _ _ bE (pv 0) (@aE _ _ _ _)) (@aE _ _ _ _)) (@aE _ _ _ _)) (@aM _ _ _ _ _ _ _ _ bE (@aM _ _ _ _ _ _ _ _ bE (@aE _ _ _ _) (pv 1)) (pv 1))) (@aM _ _ _ _ _ _ _ _ bE (@aE _ _ _ _) (pv 1))) (@aE _ _ _ _)))),?_⟩
  w_fin
  have h:=Int.emod_nonneg (c * 69621) (show (2147483629:Int)≠0 by decide)
  have h':=Int.emod_lt_of_pos (c * 69621) (show (0:Int) < 2147483629 by decide)
  generalize c * 69621 % 2147483629=z at *
  w_fin
  exact q _ (Int.emod_nonneg _ (by decide)) (Int.emod_lt_of_pos _ (by decide))
theorem IH (T:Bl mg) (d:Df K mg "_law_great" tY ["_law_cell"]) (W:kH mg xt x1 x3 x4) (R_NoSum:bN K xt x1 x3 x4 x3 3) (R1:bN K xt x1 x3 x4 x1 1) (R4:bN K xt x1 x3 x4 x4 4) (o0z:bJ P w K mg base k "_law_mixed" ["_law_cell","_law_k"] nZ):bJ P w K mg base (k+1) "_law_great" ["_law_cell"] AU:=by
 refine bJ.of d GP (fun vs H Q E h=>?_) (fun f cdv A outer s H vs Q E hr h=>?_)
 ·obtain ⟨c,rfl,_⟩:=h
  rfl
 ·obtain ⟨c,rfl,q⟩:=h
  refine ⟨_,(@aC _ _ _ _ _ (@fF _ _ _ _ _ _ _ _ (@PW.pt _ _ _ (@nK _ _ _ _ _ _ _ (@aX _ _ _ _ _ _ _ _ wO (pv 0) (@aE _ _ _ _) (bB _)) (@jO _ _ _ _ (@aX _ _ _ _ _ _ _ _ BU (pv 0) (@aM _ _ _ _ _ _ _ _ ID (@aE _ _ _ _) (@aE _ _ _ _)) (bB _))))) (@aF _ _ _ (@aS _ _ _ _ (pv 0))) (@cC _)) (@aF _ _ _ (@aS _ _ _ _ (@aM _ _ _ _ _ _ _ _ bY (@aG _ _ _ _ _ _ _ _ _ _ o0z hr rfl (@dM _ _ _ _ _ (pv 0) (@aE _ _ _ _) (by rfl) (by rfl)) (by decide) (by rfl) (by rfl)) (@aM _ _ _ _ _ _ _ _ bE (@aE _ _ _ _) (@aM _ _ _ _ _ _ _ _ bY (@aG _ _ _ _ _ _ _ _ _ _ o0z hr rfl (@dM _ _ _ _ _ (pv 0) (@aE _ _ _ _) (by rfl) (by rfl)) (by decide) (by rfl) (by rfl)) (@aM _ _ _ _ _ _ _ _ bE (@aE _ _ _ _) (@aG _ _ _ _ _ _ _ _ _ _ o0z hr rfl (@dM _ _ _ _ _ (pv 0) (@aE _ _ _ _) (by rfl) (by rfl)) (by decide) (by rfl) (by rfl))))))))),?_⟩
  w_fin
  refine xI (fun c0=>?_) (fun c0=>?_)
  ·w_fin
   exact q _
  ·w_fin
   refine xI (fun c1=>?_) (fun c1=>?_)
   ·w_fin
    exact q _
   ·w_fin
    refine ⟨c,41,rfl,by decide,by decide,fun r1 a1 b1=>?_⟩
    w_fin
    refine ⟨c,43,rfl,by decide,by decide,fun r2 a2 b2=>?_⟩
    w_fin
    refine ⟨c,47,rfl,by decide,by decide,fun r3 a3 b3=>?_⟩
    w_fin
    exact q _
theorem zC (T:Bl mg) (d:Df K mg "_law_numbers" mX ["_law_script","_law_first","_law_many","_law_size"]) (W:kH mg xt x1 x3 x4) (R_NoSum:bN K xt x1 x3 x4 x3 3) (R1:bN K xt x1 x3 x4 x1 1) (R4:bN K xt x1 x3 x4 x4 4) (o0u:bJ P w K mg base k "_law_cell_at" ["_law_script","_law_k"] (yI K)) (o0z:bJ P w K mg base k "_law_mixed" ["_law_cell","_law_k"] nZ):bJ P w K mg base (k+1) "_law_numbers" ["_law_script","_law_first","_law_many","_law_size"] (rL K):=by
 refine bJ.of d fZ (fun vs H Q E h=>?_) (fun f cdv A outer s H vs Q E hr h=>?_)
 ·obtain ⟨a,ns,f0,m,z,rfl,_⟩:=h
  rfl
 ·obtain ⟨a,ns,f0,m,z,rfl,hS,hf0,hf1,hm0,hm,z0,z1,q⟩:=h
  refine ⟨_,(@aC _ _ _ _ _ (@aK _ _ (i:=4) _ _ _ _ fZ.nd rfl (by w_left) (@bV _ _ _ _ (@eV _)) (by rfl) (by w_means)) (@aC _ _ _ _ _ (@aK _ _ (i:=5) _ _ _ _ fZ.nd rfl (by w_left) (@aG _ _ _ _ _ _ _ _ _ _ o0u hr rfl (@dM _ _ _ _ _ (pv 0) (pv 1) (by rfl) (by rfl)) (by decide) (by rfl) (by rfl)) (by rfl) (by w_means)) (@aC _ _ _ _ _ (@iI _ _ _ _ _ _ PassesOwn.never (@PW.pt _ _ _ (@uH _ _ _ _ _ _ _ (@aX _ _ _ _ _ _ _ _ (pO hr.units) (@aM _ _ _ _ _ _ _ _ dD (@aG _ _ _ _ _ _ _ _ _ _ o0u hr rfl (@dM _ _ _ _ _ (pv 0) (@aE _ _ _ _) (by rfl) (by rfl)) (by decide) (by rfl) (by rfl)) (@aE _ _ _ _)) (@aE _ _ _ _) (bB _)) (@uH _ _ _ _ _ _ _ (@aX _ _ _ _ _ _ _ _ (pN hr.units) (pv 5) (@aE _ _ _ _) (bB _)) (@uG _ _ _ _ (@aX _ _ _ _ _ _ _ _ wO (@bP _ _ _ _ _ _ _ _ _ jV rfl T.z_len gM (@dY _ _ _ (pv 4) (by rfl)) (by decide) (by decide) (by rfl) (by rfl)) (pv 2) (bB _)))))) (@aC _ _ _ _ _ (@fS _ _ _ _ (@jQ _ _ _ _ _ _ _ _ _ _ _ _ plainAttrs_list PySem.F.slot_list_append PySem.F.type_list_append dZ (pv 4) (@dY _ _ _ (@aM _ _ _ _ _ _ _ _ dD (pv 5) (pv 3)) (by rfl)) (by rfl) (by rfl) (by rfl) (by rfl) (by rfl)) (by rfl)) (@aF _ _ _ (@aK _ _ (i:=5) _ _ _ _ fZ.nd rfl (by w_left) (@aM _ _ _ _ _ _ _ _ bI (pv 5) (pv 3)) (by rfl) (by w_means))))) (@aC _ _ _ _ _ (@dS _ _ _ _ _ _ _ _ PassesOwn.never rfl (@rW _ _ _ _ _ _ _ rfl T.z_range (@dM _ _ _ _ _ (@bP _ _ _ _ _ _ _ _ _ jV rfl T.z_len gM (@dY _ _ _ (pv 4) (by rfl)) (by decide) (by decide) (by rfl) (by rfl)) (pv 2) (by rfl) (by rfl)) (by rfl) (by rfl)) (@aP _ _ (i:=6) _ fZ.nd rfl (by w_left) (by w_means)) (@aF _ _ _ (@fS _ _ _ _ (@jQ _ _ _ _ _ _ _ _ _ _ _ _ plainAttrs_list PySem.F.slot_list_append PySem.F.type_list_append dZ (pv 4) (@dY _ _ _ (@aM _ _ _ _ _ _ _ _ dD (@aG _ _ _ _ _ _ _ _ _ _ o0z hr rfl (@dM _ _ _ _ _ (@aG _ _ _ _ _ _ _ _ _ _ o0u hr rfl (@dM _ _ _ _ _ (pv 0) (@aM _ _ _ _ _ _ _ _ bY (pv 1) (pv 6)) (by rfl) (by rfl)) (by decide) (by rfl) (by rfl)) (pv 6) (by rfl) (by rfl)) (by decide) (by rfl) (by rfl)) (pv 3)) (by rfl)) (by rfl) (by rfl) (by rfl) (by rfl) (by rfl)) (by rfl))) (by intro _; rfl)) (@aF _ _ _ (@aS _ _ _ _ (pv 4))))))),?_⟩
  obtain ⟨m,rfl⟩:∃ m':Nat,m=m':=⟨m.toNat,by omega⟩
  rw [Int.toNat_natCast] at q
  w_fin
  refine cL fun p hp=>?_
  have hS1:bX K (L2.upd H p (.lst [])) a (ns.map V.int):=(aI.new hp).seq hS
  w_fin
  refine ⟨a,ns,f0,rfl,hS1,hf0,fun c0=>?_⟩
  w_fin
  refine PX (s:=tM _ _) (fun σ H'=>∃ (c':Int) (o:Option V) (xs:List Int),σ=[some (.ref a),some (.int f0),some (.int m),some (.int z),some (.ref p),some (.int c'),o]/\Kp p H H'/\H' p=some (.lst (xs.map V.int))/\xs.length<=m/\∀ x∈xs,0<=x/\x < z) ?_ (fun NX hNX=>?_)
  ·rintro σ H1 ⟨c',o,xs,rfl,kp,h1,hl,hx⟩
   w_fin
   refine ⟨_,_,rfl,⟨by omega,by rw [length_map]; omega,by omega,by omega⟩,?_⟩
   rw [length_map]
   have hN:((m:Int) - (xs.length:Int)).toNat=m - xs.length:=by omega
   rw [hN]
   refine uC (fun i σ H'=>∃ (c':Int) (o:Option V) (ys:List Int),σ=[some (.ref a),some (.int f0),some (.int m),some (.int z),some (.ref p),some (.int c'),o]/\Kp p H H'/\H' p=some (.lst (ys.map V.int))/\ys.length=xs.length+i/\∀ x∈ys,0<=x/\x < z) ⟨_,_,xs,rfl,kp,h1,rfl,hx⟩ ?_ ?_
   ·rintro i σ H2 hi ⟨c2,o2,ys,rfl,kp2,h2,hl2,hx2⟩
    have s2:aI H H2:=fun b o h=>kp2 _ _ (aA h hp) h
    w_fin
    refine ⟨a,ns,_,rfl,s2.seq hS,by omega,fun r=>?_⟩
    w_fin
    refine ⟨r,_,rfl,by omega,by omega,fun r2 a2 b2=>?_⟩
    w_fin
    refine jI h2 (by rw [length_map]; omega) ?_
    w_fin
    refine ⟨_,_,ys++[r2 % z],rfl,kp2.trans Kp.upd,by rw [aB]; simp,by rw [length_append,hl2]; rfl,fun x hx'=>?_⟩
    rcases mem_append.mp hx' with h|h
    ·exact hx2 x h
    ·rw [mem_singleton.mp h]
     exact ⟨Int.emod_nonneg _ (by omega),Int.emod_lt_of_pos _ z0⟩
   ·rintro σ H2 ⟨c2,o2,ys,rfl,kp2,h2,hl2,hx2⟩
    w_fin
    exact q p H2 ys hp (fun b o h=>kp2 _ _ (aA h hp) h) h2 (by omega) hx2
  ·refine uA (fun σ H'=>∃ (c':Int) (o:Option V) (xs:List Int),σ=[some (.ref a),some (.int f0),some (.int m),some (.int z),some (.ref p),some (.int c'),o]/\Kp p H H'/\H' p=some (.lst (xs.map V.int))/\xs.length<=m/\∀ x∈xs,0<=x/\x < z)
    (fun _ H'=>m - (match H' p with|some (.lst xs)=>xs.length|_=>0)) ⟨c0,_,[],rfl,Kp.new hp,aB,zero_le _,fun x hx=>by simp at hx⟩ ?_
   ·rintro σ H1 ⟨c',o,xs,rfl,kp,h1,hl,hx⟩
    have s1:aI H H1:=fun b o h=>kp _ _ (aA h hp) h
    w_fin
    refine ⟨a,ns,0,rfl,s1.seq hS,Int.le_refl 0,fun r=>?_⟩
    w_fin
    refine xI (fun c1=>?_) (fun c1=>?_)
    ·w_fin
     refine xI (fun c2=>?_) (fun c2=>?_)
     ·w_fin
      exact hNX _ _ ⟨c',o,xs,rfl,kp,h1,hl,hx⟩
     ·w_fin
      rw [length_map]
      refine xI (fun c3=>?_) (fun c3=>?_)
      ·w_fin
       refine RB ?_
       w_fin
       refine jI h1 (by rw [length_map]; omega) ?_
       w_fin
       refine ⟨⟨_,o,xs++[c' % z],rfl,kp.trans Kp.upd,by rw [aB]; simp,by rw [length_append]; simp; omega,fun x hx'=>?_⟩,?_⟩
       ·rcases mem_append.mp hx' with h|h
        ·exact hx x h
        ·rw [mem_singleton.mp h]
         exact ⟨Int.emod_nonneg _ (by omega),Int.emod_lt_of_pos _ z0⟩
       ·show m - (match L2.upd H1 p _ p with|some (.lst xs)=>xs.length|_=>0) < m - (match H1 p with|some (.lst xs)=>xs.length|_=>0)
        rw [aB,h1]
        show m - (xs.map V.int++[V.int (c' % z)]).length < m - (xs.map V.int).length
        rw [length_append,length_map]
        simp
        omega
      ·w_fin
       exact hNX _ _ ⟨c',o,xs,rfl,kp,h1,hl,hx⟩
    ·w_fin
     exact hNX _ _ ⟨c',o,xs,rfl,kp,h1,hl,hx⟩
theorem DV (T:Bl mg) (d:Df K mg "_law_lowest" pA ["_law_top","_law_bottom"]) (W:kH mg xt x1 x3 x4) (R_NoSum:bN K xt x1 x3 x4 x3 3) (R1:bN K xt x1 x3 x4 x1 1) (R4:bN K xt x1 x3 x4 x4 4):bJ P w K mg base (k+1) "_law_lowest" ["_law_top","_law_bottom"] oX:=by
 refine bJ.of d jX (fun vs H Q E h=>?_) (fun f cdv A outer s H vs Q E hr h=>?_)
 ·obtain ⟨t,b,rfl,_⟩:=h
  rfl
 ·obtain ⟨t,b,rfl,hb,hs1,hs2,q⟩:=h
  refine ⟨_,(@aC _ _ _ _ _ (@aK _ _ (i:=2) _ _ _ _ jX.nd rfl (by w_left) (@bP _ _ _ _ _ _ _ _ _ QW rfl T.z_abs KB (@dY _ _ _ (pv 0) (by rfl)) (by decide) (by decide) (by rfl) (by rfl)) (by rfl) (by w_means)) (@aC _ _ _ _ _ (@aK _ _ (i:=3) _ _ _ _ jX.nd rfl (by w_left) (pv 1) (by rfl) (by w_means)) (@aC _ _ _ _ _ (@iI _ _ _ _ _ _ PassesOwn.never (@aX _ _ _ _ _ _ _ _ BU (pv 3) (@aE _ _ _ _) (bB _)) (@aF _ _ _ (@ST _ _ (i:=2) (j:=3) _ _ _ _ _ _ _ _ _ _ _ rfl jX.nd rfl rfl (by decide) rfl rfl (@dM _ _ _ _ _ (pv 3) (@aM _ _ _ _ _ _ _ _ dD (pv 2) (pv 3)) (by rfl) (by rfl)) rfl (by rfl)))) (@aF _ _ _ (@aS _ _ _ _ (@bH _ _ _ _ _ (@dM _ _ _ _ _ (@aM _ _ _ _ _ _ _ _ bI (pv 0) (pv 2)) (@aM _ _ _ _ _ _ _ _ bI (pv 1) (pv 2)) (by rfl) (by rfl)))))))),?_⟩
  w_fin
  refine oR (fun σ H'=>∃ one other:Int,σ=[some (.int t),some (.int b),some (.int one),some (.int other)]/\H'=H/\0<=one/\0<=other/\Int.gcd one other=Int.gcd t b)
   (fun σ _=>match σ with|[_,_,_,some (.int z)]=>z.toNat|_=>0) ⟨_,_,rfl,rfl,by split <;> omega,by omega,?_⟩ ?_ ?_
  ·have e:(if t < 0 then -t else t)=(t.natAbs:Int):=by split <;> omega
   rw [e]
   simp [Int.gcd]
  ·rintro σ H' ⟨one,other,rfl,rfl,h1,h2,hg⟩
   w_fin
   refine xI (fun c=>?_) (fun c=>?_)
   ·w_fin
    refine ⟨⟨_,_,rfl,rfl,h2,Int.emod_nonneg _ (by omega),by rw [JI c]; exact hg⟩,?_⟩
    have:=Int.emod_lt_of_pos one c
    show (one % other).toNat < other.toNat
    omega
   ·have e:other=0:=by omega
    subst e
    have hb0:b≠0:=by omega
    have e1:one=(Int.gcd t b:Int):=by rw [← hg,Int.gcd_zero_right]; omega
    have hgb:(Int.gcd t b:Int).natAbs<=b.natAbs:=by
     have:=le_of_dvd (by omega) (Int.gcd_dvd_natAbs_right t b)
     omega
    have es:(Int.gcd t b:Int)=sg t b:=by unfold sg; rw [if_neg (by omega)]
    subst e1
    w_fin
    rw [es]
    have hc:∀ z,kY z (sg t b):=fun _=>⟨GJ hb0,Sm.le (by rw [rQ]; omega) hs2⟩
    refine iF (hc _) ?_
    w_fin
    refine iF (hc _) ?_
    w_fin
    refine bZ fun p hp=>?_
    w_fin
    exact q p hp
  ·intro σ H Q Q' hQ h
   obtain ⟨v,e1,i,j,e2,e3,b',e4,q'⟩:=h
   exact ⟨v,e1,i,j,e2,e3,b',e4,hQ _ _ q'⟩
theorem NA (T:Bl mg) (d:Df K mg "_law_unit" yO ["_law_number"]) (W:kH mg xt x1 x3 x4) (R_NoSum:bN K xt x1 x3 x4 x3 3) (R1:bN K xt x1 x3 x4 x1 1) (R4:bN K xt x1 x3 x4 x4 4):bJ P w K mg base (k+1) "_law_unit" ["_law_number"] GE:=by
 refine bJ.of d LS (fun vs H Q E h=>?_) (fun f cdv A outer s H vs Q E hr h=>?_)
 ·obtain ⟨n,rfl,_⟩:=h
  rfl
 ·obtain ⟨n,rfl,q⟩:=h
  refine ⟨_,(@aF _ _ _ (@aS _ _ _ _ (@cD _ _ _ _ _ _ _ eI (@bV _ _ _ _ (@cZ _ _ _ _ _ (@bH _ _ _ _ _ (@dM _ _ _ _ _ (@aE _ _ _ _) (@aE _ _ _ _) (by rfl) (by rfl))) (@cZ _ _ _ _ _ (@bH _ _ _ _ _ (@dM _ _ _ _ _ (@aE _ _ _ _) (@aE _ _ _ _) (by rfl) (by rfl))) (@cZ _ _ _ _ _ (@bH _ _ _ _ _ (@dM _ _ _ _ _ (@aE _ _ _ _) (@aE _ _ _ _) (by rfl) (by rfl))) (@zA _ _ _ _ _ _ _ (@bH _ _ _ _ _ (@dM _ _ _ _ _ (@aE _ _ _ _) (@aE _ _ _ _) (by rfl) (by rfl))) (@bH _ _ _ _ _ (@dM _ _ _ _ _ (@aE _ _ _ _) (@aE _ _ _ _) (by rfl) (by rfl))) (@bH _ _ _ _ _ (@dM _ _ _ _ _ (@aE _ _ _ _) (@aM _ _ _ _ _ _ _ _ bY (@aM _ _ _ _ _ _ _ _ ID (@aE _ _ _ _) (@aE _ _ _ _)) (@aE _ _ _ _)) (by rfl) (by rfl))) (by rfl) (by rfl) (by rfl)) (by rfl)) (by rfl)) (by rfl))) (@aM _ _ _ _ _ _ _ _ dD (pv 0) (@aE _ _ _ _)) (fun _ _=>rfl)))),?_⟩
  w_fin
  refine gE fun p0 H0 hp0 s0 g0=>?_
  w_fin
  refine gE fun p1 H1 hp1 s1 g1=>?_
  w_fin
  refine gE fun p2 H2 hp2 s2 g2=>?_
  w_fin
  refine gE fun p3 H3 hp3 s3 g3=>?_
  w_fin
  refine gE fun p4 H4 hp4 s4 g4=>?_
  w_fin
  refine MB ?_
  w_fin
  refine gE fun p5 H5 hp5 s5 g5=>?_
  w_fin
  refine nB fun p9 H9 hp9 s9 g9=>?_
  have r5:=s9
  have r4:=s5.trans r5
  have r3:=s4.trans r4
  have r2:=s3.trans r3
  have r1:=s2.trans r2
  have r0:=s1.trans r1
  have rH:=s0.trans r0
  have a0:=Int.emod_nonneg n (show (6:Int)≠0 by decide)
  have a1:=Int.emod_lt_of_pos n (show (0:Int) < 6 by decide)
  w_fin
  rcases (show n % 6=0∨n % 6=1∨n % 6=2∨n % 6=3∨n % 6=4∨n % 6=5 by omega) with e|e|e|e|e|e
  ·rw [e]
   refine fE g9 (v:=V.ref p0) rfl ?_
   w_fin
   exact q p0 (1,1) H9 ⟨by decide,by decide,by decide,by decide⟩ (hp0) rH (r0 _ _ g0)
  ·rw [e]
   refine fE g9 (v:=V.ref p1) rfl ?_
   w_fin
   exact q p1 (1,2) H9 ⟨by decide,by decide,by decide,by decide⟩ ((s0.free hp1)) rH (r1 _ _ g1)
  ·rw [e]
   refine fE g9 (v:=V.ref p2) rfl ?_
   w_fin
   exact q p2 (2,3) H9 ⟨by decide,by decide,by decide,by decide⟩ ((s0.free (s1.free hp2))) rH (r2 _ _ g2)
  ·rw [e]
   refine fE g9 (v:=V.ref p3) rfl ?_
   w_fin
   exact q p3 (1,12) H9 ⟨by decide,by decide,by decide,by decide⟩ ((s0.free (s1.free (s2.free hp3)))) rH (r3 _ _ g3)
  ·rw [e]
   refine fE g9 (v:=V.ref p4) rfl ?_
   w_fin
   exact q p4 (5,1) H9 ⟨by decide,by decide,by decide,by decide⟩ ((s0.free (s1.free (s2.free (s3.free hp4))))) rH (r4 _ _ g4)
  ·rw [e]
   refine fE g9 (v:=V.ref p5) rfl ?_
   w_fin
   exact q p5 (7,1000000000000+1) H9 ⟨by decide,by decide,by decide,by decide⟩ ((s0.free (s1.free (s2.free (s3.free (s4.free hp5)))))) rH (r5 _ _ g5)
theorem IE (T:Bl mg) (d:Df K mg "_law_sizes" tV ["_law_numbers_here"]) (W:kH mg xt x1 x3 x4) (R_NoSum:bN K xt x1 x3 x4 x3 3) (R1:bN K xt x1 x3 x4 x1 1) (R4:bN K xt x1 x3 x4 x4 4):bJ P w K mg base (k+1) "_law_sizes" ["_law_numbers_here"] (AR K):=by
 refine bJ.of d lV (fun vs H Q E h=>?_) (fun f cdv A outer s H vs Q E hr h=>?_)
 ·obtain ⟨p,xs,rfl,_⟩:=h
  rfl
 ·obtain ⟨p,xs,rfl,hp,hx,hl,h0,q⟩:=h
  refine ⟨_,(@aC _ _ _ _ _ (@aK _ _ (i:=1) _ _ _ _ lV.nd rfl (by w_left) (@bV _ _ _ _ (@eV _)) (by rfl) (by w_means)) (@aC _ _ _ _ _ (@dS _ _ _ _ _ _ _ _ PassesOwn.never rfl (@cH _ _ _ _ (pv 0)) (@aP _ _ (i:=2) _ lV.nd rfl (by w_left) (by w_means)) (@aC _ _ _ _ _ (@aK _ _ (i:=3) _ _ _ _ lV.nd rfl (by w_left) (@aM _ _ _ _ _ _ _ _ bY (@aE _ _ _ _) (@aM _ _ _ _ _ _ _ _ dD (pv 2) (@cD _ _ _ _ _ _ _ eI (@bV _ _ _ _ (@dM _ _ _ _ _ (@aE _ _ _ _) (@aE _ _ _ _) (by rfl) (by rfl))) (@aM _ _ _ _ _ _ _ _ dD (@aM _ _ _ _ _ _ _ _ bI (pv 2) (@aE _ _ _ _)) (@aE _ _ _ _)) (fun _ _=>rfl)))) (by rfl) (by w_means)) (@aF _ _ _ (@fF _ _ _ _ _ _ _ _ (@aX _ _ _ _ _ _ _ _ uQ (pv 3) (pv 1) (by with_unfolding_all rfl)) (@aF _ _ _ (@fS _ _ _ _ (@jQ _ _ _ _ _ _ _ _ _ _ _ _ plainAttrs_list PySem.F.slot_list_append PySem.F.type_list_append dZ (pv 1) (@dY _ _ _ (pv 3) (by rfl)) (by rfl) (by rfl) (by rfl) (by rfl) (by rfl)) (by rfl))) (@cC _)))) (by intro _; rfl)) (@aF _ _ _ (@aS _ _ _ _ (pv 1))))),?_⟩
  w_fin
  refine cL fun l hl0=>?_
  w_fin
  have hp1:=aI.new (o:=.lst []) hl0 _ _ hp
  refine cG (bX.of hp1) ?_
  refine nC (xs:=xs.map V.int) (fun i σ G=>∃ (S:List Nat) (o1 o2:Option V),σ=[some (.ref p),some (.ref l),o1,o2]/\Kp l H G/\G l=some (.lst ((S.map Int.ofNat).map V.int))/\(∀ s∈S,0 < s/\s<=40)/\S.length<=i/\(0 < i->S≠[])/\(0∈xs.take i->1∈S)) ⟨[],_,_,rfl,Kp.new hl0,aB,fun s h=>by simp at h,le_refl _,fun h=>by omega,fun h=>by simp at h⟩ ?_ ?_ ?_
  ·rintro i σ G hi ⟨S,o1,o2,rfl,kp,_⟩
   exact bX.of (kp _ _ (aA hp hl0) hp)
  ·rintro i x σ G hx' ⟨S,o1,o2,rfl,kp,hG,hS,hSl,hS0,h1S⟩
   rw [List.getElem?_map] at hx'
   obtain ⟨z,hz,rfl⟩:=Option.map_eq_some_iff.mp hx'
   w_fin
   refine nB fun pa G9 hpa s9 g9=>?_
   have a0:=Int.emod_nonneg (z.fdiv 40) (show (2:Int)≠0 by decide)
   have a1:=Int.emod_lt_of_pos (z.fdiv 40) (show (0:Int) < 2 by decide)
   obtain ⟨w,hw,hw2⟩:∃ w:Int,sZ [V.int 12,V.int 40] (z.fdiv 40 % 2)=some (V.int w)/\(w=12∨w=40):=by
    rcases (show z.fdiv 40 % 2=0∨z.fdiv 40 % 2=1 by omega) with e|e
    ·exact ⟨12,by rw [e]; rfl,.inl rfl⟩
    ·exact ⟨40,by rw [e]; rfl,.inr rfl⟩
   w_fin
   refine fE g9 hw ?_
   have b0:=Int.emod_nonneg z (show w≠0 by omega)
   have b1:=Int.emod_lt_of_pos z (show 0 < w by omega)
   w_fin
   have hG9:=s9 _ _ hG
   have kp9:=kp.trans s9.kp
   refine ⟨l,_,rfl,.inl (bX.of hG9),rfl,sR _,?_⟩
   obtain ⟨m,hm⟩:∃ m:Nat,1+z % w=m:=⟨(1+z % w).toNat,by omega⟩
   rw [hm]
   have hmb:0 < m/\m<=40:=by omega
   have ht:xs.take (i+1)=xs.take i++[z]:=by rw [take_add_one,hz]; rfl
   have hz0:0=z->m=1:=fun e=>by subst e; simp at hm; omega
   generalize hbv:(if true=true then !UL (V.int (m:Int)) ((S.map Int.ofNat).map V.int) else UL (V.int (m:Int)) ((S.map Int.ofNat).map V.int))=bv
   cases bv with
  |false =>
    w_fin
    refine ⟨S,_,_,rfl,kp9,hG9,hS,by omega,fun _ e2=>?_,fun h=>?_⟩
    ·rw [e2,if_pos rfl] at hbv
     cases hbv
    ·rw [ht] at h
     rcases mem_append.mp h with h|h
     ·exact h1S h
     ·have e1:=hz0 (mem_singleton.mp h)
      subst e1
      rw [if_pos rfl] at hbv
      have hin:UL (V.int ((1:Nat):Int)) ((S.map Int.ofNat).map V.int)=true:=by simpa using hbv
      exact UK hin
  |true =>
    w_fin
    refine jI hG9 (by rw [length_map,length_map]; have:=(List.getElem?_eq_some_iff.mp hz).1; omega) ?_
    w_fin
    refine ⟨S++[m],_,_,rfl,kp9.trans Kp.upd,by rw [aB]; simp,fun x hx9=>?_,by simp; omega,fun _=>by simp,fun h=>?_⟩
    ·rcases mem_append.mp hx9 with h|h
     ·exact hS x h
     ·rw [mem_singleton.mp h]; exact hmb
    ·rw [ht] at h
     rcases mem_append.mp h with h|h
     ·exact mem_append_left _ (h1S h)
     ·rw [hz0 (mem_singleton.mp h)]
      exact mem_append_right _ (mem_singleton.mpr rfl)
  ·rintro σ G ⟨S,o1,o2,rfl,kp,hG,hS,hSl,hS0,h1S⟩
   rw [length_map] at hSl hS0
   w_fin
   exact q l S G hl0 (fun b o e=>kp _ _ (aA e hl0) e) hG hS (by omega) (hS0 (length_pos_iff.mpr h0)) (by rw [length_map,take_length] at h1S; exact h1S)
theorem wQ (T:Bl mg) (d:Df K mg "_law_times_of" iV ["_law_unit_here","_law_sizes_here"]) (W:kH mg xt x1 x3 x4) (R_NoSum:bN K xt x1 x3 x4 x3 3) (R1:bN K xt x1 x3 x4 x1 1) (R4:bN K xt x1 x3 x4 x4 4) (o0w:bJ P w K mg base k "_law_lowest" ["_law_top","_law_bottom"] oX):bJ P w K mg base (k+1) "_law_times_of" ["_law_unit_here","_law_sizes_here"] AQ:=by
 refine bJ.of d wE (fun vs H Q E h=>?_) (fun f cdv A outer s H vs Q E hr h=>?_)
 ·obtain ⟨a,u,p,S,rfl,_⟩:=h
  rfl
 ·obtain ⟨a,u,p,S,rfl,hu,ha,hp,hS,hl,q⟩:=h
  refine ⟨_,(@aF _ _ _ (@aS _ _ _ _ (@eZ _ _ _ _ _ _ _ _ _ _ _ _ _ _ (@dA _ _ (sc:=aD iV) (N:=["_law_unit_here","_law_sizes_here"]) (tn:=["_law_size"]) (names:=["_law_unit_here"]) (is:=[0]) rfl rfl (by decide +kernel) (by decide +kernel) rfl (by decide +kernel) rfl (by decide +kernel) (by decide +kernel) (by decide +kernel)) rfl (@cH _ _ _ _ (pv 1)) (fun _ _ _ _=>(@aP _ _ (i:=0) _ (show (["_law_size","_law_unit_here"]:List Str).Nodup by decide +kernel) rfl (Or.inl rfl) (Or.inr rfl))) (fun _ _ _ _=>(@aG _ _ _ _ _ _ _ _ _ _ o0w hr rfl (@dM _ _ _ _ _ (@aM _ _ _ _ _ _ _ _ bE (@cD _ _ _ _ _ _ _ gH (pv 1) (@aE _ _ _ _) (fun _ _=>rfl)) (pv 0)) (@cD _ _ _ _ _ _ _ gH (pv 1) (@aE _ _ _ _) (fun _ _=>rfl)) (by rfl) (by rfl)) (by decide) (by rfl) (by rfl))) (fun _ _ _ _=>(@cV _)) (by intro _; rfl)))),?_⟩
  w_fin
  refine cG (bX.of hp) ?_
  refine gZ (xs:=(S.map Int.ofNat).map V.int) (by rw [length_map,length_map]; omega) (fun acc i ys G=>Kp acc H G/\Paired (cK G) ys ((S.take i).map (bD u))) (fun acc h0=>⟨Kp.new h0,.nil⟩) ?_ ?_ ?_
  ·rintro acc i ys G h0 _ ⟨kp,_⟩
   exact bX.of (kp _ _ (aA hp h0) hp)
  ·rintro acc i ys G x h0 hx hly ha' ⟨kp,py⟩
   rw [map_map,List.getElem?_map] at hx
   obtain ⟨s',hs,e⟩:=Option.map_eq_some_iff.mp hx
   obtain rfl:x=V.int (s':Int):=e.symm
   have hs':=hS s' (mem_of_getElem? hs)
   have h1:=hu.s1
   have h2:=hu.s2
   have h3:=hu.p1
   have h4:=hu.p2
   have haG:G a=_:=kp _ _ (aA ha h0) ha
   have hb:u.1 * s'<=2 ^ 60 * 100000:=Int.mul_le_mul (Int.le_of_lt h1) (by omega) (by omega) (by decide)
   have hb0:0<=u.1 * s':=Int.mul_nonneg (by omega) (by omega)
   w_fin
   refine ⟨_,_,rfl,h4,Sm.mono (n:=8000) (m:=100) (Sm.of (by omega) (by show u.1 * s' < ((2 ^ 100:Nat):Int); omega)) (by decide),Sm.mono (n:=8000) (m:=100) (Sm.of (by omega) (by show u.2 < ((2 ^ 100:Nat):Int); omega)) (by decide),fun tq htq=>?_⟩
   w_fin
   obtain ⟨G2,zE,s2,h5⟩:=ZC htq (.tup [.int (eO (u.1 * s') u.2),.int (eA (u.1 * s') u.2)])
   rw [zE]
   have ha2:=s2 _ _ ha'
   refine gJ (by rw [length_map,length_map]; exact (List.getElem?_eq_some_iff.mp hs).1) hly ha2 ⟨(kp.trans s2.kp).trans Kp.upd,?_⟩
   rw [take_add_one,hs,map_append]
   have kT2:∀ {v f},cK G2 v f->cK (L2.upd G2 acc (.lst (ys++[V.ref tq]))) v f:=fun ⟨q,a,b⟩=>⟨q,a,by rw [aJ (cP b ha2 (by intro z; cases z))]; exact b⟩
   exact Pd.snoc (Pd.imp py fun v f x=>kT2 (cK.same x s2)) (kT2 ⟨tq,rfl,h5⟩)
  ·rintro acc ys G h0 ha' hly ⟨kp,py⟩
   rw [take_of_length_le (by rw [length_map,length_map]; exact le_refl _)] at py
   w_fin
   exact q acc G h0 (fun b o e=>kp _ _ (aA e h0) e) ⟨ys,ha',py⟩
theorem NB (T:Bl mg) (d:Df K mg "_law_show" yP ["_law_unit_here","_law_cell","_law_many"]) (W:kH mg xt x1 x3 x4) (R_NoSum:bN K xt x1 x3 x4 x3 3) (R1:bN K xt x1 x3 x4 x1 1) (R4:bN K xt x1 x3 x4 x4 4) (o0w:bJ P w K mg base k "_law_lowest" ["_law_top","_law_bottom"] oX):bJ P w K mg base (k+1) "_law_show" ["_law_unit_here","_law_cell","_law_many"] vX:=by
 refine bJ.of d lW (fun vs H Q E h=>?_) (fun f cdv A outer s H vs Q E hr h=>?_)
 ·obtain ⟨pu,u,c,m,rfl,_⟩:=h
  rfl
 ·obtain ⟨pu,u,c,m,rfl,hu,gu,hm0,hm,q⟩:=h
  refine ⟨_,(@aC _ _ _ _ _ (@aK _ _ (i:=3) _ _ _ _ lW.nd rfl (by w_left) (@mB _ _) (by rfl) (by w_means)) (@aC _ _ _ _ _ (@aK _ _ (i:=4) _ _ _ _ lW.nd rfl (by w_left) (@bV _ _ _ _ (@cZ _ _ _ _ _ (@fO _ _ _ _) (@cZ _ _ _ _ _ (@fO _ _ _ _) (@cZ _ _ _ _ _ (@fO _ _ _ _) (@zA _ _ _ _ _ _ _ (@fO _ _ _ _) (@fO _ _ _ _) (@fO _ _ _ _) (by rfl) (by rfl) (by rfl)) (by rfl)) (by rfl)) (by rfl))) (by rfl) (by w_means)) (@aC _ _ _ _ _ (@dS _ _ _ _ _ _ _ _ PassesOwn.never rfl (@rX _ _ _ _ _ _ rfl T.z_range (@dY _ _ _ (pv 2) (by rfl)) (by rfl)) (@aP _ _ (i:=5) _ lW.nd rfl (by w_left) (by w_means)) (@aC _ _ _ _ _ (@lZ _ _ _ _ _ _ _ _ _ hr.u1 (pv 3) (@cD _ _ _ _ _ _ _ eI (pv 4) (@aM _ _ _ _ _ _ _ _ dD (@aM _ _ _ _ _ _ _ _ bY (pv 1) (pv 5)) (@aE _ _ _ _)) (fun _ _=>rfl)) (@aG _ _ _ _ _ _ _ _ _ _ o0w hr rfl (@dM _ _ _ _ _ (@aM _ _ _ _ _ _ _ _ bE (@nP _ _ _ _ _ _ _ (pv 0)) (@aM _ _ _ _ _ _ _ _ dD (@aM _ _ _ _ _ _ _ _ bI (pv 1) (@aE _ _ _ _)) (@aE _ _ _ _))) (@nP _ _ _ _ _ _ _ (pv 0)) (by rfl) (by rfl)) (by decide) (by rfl) (by rfl)) rfl) (@aF _ _ _ (@aK _ _ (i:=1) _ _ _ _ lW.nd rfl (by w_left) (@aM _ _ _ _ _ _ _ _ bI (pv 1) (@aE _ _ _ _)) (by rfl) (by w_means)))) (by intro _; rfl)) (@aF _ _ _ (@aS _ _ _ _ (pv 3)))))),?_⟩
  w_fin
  refine uD fun d0 hd0=>?_
  obtain ⟨H0,zE,s0,g0⟩:=ZC hd0 (.dK [])
  rw [zE]
  w_fin
  refine cL fun lb hlb=>?_
  have s1:=s0.trans (aI.new (o:=.lst VS) hlb)
  have g01:L2.upd H0 lb (.lst VS) d0=_:=aL hlb g0
  have g1:=aB (H:=H0) (a:=lb) (o:=.lst VS)
  show nM 4 (V.ref lb) _ (L2.upd H0 lb (.lst VS)) _
  generalize L2.upd H0 lb (.lst VS)=H1 at s1 g01 g1 ⊢
  have gu1:=s1 _ _ gu
  w_fin
  refine ⟨m,rfl,by omega,by omega,?_⟩
  refine uC (n:=m.toNat) (fun i σ G=>∃ (c:Int) (o:Option V) (sh:List (Str×Nat)),σ=[some (.ref pu),some (.int c),some (.int m),some (.ref d0),some (.ref lb),o]/\Kp d0 H1 G/\AE u G d0 sh/\(sh.map (·.1)).Nodup/\sh.length<=i/\(0 < i->sh≠[])/\∀ y∈sh,y.2<=29) ⟨c,_,[],rfl,Kp.refl _ _,⟨[],g01,.nil⟩,nodup_nil,le_refl _,fun h=>absurd h (lt_irrefl _),fun y hy=>nomatch hy⟩ ?_ ?_
  ·rintro i σ G hi ⟨c,o,sh,rfl,kG,⟨kv,gd,pk⟩,nd,hl,hne,hb⟩
   have gl:=kG _ _ (cP g1 g01 (by intro z; cases z)) g1
   have gu2:=kG _ _ (cP gu1 g01 (by intro z; cases z)) gu1
   obtain ⟨mm,em,hmm⟩:∃ mm:Nat,c.fdiv 6 % 30=(mm:Int)/\mm<=29:=⟨(c.fdiv 6 % 30).toNat,by omega,by omega⟩
   have u1:=hu.s1
   have u2:=hu.s2
   have u3:=hu.p1
   have u4:=hu.p2
   have hb1:u.1 * (mm:Int)<=2 ^ 60 * 400:=Int.mul_le_mul (Int.le_of_lt u1) (by omega) (by omega) (by decide)
   have hb0:0<=u.1 * (mm:Int):=Int.mul_nonneg (by omega) (by omega)
   w_fin
   rw [em]
   refine ⟨_,_,rfl,u4,Sm.mono (n:=8000) (m:=100) (Sm.of (by omega) (by show u.1 * (mm:Int) < ((2 ^ 100:Nat):Int); omega)) (by decide),Sm.mono (n:=8000) (m:=100) (Sm.of (by omega) (by show u.2 < ((2 ^ 100:Nat):Int); omega)) (by decide),fun pt hpt=>?_⟩
   obtain ⟨G2,zE,st,gt⟩:=ZC hpt (.tup [.int (eO (u.1 * (mm:Int)) u.2),.int (eA (u.1 * (mm:Int)) u.2)])
   rw [zE]
   have lkv:=Paired.length pk
   obtain ⟨z,hz⟩:=VA (i:=(c+(0+(i:Int))) % 6) (by omega) (by omega)
   w_fin
   refine fE (st _ _ gl) hz ?_
   w_fin
   refine rV (c:=Sum.inr z) (st _ _ gd) (by omega) ?_
   have pk2:Paired (fun (kv:aH×V) (x:Str×Nat)=>kv.1=Sum.inr x.1/\cK G2 kv.2 (bD u x.2)) kv sh:=Pd.imp pk fun v x r=>⟨r.1,cK.same r.2 st⟩
   obtain ⟨sh',e1,e2,e3,e4,e5⟩:=RM (F:=fun v m=>cK G2 v (bD u m)) pk2 nd z (m:=mm) (v:=.ref pt) ⟨pt,rfl,gt⟩
   have tkU:TK G2 (L2.upd G2 d0 (.dK (cB kv (Sum.inr z) (.ref pt)))):=TK.dic (st _ _ gd)
   w_fin
   refine ⟨_,_,sh',rfl,(kG.trans st.kp).trans Kp.upd,⟨_,aB,Pd.imp e1 fun v x r=>⟨r.1,let ⟨q,e,g⟩:=r.2; ⟨q,e,tkU _ _ g⟩⟩⟩,e2,by omega,fun _=>e4,fun y hy=>?_⟩
   rcases e5 y hy with h|h
   ·exact hb y h
   ·omega
  ·rintro σ G ⟨c,o,sh,rfl,kG,gd,nd,hl,hne,hb⟩
   w_fin
   exact q d0 G sh hd0 (fun b o e=>kG _ _ (aA e hd0) (s1 _ _ e)) gd nd (by omega) (hne (by omega)) hb
theorem DU (T:Bl mg) (d:Df K mg "_law_played" lY ["_law_net","_law_out"]) (W:kH mg xt x1 x3 x4) (R_NoSum:bN K xt x1 x3 x4 x3 3) (R1:bN K xt x1 x3 x4 x1 1) (R4:bN K xt x1 x3 x4 x4 4) (o0e:lK P w K mg base k "fall_moments" ["net","pushes","takings"] [.non] (RJ w)):bJ P w K mg base (k+1) "_law_played" ["_law_net","_law_out"] kZ:=by
 refine bJ.of d DJ (fun vs H Q E h=>?_) (fun f cdv A outer s H vs Q E hr h=>?_)
 ·obtain ⟨ln,lo,u,T,kk,outs,rfl,_⟩:=h
  rfl
 ·obtain ⟨ln,lo,u,T,kk,outs,rfl,hN,gl,hol,q⟩:=h
  refine ⟨_,(@aF _ _ _ (@aS _ _ _ _ (@aG _ _ _ _ _ _ _ _ _ _ o0e.f hr rfl (@zA _ _ _ _ _ _ _ (pv 0) (@bV _ _ _ _ (@dY _ _ _ (@bH _ _ _ _ _ (@dM _ _ _ _ _ (@fO _ _ _ _) (@bH _ _ _ _ _ (@dM _ _ _ _ _ (@aE _ _ _ _) (@aE _ _ _ _) (by rfl) (by rfl))) (by rfl) (by rfl))) (by rfl))) (@eZ _ _ _ _ _ _ _ _ _ _ _ _ _ _ (@dA _ _ (sc:=aD lY) (N:=["_law_net","_law_out"]) (tn:=["_law_number"]) (names:=[]) (is:=[]) rfl rfl (by decide +kernel) (by decide +kernel) rfl (by decide +kernel) rfl (by decide +kernel) (by decide +kernel) (by decide +kernel)) rfl (@cH _ _ _ _ (pv 1)) (fun _ _ _ _=>(@aP _ _ (i:=0) _ (show (["_law_number"]:List Str).Nodup by decide +kernel) rfl (Or.inl rfl) (Or.inr rfl))) (fun _ _ _ _=>(@bH _ _ _ _ _ (@dM _ _ _ _ _ (pv 0) (@bH _ _ _ _ _ (@dM _ _ _ _ _ (@aE _ _ _ _) (@aE _ _ _ _) (by rfl) (by rfl))) (by rfl) (by rfl)))) (fun _ _ _ _=>(@cV _)) (by intro _; rfl)) (by rfl) (by rfl) (by rfl)) (by decide) (by rfl) (by rfl)))),?_⟩
  w_fin
  refine gE fun p1 H1 hp1 s1 g1=>?_
  w_fin
  refine bZ fun p2 hp2=>?_
  have s2:=aI.new (o:=.tup [.str "a",.ref p1]) hp2
  have g2:=aB (H:=H1) (a:=p2) (o:=.tup [.str "a",.ref p1])
  have g12:=s2 _ _ g1
  generalize L2.upd H1 p2 (.tup [.str "a",.ref p1])=H2 at s2 g2 g12 ⊢
  w_fin
  refine cL fun l3 hl3=>?_
  have s3:=(s1.trans s2).trans (aI.new (o:=.lst [.ref p2]) hl3)
  have g13:=aL hl3 g12 (o:=.lst [.ref p2])
  have g23:=aL hl3 g2 (o:=.lst [.ref p2])
  have g3:=aB (H:=H2) (a:=l3) (o:=.lst [.ref p2])
  generalize L2.upd H2 l3 (.lst [.ref p2])=H3 at s3 g13 g23 g3 ⊢
  have gl3:=s3 _ _ gl
  w_fin
  refine cG (bX.of gl3) ?_
  refine gZ (xs:=outs.map fun n:Nat=>V.int (n:Int)) (by rw [length_map]; omega) (fun acc i ys G=>Kp acc H3 G/\Paired (LF G) ys ((outs.take i).map fun n:Nat=>((Sum.inl (n:Int):aH),(0:Rat)))) (fun acc h0=>⟨Kp.new h0,.nil⟩) ?_ ?_ ?_
  ·rintro acc i ys G h0 _ ⟨kp,_⟩
   exact bX.of (kp _ _ (aA gl3 h0) gl3)
  ·rintro acc i ys G x h0 hx hly ha' ⟨kp,py⟩
   rw [List.getElem?_map] at hx
   obtain ⟨n,hn,e⟩:=Option.map_eq_some_iff.mp hx
   obtain rfl:x=V.int (n:Int):=e.symm
   w_fin
   refine gE fun t1 G1 ht1 s4 g4=>?_
   w_fin
   refine bZ fun t2 ht2=>?_
   have s5:=s4.trans (aI.new (o:=.tup [.int n,.ref t1]) ht2)
   have g45:=aL ht2 g4 (o:=.tup [.int n,.ref t1])
   have g5:=aB (H:=G1) (a:=t2) (o:=.tup [.int n,.ref t1])
   generalize L2.upd G1 t2 (.tup [.int n,.ref t1])=G2 at s5 g45 g5 ⊢
   w_fin
   have ha2:=s5 _ _ ha'
   refine gJ (by rw [length_map]; exact (List.getElem?_eq_some_iff.mp hn).1) hly ha2 ⟨(kp.trans s5.kp).trans Kp.upd,?_⟩
   rw [take_add_one,hn,map_append]
   have tkU:TK G2 (L2.upd G2 acc (.lst (ys++[V.ref t2]))):=TK.lst ha2
   exact Pd.snoc (Pd.imp py fun v f x=>(x.tk s5.tk).tk tkU) ⟨t2,.ref t1,rfl,tkU _ _ g5,t1,rfl,tkU _ _ g45⟩
  ·rintro acc ys G h0 ha' hly ⟨kp,py⟩
   rw [take_of_length_le (by rw [length_map]; exact le_refl _)] at py
   have sG:aI H3 G:=fun b o e=>kp _ _ (aA e h0) e
   have sHG:=s3.trans sG
   w_fin
   have hNG:=hN.sm sHG
   have h1:=hN.len
   refine ⟨ln,iH u T kk,l3,[(Sum.inr "a",0)],.ref acc,outs.map fun n:Nat=>((Sum.inl (n:Int):aH),(0:Rat)),u.2.toNat,2 ^ 70,(List.range (T.length+1)).map fG,rfl,hNG.inN,⟨⟨_,sG _ _ g3,.cons ⟨p2,.ref p1,rfl,sG _ _ g23,p1,rfl,sG _ _ g13⟩ .nil⟩,by decide,?_⟩,⟨.inr ⟨acc,rfl,ys,ha',py⟩,by rw [length_map]; omega,?_⟩,hNG.room,by rw [length_map,length_range]; omega,?_,fun d H' F ys' hd sH' dq fo bF srt nd mem=>?_⟩
   ·intro r hr
    rw [mem_singleton.mp hr]
    have:=QD hN.hu (m:=0) (by decide)
    rw [oC hN.hu] at this
    exact this
   ·intro r hr
    obtain ⟨n,_,rfl⟩:=mem_map.mp hr
    exact ⟨Nat.two_pow_pos _,Nat.one_lt_two_pow (by decide)⟩
   ·intro x hx
    obtain ⟨j,hj,rfl⟩:=yF hx
    exact mem_map.mpr ⟨j,mem_range.mpr (by omega),rfl⟩
   ·w_fin
    exact q d H' (sHG.trans sH') ⟨fH F,ys',_,_,psA,fun j=>WD outs j,fo.falls,dq,nd,fun j hj=>(mem _).mpr (FW hN.k0 hN.ne hj)⟩
theorem IF (T:Bl mg) (d:Df K mg "_law_right" tW ["_law_net","_law_hung","_law_show_here","_law_out"]) (W:kH mg xt x1 x3 x4) (R_NoSum:bN K xt x1 x3 x4 x3 3) (R1:bN K xt x1 x3 x4 x1 1) (R4:bN K xt x1 x3 x4 x4 4) (o0v:bJ P w K mg base k "_law_played" ["_law_net","_law_out"] kZ):bJ P w K mg base (k+1) "_law_right" ["_law_net","_law_hung","_law_show_here","_law_out"] rK:=by
 refine bJ.of d lX (fun vs H Q E h=>?_) (fun f cdv A outer s H vs Q E hr h=>?_)
 ·obtain ⟨ln,dh,ds,lo,u,T,kk,outs,sh,es,rfl,_⟩:=h
  rfl
 ·obtain ⟨ln,dh,ds,lo,u,T,kk,outs,sh,es,rfl,hN,gh,⟨kv,gd,pk⟩,nd,hl,hb,gl,hol,pass,ends,q⟩:=h
  refine ⟨_,(@aC _ _ _ _ _ (@aK _ _ (i:=4) _ _ _ _ lX.nd rfl (by w_left) (@aG _ _ _ _ _ _ _ _ _ _ o0v hr rfl (@dM _ _ _ _ _ (pv 0) (pv 3) (by rfl) (by rfl)) (by decide) (by rfl) (by rfl)) (by rfl) (by w_means)) (@aC _ _ _ _ _ (@BO _ _ _ _ _ _ _ _ PassesOwn.never rfl (pv 2) (@aP _ _ (i:=5) _ lX.nd rfl (by w_left) (by w_means)) (@aC _ _ _ _ _ (@aK _ _ (i:=6) _ _ _ _ lX.nd rfl (by w_left) (@bL _ _ _ _ _ _ hr.u1 (pv 1) (pv 5) (fun _ _=>rfl)) (by rfl) (by w_means)) (@aF _ _ _ (@fF _ _ _ _ _ _ _ _ (@PW.pt _ _ _ (@nK _ _ _ _ _ _ _ (@aX _ _ _ _ _ _ _ _ (pN hr.units) (@bL _ _ _ _ _ _ hr.u1 (pv 4) (pv 6) (fun _ _=>rfl)) (@bL _ _ _ _ _ _ hr.u1 (pv 2) (pv 5) (fun _ _=>rfl)) (bB _)) (@jO _ _ _ _ (@aX _ _ _ _ _ _ _ _ (pN hr.units) (@oE _ _ _ _ _ _ _ _ (pO hr.units) (@bL _ _ _ _ _ _ hr.u1 (pv 2) (pv 5) (fun _ _=>rfl)) (@bH _ _ _ _ _ (@dM _ _ _ _ _ (@aE _ _ _ _) (@aE _ _ _ _) (by rfl) (by rfl))) (bB _)) (@oE _ _ _ _ _ _ _ _ (pO hr.units) (pv 6) (@fO _ _ _ _) (bB _)) (bB _))))) (@aF _ _ _ (@aS _ _ _ _ (@pK _ _ _ _))) (@cC _)))) (by intro _; rfl)) (@aF _ _ _ (@aS _ _ _ _ (@pK _ _ _ _))))),?_⟩
  w_fin
  refine ⟨ln,lo,u,T,kk,outs,rfl,hN,gl,hol,fun df H1 s1 ply=>?_⟩
  have hu:=hN.hu
  have gd1:=s1 _ _ gd
  have gh1:=s1 _ _ gh
  w_fin
  refine HK ds (iA.dK gd1) ?_
  w_fin
  refine ⟨rfl,_,gd1,fun o'=>?_⟩
  have hfz:L2.upd H1 ds (.frz o' (.dK kv)) ds=some (.frz o' (.dK kv)):=aB
  have back:∀ G',aI (L2.upd H1 ds (.frz o' (.dK kv))) G'->aI H1 (melt ds G'):=fun G' s=>mF gd1 s
  have tkF:TK H1 (L2.upd H1 ds (.frz o' (.dK kv))):=TK.dic gd1
  have keep:∀ b o,b≠ds->H1 b=some o->L2.upd H1 ds (.frz o' (.dK kv)) b=some o:=fun b o nb e=>by rw [aJ nb]; exact e
  have pkF:Paired (fun (y:aH×V) (x:Str×Nat)=>y.1=Sum.inr x.1/\cK (L2.upd H1 ds (.frz o' (.dK kv))) y.2 (bD u x.2)) kv sh:=Pd.imp pk fun v x r=>⟨r.1,let ⟨q,e,g⟩:=r.2; ⟨q,e,tkF _ _ (s1 _ _ g)⟩⟩
  generalize L2.upd H1 ds (.frz o' (.dK kv))=HF at hfz back keep tkF pkF ⊢
  have ndk:=BA pk nd
  refine BG (fun i σ G=>∃ (o5 o6:Option V),σ=[some (.ref ln),some (.ref dh),some (.ref ds),some (.ref lo),some (.ref df),o5,o6]/\aI HF G) ⟨_,_,rfl,aI.refl _⟩ ?_ ?_ ?_
  ·rintro i σ G _ ⟨o5,o6,rfl,sG⟩
   exact sG _ _ hfz
  ·rintro i k0 v0 σ G hx ⟨o5,o6,rfl,sG⟩
   obtain ⟨x,hxs,rx,px,ex,gx⟩:=Paired.at pkF hx
   obtain rfl:k0=Sum.inr x.1:=rx
   obtain rfl:v0=.ref px:=ex
   have hxm:=mem_of_getElem? hxs
   obtain ⟨c,lk,hc,hs,h0⟩:=ends x hxm
   obtain ⟨kf,vf,gf,ef,pf,evf,gvf⟩:=HS hu ply pass hc
   rw [hs] at gvf
   have gxG:=sG _ _ gx
   have rdF:∀ b kvs,H1 b=some (.dK kvs)->Rd G b (.dK kvs):=fun b kvs e=>by
    by_cases z:b=ds
    ·subst z
     rw [gd1] at e
     cases e
     exact .inr ⟨o',sG _ _ hfz⟩
    ·exact .inl (sG _ _ (keep b _ z e))
   have ghG:=rdF _ _ gh1
   have gfG:=rdF _ _ gf
   have gdG:=rdF _ _ gd1
   have ev:=fX ndk hx
   have eh:bA (eJ sh es) (Sum.inr x.1)=some (.str (fG c)):=fX (vA nd) (i:=i) (by unfold eJ; rw [List.getElem?_map,hxs]; show some (_,V.str (fG ((es.lookup x.2).getD 0)))=_; rw [lk]; rfl)
   subst evf
   have gvG:=sG _ _ (tkF _ _ gvf)
   w_fin
   refine jN ghG eh ?_
   w_fin
   refine jN gfG ef ?_
   w_fin
   refine jN gdG ev ?_
   w_fin
   refine n_2 gvG gxG ?_
   rw [decide_eq_true ⟨(gX hu x.2).1.symm,(gX hu x.2).2.symm⟩]
   w_fin
   refine jN gdG ev ?_
   w_fin
   refine gE fun p9 G9 hp9 s9 g9=>?_
   have hz:decide ((bD u x.2).1=0/\(bD u x.2).2=1)=decide (x.2=0):=decide_eq_decide.mpr ⟨fun e=>mV hu ((Prod.ext e.1 e.2:bD u x.2=(0,1)).trans (lQ hu).symm),fun e=>by rw [e,lQ hu]; exact ⟨rfl,rfl⟩⟩
   have hn:(fG c==Str.ofString "a")=decide (x.2=0):=by
    rw [Bool.eq_iff_iff,beq_iff_eq,decide_eq_true_iff]
    exact ⟨fun e=>h0.mp (iY (e.trans TU.symm)),fun e=>by rw [h0.mpr e]; exact TU⟩
   w_fin
   refine Cr (s9 _ _ gxG) g9 ?_
   rw [hz]
   w_fin
   rw [hn]
   w_fin
   rw [beq_self_eq_true]
   w_fin
   exact ⟨_,_,rfl,sG.trans s9⟩
  ·rintro σ G ⟨o5,o6,rfl,sG⟩
   refine BH ?_
   w_fin
   exact q _ (s1.trans (back _ sG))
theorem NC (T:Bl mg) (d:Df K mg "_law_last" yQ ["_law_show_here"]) (W:kH mg xt x1 x3 x4) (R_NoSum:bN K xt x1 x3 x4 x3 3) (R1:bN K xt x1 x3 x4 x1 1) (R4:bN K xt x1 x3 x4 x4 4):bJ P w K mg base (k+1) "_law_last" ["_law_show_here"] vZ:=by
 refine bJ.of d iT (fun vs H Q E h=>?_) (fun f cdv A outer s H vs Q E hr h=>?_)
 ·obtain ⟨d,u,sh,rfl,_⟩:=h
  rfl
 ·obtain ⟨d,u,sh,rfl,hu,⟨kv,gd,pk⟩,nd,hl,hne,hb,q⟩:=h
  refine ⟨_,(@aC _ _ _ _ _ (@aK _ _ (i:=1) _ _ _ _ iT.nd rfl (by w_left) (@eU _ _ _) (by rfl) (by w_means)) (@aC _ _ _ _ _ (@aK _ _ (i:=2) _ _ _ _ iT.nd rfl (by w_left) (@bH _ _ _ _ _ (@dM _ _ _ _ _ (@aE _ _ _ _) (@aE _ _ _ _) (by rfl) (by rfl))) (by rfl) (by w_means)) (@aC _ _ _ _ _ (@MT _ _ _ _ _ _ _ _ _ _ _ _ PassesOwn.never rfl (pv 0) (@jP _ _ _ _ _ (n:=2) rfl (@bO _ _ _ _ _ (@aP _ _ (i:=3) _ iT.nd rfl (by w_left) (by w_means)) (@bO _ _ _ _ _ (@aP _ _ (i:=4) _ iT.nd rfl (by w_left) (by w_means)) (@hV _) (by rfl)) (by rfl)) (by rfl) (by rfl)) (@aF _ _ _ (@fF _ _ _ _ _ _ _ _ (@PW.pt _ _ _ (@nK _ _ _ _ _ _ _ (@aX _ _ _ _ _ _ _ _ oG (pv 1) (@eU _ _ _) (bB _)) (@jO _ _ _ _ (@aX _ _ _ _ _ _ _ _ wO (@aM _ _ _ _ _ _ _ _ bE (@nP _ _ _ _ _ _ _ (pv 2)) (@nP _ _ _ _ _ _ _ (pv 4))) (@aM _ _ _ _ _ _ _ _ bE (@nP _ _ _ _ _ _ _ (pv 4)) (@nP _ _ _ _ _ _ _ (pv 2))) (bB _))))) (@aC _ _ _ _ _ (@aK _ _ (i:=1) _ _ _ _ iT.nd rfl (by w_left) (pv 3) (by rfl) (by w_means)) (@aF _ _ _ (@aK _ _ (i:=2) _ _ _ _ iT.nd rfl (by w_left) (pv 4) (by rfl) (by w_means)))) (@cC _))) (by rfl) (by rfl) (by intro _; rfl)) (@aF _ _ _ (@aS _ _ _ _ (pv 1)))))),?_⟩
  w_fin
  refine gE fun p0 H0 hp0 s0 g0=>?_
  have gd0:=s0 _ _ gd
  w_fin
  refine SB d (iA.dK gd0) ?_
  w_fin
  refine ⟨rfl,_,gd0,fun o'=>?_⟩
  have hfz:L2.upd H0 d (.frz o' (.dK kv)) d=some (.frz o' (.dK kv)):=aB
  have back:∀ G',aI (L2.upd H0 d (.frz o' (.dK kv))) G'->aI H0 (melt d G'):=fun G' s=>mF gd0 s
  have g0F:L2.upd H0 d (.frz o' (.dK kv)) p0=_:=TK.dic gd0 _ _ g0
  have pkF:Paired (fun (y:aH×V) (x:Str×Nat)=>y.1=Sum.inr x.1/\cK (L2.upd H0 d (.frz o' (.dK kv))) y.2 (bD u x.2)) kv sh:=Pd.imp pk fun v x r=>⟨r.1,let ⟨q,e,g⟩:=r.2; ⟨q,e,TK.dic gd0 _ _ (s0 _ _ g)⟩⟩
  generalize L2.upd H0 d (.frz o' (.dK kv))=HF at hfz back g0F pkF ⊢
  have lkv:=Paired.length pk
  refine MI (fun i σ G=>∃ (of om o3 o4:Option V),σ=[some (.ref d),of,om,o3,o4]/\aI HF G/\((i=0/\of=some .non/\om=some (.ref p0))∨∃ b m v,(b,m)∈sh/\of=some (.str b)/\om=some v/\cK G v (bD u m)/\∀ x∈sh.take i,x.2<=m)) ⟨_,_,_,_,rfl,aI.refl _,.inl ⟨rfl,rfl,rfl⟩⟩ ?_ ?_ ?_
  ·rintro i σ G _ ⟨of,om,o3,o4,rfl,sG,_⟩
   exact sG _ _ hfz
  ·rintro i k0 v0 T σ G hx hT ⟨of,om,o3,o4,rfl,sG,hI⟩
   obtain ⟨x,hxs,rx,px,ex,gx⟩:=Paired.at pkF hx
   obtain rfl:k0=Sum.inr x.1:=rx
   obtain rfl:v0=.ref px:=ex
   have hx29:=hb x (mem_of_getElem? hxs)
   have sT:=sG.trans (aI.new (o:=.tup [kV (Sum.inr x.1),.ref px]) hT)
   have gT:=aB (H:=G) (a:=T) (o:=.tup [kV (Sum.inr x.1),.ref px])
   have sT1:=aI.new (o:=.tup [kV (Sum.inr x.1),.ref px]) hT
   generalize L2.upd G T (.tup [kV (Sum.inr x.1),.ref px])=G1 at sT sT1 gT ⊢
   have gx1:=sT _ _ gx
   have ht:∀ (m:Nat),(∀ y∈sh.take i,y.2<=m)->x.2<=m->∀ y∈sh.take (i+1),y.2<=m:=fun m h1 h2 y hy=>by
    rw [take_add_one,hxs] at hy
    rcases mem_append.mp hy with h|h
    ·exact h1 y h
    ·rw [mem_singleton.mp h]
     exact h2
   rcases hI with ⟨rfl,rfl,rfl⟩|⟨b,m,v,hm,rfl,rfl,⟨pm,rfl,gm⟩,hle⟩
   ·w_fin
    exact ⟨_,_,_,_,rfl,sT,.inr ⟨x.1,x.2,_,mem_of_getElem? hxs,rfl,rfl,⟨px,rfl,gx1⟩,ht _ (fun y hy=>by simp at hy) (le_refl _)⟩⟩
   ·have gm1:=sT1 _ _ gm
    have hm29:=hb _ hm
    have f1:∀ k,k<=29->Sm 60000000 (bD u k).1:=fun k hk=>Sm.mono (AK hu (by omega)) (by decide)
    have f2:∀ k,Sm 60000000 (bD u k).2:=fun k=>by
     obtain ⟨c1,c2,_⟩:=hu.tm k
     have h3:=hu.p2
     have h4:=hu.s2
     refine Sm.mono (m:=100) (Sm.of (by omega) ?_) (by decide)
     have:=Int.le_of_dvd h3 c2
     show (bD u k).2 < ((2 ^ 100:Nat):Int)
     omega
    w_fin
    refine kN (.inr ⟨f1 m hm29,f2 x.2⟩) ?_
    w_fin
    refine kN (.inr ⟨f1 x.2 hx29,f2 m⟩) ?_
    w_fin
    by_cases c:m < x.2
    ·rw [decide_eq_true ((OS hu).mpr c)]
     w_fin
     exact ⟨_,_,_,_,rfl,sT,.inr ⟨x.1,x.2,_,mem_of_getElem? hxs,rfl,rfl,⟨px,rfl,gx1⟩,ht _ (fun y hy=>by have:=hle y hy; omega) (le_refl _)⟩⟩
    ·rw [decide_eq_false (fun z=>c ((OS hu).mp z))]
     w_fin
     exact ⟨_,_,_,_,rfl,sT,.inr ⟨b,m,_,hm,rfl,rfl,⟨pm,rfl,gm1⟩,ht _ hle (by omega)⟩⟩
  ·rintro σ G ⟨of,om,o3,o4,rfl,sG,hI⟩
   refine BH ?_
   rcases hI with ⟨e,_⟩|⟨b,m,v,hm,rfl,rfl,_,hle⟩
   ·exact absurd (length_eq_zero_iff.mp (lkv.symm.trans e)) hne
   ·w_fin
    exact q b m _ hm (fun x hx=>hle x (by rw [lkv,take_length]; exact hx)) (s0.trans (back _ sG))
theorem TR {f:Addr}{fd:FuncData} (T:Bl mg) (F:Aw K "law" "law" kM f fd) (W:kH mg xt x1 x3 x4) (R_NoSum:bN K xt x1 x3 x4 x3 3) (R1:bN K xt x1 x3 x4 x1 1) (R4:bN K xt x1 x3 x4 x4 4) (o0v:bJ P w K mg base k "_law_played" ["_law_net","_law_out"] kZ) (o1b:bJ P w K mg base k "_law_right" ["_law_net","_law_hung","_law_show_here","_law_out"] rK) (o0l:kS P w K mg base k "made_net" ["box","show","double"] [.bl false] 2 ["double"] (tN K x1 x3 x4)) (o1e:bJ P w K mg base k "_law_last" ["_law_show_here"] vZ) (o0u:bJ P w K mg base k "_law_cell_at" ["_law_script","_law_k"] (yI K)) (o1c:bJ P w K mg base k "_law_great" ["_law_cell"] AU) (o1f:bJ P w K mg base k "_law_show" ["_law_unit_here","_law_cell","_law_many"] vX) (o0o:bJ P w K mg base k "_law_times_of" ["_law_unit_here","_law_sizes_here"] AQ) (o1d:bJ P w K mg base k "_law_unit" ["_law_number"] GE) (o0r:bJ P w K mg base k "_law_numbers" ["_law_script","_law_first","_law_many","_law_size"] (rL K)) (o1a:bJ P w K mg base k "_law_sizes" ["_law_numbers_here"] (AR K)) (o0z:bJ P w K mg base k "_law_mixed" ["_law_cell","_law_k"] nZ):kL P w K mg base FN (k+1) f fd ["_law_script"] (AT K):=by
 refine F.ok eR (fun vs H Q E h=>?_) (fun cdv A outer s H vs Q E hr h=>?_)
 ·obtain ⟨a,ns,rfl,_⟩:=h
  rfl
 ·obtain ⟨a,ns,rfl,hS,h63,hT,q⟩:=h
  refine ⟨_,(@aC _ _ _ _ _ (@aK _ _ (i:=1) _ _ _ _ eR.nd rfl (by w_left) (@aG _ _ _ _ _ _ _ _ _ _ o0z hr rfl (@dM _ _ _ _ _ (@aG _ _ _ _ _ _ _ _ _ _ o0u hr rfl (@dM _ _ _ _ _ (pv 0) (@aE _ _ _ _) (by rfl) (by rfl)) (by decide) (by rfl) (by rfl)) (@aE _ _ _ _) (by rfl) (by rfl)) (by decide) (by rfl) (by rfl)) (by rfl) (by w_means)) (@aC _ _ _ _ _ (@aK _ _ (i:=2) _ _ _ _ eR.nd rfl (by w_left) (@aG _ _ _ _ _ _ _ _ _ _ o1a hr rfl (@dY _ _ _ (@aM _ _ _ _ _ _ _ _ bY (@bV _ _ _ _ (@dY _ _ _ (@aE _ _ _ _) (by rfl))) (@aG _ _ _ _ _ _ _ _ _ _ o0r hr rfl (@cZ _ _ _ _ _ (pv 0) (@zA _ _ _ _ _ _ _ (@aE _ _ _ _) (@aM _ _ _ _ _ _ _ _ dD (pv 1) (@aE _ _ _ _)) (@aE _ _ _ _) (by rfl) (by rfl) (by rfl)) (by rfl)) (by decide) (by rfl) (by rfl))) (by rfl)) (by decide) (by rfl) (by rfl)) (by rfl) (by w_means)) (@aC _ _ _ _ _ (@aK _ _ (i:=3) _ _ _ _ eR.nd rfl (by w_left) (@aG _ _ _ _ _ _ _ _ _ _ o1d hr rfl (@dY _ _ _ (@aM _ _ _ _ _ _ _ _ bI (pv 1) (@aE _ _ _ _)) (by rfl)) (by decide) (by rfl) (by rfl)) (by rfl) (by w_means)) (@aC _ _ _ _ _ (@aK _ _ (i:=4) _ _ _ _ eR.nd rfl (by w_left) (@aG _ _ _ _ _ _ _ _ _ _ o0o hr rfl (@dM _ _ _ _ _ (pv 3) (pv 2) (by rfl) (by rfl)) (by decide) (by rfl) (by rfl)) (by rfl) (by w_means)) (@aC _ _ _ _ _ (@aK _ _ (i:=5) _ _ _ _ eR.nd rfl (by w_left) (@aG _ _ _ _ _ _ _ _ _ _ o1f hr rfl (@zA _ _ _ _ _ _ _ (pv 3) (@aG _ _ _ _ _ _ _ _ _ _ o1c hr rfl (@dY _ _ _ (@aG _ _ _ _ _ _ _ _ _ _ o0u hr rfl (@dM _ _ _ _ _ (pv 0) (@aE _ _ _ _) (by rfl) (by rfl)) (by decide) (by rfl) (by rfl)) (by rfl)) (by decide) (by rfl) (by rfl)) (@aM _ _ _ _ _ _ _ _ bY (@aE _ _ _ _) (@aM _ _ _ _ _ _ _ _ dD (@aM _ _ _ _ _ _ _ _ bI (pv 1) (@aE _ _ _ _)) (@aE _ _ _ _))) (by rfl) (by rfl) (by rfl)) (by decide) (by rfl) (by rfl)) (by rfl) (by w_means)) (@aC _ _ _ _ _ (@aK _ _ (i:=6) _ _ _ _ eR.nd rfl (by w_left) (@aG _ _ _ _ _ _ _ _ _ _ o1e hr rfl (@dY _ _ _ (pv 5) (by rfl)) (by decide) (by rfl) (by rfl)) (by rfl) (by w_means)) (@aC _ _ _ _ _ (@fF _ _ _ _ _ _ _ _ (@aX _ _ _ _ _ _ _ _ (pO hr.units) (@bL _ _ _ _ _ _ hr.u1 (pv 5) (pv 6) (fun _ _=>rfl)) (@bH _ _ _ _ _ (@dM _ _ _ _ _ (@aE _ _ _ _) (@aE _ _ _ _) (by rfl) (by rfl))) (bB _)) (@aF _ _ _ (@aS _ _ _ _ (@pK _ _ _ _))) (@cC _)) (@aC _ _ _ _ _ (@HR _ _ _ _ _ _ (@DR _ _ _ _ _ _ _ _ _ _ _ _ o0l.toX hr rfl QG (@dM _ _ _ _ _ (pv 4) (pv 5) (by rfl) (by rfl)) (by decide) (by rfl) (by rfl)) (@jP _ _ _ _ _ (n:=2) rfl (@bO _ _ _ _ _ (@aP _ _ (i:=7) _ eR.nd rfl (by w_left) (by w_means)) (@bO _ _ _ _ _ (@aP _ _ (i:=8) _ eR.nd rfl (by w_left) (by w_means)) (@hV _) (by rfl)) (by rfl)) (by rfl) (by rfl)) (by rfl) (by rfl) (by rfl)) (@aC _ _ _ _ _ (@fF _ _ _ _ _ _ _ _ (@PW.pt _ _ _ (@nK _ _ _ _ _ _ _ (@yW _ _ _ _ (@lC _ _ _ (@aG _ _ _ _ _ _ _ _ _ _ o1b hr rfl (@cZ _ _ _ _ _ (pv 7) (@zA _ _ _ _ _ _ _ (pv 8) (pv 5) (@bV _ _ _ _ (@eV _)) (by rfl) (by rfl) (by rfl)) (by rfl)) (by decide) (by rfl) (by rfl)) (by intro _; rfl))) (@jO _ _ _ _ (@aX _ _ _ _ _ _ _ _ (pN hr.units) (@eZ _ _ _ _ _ _ _ _ _ _ _ _ _ _ (@dA _ _ (sc:=aD kM) (N:=["_law_script","_law_number","_law_sizes_here","_law_unit_here","_law_box","_law_show_here","_law_last_here","_law_net","_law_hung","_law_at","_law_k"]) (tn:=["_law_run"]) (names:=["_law_box"]) (is:=[4]) rfl rfl (by decide +kernel) (by decide +kernel) rfl (by decide +kernel) rfl (by decide +kernel) (by decide +kernel) (by decide +kernel)) rfl (@cH _ _ _ _ (pv 7)) (fun _ _ _ _=>(@aP _ _ (i:=0) _ (show (["_law_run","_law_box"]:List Str).Nodup by decide +kernel) rfl (Or.inl rfl) (Or.inr rfl))) (fun _ _ _ _=>(pv 0)) (fun _ _ _ _=>(@BN _ _ _ (@aX _ _ _ _ _ _ _ _ (DT hr.units) (@cD _ _ _ _ _ _ _ gH (pv 0) (@aE _ _ _ _) (fun _ _=>rfl)) (pv 1) (by with_unfolding_all rfl)))) (by intro _; rfl)) (@bV _ _ _ _ (@eV _)) (bB _))))) (@aF _ _ _ (@aS _ _ _ _ (@pK _ _ _ _))) (@cC _)) (@aC _ _ _ _ _ (@aK _ _ (i:=9) _ _ _ _ eR.nd rfl (by w_left) (@aM _ _ _ _ _ _ _ _ dD (@aM _ _ _ _ _ _ _ _ bI (pv 1) (@aE _ _ _ _)) (@bP _ _ _ _ _ _ _ _ _ jV rfl T.z_len gM (@dY _ _ _ (pv 7) (by rfl)) (by decide) (by decide) (by rfl) (by rfl))) (by rfl) (by w_means)) (@aC _ _ _ _ _ (@fF _ _ _ _ _ _ _ _ (@aX _ _ _ _ _ _ _ _ wN (@bL _ _ _ _ _ _ hr.u1 (@aG _ _ _ _ _ _ _ _ _ _ o0v hr rfl (@dM _ _ _ _ _ (pv 7) (@bV _ _ _ _ (@dY _ _ _ (pv 9) (by rfl))) (by rfl) (by rfl)) (by decide) (by rfl) (by rfl)) (@bL _ _ _ _ _ _ hr.u1 (pv 8) (pv 6) (fun _ _=>rfl)) (fun _ _=>rfl)) (@eU _ _ _) (bB _)) (@aF _ _ _ (@aS _ _ _ _ (@pK _ _ _ _))) (@cC _)) (@aC _ _ _ _ _ (@HR _ _ _ _ _ _ (@wM _ _ _ _ _ _ _ _ _ _ _ _ o0l.toX hr rfl QG (@zA _ _ _ _ _ _ _ (pv 4) (pv 5) (@pK _ _ _ _) (by rfl) (by rfl) (by rfl)) (by decide) (by rfl) (by rfl)) (@jP _ _ _ _ _ (n:=2) rfl (@bO _ _ _ _ _ (@aP _ _ (i:=7) _ eR.nd rfl (by w_left) (by w_means)) (@bO _ _ _ _ _ (@aP _ _ (i:=8) _ eR.nd rfl (by w_left) (by w_means)) (@hV _) (by rfl)) (by rfl)) (by rfl) (by rfl)) (by rfl) (by rfl) (by rfl)) (@aC _ _ _ _ _ (@dS _ _ _ _ _ _ _ _ PassesOwn.never rfl (@rX _ _ _ _ _ _ rfl T.z_range (@dY _ _ _ (@bP _ _ _ _ _ _ _ _ _ jV rfl T.z_len gM (@dY _ _ _ (pv 7) (by rfl)) (by decide) (by decide) (by rfl) (by rfl)) (by rfl)) (by rfl)) (@aP _ _ (i:=10) _ eR.nd rfl (by w_left) (by w_means)) (@aF _ _ _ (@fF _ _ _ _ _ _ _ _ (@yW _ _ _ _ (@lC _ _ _ (@aG _ _ _ _ _ _ _ _ _ _ o1b hr rfl (@cZ _ _ _ _ _ (pv 7) (@zA _ _ _ _ _ _ _ (pv 8) (pv 5) (@bV _ _ _ _ (@dY _ _ _ (pv 10) (by rfl))) (by rfl) (by rfl) (by rfl)) (by rfl)) (by decide) (by rfl) (by rfl)) (by intro _; rfl))) (@aF _ _ _ (@aS _ _ _ _ (@pK _ _ _ _))) (@cC _))) (by intro _; rfl)) (@aF _ _ _ (@aS _ _ _ _ (@HY _ _ _ _ _ _ _ (@aG _ _ _ _ _ _ _ _ _ _ o1b hr rfl (@cZ _ _ _ _ _ (pv 7) (@zA _ _ _ _ _ _ _ (pv 8) (pv 5) (@bV _ _ _ _ (@eV _)) (by rfl) (by rfl) (by rfl)) (by rfl)) (by decide) (by rfl) (by rfl)) (@yX _ _ _ _ _ (@oE _ _ _ _ _ _ _ _ oG (@bL _ _ _ _ _ _ hr.u1 (@aG _ _ _ _ _ _ _ _ _ _ o0v hr rfl (@dM _ _ _ _ _ (pv 7) (@bV _ _ _ _ (@dM _ _ _ _ _ (@aM _ _ _ _ _ _ _ _ bE (@aE _ _ _ _) (pv 9)) (@aM _ _ _ _ _ _ _ _ bY (@aM _ _ _ _ _ _ _ _ bE (@aE _ _ _ _) (pv 9)) (@aE _ _ _ _)) (by rfl) (by rfl))) (by rfl) (by rfl)) (by decide) (by rfl) (by rfl)) (@bL _ _ _ _ _ _ hr.u1 (pv 8) (pv 6) (fun _ _=>rfl)) (fun _ _=>rfl)) (@eU _ _ _) (bB _))))))))))))))))))),?_⟩
  w_fin
  refine ⟨a,ns,0,rfl,hS,Int.le_refl 0,fun c0=>?_⟩
  w_fin
  refine ⟨c0,5,rfl,by decide,by decide,fun r hr0 hr1=>?_⟩
  w_fin
  refine nB fun lz Hz hlz sz gz=>?_
  w_fin
  refine ⟨a,ns,1,_,80,rfl,sz.seq hS,by decide,by decide,by omega,by omega,by decide,by decide,fun p1 H1 xs hp1 s1 h1 hxl hx=>?_⟩
  have gz1:=s1 _ _ gz
  w_fin
  refine QX gz1 h1 (by rw [length_map]; show 1+_<=1000; omega) fun l2 hl2=>?_
  have s2:=(sz.trans s1).trans (aI.new (o:=.lst ([V.int 0]++xs.map V.int)) hl2)
  have g2:L2.upd H1 l2 (.lst ([V.int 0]++xs.map V.int)) l2=some (.lst ((0::xs).map V.int)):=aB
  generalize L2.upd H1 l2 (.lst ([V.int 0]++xs.map V.int))=H2 at s2 g2 ⊢
  w_fin
  refine ⟨l2,0::xs,rfl,g2,fun x h=>by rcases mem_cons.mp h with rfl|h; exact ⟨by decide,by decide⟩; exact hx x h,by rw [length_cons]; omega,List.cons_ne_nil _ _,fun p2 S H3 hp2 s3 h3 hS2 hSl hS0 hS1=>?_⟩
  replace hS1:=hS1 mem_cons_self
  w_fin
  refine ⟨_,rfl,fun pu u H4 hu hpu s4 h4=>?_⟩
  have h34:=s4 _ _ h3
  w_fin
  refine ⟨pu,u,p2,S,rfl,hu,h4,h34,fun s hs=>by have:=hS2 s hs; omega,by omega,fun pb H5 hpb s5 h5=>?_⟩
  have s15:=(s2.trans s3).trans (s4.trans s5)
  w_fin
  refine ⟨a,ns,8,rfl,s15.seq hS,by decide,fun c8=>?_⟩
  w_fin
  refine ⟨_,rfl,fun cg=>?_⟩
  w_fin
  refine ⟨pu,u,cg,_,rfl,hu,s5 _ _ h4,by omega,by omega,fun ds H6 sh hds s6 gs6 nd hsl hsn hsb=>?_⟩
  w_fin
  refine ⟨ds,u,sh,rfl,hu,gs6,nd,hsl,hsn,hsb,fun b mb H7 hbm hmax s7=>?_⟩
  obtain ⟨kv,gd6,pk6⟩:=gs6
  have gd7:=s7 _ _ gd6
  have pk7:Paired (fun (y:aH×V) (x:Str×Nat)=>y.1=Sum.inr x.1/\cK H7 y.2 (bD u x.2)) kv sh:=Pd.imp pk6 fun v x r=>⟨r.1,cK.same r.2 s7⟩
  have lq7:=LQ.sm h5 (s6.trans s7)
  have t7:LT H7:=fL.same hT (s15.trans (s6.trans s7))
  have hSp:∀ s∈S,0 < s:=fun s hs=>(hS2 s hs).1
  have hSm:∀ s∈S,s<=100000:=fun s hs=>by have:=hS2 s hs; omega
  have hmb:=hsb _ hbm
  obtain ⟨yb,hym,ryb,pb0,epb,gpb⟩:=mC pk7 hbm
  obtain ⟨ib,hib⟩:=List.getElem?_of_mem hym
  have evb:bA kv (Sum.inr b)=some (.ref pb0):=fX (BA pk7 nd) (i:=ib) (by rw [hib,← ryb,← epb])
  w_fin
  refine jN (.inl gd7) evb ?_
  w_fin
  refine gE fun p9 H8 hp9 s8 g8=>?_
  have hz:decide ((bD u mb).1=0/\(bD u mb).2=1)=decide (mb=0):=decide_eq_decide.mpr ⟨fun e=>mV hu ((Prod.ext e.1 e.2:bD u mb=(0,1)).trans (lQ hu).symm),fun e=>by rw [e,lQ hu]; exact ⟨rfl,rfl⟩⟩
  w_fin
  refine Cr (s8 _ _ gpb) g8 ?_
  show bK _ (V.bl (decide ((bD u mb).1=0/\(bD u mb).2=1))) _
  rw [hz]
  by_cases hm0:mb=0
  ·rw [decide_eq_true hm0]
   w_fin
   exact q _
  rw [decide_eq_false hm0]
  have gd8:=s8 _ _ gd7
  have pk8:Paired (fun (y:aH×V) (x:Str×Nat)=>y.1=Sum.inr x.1/\cK H8 y.2 (bD u x.2)) kv sh:=Pd.imp pk7 fun v x r=>⟨r.1,cK.same r.2 s8⟩
  have lq8:=LQ.sm lq7 s8
  have t8:LT H8:=fL.same t7 s8
  w_fin
  refine IK hu lq8 hS2 hS1 hSl ⟨kv,gd8,pk8⟩ nd hsl hsb t8 hbm hmax hm0 fun T es p ln dh H9 k9 t9 gp hln hdh hN gh ends endl hTS mk1=>?_
  w_fin
  have gd9:H9 ds=some (.dK kv):=kT k9 t8 gd8 (fun _ z=>by cases z)
  have tk9:TK H8 H9:=fun b xs h=>kT k9 t8 h (fun _ z=>by cases z)
  have pk9:Paired (fun (y:aH×V) (x:Str×Nat)=>y.1=Sum.inr x.1/\cK H9 y.2 (bD u x.2)) kv sh:=Pd.imp pk8 fun v x r=>⟨r.1,let ⟨q,e,g⟩:=r.2; ⟨q,e,tk9 _ _ g⟩⟩
  obtain ⟨bv,gb8,pb8⟩:=lq8
  have gb9:H9 pb=some (.lst bv):=kT k9 t8 gb8 (fun _ z=>by cases z)
  have pb9:=Pd.imp pb8 (G:=cK H9) fun v f x=>let ⟨q,e,g⟩:=x; ⟨q,e,tk9 _ _ g⟩
  refine nB fun lo HA hlo sA gA=>?_
  w_fin
  refine ⟨ln,dh,ds,lo,u,T,1,[],sh,es,rfl,hN.sm sA,sA _ _ gh,⟨kv,sA _ _ gd9,Pd.imp pk9 fun v x r=>⟨r.1,cK.same r.2 sA⟩⟩,nd,hsl,hsb,gA,by decide,fun i hi=>⟨0,by decide,by simp⟩,ends,fun HB sB=>?_⟩
  have s9B:=sA.trans sB
  obtain ⟨rv,gn9,prv9⟩:=hN.net
  have gnB:=s9B _ _ gn9
  have gbB:=s9B _ _ gb9
  w_fin
  refine cG (bX.of gnB) ?_
  have lrv:rv.length<=1000:=by
   rw [Paired.length prv9,jR,show lN false=1 from rfl]
   have:=hN.len
   omega
  refine wJ (xs:=rv) lrv (fun acc i ys G=>Kp acc HB G/\ys=[]) (fun acc h0=>⟨Kp.new h0,rfl⟩) ?_ ?_ ?_
  ·rintro acc i ys G h0 _ ⟨kp,_⟩
   exact bX.of (kp _ _ (aA gnB h0) gnB)
  ·rintro acc i ys G x h0 hx hly ha' ⟨kp,rfl⟩
   obtain ⟨z,hz2,tr,tq,rfl,htr,htq⟩:=Paired.at prv9 hx
   have sBG:aI HB G:=fun b o e=>kp _ _ (aA e h0) e
   have s9G:=s9B.trans sBG
   have htrG:=s9G _ _ htr
   have htqG:=s9G _ _ htq
   have gbG:=s9G _ _ gb9
   have hzS:z.2∈S:=by
    obtain ⟨j,e1,_⟩:=(NG _ T 0 i z).mp hz2
    exact hTS _ (mem_of_getElem? e1)
   w_fin
   refine MC ⟨bv,gbG,Pd.imp pb9 fun v f x=>cK.same x s9G⟩ htqG (List.mem_map_of_mem hzS) ?_
   w_fin
   refine JO (List.getElem?_eq_some_iff.mp hx).1 (zero_le _) ha' ⟨kp,rfl⟩
  ·rintro acc ys G h0 ha' hly ⟨kp,rfl⟩
   have sBG:aI HB G:=fun b o e=>kp _ _ (aA e h0) e
   have s9G:=s9B.trans sBG
   w_fin
   refine cL fun le hle=>?_
   have sC:=s9G.trans (aI.new (o:=.lst []) hle)
   have gaC:=aL hle ha' (o:=.lst [])
   have gC:=aB (H:=G) (a:=le) (o:=.lst [])
   generalize L2.upd G le (.lst [])=HC at sC gaC gC ⊢
   refine ZE gaC gC ?_
   w_fin
   refine HG (sC _ _ gn9) ?_
   have erv:rv.length=T.length:=by rw [Paired.length prv9,jR,show lN false=1 from rfl,Nat.mul_one]
   have hTl:=length_pos_iff.mpr hN.ne
   refine PO (by omega) ?_
   obtain ⟨at1,hat1,hat2⟩:∃ n:Nat,r.fdiv 216 % (rv.length:Int)=(n:Int)/\n < T.length:=⟨(r.fdiv 216 % (rv.length:Int)).toNat,(Int.toNat_of_nonneg (Int.emod_nonneg _ (by omega))).symm,by have:=Int.emod_lt_of_pos (r.fdiv 216) (show 0 < (rv.length:Int) by omega); have:=Int.emod_nonneg (r.fdiv 216) (show (rv.length:Int)≠0 by omega); omega⟩
   rw [hat1]
   w_fin
   refine cL fun l1 hl1=>?_
   have sD:=sC.trans (aI.new (o:=.lst [V.int at1]) hl1)
   have gD:=aB (H:=HC) (a:=l1) (o:=.lst [V.int at1])
   generalize L2.upd HC l1 (.lst [V.int at1])=HD at sD gD ⊢
   w_fin
   refine ⟨ln,l1,u,T,1,[at1],rfl,hN.sm sD,gD,by show 1<=2; decide,fun dp HE sE ply=>?_⟩
   have s9E:=sD.trans sE
   have ghE:=s9E _ _ gh
   have ehb:bA (eJ sh es) (Sum.inr b)=some (.str (fG T.length)):=by
    obtain ⟨ib2,hib2⟩:=List.getElem?_of_mem hbm
    exact fX (vA nd) (i:=ib2) (by unfold eJ; rw [List.getElem?_map,hib2]; show some (_,V.str (fG ((es.lookup mb).getD 0)))=_; rw [endl]; rfl)
   obtain ⟨kc,gkc,ekc⟩:=BR hu ply hN.pos (c:=at1) (fun j h1 h2=>by rw [show j=at1 by omega]; exact mem_singleton.mpr rfl) hat2 (le_refl _)
   w_fin
   refine jN (.inl ghE) ehb ?_
   w_fin
   refine jN (.inl gkc) ekc ?_
   have gdE:=s9E _ _ gd9
   have pkE:Paired (fun (y:aH×V) (x:Str×Nat)=>y.1=Sum.inr x.1/\cK HE y.2 (bD u x.2)) kv sh:=Pd.imp pk9 fun v x r=>⟨r.1,cK.same r.2 s9E⟩
   have tE:LT HE:=fL.same t9 s9E
   w_fin
   refine IK hu ⟨bv,s9E _ _ gb9,Pd.imp pb9 fun v f x=>cK.same x s9E⟩ hS2 hS1 hSl ⟨kv,gdE,pkE⟩ nd hsl hsb tE hbm hmax hm0 fun T' es' p' ln' dh' HF kF tF gp' hln' hdh' hN' gh' ends' endl' _ mk2=>?_
   obtain ⟨rfl,rfl⟩:T=T'/\es=es':=by
    obtain ⟨ns1,a1,m1,d1⟩:=mk1
    obtain ⟨ns2,a2,m2,d2⟩:=mk2
    cases m1.eq m2
    exact (d1.uniq d2).2
   have gdF:HF ds=some (.dK kv):=kT kF tE gdE (fun _ z=>by cases z)
   have tkF:TK HE HF:=fun b xs h=>kT kF tE h (fun _ z=>by cases z)
   have pkF:Paired (fun (y:aH×V) (x:Str×Nat)=>y.1=Sum.inr x.1/\cK HF y.2 (bD u x.2)) kv sh:=Pd.imp pkE fun v x r=>⟨r.1,let ⟨q,e,g⟩:=r.2; ⟨q,e,tkF _ _ g⟩⟩
   obtain ⟨rw',gnF,prwF⟩:=hN'.net
   have erw:rw'.length=T.length * 2:=by rw [Paired.length prwF,jR]; rfl
   have h29:=hN'.len
   w_fin
   refine ⟨(rw'.length:Int),rfl,by omega,by omega,?_⟩
   refine uC (n:=rw'.length) (fun i σ G=>∃ o10,σ=[some (.ref a),some (.int r),some (.ref p2),some (.ref pu),some (.ref pb),some (.ref ds),some (.str b),some (.ref ln'),some (.ref dh'),some (.int at1),o10]/\aI HF G) ⟨_,rfl,aI.refl _⟩ ?_ ?_
   ·rintro i σ G hi ⟨o10,rfl,sG⟩
    w_fin
    refine cL fun l2 hl2=>?_
    have sG2:=sG.trans (aI.new (o:=.lst [V.int (0+(i:Int))]) hl2)
    have gG2:L2.upd G l2 (.lst [V.int (0+(i:Int))]) l2=some (.lst ([i].map fun n:Nat=>V.int (n:Int))):=by rw [aB,Int.zero_add]; rfl
    generalize L2.upd G l2 (.lst [V.int (0+(i:Int))])=G2 at sG2 gG2 ⊢
    w_fin
    refine ⟨ln',dh',ds,l2,u,T,2,[i],sh,es,rfl,hN'.sm sG2,sG2 _ _ gh',⟨kv,sG2 _ _ gdF,Pd.imp pkF fun v x r=>⟨r.1,cK.same r.2 sG2⟩⟩,nd,hsl,hsb,gG2,by show 1<=2; decide,fun j hj=>?_,ends',fun G3 sG3=>?_⟩
    ·by_cases e:j * 2=i
     ·exact ⟨1,by decide,fun z=>by have:=mem_singleton.mp z; omega⟩
     ·exact ⟨0,by decide,fun z=>by have:=mem_singleton.mp z; omega⟩
    ·w_fin
     exact ⟨_,rfl,sG2.trans sG3⟩
   ·rintro σ G ⟨o10,rfl,sG⟩
    w_fin
    refine cL fun l2 hl2=>?_
    have sG2:=sG.trans (aI.new (o:=.lst []) hl2)
    have gG2:=aB (H:=G) (a:=l2) (o:=.lst [])
    generalize L2.upd G l2 (.lst [])=G2 at sG2 gG2 ⊢
    w_fin
    refine ⟨ln',dh',ds,l2,u,T,2,[],sh,es,rfl,hN'.sm sG2,sG2 _ _ gh',⟨kv,sG2 _ _ gdF,Pd.imp pkF fun v x r=>⟨r.1,cK.same r.2 sG2⟩⟩,nd,hsl,hsb,gG2,by decide,fun j hj=>⟨0,by decide,by simp⟩,ends',fun G3 sG3=>?_⟩
    have sF3:=sG2.trans sG3
    w_fin
    refine cL fun l4 hl4=>?_
    have sG4:=sF3.trans (aI.new (o:=.lst [V.int (2 * (at1:Int)),V.int (2 * (at1:Int)+1)]) hl4)
    have gG4:L2.upd G3 l4 (.lst [V.int (2 * (at1:Int)),V.int (2 * (at1:Int)+1)]) l4=some (.lst ([2 * at1,2 * at1+1].map fun n:Nat=>V.int (n:Int))):=by rw [aB]; simp
    generalize L2.upd G3 l4 (.lst [V.int (2 * (at1:Int)),V.int (2 * (at1:Int)+1)])=G4 at sG4 gG4 ⊢
    w_fin
    refine ⟨ln',l4,u,T,2,[2 * at1,2 * at1+1],rfl,hN'.sm sG4,gG4,by show 2<=2; decide,fun dp' G5 sG5 ply'=>?_⟩
    obtain ⟨kc',gkc',ekc'⟩:=BR hu ply' hN'.pos (c:=at1) (fun j h1 h2=>by rcases (show j=2 * at1∨j=2 * at1+1 by omega) with e|e <;> simp [e]) hat2 (le_refl _)
    w_fin
    refine jN (.inl ((sG4.trans sG5) _ _ gh')) ehb ?_
    w_fin
    refine jN (.inl gkc') ekc' ?_
    w_fin
    exact q _
end
structure DA (K:Frag) (n:Str) (s:Stmt):Prop where
 ex:∃ (f:Addr) (oc:Value) (od an:Option Addr) (sl:Array (Option Value)) (kV dc pm cd ct:Value),nsIn K mainGlobals n=some (some (.ref f))/\K.lookup f=some ⟨oc,od,.func (fnOf n n (aW s) (aR s) (aD s) .none kV dc pm an cd ct),sl⟩/\PySem.W.codeIn K cd n=true/\keepIn K (.ref f)=true
theorem DA.of {K:Frag}{n:Str}{s:Stmt}{f:Addr}{oc:Value}{od an:Option Addr}{sl:Array (Option Value)}{kV dc pm cd ct:Value} (a:nsIn K mainGlobals n=some (some (.ref f))) (l:K.lookup f=some ⟨oc,od,.func (fnOf n n (aW s) (aR s) (aD s) .none kV dc pm an cd ct),sl⟩) (c:PySem.W.codeIn K cd n=true) (k:keepIn K (.ref f)=true):DA K n s:=⟨_,_,_,_,_,_,_,_,_,_,a,l,c,k⟩
theorem DA.df {K:Frag}{mg:Str->Option Value}{h:Heap}{x:Str}{st:Stmt}{ps:List Str} (d:DA K x st) (X:K.In h) (G:h.Ns mainGlobals mg)
 (b:∀ (kV doc pm:Value) (an:Option Addr) (cdv ct:Value) (us:List Value),us.length=ps.length->bindArgs (fnOf x x (aW st) (aR st) (aD st) .none kV doc pm an cdv ct) ⟨us,[]⟩=pure (ps.zip us)):Df K mg x st ps:=by
 obtain ⟨f,oc,od,an,sl,kV,dc,pm,cd,ct,a,l,c,k⟩:=d.ex
 exact ZU X G a l c k (b _ _ _ _ _ _)
theorem all_mk {l:PySem.W.OpenLaw}{w:World}{K:Frag}{h:Heap}{mg:Str->Option Value}{fa:Addr} (X:K.In h) (G:h.Ns mainGlobals mg) (hfa:mg "law"=some (.ref fa)) {f5:Addr}{oc5:Value}{od5 an5:Option Addr}{sl5:Array (Option Value)}{kV5 dc5 pm5 cd5 ct5:Value}{f14:Addr}{oc14:Value}{od14 an14:Option Addr}{sl14:Array (Option Value)}{kV14 dc14 pm14 cd14 ct14:Value}{dT14:Addr}{dO14:Obj}{dN14:Nat}{f18:Addr}{oc18:Value}{od18 an18:Option Addr}{sl18:Array (Option Value)}{kV18 dc18 pm18 cd18 ct18:Value}{dT18:Addr}{dO18:Obj}{dN18:Nat}{f19:Addr}{oc19:Value}{od19 an19:Option Addr}{sl19:Array (Option Value)}{kV19 dc19 pm19 cd19 ct19:Value}{dT19:Addr}{dO19:Obj}{dN19:Nat}{f32:Addr}{oc32:Value}{od32 an32:Option Addr}{sl32:Array (Option Value)}{kV32 dc32 pm32 cd32 ct32:Value}{xt x1 x3 x4:Addr}{cd_NoSum:ClassData}{cd_NoNet:ClassData}{cd_TooMany:ClassData}{tk_LETTERS:Tok}{tk_MOST_RUNS:Tok}
  (a0:DA K "common_divisor" eS)
  (a1:DA K "added" tZ)
  (a2:DA K "lessened" lB)
  (a3:DA K "is_less" mZ)
  (a4:DA K "whole_tops" fR)
  (a5:nsIn K mainGlobals "sorted_by"=some (some (.ref f5))) (l5:K.lookup f5=some ⟨oc5,od5,.func (fnOf "sorted_by" "sorted_by" (aW cU) (aR cU) (aD cU) .none kV5 dc5 pm5 an5 cd5 ct5),sl5⟩) (c5:PySem.W.codeIn K cd5 "sorted_by"=true) (k5:keepIn K (.ref f5)=true) (tb5:codeHdIn K 100 98=true) (tc5:cd5=.ref 100)
  (a6:DA K "units_of" iU)
  (a7:DA K "fewest_parts" eF)
  (a8:DA K "first_part" iW)
  (a9:DA K "made_of" mY)
  (a10:DA K "posts_of" gB)
  (a11:DA K "runs_beside" iC)
  (a12:DA K "post_called" iD)
  (a13:DA K "rising_moments" cY)
  (a14:nsIn K mainGlobals "made_net"=some (some (.ref f14))) (l14:K.lookup f14=some ⟨oc14,od14,.func (fnOf "made_net" "made_net" (aW dO) (aR dO) (aD dO) (.ref dT14) kV14 dc14 pm14 an14 cd14 ct14),sl14⟩) (c14:PySem.W.codeIn K cd14 "made_net"=true) (k14:keepIn K (.ref f14)=true)
  (t14:K.lookup dT14=some dO14) (u14:dO14.data=.seq #[.bool false] dN14)
  (a15:DA K "least_moments" fN)
  (a16:DA K "is_out" pB)
  (a17:DA K "earliest_of" iE)
  (a18:nsIn K mainGlobals "falls_of"=some (some (.ref f18))) (l18:K.lookup f18=some ⟨oc18,od18,.func (fnOf "falls_of" "falls_of" (aW dQ) (aR dQ) (aD dQ) (.ref dT18) kV18 dc18 pm18 an18 cd18 ct18),sl18⟩) (c18:PySem.W.codeIn K cd18 "falls_of"=true) (k18:keepIn K (.ref f18)=true)
  (t18:K.lookup dT18=some dO18) (u18:dO18.data=.seq #[.none] dN18)
  (a19:nsIn K mainGlobals "fall_moments"=some (some (.ref f19))) (l19:K.lookup f19=some ⟨oc19,od19,.func (fnOf "fall_moments" "fall_moments" (aW bU) (aR bU) (aD bU) (.ref dT19) kV19 dc19 pm19 an19 cd19 ct19),sl19⟩) (c19:PySem.W.codeIn K cd19 "fall_moments"=true) (k19:keepIn K (.ref f19)=true)
  (t19:K.lookup dT19=some dO19) (u19:dO19.data=.seq #[.none] dN19)
  (a20:DA K "_law_cell_at" nA)
  (a21:DA K "_law_mixed" tX)
  (a22:DA K "_law_great" tY)
  (a23:DA K "_law_numbers" mX)
  (a24:DA K "_law_lowest" pA)
  (a25:DA K "_law_unit" yO)
  (a26:DA K "_law_sizes" tV)
  (a27:DA K "_law_times_of" iV)
  (a28:DA K "_law_show" yP)
  (a29:DA K "_law_played" lY)
  (a30:DA K "_law_right" tW)
  (a31:DA K "_law_last" yQ)
  (a32:nsIn K mainGlobals "law"=some (some (.ref f32))) (l32:K.lookup f32=some ⟨oc32,od32,.func (fnOf "law" "law" (aW kM) (aR kM) (aD kM) .none kV32 dc32 pm32 an32 cd32 ct32),sl32⟩) (c32:PySem.W.codeIn K cd32 "law"=true) (k32:keepIn K (.ref f32)=true)
  (bT:nsIn K mainGlobals "TileError"=some (some (.ref xt))) (b1:nsIn K mainGlobals "NoNet"=some (some (.ref x1))) (b3:nsIn K mainGlobals "NoSum"=some (some (.ref x3))) (b4:nsIn K mainGlobals "TooMany"=some (some (.ref x4))) (zV:nsIn K mainGlobals "ValueError"=some none)
  (ga_NoSum:PySem.W.findIn K (.ref x3) "__getattribute__"=some (some (.builtin "BaseException.__getattribute__"))) (gt_NoSum:PySem.W.findIn K (.ref x3) "__getattr__"=some none) (ca_NoSum:PySem.W.findIn K (.ref x3) "__class__"=some (some (.builtin "object.__class__"))) (ob_NoSum:PySem.W.subIn K (.ref x3) (.type "object")=some true) (be_NoSum:PySem.W.subIn K (.ref x3) (.type "BaseException")=some true) (ic_NoSum:PySem.W.clsIn K x3=some cd_NoSum) (ex_NoSum:excIn K x3 xS "ValueError.__new__"=true) (ve_NoSum:kitOne K (.ref x3) (.type "ValueError")=some true) (tt_NoSum:exmOne K (.ref x3) (.ref xt)=some true)
  (k1_NoSum:kitOne K (.ref x3) (.ref x1)=some (Nat.beq 1 3)) (k3_NoSum:kitOne K (.ref x3) (.ref x3)=some (Nat.beq 3 3)) (k4_NoSum:kitOne K (.ref x3) (.ref x4)=some (Nat.beq 4 3))
  (ga_NoNet:PySem.W.findIn K (.ref x1) "__getattribute__"=some (some (.builtin "BaseException.__getattribute__"))) (gt_NoNet:PySem.W.findIn K (.ref x1) "__getattr__"=some none) (ca_NoNet:PySem.W.findIn K (.ref x1) "__class__"=some (some (.builtin "object.__class__"))) (ob_NoNet:PySem.W.subIn K (.ref x1) (.type "object")=some true) (be_NoNet:PySem.W.subIn K (.ref x1) (.type "BaseException")=some true) (ic_NoNet:PySem.W.clsIn K x1=some cd_NoNet) (ex_NoNet:excIn K x1 xS "ValueError.__new__"=true) (ve_NoNet:kitOne K (.ref x1) (.type "ValueError")=some true) (tt_NoNet:exmOne K (.ref x1) (.ref xt)=some true)
  (k1_NoNet:kitOne K (.ref x1) (.ref x1)=some (Nat.beq 1 1)) (k3_NoNet:kitOne K (.ref x1) (.ref x3)=some (Nat.beq 3 1)) (k4_NoNet:kitOne K (.ref x1) (.ref x4)=some (Nat.beq 4 1))
  (ga_TooMany:PySem.W.findIn K (.ref x4) "__getattribute__"=some (some (.builtin "BaseException.__getattribute__"))) (gt_TooMany:PySem.W.findIn K (.ref x4) "__getattr__"=some none) (ca_TooMany:PySem.W.findIn K (.ref x4) "__class__"=some (some (.builtin "object.__class__"))) (ob_TooMany:PySem.W.subIn K (.ref x4) (.type "object")=some true) (be_TooMany:PySem.W.subIn K (.ref x4) (.type "BaseException")=some true) (ic_TooMany:PySem.W.clsIn K x4=some cd_TooMany) (ex_TooMany:excIn K x4 xS "ValueError.__new__"=true) (ve_TooMany:kitOne K (.ref x4) (.type "ValueError")=some true) (tt_TooMany:exmOne K (.ref x4) (.ref xt)=some true)
  (k1_TooMany:kitOne K (.ref x4) (.ref x1)=some (Nat.beq 1 4)) (k3_TooMany:kitOne K (.ref x4) (.ref x3)=some (Nat.beq 3 4)) (k4_TooMany:kitOne K (.ref x4) (.ref x4)=some (Nat.beq 4 4))
  (gl_LETTERS:nsIn K mainGlobals "LETTERS"=some (some (.str "abcdefghijklmnopqrstuvwxyz" tk_LETTERS)))
  (gl_MOST_RUNS:nsIn K mainGlobals "MOST_RUNS"=some (some (.int 120 tk_MOST_RUNS)))
  (z_int:nsIn K mainGlobals "int"=some none)
  (z_bool:nsIn K mainGlobals "bool"=some none)
  (z_str:nsIn K mainGlobals "str"=some none)
  (z_list:nsIn K mainGlobals "list"=some none)
  (z_tuple:nsIn K mainGlobals "tuple"=some none)
  (z_dict:nsIn K mainGlobals "dict"=some none)
  (z_set:nsIn K mainGlobals "set"=some none)
  (z_range:nsIn K mainGlobals "range"=some none)
  (z_enumerate:nsIn K mainGlobals "enumerate"=some none)
  (z_zip:nsIn K mainGlobals "zip"=some none)
  (z_reversed:nsIn K mainGlobals "reversed"=some none)
  (z_len:nsIn K mainGlobals "len"=some none)
  (z_abs:nsIn K mainGlobals "abs"=some none)
  (z_max:nsIn K mainGlobals "max"=some none)
  (z_min:nsIn K mainGlobals "min"=some none)
  (z_isinstance:nsIn K mainGlobals "isinstance"=some none)
  (z_sorted:nsIn K mainGlobals "sorted"=some none)
  (z_all:nsIn K mainGlobals "all"=some none)
  (z_any:nsIn K mainGlobals "any"=some none)
  (z_sum:nsIn K mainGlobals "sum"=some none) :
  ∃ fd:FuncData,(∀ (s:Shared) (v:Value),BindsTo s fd ⟨[v],[]⟩ [("_law_script",v)])/\∀ base:Heap,K.In base->base.Ns mainGlobals mg->rC mg base->kL l.prog w K mg base FN 7 fa fd ["_law_script"] (AT K):=by
 have e:=hfa.symm.trans (mg_of X G a32)
 cases e
 have T:Bl mg:=⟨mg_none_of X G z_int,mg_none_of X G z_bool,mg_none_of X G z_str,mg_none_of X G z_list,mg_none_of X G z_tuple,mg_none_of X G z_dict,mg_none_of X G z_set,mg_none_of X G z_range,mg_none_of X G z_enumerate,mg_none_of X G z_zip,mg_none_of X G z_reversed,mg_none_of X G z_len,mg_none_of X G z_abs,mg_none_of X G z_max,mg_none_of X G z_min,mg_none_of X G z_isinstance,mg_none_of X G z_sorted,mg_none_of X G z_all,mg_none_of X G z_any,mg_none_of X G z_sum⟩
 have W:kH mg xt x1 x3 x4:=⟨mg_of X G bT,mg_of X G b1,mg_of X G b3,mg_of X G b4,mg_none_of X G zV⟩
 have R_NoSum:bN K xt x1 x3 x4 x3 3:=⟨⟨ga_NoSum,gt_NoSum,ca_NoSum,ob_NoSum,be_NoSum,by rw [ic_NoSum]; rfl⟩,.ve ex_NoSum,ve_NoSum,tt_NoSum,k1_NoSum,k3_NoSum,k4_NoSum⟩
 have R1:bN K xt x1 x3 x4 x1 1:=⟨⟨ga_NoNet,gt_NoNet,ca_NoNet,ob_NoNet,be_NoNet,by rw [ic_NoNet]; rfl⟩,.ve ex_NoNet,ve_NoNet,tt_NoNet,k1_NoNet,k3_NoNet,k4_NoNet⟩
 have R4:bN K xt x1 x3 x4 x4 4:=⟨⟨ga_TooMany,gt_TooMany,ca_TooMany,ob_TooMany,be_TooMany,by rw [ic_TooMany]; rfl⟩,.ve ex_TooMany,ve_TooMany,tt_TooMany,k1_TooMany,k3_TooMany,k4_TooMany⟩
 subst tc5
 have d_sorted_by:Ay K mg "sorted_by" cU ["fractions","things"] 100 98:=UU X G a5 l5 c5 k5 tb5 (ET fun _ _=>rfl)
 have d_made_net:Ax K mg "made_net" dO ["box","show","double"] [.bl false] 2 ["double"]:=UT (ds:=[.bool false]) X G a14 l14 c14 k14 t14 u14 (fun sh us hg hl=>by refine NY (P:=fun us=>BindsTo sh _ ⟨us,[]⟩ (List.zip ["box","show","double"] us)) ?_ us hl; exact fun _ _ _=>.of_defaults rfl hg u14 rfl rfl) (.cons rfl .nil) (fun sh us hg hl=>by refine ET (P:=fun us=>BindsTo sh _ ⟨us,[]⟩ (List.zip ["box","show","double"] (us++[.bool false]))) ?_ us (show us.length=2 by simpa using hl); exact fun _ _=>.of_defaults rfl hg u14 rfl rfl) (by decide) (fun sh us ws hg hu hw=>by refine ET (P:=fun us=>BindsTo sh _ ⟨us,List.zip ["double"] ws⟩ (List.zip ["box","show","double"] (us++ws))) ?_ us hu; exact fun _ _=>by refine ZQ (P:=fun ws=>BindsTo sh _ ⟨_,List.zip ["double"] ws⟩ (List.zip ["box","show","double"] (_++ws))) ?_ ws hw; exact fun _=>.of_defaults rfl hg u14 rfl rfl)
 have d_falls_of:VY K mg "falls_of" dQ ["net","pushes","takings"] [.non]:=JX (ds:=[.none]) X G a18 l18 c18 k18 t18 u18 (fun sh us hg hl=>by refine NY (P:=fun us=>BindsTo sh _ ⟨us,[]⟩ (List.zip ["net","pushes","takings"] us)) ?_ us hl; exact fun _ _ _=>.of_defaults rfl hg u18 rfl rfl) (.cons rfl .nil) (fun sh us hg hl=>by refine ET (P:=fun us=>BindsTo sh _ ⟨us,[]⟩ (List.zip ["net","pushes","takings"] (us++[.none]))) ?_ us (show us.length=2 by simpa using hl); exact fun _ _=>.of_defaults rfl hg u18 rfl rfl)
 have d_fall_moments:VY K mg "fall_moments" bU ["net","pushes","takings"] [.non]:=JX (ds:=[.none]) X G a19 l19 c19 k19 t19 u19 (fun sh us hg hl=>by refine NY (P:=fun us=>BindsTo sh _ ⟨us,[]⟩ (List.zip ["net","pushes","takings"] us)) ?_ us hl; exact fun _ _ _=>.of_defaults rfl hg u19 rfl rfl) (.cons rfl .nil) (fun sh us hg hl=>by refine ET (P:=fun us=>BindsTo sh _ ⟨us,[]⟩ (List.zip ["net","pushes","takings"] (us++[.none]))) ?_ us (show us.length=2 by simpa using hl); exact fun _ _=>.of_defaults rfl hg u19 rfl rfl)
 have FL:=UQ (st:=kM) l32 c32 k32
 refine ⟨fnOf "law" "law" (aW kM) (aR kM) (aD kM) .none kV32 dc32 pm32 an32 cd32 ct32,fun s v=>.of_eq rfl,fun base _ _ BB=>?_⟩
 have o0a:=mE (P:=l.prog) (w:=w) (base:=base) (k:=0) T (a0.df X G (by w_left)) W R_NoSum R1 R4
 have o0y:=II (k:=1) T (a1.df X G (by w_left)) W R_NoSum R1 R4 (o0a.mono (by decide))
 have o0p:=wT (k:=2) T (a2.df X G (by w_left)) W R_NoSum R1 R4 (o0y.mono (by decide))
 have o0t:=zF (P:=l.prog) (w:=w) (base:=base) (k:=0) T (a3.df X G (by w_left)) W R_NoSum R1 R4
 have o0i:=qR (k:=1) T (a4.df X G (by w_left)) W R_NoSum R1 R4 (o0a.mono (by decide))
 have o0k:bJ l.prog w K mg base 3 "sorted_by" ["fractions","things"] (iR K):=uR (k:=2) T d_sorted_by BB W R_NoSum R1 R4 (o0i.mono (by decide))
 have o0m:=wP (k:=2) T (a6.df X G (by w_left)) W R_NoSum R1 R4 (o0a.mono (by decide)) (o0i.mono (by decide))
 have o0d:=nQ (P:=l.prog) (w:=w) (base:=base) (k:=0) T (a7.df X G (by w_left)) W R_NoSum R1 R4
 have o0j:=qS (P:=l.prog) (w:=w) (base:=base) (k:=0) T (a8.df X G (by w_left)) W R_NoSum R1 R4
 have o0s:=zD (k:=3) T (a9.df X G (by w_left)) W R_NoSum R1 R4 (o0j.mono (by decide)) (o0d.mono (by decide)) (o0m.mono (by decide)) (o0k.mono (by decide))
 have o0q:=wR (P:=l.prog) (w:=w) (base:=base) (k:=0) T (a10.df X G (by w_left)) W R_NoSum R1 R4
 have o0h:=pP (P:=l.prog) (w:=w) (base:=base) (k:=0) T (a11.df X G (by w_left)) W R_NoSum R1 R4
 have o0f:=pQ (P:=l.prog) (w:=w) (base:=base) (k:=0) T (a12.df X G (by w_left)) W R_NoSum R1 R4 (mg_of X G gl_LETTERS)
 have o0b:=mD (k:=3) T (a13.df X G (by w_left)) W R_NoSum R1 R4 (o0k.mono (by decide))
 have o0l:=wS (P:=l.prog) (w:=w) (base:=base) (k:=4) T d_made_net W R_NoSum R1 R4 (mg_of X G gl_MOST_RUNS) (o0f.mono (by decide)) (o0b.mono (by decide)) (o0p.mono (by decide)) (o0s.mono (by decide))
 have o0c:=nE (k:=1) T (a15.df X G (by w_left)) W R_NoSum R1 R4 (o0t.mono (by decide))
 have o0x:=DW (k:=1) T (a16.df X G (by w_left)) W R_NoSum R1 R4 (o0t.mono (by decide))
 have o0g:=pR (k:=1) T (a17.df X G (by w_left)) W R_NoSum R1 R4 (o0t.mono (by decide))
 have o0n:lK l.prog w K mg base 3 "falls_of" ["net","pushes","takings"] [.non]  GH:=wU (k:=2) T d_falls_of W R_NoSum R1 R4 (o0t.mono (by decide)) (o0x.mono (by decide)) (o0y.mono (by decide)) (o0g.mono (by decide)) (o0c.mono (by decide)) (o0h.mono (by decide))
 have o0e:lK l.prog w K mg base 4 "fall_moments" ["net","pushes","takings"] [.non]  (RJ w):=nR (k:=3) T d_fall_moments W R_NoSum R1 R4 (o0q.mono (by decide)) (o0n.mono (by decide))
 have o0u:=zG (P:=l.prog) (w:=w) (base:=base) (k:=0) T (a20.df X G (by w_left)) W R_NoSum R1 R4
 have o0z:=IG (P:=l.prog) (w:=w) (base:=base) (k:=0) T (a21.df X G (by w_left)) W R_NoSum R1 R4
 have o1c:=IH (k:=1) T (a22.df X G (by w_left)) W R_NoSum R1 R4 (o0z.mono (by decide))
 have o0r:=zC (k:=1) T (a23.df X G fun _ _ _ _ _ _=>ZP fun _ _ _ _=>rfl) W R_NoSum R1 R4 (o0u.mono (by decide)) (o0z.mono (by decide))
 have o0w:=DV (P:=l.prog) (w:=w) (base:=base) (k:=0) T (a24.df X G (by w_left)) W R_NoSum R1 R4
 have o1d:=NA (P:=l.prog) (w:=w) (base:=base) (k:=0) T (a25.df X G (by w_left)) W R_NoSum R1 R4
 have o1a:=IE (P:=l.prog) (w:=w) (base:=base) (k:=0) T (a26.df X G (by w_left)) W R_NoSum R1 R4
 have o0o:=wQ (k:=1) T (a27.df X G (by w_left)) W R_NoSum R1 R4 (o0w.mono (by decide))
 have o1f:=NB (k:=1) T (a28.df X G (by w_left)) W R_NoSum R1 R4 (o0w.mono (by decide))
 have o0v:=DU (k:=4) T (a29.df X G (by w_left)) W R_NoSum R1 R4 (o0e.mono (by decide))
 have o1b:=IF (k:=5) T (a30.df X G fun _ _ _ _ _ _=>ZP fun _ _ _ _=>rfl) W R_NoSum R1 R4 (o0v.mono (by decide))
 have o1e:=NC (P:=l.prog) (w:=w) (base:=base) (k:=0) T (a31.df X G (by w_left)) W R_NoSum R1 R4
 exact TR (k:=6) T FL W R_NoSum R1 R4 (o0v.mono (by decide)) (o1b.mono (by decide)) (o0l.mono (by decide)) (o1e.mono (by decide)) (o0u.mono (by decide)) (o1c.mono (by decide)) (o1f.mono (by decide)) (o0o.mono (by decide)) (o1d.mono (by decide)) (o0r.mono (by decide)) (o1a.mono (by decide)) (o0z.mono (by decide))
theorem walk {l:PySem.W.OpenLaw}{q:Program}{loose:List Str}{XP:(Str->Option Value)->Heap->Prop}{YP:World->Heap->Prop}{d:DefRec}{K:Params->Frag} (hn:l.most=some 63) (hdf:d.params.defaults=[])
  (hY:∀ (w:World) (h:Heap),YP w h->(K w.params).In h/\h.get? 98=some (tabObj #[])) (hC:∀ P,codeHdIn (K P) 100 98=true) (hKT:∀ P,(K P).lookup 98=none)
  (F:∀ (w:World) (mg:Str->Option Value) (fa:Addr) (h:Heap),(K w.params).In h->h.Ns mainGlobals mg->mg d.name=some (.ref fa) ->
   ∃ fd:FuncData,(∀ (s:Shared) (u:Value),BindsTo s fd ⟨[u],[]⟩ [("_law_script",u)])/\∀ base:Heap,(K w.params).In base->base.Ns mainGlobals mg->rC mg base->kL l.prog w (K w.params) mg base FN 7 fa fd ["_law_script"] (AT (K w.params))) :
  PySem.W.WalkO q loose XP YP l.row.toRowW d [] (fun f vs=>PySem.call f vs):=
 L2.walk_ofT (n:=63) (k:=7) (x:="_law_script") (CX:=fun _=>FN) (sp:=fun w=>AT (K w.params)) hn (by decide) hdf ⟨rfl,by decide,by decide⟩ hY hC hKT F (fun _ _ a ns hl hT hS=>⟨a,ns,rfl,hS,hl,.inl hT,fun _=>rfl⟩) fun _ _ _ _ _ z=>z
open PySem.W in
theorem Ci {q:Program}{loose:List Str}{XP:(Str->Option Value)->Heap->Prop}{r:RowW}{d:DefRec}{kwd:List (Str×Expr)}{run:Value->List Value->Sem Value}{K:Params->Frag}{as:List Addr}{n t:Nat} (e:∀ P:Params,as=List.map (fun x=>x.fst) (K P))
  (W:WalkO q loose XP (kHook K as e).says r d kwd run):WalkX q loose XP (X.obsZ as) (X.valZ K n t) r d kwd run:=
 fun w s₀ s₁ mg mb G y a o pm cd doc dV kV ho hd hcd hD hmg hg args vals as' L hpre hlay hrd hwl hlo =>
  W w s₀ s₁ mg mb G ((kHook K as e).keeps w s₀.heap s₁.heap ((kHook K as e).of w s₀ (congrArg Prod.fst y)) L.keeps) a o pm cd doc dV kV ho hd hcd hD hmg hg args vals as' hpre hlay hrd hwl hlo
end Lw
local macro_rules | `(tactic| walk_at "df") => `(tactic| (refine' Lw.DA.of ?a ?l ?c ?k; (case a => k_is); (case l => k_is); (case c => k_is); (case k => k_is)))
open PySem PySem.W PyProof.Rows
set_option maxRecDepth 100000 in
set_option maxHeartbeats 0 in
theorem PySem.Challenge.cw_tilefall_k63_whole_made_nets_play_holds : PySem.Challenge.rw_tilefall_k63_whole_made_nets_play.Holds := by
  w_on; o_law; km_head; (case hw => w_witness2)
  k_fill
  refine Lw.walk (l := PySem.Challenge.rw_tilefall_k63_whole_made_nets_play) rfl rfl (fun w h Y => ⟨PySem.W.km_in_of Y, PySem.W.km_tabs_of Y 98 (by simp)⟩) (fun _ => by kernel_rfl) (fun _ => by kernel_rfl) ?F
  case F =>
    intro w mg fa h KX G hmg
    refine' Lw.all_mk KX G hmg ?a0 ?a1 ?a2 ?a3 ?a4 ?a5 ?l5 ?c5 ?k5 ?tb5 ?tc5 ?a6 ?a7 ?a8 ?a9 ?a10 ?a11 ?a12 ?a13 ?a14 ?l14 ?c14 ?k14 ?t14 ?u14 ?a15 ?a16 ?a17 ?a18 ?l18 ?c18 ?k18 ?t18 ?u18 ?a19 ?l19 ?c19 ?k19 ?t19 ?u19 ?a20 ?a21 ?a22 ?a23 ?a24 ?a25 ?a26 ?a27 ?a28 ?a29 ?a30 ?a31 ?a32 ?l32 ?c32 ?k32 ?bT ?b1 ?b3 ?b4 ?zV ?ga_NoSum ?gt_NoSum ?ca_NoSum ?ob_NoSum ?be_NoSum ?ic_NoSum ?ex_NoSum ?ve_NoSum ?tt_NoSum ?k1_NoSum ?k3_NoSum ?k4_NoSum ?ga_NoNet ?gt_NoNet ?ca_NoNet ?ob_NoNet ?be_NoNet ?ic_NoNet ?ex_NoNet ?ve_NoNet ?tt_NoNet ?k1_NoNet ?k3_NoNet ?k4_NoNet ?ga_TooMany ?gt_TooMany ?ca_TooMany ?ob_TooMany ?be_TooMany ?ic_TooMany ?ex_TooMany ?ve_TooMany ?tt_TooMany ?k1_TooMany ?k3_TooMany ?k4_TooMany ?gl_LETTERS ?gl_MOST_RUNS  ?z_int ?z_bool ?z_str ?z_list ?z_tuple ?z_dict ?z_set ?z_range ?z_enumerate ?z_zip ?z_reversed ?z_len ?z_abs ?z_max ?z_min ?z_isinstance ?z_sorted ?z_all ?z_any ?z_sum
    (case a0 | a1 | a2 | a3 | a4 | a6 | a7 | a8 | a9 | a10 | a11 | a12 | a13 | a15 | a16 | a17 | a20 | a21 | a22 | a23 | a24 | a25 | a26 | a27 | a28 | a29 | a30 | a31 => walk_at "df")
    (case a5|l5|c5|k5|a14|l14|c14|k14|t14|a18|l18|c18|k18|t18|a19|l19|c19|k19|t19|a32|l32|c32|k32|bT|b1|b3|b4|zV|ga_NoSum|gt_NoSum|ca_NoSum|ob_NoSum|be_NoSum|ic_NoSum|ga_NoNet|gt_NoNet|ca_NoNet|ob_NoNet|be_NoNet|ic_NoNet|ga_TooMany|gt_TooMany|ca_TooMany|ob_TooMany|be_TooMany|ic_TooMany|gl_LETTERS|gl_MOST_RUNS|z_int|z_bool|z_str|z_list|z_tuple|z_dict|z_set|z_range|z_enumerate|z_zip|z_reversed|z_len|z_abs|z_max|z_min|z_isinstance|z_sorted|z_all|z_any|z_sum => k_is)
    (case tb5 => first | k_is | kernel_rfl); (case tc5 => exact rfl)
    (case u14 => exact rfl)
    (case u18 => exact rfl)
    (case u19 => exact rfl)
    (case ex_NoSum => k_exc)
    (case ve_NoSum => kit_is)
    (case tt_NoSum => kts_exm)
    (case k1_NoSum => kit_is)
    (case k3_NoSum => kit_is)
    (case k4_NoSum => kit_is)
    (case ex_NoNet => k_exc)
    (case ve_NoNet => kit_is)
    (case tt_NoNet => kts_exm)
    (case k1_NoNet => kit_is)
    (case k3_NoNet => kit_is)
    (case k4_NoNet => kit_is)
    (case ex_TooMany => k_exc)
    (case ve_TooMany => kit_is)
    (case tt_TooMany => kts_exm)
    (case k1_TooMany => kit_is)
    (case k3_TooMany => kit_is)
    (case k4_TooMany => kit_is)
