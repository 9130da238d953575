import PyProof.Rows.All
import Wide.All
import OpenK.AllK
import Wide.FinOn
import Lean
import PyProof.EqAt
import PyProof.EqKinds
import PyProof.TupleCall
import PyProof.NeKinds
import KE.KTryMore
import KE.RegKTryMore
import KE.RegKIsAll
import PyProof.ExcBaseAll.ValueError
import PyProof.ExcBaseAll.Exception
import PyProof.ExcAttrAll.ValueError
import KE.KRevSl
import KE.KDictList
import KE.KDictOf
import PyProof.ListStr
import PyProof.TupleKey
import PyProof.IsRules
import KE.KSortTup
import KE.KLam
import KE.KNestM
import KE.KSortKey
import PyProof.ZipIter
import PyProof.SeqI3
import PySem.Challenge.RW_tilefall_k62_made_nets
set_option Elab.async false
set_option linter.all false
set_option maxRecDepth 100000
open List (all_cons any_cons any_eq_true append_assoc append_inj' append_nil cons_ne_nil drop_eq_getElem_cons ext_getElem ext_getElem? filterMap_append filterMap_cons filter_append filter_cons find?_cons flatten_cons forIn_cons getD_eq_getElem?_getD length_append length_cons length_drop length_eq_zero_iff length_map length_range length_replicate length_reverse length_singleton length_take length_zip lookup_cons map_append map_congr_left map_cons map_id map_map map_nil mem_append mem_append_left mem_append_right mem_cons mem_cons_of_mem mem_cons_self mem_filter mem_filterMap mem_map mem_map_of_mem mem_of_getElem? mem_range mem_singleton nil_append nodup_append nodup_cons nodup_nil nodup_range not_mem_nil of_mem_zip pairwise_append pairwise_map replicate_succ reverse_cons size_toArray sum_cons take_add_one take_append_drop take_length take_of_length_le)
open Nat (div_mul_cancel eq_zero_or_pos le_add_right le_of_ble_eq_true le_of_dvd le_of_eq le_of_lt le_refl le_succ le_trans lt_irrefl lt_of_le_of_lt lt_of_lt_of_le lt_or_ge lt_succ_of_lt lt_succ_self lt_trans min_self mod_lt mul_comm mul_pos ne_of_gt ne_of_lt not_lt not_lt_zero succ_pos zero_le zero_mul)
open PySem.W (CodeHd Frag InstAt callWith_K cellsFrom_some codeHdIn codeHd_of_K excIn exmOne fnOf instObj keepIn keq_eq kia_one kitCls kitOne kitx_dict kitx_list kla_fn kla_obj lookIn methodObj mg_none_of mg_of mroIn nsIn plainGet tabObj)
open PySem.F (plainAttrs_dict plainAttrs_list slot_dict_values slot_list_ne slot_tuple_add slot_tuple_ne)
open PySem.Heap (get?_none_of_le get?_push_of_some get?_push_size get?_update_other get?_update_self lt_size size_push size_update)
def PySem.W.Fast.tw9508032316240575776:=0
def PySem.W.Fast.tw8377934263708969763:=0
def PySem.W.Fast.tw9593003529523307232:=0
def PySem.W.Fast.tw13672909792395278851:=0
def PySem.W.Fast.tw12924797466018356940:=0
def PySem.W.Fast.tw14946905752545874368:=0
def PySem.W.Fast.tw8244258672591444592:=0
def PySem.W.Fast.tw7404292009662910846:=0
def PySem.W.Fast.tw3418050941352203116:=0
def PySem.W.Fast.tw3067739395206770094:=0
def PySem.W.Fast.tw11101865035179621610:=0
def PySem.W.Fast.tw4123148160718577946:=0
namespace L2
open PySem PySem.Spec PyProof.Rows
section
noncomputable abbrev aR:=Sum Int Str
noncomputable def qL:aR->Value->Bool
|.inl k,v=>Value.isInt k v
|.inr x,v=>Value.isStrOf x v
noncomputable def Ar (w:World):aR->Int
|.inl k=>hashInt k
|.inr x=>hashStr w x
theorem bR:∀ {k:aR}{v:Value},qL k v=true->(∃ i t,k=Sum.inl i/\v=Value.int i t)∨(∃ x t,k=Sum.inr x/\v=Value.str x t)
|.inl i,v,h=>by
  obtain ⟨t,e⟩:=Value.isInt_shape (k:=i) (v:=v) h
  exact .inl ⟨i,t,rfl,e⟩
|.inr x,v,h=>by
  obtain ⟨t,e⟩:=Value.isStrOf_shape (x:=x) (v:=v) h
  exact .inr ⟨x,t,rfl,e⟩
theorem CW (i:Int) (t:Tok):qL (.inl i) (.int i t)=true:=by simp [qL,Value.isInt]
theorem CV (x:Str) (t:Tok):qL (.inr x) (.str x t)=true:=by simp [qL,Value.isStrOf]
theorem TF (a b:Int):decide ((Sum.inl a:aR)=Sum.inl b)=(a==b):=by
 by_cases e:a=b
 ·subst e; simp
 ·have h:¬ (Sum.inl a:aR)=Sum.inl b:=fun q=>e (Sum.inl.inj q)
  rw [decide_eq_false h]
  exact (beq_eq_false_iff_ne.mpr e).symm
theorem TB (a b:Str):decide ((Sum.inr a:aR)=Sum.inr b)=decide (a=b):=by
 by_cases e:a=b
 ·subst e; simp
 ·have h:¬ (Sum.inr a:aR)=Sum.inr b:=fun q=>e (Sum.inr.inj q)
  rw [decide_eq_false h,decide_eq_false e]
theorem TD (a:Int) (b:Str):decide ((Sum.inl a:aR)=Sum.inr b)=false:=decide_eq_false (fun q=>nomatch q)
theorem TC (a:Str) (b:Int):decide ((Sum.inr a:aR)=Sum.inl b)=false:=decide_eq_false (fun q=>nomatch q)
noncomputable def aY (prog:Program) (w:World):PySem.KeyKind prog w aR where
 is:=qL
 hash:=Ar w
 inj:=fun v a b ha hb=>by
  rcases bR ha with ⟨i,t,rfl,rfl⟩|⟨x,t,rfl,rfl⟩
  ·rcases bR hb with ⟨j,u,rfl,e⟩|⟨y,u,rfl,e⟩
   ·injection e with e1 _; rw [e1]
   ·exact nomatch e
  ·rcases bR hb with ⟨j,u,rfl,e⟩|⟨y,u,rfl,e⟩
   ·exact nomatch e
   ·injection e with e1 _; rw [e1]
 byValue:=fun k v h=>by
  rcases bR h with ⟨i,t,rfl,rfl⟩|⟨x,t,rfl,rfl⟩ <;> rfl
 pyHash:=fun hv h=>by
  rcases bR hv with ⟨i,t,rfl,rfl⟩|⟨x,t,rfl,rfl⟩
  ·exact wpAny_pyHash_int h
  ·exact wpAny_pyHash_str h
 eqBool:=fun hu hv h=>by
  rcases bR hu with ⟨i,t,rfl,rfl⟩|⟨x,t,rfl,rfl⟩
  ·rcases bR hv with ⟨j,u,rfl,rfl⟩|⟨y,u,rfl,rfl⟩
   ·rw [TF] at h; exact wpAny_eqBool_int h
   ·rw [TD] at h; exact SeqAt.EqAt.int_str i t y u _ _ _ _ h
  ·rcases bR hv with ⟨j,u,rfl,rfl⟩|⟨y,u,rfl,rfl⟩
   ·rw [TC] at h; exact SeqAt.EqAt.str_int x t j u _ _ _ _ h
   ·rw [TB] at h; exact wpAny_eqBool_str h
 «strs»:=fun k x t v h=>by
  rcases bR h with ⟨i,u,rfl,e⟩|⟨y,u,rfl,e⟩
  ·exact nomatch e
  ·injection e with e1 _
   subst e1
   cases v <;> rfl
theorem vN (prog:Program) (w:World) (i:Int) (t:Tok):(aY prog w).is (.inl i) (.int i t)=true:=CW i t
theorem vM (prog:Program) (w:World) (x:Str) (t:Tok):(aY prog w).is (.inr x) (.str x t)=true:=CV x t
end
section
inductive V where
|non|bl (b:Bool)|int (i:Int)|str (x:Str)|byt (b:Array UInt8)|flt (b:UInt64)|ref (a:Addr)|ty (n:String)
 deriving DecidableEq
noncomputable def aV:V->Value->Prop
|.non,u=>u=Value.none
|.bl b,u=>u=Value.bool b
|.int i,u=>∃ t,u=Value.int i t
|.str x,u=>∃ t,u=Value.str x t
|.byt b,u=>∃ t,u=Value.bytes b t
|.flt b,u=>∃ t,u=Value.float b t
|.ref a,u=>u=Value.ref a
|.ty n,u=>u=Value.type n
noncomputable abbrev aM:List V->List Value->Prop:=Paired aV
theorem aM.length {xs:List V}{us:List Value} (r:aM xs us):xs.length=us.length:=Paired.length r
theorem aM.get:∀ {xs:List V}{us:List Value}{i:Nat}{x:V},aM xs us->xs[i]?=some x->∃ u,us[i]?=some u/\aV x u
|_,_,_,_,.nil,e=>by simp at e
|_,_,0,_,.cons r _,e=>by simp at e; subst e; exact ⟨_,rfl,r⟩
|_,_,i+1,x,.cons _ t,e=>by
  obtain ⟨u,h1,h2⟩:=aM.get (i:=i) (x:=x) t (by simpa using e)
  exact ⟨u,by simpa using h1,h2⟩
theorem aM.append:∀ {xs ys:List V}{us ws:List Value},aM xs us->aM ys ws->aM (xs++ys) (us++ws)
|_,_,_,_,.nil,s=>s
|_,_,_,_,.cons r t,s=>.cons r (aM.append t s)
theorem aM.take:∀ {xs:List V}{us:List Value} (n:Nat),aM xs us->aM (xs.take n) (us.take n)
|_,_,0,_=>.nil
|_,_,_+1,.nil=>.nil
|_,_,n+1,.cons r t=>.cons r (aM.take n t)
theorem aM.drop:∀ {xs:List V}{us:List Value} (n:Nat),aM xs us->aM (xs.drop n) (us.drop n)
|_,_,0,r=>r
|_,_,_+1,.nil=>.nil
|_,_,n+1,.cons _ t=>aM.drop n t
noncomputable def oX:Option V->Option Value->Prop
|some v,some u=>aV v u
|none,none=>True
|_,_=>False
noncomputable def KV {κ:Type}:List (κ×V)->List (κ×Value)->Prop:=Paired fun (p:κ×V) (q:κ×Value)=>p.1=q.1/\aV p.2 q.2
noncomputable def kV:aR->V
|.inl i=>.int i
|.inr x=>.str x
inductive HO where
 |lst (xs:List V)
 |tup (xs:List V)
 |dK (kvs:List (aR×V))|dT (kvs:List (List aR×V))
 |set (S:Int->Bool) (n:Nat)
 |ins (C dx:Addr) (fs:List (Str×V))
 |own (x:Addr)
 |xd (fs:List (Str×V))
 |met (f x:Addr)
 |rng (lo hi:Int)
 |frz (o:Obj) (u:HO)
 |tbl (ps:Array Value)
 |ext (φ:Heap->Prop)
noncomputable abbrev Hp:=Addr->Option HO
noncomputable def upd (H:Hp) (a:Addr) (o:HO):Hp:=fun b=>if b=a then some o else H b
theorem aC {H:Hp}{a:Addr}{o:HO}:upd H a o a=some o:=by unfold upd; rw [if_pos rfl]
theorem aI {H:Hp}{a b:Addr}{o:HO} (h:b≠a):upd H a o b=H b:=by unfold upd; rw [if_neg h]
theorem yY {H:Hp}{a:Addr}{o u:HO}:upd (upd H a o) a u=upd H a u:=by
 funext b; unfold upd; split <;> rfl
theorem cD {H:Hp}{a b:Addr}{o u:HO} (h:H a=some o) (h':H b=some u) (d:o≠u):a≠b:=by
 intro e; subst e; rw [h] at h'; exact d (Option.some.inj h')
theorem aB {H:Hp}{a b:Addr}{o:HO} (h:H a=some o) (h':H b=none):a≠b:=by
 intro e; subst e; rw [h] at h'; cases h'
section
variable (P:Program) (w:World)
noncomputable def bC (H:Hp) (h:Heap) (a:Addr):HO->Prop
|.lst xs=>xs.length<=sizeLine/\∃ (its:List Value) (n:Nat),aM xs its/\h.get? a=some { cls:=.type "list",data:=.seq its.toArray n }
|.tup xs=>(xs.length<=sizeLine/\∃ o,h.get? a=some o/\o.dict=none)/\∃ its:List Value,aM xs its/\IsTup h a its.toArray
|.dK kvs=>kvs.length<=sizeLine/\(a==sysModules)=false/\∃ vs,KV kvs vs/\h.DictOf (aY P w) a vs
|.dT kvs=>kvs.length<=sizeLine/\(a==sysModules)=false/\∃ xs:List (List aR×Addr×Value),
   Paired (fun (p:List aR×V) (q:List aR×Addr×Value)=>p.1=q.1/\H q.2.1=some (.tup (p.1.map kV))/\aV p.2 q.2.2) kvs xs /\
   ∃ o es ep,h.get? a=some o/\o.ExactDict/\o.data=.dict es ep/\es.toList=xs.map (entryOfKey (tupleKind (aY P w)))/\(xs.map (·.1)).Nodup
|.set S n=>h.SetOf (intKind P w) a S n
|.ins C dx fs=>H dx=some (.own a)/\fs.length<=1000/\dx≠a/\h.get? a=some (instObj C dx) /\
   ∃ mA,h.Ns1 dx mA/\(∀ f,oX (fs.lookup f) (mA f))/\PySem.Within mA (fs.map (·.1))
|.own _=>∃ o,h.get? a=some o
|.xd fs=>∃ mA,h.Ns1 a mA/\∀ f,oX (fs.lookup f) (mA f)
|.rng lo hi=>∃ t u v,h.get? a=some { cls:=.type "range",data:=.fields #[.int lo t,.int hi u,.int 1 v] }
|.frz o u=>h.get? a=some o/\bC H h a u
|.tbl ps=>h.get? a=some { cls:=.none,data:=.fields ps }
|.met f x=>h.get? a=some (methodObj (.ref f) (.ref x))
|.ext φ=>φ h/\(∃ o,h.get? a=some o)/\∀ h1 h2:Heap,φ h1->(∀ o,h1.get? a=some o->h2.get? a=some o)->φ h2
noncomputable def gG (H:Hp) (h:Heap):Prop:=∀ a o,H a=some o->bC P w H h a o
end
section
variable {P:Program} {w:World} {H H':Hp} {h h':Heap} {a:Addr} {o:HO}
theorem bC.lt (x:bC P w H h a o):a < h.objs.size:=by
 cases o with
|lst xs=>obtain ⟨_,_,_,_,e⟩:=x; exact lt_size e
|tup xs=>obtain ⟨_,_,_,p⟩:=x; exact p.lt
|dK kvs=>obtain ⟨_,_,_,_,o,_,_,e,_⟩:=x; exact lt_size e
|dT kvs=>obtain ⟨_,_,_,_,o,_,_,e,_⟩:=x; exact lt_size e
|set S n=>obtain ⟨o,_,_,_,e,_⟩:=x; exact lt_size e
|ins C dx fs=>obtain ⟨_,_,_,e,_⟩:=x; exact lt_size e
|own y=>obtain ⟨_,e⟩:=x; exact lt_size e
|xd fs=>obtain ⟨_,⟨_,_,_,e,_⟩,_⟩:=x; exact lt_size e
|rng lo hi=>obtain ⟨_,_,_,e⟩:=x; exact lt_size e
|frz ob u=>obtain ⟨e,_⟩:=x; exact lt_size e
|tbl ps=>exact lt_size (show h.get? a=some _ from x)
|met f y=>exact lt_size (show h.get? a=some _ from x)
|ext φ=>obtain ⟨_,⟨_,e⟩,_⟩:=x; exact lt_size e
theorem Paired.mapP {α β:Type}{F G:α->β->Prop}:∀ {l₁:List α}{l₂:List β},Paired F l₁ l₂->(∀ a b,F a b->G a b)->Paired G l₁ l₂
|_,_,.nil,_=>.nil
|_,_,.cons r t,f=>.cons (f _ _ r) (Paired.mapP t f)
theorem bC.stay (x:bC P w H h a o) (k:∀ b u,(b=a∨H b=some (.own a))->h.get? b=some u->h'.get? b=some u)
  (ho:∀ b,H b=some (.own a)->H' b=some (.own a)) (ht:∀ b xs,H b=some (.tup xs)->H' b=some (.tup xs)):bC P w H' h' a o:=by
 induction o with
|lst xs=>obtain ⟨z,its,n,r,e⟩:=x; exact ⟨z,its,n,r,k _ _ (.inl rfl) e⟩
|tup xs=>obtain ⟨⟨z,o1,e1,d1⟩,its,r,ob,e,c⟩:=x; exact ⟨⟨z,o1,k _ _ (.inl rfl) e1,d1⟩,its,r,ob,k _ _ (.inl rfl) e,c⟩
|dK kvs=>obtain ⟨z,y,vs,r,ob,es,ep,e,c⟩:=x; exact ⟨z,y,vs,r,ob,es,ep,k _ _ (.inl rfl) e,c⟩
|dT kvs =>
  obtain ⟨z,y,xs,r,ob,es,ep,e,c⟩:=x
  exact ⟨z,y,xs,Paired.mapP r fun p q z=>⟨z.1,ht _ _ z.2.1,z.2.2⟩,ob,es,ep,k _ _ (.inl rfl) e,c⟩
|set S n=>obtain ⟨ob,es,ep,t,e,c⟩:=x; exact ⟨ob,es,ep,t,k _ _ (.inl rfl) e,c⟩
|ins C dx fs =>
  obtain ⟨d,z,ne,e,mA,⟨od,es,ep,e2,c⟩,r⟩:=x
  exact ⟨ho _ d,z,ne,k _ _ (.inl rfl) e,mA,⟨od,es,ep,k _ _ (.inr d) e2,c⟩,r⟩
|own y=>obtain ⟨ob,e⟩:=x; exact ⟨ob,k _ _ (.inl rfl) e⟩
|xd fs=>obtain ⟨mA,⟨od,es,ep,e,c⟩,r⟩:=x; exact ⟨mA,⟨od,es,ep,k _ _ (.inl rfl) e,c⟩,r⟩
|rng lo hi=>obtain ⟨t,u,v,e⟩:=x; exact ⟨t,u,v,k _ _ (.inl rfl) e⟩
|frz ob u ih=>obtain ⟨e,q⟩:=x; exact ⟨k _ _ (.inl rfl) e,ih q⟩
|tbl ps =>
  have e:h.get? a=some { cls:=.none,data:=.fields ps }:=x
  show h'.get? a=some { cls:=.none,data:=.fields ps }
  exact k a _ (.inl rfl) e
|met f y =>
  have e:h.get? a=some (methodObj (.ref f) (.ref y)):=x
  show h'.get? a=some (methodObj (.ref f) (.ref y))
  exact k a _ (.inl rfl) e
|ext φ=>obtain ⟨p,⟨o,e⟩,st⟩:=x; exact ⟨st _ _ p fun o q=>k _ _ (.inl rfl) q,⟨o,k _ _ (.inl rfl) e⟩,st⟩
theorem gG.lt (x:gG P w H h) (e:H a=some o):a < h.objs.size:=(x a o e).lt
theorem gG.fresh (x:gG P w H h) (e:h.objs.size<=a):H a=none:=by
 cases q:H a with
|none=>rfl
|some u=>exact absurd (lt_of_lt_of_le (x.lt q) e) (lt_irrefl _)
theorem gG.kept (x:gG P w H h) (k:∀ b u,h.get? b=some u->h'.get? b=some u):gG P w H h':=fun a o e =>
 (x a o e).stay (fun b u _ q=>k b u q) (fun _ q=>q) fun _ _ q=>q
theorem gG.laid (x:gG P w H h) (k:∀ b u,h.get? b=some u->h'.get? b=some u) (hp:h.objs.size<=a) (new:bC P w (upd H a o) h' a o):gG P w (upd H a o) h':=fun b u e=>by
 have hn:=x.fresh hp
 by_cases hb:b=a
 ·subst hb; rw [aC] at e; cases e; exact new
 ·rw [aI hb] at e
  exact (x b u e).stay (fun c v _ q=>k c v q) (fun c q=>by rw [aI (aB q hn)]; exact q) fun c xs q=>by rw [aI (aB q hn)]; exact q
end
noncomputable def Rd (H:Hp) (a:Addr) (u:HO):Prop:=H a=some u∨∃ o,H a=some (.frz o u)
theorem Rd.ok {P:Program}{w:World}{H:Hp}{h:Heap}{a:Addr}{u:HO} (r:Rd H a u) (x:gG P w H h):bC P w H h a u:=by
 rcases r with r|⟨o,r⟩
 ·exact x a u r
 ·obtain ⟨_,q⟩:=x a _ r
  exact q
noncomputable def ZA:Option HO->Prop
|some (.lst _)=>True
|some (.dK _)=>True
|some (.dT _)=>True
|some (.set _ _)=>True
|some (.ins _ _ _)=>True
|some (.ext _)=>True
|_=>False
section
variable {P:Program} {w:World} {H:Hp} {h h':Heap} {x e:Addr} {o':HO}
theorem gG.write (ok:gG P w H h) (mu:ZA (H x)) (he:e=x∨H e=some (.own x)) (k:∀ b u,b≠e->h.get? b=some u->h'.get? b=some u) (heo:∃ u,h'.get? e=some u)
  (new:bC P w (upd H x o') h' x o'):gG P w (upd H x o') h':=fun b u q=>by
 have nown:∀ c y,H c=some (.own y)->c≠x:=fun c y r z=>by subst z; rw [r] at mu; exact mu
 have ntup:∀ c xs,H c=some (.tup xs)->c≠x:=fun c xs r z=>by subst z; rw [r] at mu; exact mu
 by_cases hb:b=x
 ·subst hb; rw [aC] at q; cases q; exact new
 ·rw [aI hb] at q
  by_cases hbe:b=e
  ·have q':H b=some (.own x):=by
    rcases he with z|z
    ·exact absurd (hbe.trans z) hb
    ·rw [hbe]; exact z
   rw [q] at q'; cases q'
   obtain ⟨v,hv⟩:=heo
   exact ⟨v,by rw [hbe]; exact hv⟩
  ·refine (ok b u q).stay (fun c v hc r=>k c v ?_ r) (fun c r=>by rw [aI (nown c b r)]; exact r) fun c xs r=>by rw [aI (ntup c xs r)]; exact r
   rcases hc with rfl|hc
   ·exact hbe
   ·rintro rfl
    rcases he with z|z
    ·exact nown c b hc z
    ·rw [hc] at z; cases z; exact hb rfl
end
structure Un (fs ex:List Addr) (H H':Hp) (h h':Heap):Prop where
 keep:∀ b o,h.get? b=some o->H b=none->b∉fs->b∉ex->h'.get? b=some o
 slot:∀ b o,h.get? b=some o->H b=none->b∈fs->b∉ex->∃ sl,h'.get? b=some { o with slots:=sl }
 free:∀ b o,h.get? b=some o->H b=none->b∉ex->H' b=none
 there:∀ b o,h.get? b=some o->b∉ex->∃ o',h'.get? b=some o'
 tups:∀ b xs,H b=some (.tup xs)->H' b=some (.tup xs)
 frzs:∀ b o u,H b=some (.frz o u)->H' b=some (.frz o u)
 tbls:∀ b ps,H b=some (.tbl ps)->∃ more,H' b=some (.tbl (ps++more))
section
variable {fs fs' ex ex':List Addr} {H H1 H2:Hp} {h h1 h2 h':Heap} {a x e:Addr} {o:HO}
theorem Un.any (u:Un fs ex H H1 h h1) {b:Addr}{ob:Obj} (q:h.get? b=some ob) (n:H b=none) (hx:b∉ex):∃ sl,h1.get? b=some { ob with slots:=sl }:=by
 by_cases hb:b∈fs
 ·exact u.slot b ob q n hb hx
 ·exact ⟨ob.slots,u.keep b ob q n hb hx⟩
theorem Un.trans (a:Un fs ex H H1 h h1) (b:Un fs ex H1 H2 h1 h2):Un fs ex H H2 h h2 where
 keep:=fun c ob q n hc hx=>b.keep c ob (a.keep c ob q n hc hx) (a.free c ob q n hx) hc hx
 slot:=fun c ob q n hc hx=>by
  obtain ⟨sl,e1⟩:=a.slot c ob q n hc hx
  obtain ⟨sl',e2⟩:=b.slot c _ e1 (a.free c ob q n hx) hc hx
  exact ⟨sl',e2⟩
 free:=fun c ob q n hx=>by
  obtain ⟨o',e1⟩:=a.there c ob q hx
  exact b.free c o' e1 (a.free c ob q n hx) hx
 there:=fun c ob q hx=>by
  obtain ⟨o',e1⟩:=a.there c ob q hx
  exact b.there c o' e1 hx
 tups:=fun c xs q=>b.tups c xs (a.tups c xs q)
 frzs:=fun c ob xs q=>b.frzs c ob xs (a.frzs c ob xs q)
 tbls:=fun c ps q=>by
  obtain ⟨m1,e1⟩:=a.tbls c ps q
  obtain ⟨m2,e2⟩:=b.tbls c _ e1
  exact ⟨m1++m2,by rw [e2,Array.append_assoc]⟩
theorem Un.kept (k:∀ b u,h.get? b=some u->h'.get? b=some u):Un fs ex H H h h':=
 ⟨fun b ob q _ _ _=>k b ob q,fun b ob q _ _ _=>⟨ob.slots,k b ob q⟩,fun _ _ _ n _=>n,fun b ob q _=>⟨ob,k b ob q⟩,fun _ _ q=>q,fun _ _ _ q=>q,fun _ ps q=>⟨#[],by rw [q]; simp⟩⟩
theorem Un.refl:Un fs ex H H h h:=Un.kept fun _ _ q=>q
theorem Un.laid (k:∀ b u,h.get? b=some u->h'.get? b=some u) (hp:h.objs.size<=a) (hn:H a=none):Un fs ex H (upd H a o) h h' where
 keep:=fun b u q _ _ _=>k b u q
 slot:=fun b u q _ _ _=>⟨u.slots,k b u q⟩
 free:=fun b u q n _=>by rw [aI (ne_of_lt (lt_of_lt_of_le (lt_size q) hp))]; exact n
 there:=fun b u q _=>⟨u,k b u q⟩
 tups:=fun b xs q=>by rw [aI (aB q hn)]; exact q
 frzs:=fun b u xs q=>by rw [aI (aB q hn)]; exact q
 tbls:=fun b ps q=>⟨#[],by rw [aI (aB q hn),q]; simp⟩
theorem Un.write (mu:ZA (H x)) (he:e=x∨H e=some (.own x)) (k:∀ b u,b≠e->h.get? b=some u->h'.get? b=some u) (heo:∃ u,h'.get? e=some u):Un fs ex H (upd H x o) h h':=by
 have hx:∀ b,H b=none->b≠x:=fun b n z=>by subst z; rw [n] at mu; exact mu
 have hb:∀ b,H b=none->b≠e:=fun b n z=>by
  subst z
  rcases he with r|r
  ·exact hx b n r
  ·rw [n] at r; cases r
 have hm:∀ b u,H b=some u->¬ ZA (some u)->b≠x:=fun b u q nm z=>by subst z; rw [q] at mu; exact nm mu
 refine ⟨fun b u q n _ _=>k b u (hb b n) q,fun b u q n _ _=>⟨u.slots,k b u (hb b n) q⟩,fun b u q n _=>by rw [aI (hx b n)]; exact n,fun b u q _=>?_,
  fun b xs q=>by rw [aI (hm b _ q fun z=>z)]; exact q,fun b u xs q=>by rw [aI (hm b _ q fun z=>z)]; exact q,fun b ps q=>⟨#[],by rw [aI (hm b _ q fun z=>z),q]; simp⟩⟩
 by_cases hbe:b=e
 ·subst hbe; exact heo
 ·exact ⟨u,k b u hbe q⟩
end
noncomputable def ZH (h:Heap) (H:Hp):List Addr:=(List.range h.objs.size).filter fun a=>(H a).isSome
noncomputable def pK (h:Heap) (H:Hp):Heap:=PySem.W.hideAll h (ZH h H)
theorem DC (h:Heap) (H:Hp):(pK h H).objs.size=h.objs.size:=PySem.W.hideAll_size _ _
theorem IA {h:Heap}{H:Hp}{b:Addr}{o:Obj} (e:h.get? b=some o) (n:H b=none):(pK h H).get? b=some o:=
 PySem.W.hideAll_get _ e fun hm=>by
  have q:(H b).isSome=true:=(mem_filter.mp hm).2
  rw [n] at q; simp at q
theorem MJ {h:Heap}{H:Hp}{b:Addr}{o:Obj} (e:(pK h H).get? b=some o):h.get? b=some o/\H b=none:=by
 have e':h.get? b=some o:=PySem.W.of_hideAll (ZH h H) e
 refine ⟨e',?_⟩
 cases q:H b with
|none=>rfl
|some x =>
  have hm:b∈ZH h H:=mem_filter.mpr ⟨mem_range.mpr (lt_size e'),by simp [q]⟩
  have z:(pK h H).get? b=none:=PySem.W.hideAll_none (ZH h H) hm
  rw [z] at e; cases e
noncomputable def NQ (g h:Heap) (L:Addr):List (Addr×Obj):=(List.range h.objs.size).filterMap fun a=>if a=L∨(g.get? a).isSome=true then none else (h.get? a).map fun o=>(a,o)
noncomputable def dN (g h:Heap) (L d:Addr):List (Addr×Obj):=(NQ g h L).filter fun p=>decide (p.1≠d)
end
section
structure Mod (K:Frag) (mg:Str->Option Value) (base:Heap):Prop where
 kin:K.In base
 glob:base.Ns mainGlobals mg
 blt:∃ mb,base.Ns builtinsNs mb/\∀ x:Str,x≠"__name__"->mb x=bootBuiltins x
 nolimit:base.NoLimit
set_option genInjectivity false in
set_option genSizeOfSpec false in
structure Cx where
 prog:Program
 w:World
 K:Frag
 mg:Str->Option Value
 base:Heap
 A:Around
 N:List Str
 s₀:Shared
 H₀:Hp
 env:Env
 outer:List Env
 stack:List Env
 ex:List Addr
 fn:Str->Bool
 calm:Bool
 pn:List (Addr×Obj)
 xe:Value->Shared->Prop
noncomputable def jA (l:List Env):List Addr:=l.filterMap (·.frame)
noncomputable abbrev Cx.fs (X:Cx):List Addr:=jA X.outer
noncomputable def YV (sc:Scope) (x:Str):Prop:=sc.names.lookup x=some .local∨sc.names.lookup x=some .cell∨sc.names.lookup x=some .free
noncomputable def US (sc:Scope) (x:Str):Prop:=sc.names.lookup x=some .local∨sc.names.lookup x=some .cell
noncomputable def Bb (env:Env) (h:Heap) (m:Str->Option Value) (x:Str) (u:Value):Prop:=
 (env.kindOf x=some .local/\m x=some u)∨((env.kindOf x=some .cell∨env.kindOf x=some .free)/\∃ c,env.cells.lookup x=some c/\h.IsCell c (some u))
structure Cx.Ok (X:Cx):Prop where
 mod:Mod X.K X.mg X.base
 kind:X.env.scope.kind=.function
 glob:X.env.globals=mainGlobals
 blt:X.env.builtins=builtinsNs
 above:X.s₀.heap.objs.size<=X.env.locals
 inj:∀ x y c,X.env.cells.lookup x=some c->X.env.cells.lookup y=some c->x=y
 has:∀ x,(X.env.kindOf x=some .cell∨X.env.kindOf x=some .free)->∃ c,X.env.cells.lookup x=some c
 cab:∀ x c,X.fn x=true->X.env.cells.lookup x=some c->X.s₀.heap.objs.size<=c
 hd:X.calm=true->X.A.handled=none
 frames:X.A.frames=some X.stack
 stk:X.stack=X.outer∨(X.stack=X.env::X.outer/\X.env.frame=some X.env.locals)
 exf:∀ b∈X.ex,b≠X.env.locals/\∀ x c,X.env.cells.lookup x=some c->c≠b
 bs:∀ b o,X.base.get? b=some o->X.s₀.heap.get? b=some o/\X.H₀ b=none
 bsz:X.base.objs.size<=X.s₀.heap.objs.size
 noex:∀ b o,X.base.get? b=some o->b∉X.ex
 exfs:∀ b∈X.ex,b∉X.fs
 funs:X.s₀.heap.FunFrames X.base X.outer
 frf:∀ b∈X.fs,X.H₀ b=none
structure aL (X:Cx) (pins:List (Addr×Obj)) (σ:List (Option V)) (H:Hp) (s:Shared):Prop where
 ok:X.Ok
 os:s.os=X.s₀.os
 bare:AllBare s.gens
 base:Un X.fs X.ex X.H₀ H X.s₀.heap s.heap
 loc:∃ m,s.heap.Ns X.env.locals m/\∀ (i:Nat) (x:Str) (v:V),X.N[i]?=some x->σ[i]?=some (some v)->YV X.env.scope x->∃ u,aV v u/\Bb X.env s.heap m x u
 cell:∀ x c,X.env.cells.lookup x=some c->∃ v,s.heap.IsCell c v
 free:H X.env.locals=none
 freeC:∀ x c,X.env.cells.lookup x=some c->H c=none
 pin:∀ p∈X.pn++pins,s.heap.get? p.1=some p.2/\H p.1=none/\p.1≠X.env.locals/\p.1∉X.fs/\∀ v,p.2.data≠.cell v
 hok:gG X.prog X.w H s.heap
 len:σ.length=X.N.length
section
variable {X:Cx} {pins:List (Addr×Obj)} {σ:List (Option V)} {H H':Hp} {s:Shared} {h':Heap}
theorem Cx.Ok.nofr (ok:X.Ok) {b:Addr}{o:Obj} (e:X.base.get? b=some o):b∉X.fs:=fun hb=>by
 have:=(ok.funs.mem hb).1
 rw [e] at this; cases this
theorem aL.bs (I:aL X pins σ H s):∀ b o,X.base.get? b=some o->s.heap.get? b=some o/\H b=none:=fun b o e =>
 ⟨I.base.keep b o (I.ok.bs b o e).1 (I.ok.bs b o e).2 (I.ok.nofr e) (I.ok.noex b o e),I.base.free b o (I.ok.bs b o e).1 (I.ok.bs b o e).2 (I.ok.noex b o e)⟩
theorem aL.bk (I:aL X pins σ H s):∀ b o,X.base.get? b=some o->s.heap.get? b=some o:=fun b o e=>(I.bs b o e).1
theorem aL.mod (I:aL X pins σ H s):Mod X.K X.mg X.base:=I.ok.mod
theorem aL.kIn (I:aL X pins σ H s):X.K.In s.heap:=I.ok.mod.kin.keeps I.bk
theorem aL.lt (I:aL X pins σ H s):X.env.locals < s.heap.objs.size:=let ⟨_,hn,_⟩:=I.loc; hn.lt
theorem aL.sz (I:aL X pins σ H s):X.s₀.heap.objs.size<=s.heap.objs.size:=le_trans I.ok.above (le_of_lt I.lt)
theorem aL.nofs (I:aL X pins σ H s) {a:Addr} (h:s.heap.objs.size<=a):a∉X.fs:=fun hb=>by
 obtain ⟨_,o,ho,_⟩:=I.ok.funs.mem hb
 exact absurd (lt_of_lt_of_le (lt_size ho) (le_trans I.sz h)) (lt_irrefl _)
theorem aL.cne (I:aL X pins σ H s):∀ x c,X.env.cells.lookup x=some c->c≠X.env.locals:=fun x c e z=>by
 obtain ⟨v,o,ho,hd⟩:=I.cell x c e
 obtain ⟨m,⟨o',es,ep,ho',hd',_⟩,_⟩:=I.loc
 rw [z,ho'] at ho; cases ho; rw [hd'] at hd; cases hd
theorem aL.funs (I:aL X pins σ H s):s.heap.FunFrames X.base X.outer:=by
 have all:∀ (l:List Env),(∀ b∈jA l,b∈X.fs)->X.s₀.heap.FunFrames X.base l->s.heap.FunFrames X.base l:=by
  intro l
  induction l with
 |nil=>intro _ _; trivial
 |cons env r ih =>
   intro hs hl
   obtain ⟨hk,⟨L,o,hf,hn,ho,hd⟩,hr⟩:=hl
   have hL:L∈X.fs:=hs L (by unfold jA; rw [filterMap_cons,hf]; exact mem_cons_self)
   obtain ⟨sl,e⟩:=I.base.slot L o ho (I.ok.frf L hL) hL fun z=>I.ok.exfs L z hL
   exact ⟨hk,⟨L,_,hf,hn,e,hd⟩,ih (fun b hb=>hs b (by unfold jA; rw [filterMap_cons,hf]; exact mem_cons_of_mem _ hb)) hr⟩
 exact all X.outer (fun _ hb=>hb) I.ok.funs
theorem aL.stack (I:aL X pins σ H s):s.heap.FunFrames X.base X.stack:=by
 rcases I.ok.stk with e|⟨e,hf⟩
 ·rw [e]; exact I.funs
 ·rw [e]
  obtain ⟨m,hn,_⟩:=I.loc
  refine .cons (by rw [I.ok.kind]; decide) hf hn ?_ I.funs
  exact get?_none_of_le (le_trans I.ok.bsz I.ok.above)
theorem aL.stkSub (I:aL X pins σ H s):∀ b∈jA X.stack,b∈X.env.locals::X.fs:=fun b hb=>by
 rcases I.ok.stk with e|⟨e,hf⟩
 ·rw [e] at hb; exact mem_cons_of_mem _ hb
 ·rw [e] at hb
  unfold jA at hb
  rw [filterMap_cons,hf] at hb
  exact hb
theorem aL.stkFree (I:aL X pins σ H s):∀ b∈jA X.stack,H b=none:=fun b hb=>by
 rcases mem_cons.mp (I.stkSub b hb) with e|hb
 ·rw [e]; exact I.free
 ·obtain ⟨_,o,ho,_⟩:=I.ok.funs.mem hb
  exact I.base.free b o ho (I.ok.frf b hb) fun z=>I.ok.exfs b z hb
theorem aL.step {g':Array GenState}{t':Nat}{d':Drawn}{ch:List Addr} (I:aL X pins σ H s)
  (hch:∀ b∈ch,(b∈X.ex∨X.s₀.heap.objs.size<=b)/\b≠X.env.locals/\(∀ x c,X.env.cells.lookup x=some c->c≠b)/\∀ p∈X.pn++pins,p.1≠b)
  (keep:∀ b o,b≠X.env.locals->b∉X.fs->b∉ch->s.heap.get? b=some o->H b=none->h'.get? b=some o)
  (slot:∀ b o,b≠X.env.locals->b∈X.fs->b∉ch->s.heap.get? b=some o->H b=none->∃ sl,h'.get? b=some { o with slots:=sl }) (free:∀ b o,b∉ch->s.heap.get? b=some o->H b=none->H' b=none)
  (there:∀ b o,b∉ch->s.heap.get? b=some o->∃ o',h'.get? b=some o')
  (tups:∀ b xs,H b=some (.tup xs)->H' b=some (.tup xs)) (frzs:∀ b o u,H b=some (.frz o u)->H' b=some (.frz o u)) (tbls:∀ b ps,H b=some (.tbl ps)->∃ more,H' b=some (.tbl (ps++more)))
  (ns:∀ m,s.heap.Ns X.env.locals m->h'.Ns X.env.locals m) (hok:gG X.prog X.w H' h') (hg:AllBare g') :
  aL X pins σ H' { s with heap:=h',gens:=g',drawn:=d',toks:=t' }:=by
 have neL:∀ b o,X.s₀.heap.get? b=some o->b≠X.env.locals:=fun b o e=>ne_of_lt (lt_of_lt_of_le (lt_size e) I.ok.above)
 have neC:∀ b o,X.s₀.heap.get? b=some o->b∉X.ex->b∉ch:=fun b o e hx hb=>by
  rcases (hch b hb).1 with z|z
  ·exact hx z
  ·exact absurd (lt_of_lt_of_le (lt_size e) z) (lt_irrefl _)
 have cellK:∀ x c,X.env.cells.lookup x=some c->∀ v,s.heap.IsCell c v->h'.IsCell c v:=fun x c e v ⟨o,ho,hd⟩=>by
  have nch:c∉ch:=fun z=>(hch c z).2.2.1 x c e rfl
  by_cases hc:c∈X.fs
  ·obtain ⟨sl,q⟩:=slot c o (I.cne x c e) hc nch ho (I.freeC x c e)
   exact ⟨_,q,hd⟩
  ·exact ⟨o,keep c o (I.cne x c e) hc nch ho (I.freeC x c e),hd⟩
 refine ⟨I.ok,I.os,hg,⟨fun b o e n hb hx=>?_,fun b o e n hb hx=>?_,fun b o e n hx=>?_,fun b o e hx=>?_,fun b xs e=>tups b xs (I.base.tups b xs e),fun b o xs e=>frzs b o xs (I.base.frzs b o xs e),fun b ps e=>?_⟩,?_,fun x c e=>?_,?_,fun x c e=>?_,fun p hp=>?_,hok,I.len⟩
 ·exact keep b o (neL b o e) hb (neC b o e hx) (I.base.keep b o e n hb hx) (I.base.free b o e n hx)
 ·obtain ⟨sl,e1⟩:=I.base.slot b o e n hb hx
  obtain ⟨sl',e2⟩:=slot b _ (neL b o e) hb (neC b o e hx) e1 (I.base.free b o e n hx)
  exact ⟨sl',e2⟩
 ·obtain ⟨o',e1⟩:=I.base.there b o e hx
  exact free b o' (neC b o e hx) e1 (I.base.free b o e n hx)
 ·obtain ⟨o',e1⟩:=I.base.there b o e hx
  exact there b o' (neC b o e hx) e1
 ·obtain ⟨m1,e1⟩:=I.base.tbls b ps e
  obtain ⟨m2,e2⟩:=tbls b _ e1
  exact ⟨m1++m2,by rw [e2,Array.append_assoc]⟩
 ·obtain ⟨m,hn,hl⟩:=I.loc
  refine ⟨m,ns m hn,fun i x v e1 e2 e3=>?_⟩
  obtain ⟨u,r,l⟩:=hl i x v e1 e2 e3
  refine ⟨u,r,?_⟩
  rcases l with l|⟨k,c,e,z⟩
  ·exact .inl l
  ·exact .inr ⟨k,c,e,cellK x c e _ z⟩
 ·obtain ⟨v,z⟩:=I.cell x c e
  exact ⟨v,cellK x c e v z⟩
 ·obtain ⟨m,⟨o,_,_,ho,_⟩,_⟩:=I.loc
  exact free _ o (fun z=>(hch _ z).2.1 rfl) ho I.free
 ·obtain ⟨v,o,ho,hd⟩:=I.cell x c e
  exact free c o (fun z=>(hch c z).2.2.1 x c e rfl) ho (I.freeC x c e)
 ·obtain ⟨e,n,ne,nf,d⟩:=I.pin p hp
  have nch:p.1∉ch:=fun z=>(hch p.1 z).2.2.2 p hp rfl
  exact ⟨keep p.1 p.2 ne nf nch e n,free p.1 p.2 nch e n,ne,nf,d⟩
theorem aL.un {t':Nat} (I:aL X pins σ H s) (u:Un X.fs [] H H' s.heap h') (hok:gG X.prog X.w H' h'):aL X pins σ H' { s with heap:=h',toks:=t' }:=by
 obtain ⟨m,⟨o,es,ep,ho,r⟩,_⟩:=id I.loc
 obtain ⟨sl,hL⟩:=u.any ho I.free (by simp)
 exact I.step (g':=s.gens) (d':=s.drawn) (ch:=[]) (fun _ z=>nomatch z) (fun b o _ hb _ e n=>u.keep b o e n hb (by simp)) (fun b o _ hb _ e n=>u.slot b o e n hb (by simp)) (fun b o _ e n=>u.free b o e n (by simp)) (fun b o _ e=>u.there b o e (by simp)) u.tups u.frzs u.tbls (fun m' hm=>by
  obtain ⟨o',es',ep',ho',r'⟩:=hm
  rw [ho] at ho'; cases ho'
  exact ⟨_,es',ep',hL,r'⟩) hok I.bare
theorem aL.call {g':Array GenState}{t':Nat}{d':Drawn}{ch:List Addr} (I:aL X pins σ H s) (u:Un (jA X.stack) ch H H' s.heap h') (hok:gG X.prog X.w H' h') (hg:AllBare g')
  (hch:∀ b∈ch,(b∈X.ex∨X.s₀.heap.objs.size<=b)/\b≠X.env.locals/\(∀ x c,X.env.cells.lookup x=some c->c≠b)/\∀ p∈X.pn++pins,p.1≠b) :
  aL X pins σ H' { s with heap:=h',gens:=g',drawn:=d',toks:=t' }:=by
 obtain ⟨m,⟨o,es,ep,ho,r⟩,_⟩:=id I.loc
 obtain ⟨sl,hL⟩:=u.any ho I.free fun z=>(hch _ z).2.1 rfl
 exact I.step (ch:=ch) hch (fun b o hL hb hc e n=>u.keep b o e n (fun z=>(mem_cons.mp (I.stkSub b z)).elim hL hb) hc) (fun b o _ _ hc e n=>u.any e n hc) (fun b o hc e n=>u.free b o e n hc) (fun b o hc e=>u.there b o e hc) u.tups u.frzs u.tbls (fun m' hm=>by
  obtain ⟨o',es',ep',ho',r'⟩:=hm
  rw [ho] at ho'; cases ho'
  exact ⟨_,es',ep',hL,r'⟩) hok hg
theorem aL.turned {t':Nat}{it:Addr} (I:aL X pins σ H s) (k:∀ b o,b≠it->s.heap.get? b=some o->h'.get? b=some o) (hn:H it=none) (hL:it≠X.env.locals)
  (h1:it∈X.ex∨X.s₀.heap.objs.size<=it) (h2:∀ x c,X.env.cells.lookup x=some c->c≠it) (h3:∀ p∈X.pn++pins,p.1≠it):aL X pins σ H { s with heap:=h',toks:=t' }:=by
 have nit:∀ b u,H b=some u->b≠it:=fun b u e z=>by rw [z,hn] at e; cases e
 refine I.step (g':=s.gens) (d':=s.drawn) (ch:=[it]) (fun b hb=>?_) (fun b o _ _ hc e _=>k b o (fun z=>hc (by simp [z])) e) (fun b o _ _ hc e _=>⟨o.slots,k b o (fun z=>hc (by simp [z])) e⟩) (fun _ _ _ _ n=>n)
  (fun b o hc e=>⟨o,k b o (fun z=>hc (by simp [z])) e⟩) (fun _ _ e=>e) (fun _ _ _ e=>e) (fun b ps e=>⟨#[],by rw [e]; simp⟩) (fun m hm=>?_) (fun b u e=>?_) I.bare
 ·have e:b=it:=by simpa using hb
  subst e
  exact ⟨h1,hL,h2,h3⟩
 ·obtain ⟨o,es,ep,ho,r⟩:=hm
  exact ⟨o,es,ep,k _ o (Ne.symm hL) ho,r⟩
 ·refine (I.hok b u e).stay (fun c v hc q=>k c v ?_ q) (fun _ q=>q) fun _ _ q=>q
  rcases hc with z|z
  ·rw [z]; exact nit b u e
  ·exact nit c _ z
theorem aL.tok (I:aL X pins σ H s) (t:Nat):aL X pins σ H { s with toks:=t }:=I.un (h':=s.heap) (t':=t) Un.refl I.hok
theorem aL.kept {t':Nat} (I:aL X pins σ H s) (k:∀ b u,s.heap.get? b=some u->h'.get? b=some u):aL X pins σ H { s with heap:=h',toks:=t' }:=I.un (Un.kept k) (I.hok.kept k)
theorem aL.laid {a:Addr}{o:HO}{t':Nat} (I:aL X pins σ H s) (k:∀ b u,s.heap.get? b=some u->h'.get? b=some u) (hp:s.heap.objs.size<=a) (new:bC X.prog X.w (upd H a o) h' a o) :
  aL X pins σ (upd H a o) { s with heap:=h',toks:=t' }:=I.un (Un.laid k hp (I.hok.fresh hp)) (I.hok.laid k hp new)
theorem aL.write {x e:Addr}{o:HO}{t':Nat} (I:aL X pins σ H s) (mu:ZA (H x)) (he:e=x∨H e=some (.own x)) (k:∀ b u,b≠e->s.heap.get? b=some u->h'.get? b=some u) (heo:∃ u,h'.get? e=some u)
  (new:bC X.prog X.w (upd H x o) h' x o):aL X pins σ (upd H x o) { s with heap:=h',toks:=t' }:=I.un (Un.write mu he k heo) (I.hok.write mu he k heo new)
theorem aL.pins_of {pins':List (Addr×Obj)} (I:aL X pins σ H s) (h:∀ p∈pins',s.heap.get? p.1=some p.2/\H p.1=none/\p.1≠X.env.locals/\p.1∉X.fs/\∀ v,p.2.data≠.cell v):aL X pins' σ H s:=
 ⟨I.ok,I.os,I.bare,I.base,I.loc,I.cell,I.free,I.freeC,fun p hp=>(mem_append.mp hp).elim (fun z=>I.pin p (mem_append_left _ z)) (h p),I.hok,I.len⟩
theorem nY {N:List Str} (hN:N.Nodup) {i j:Nat}{x:Str} (a:N[i]?=some x) (b:N[j]?=some x):i=j:=by
 obtain ⟨h1,e1⟩:=List.getElem?_eq_some_iff.mp a
 obtain ⟨h2,e2⟩:=List.getElem?_eq_some_iff.mp b
 exact (List.getElem_inj hN).mp (e1.trans e2.symm)
theorem pP {M:Model}{A:Around}{E:Value->Shared->Prop}{i:Nat}{x:Str}{v:V}{u:Value}{Q:Unit->Shared->Prop} (I:aL X pins σ H s) (hN:X.N.Nodup) (hi:X.N[i]?=some x) (hx:US X.env.scope x) (r:aV v u)
  (h:∀ s',aL X pins (σ.set i (some v)) H s'->(∃ a,Heap.SameBut a s.heap s'.heap/\(a=X.env.locals∨X.env.cells.lookup x=some a))->Q () s') (hf:X.fn x=true∨X.env.scope.names.lookup x=some .local:=by first|exact .inl rfl|exact .inr rfl|assumption):wpAny M A (storeName X.env x u) Q E s:=by
 obtain ⟨m,hn,hl⟩:=id I.loc
 have hcls:(X.env.scope.kind==.class || (X.env.scope.kind==.module&&X.env.locals !=X.env.globals))=false:=by rw [I.ok.kind]; rfl
 have hiσ:i < σ.length:=by rw [I.len]; exact (List.getElem?_eq_some_iff.mp hi).1
 have cne:=I.cne
 have tracked:∀ {a:Addr} {h':Heap},(∃ o,s.heap.get? a=some o/\H a=none)->Heap.SameBut a s.heap h'->gG X.prog X.w H h':=fun {a h'} ha hs b ob e=>by
  obtain ⟨_,_,hfree⟩:=ha
  refine (I.hok b ob e).stay (fun c w' hc q=>(hs.2 c ?_).trans q) (fun _ q=>q) fun _ _ q=>q
  rintro rfl
  rcases hc with rfl|hc
  ·rw [hfree] at e; cases e
  ·rw [hfree] at hc; cases hc
 rcases hx with hk|hk
 ·refine wpAny_storeName_local hk hn (fun h' hn' hs=>?_) hcls
  obtain ⟨oL,_,_,hoL,_⟩:=id hn
  refine h _ ⟨I.ok,I.os,I.bare,⟨fun b o e n hb hx=>?_,fun b o e n hb hx=>?_,I.base.free,fun b o e hx=>?_,I.base.tups,I.base.frzs,I.base.tbls⟩,⟨_,hn',fun j y v' e1 e2 e3=>?_⟩,fun y c e=>?_,I.free,I.freeC,fun p hp=>?_,tracked ⟨oL,hoL,I.free⟩ hs,by simpa using I.len⟩ ⟨_,hs,.inl rfl⟩
  ·exact (hs.2 b (ne_of_lt (lt_of_lt_of_le (lt_size e) I.ok.above))).trans (I.base.keep b o e n hb hx)
  ·obtain ⟨sl,e1⟩:=I.base.slot b o e n hb hx
   exact ⟨sl,(hs.2 b (ne_of_lt (lt_of_lt_of_le (lt_size e) I.ok.above))).trans e1⟩
  ·obtain ⟨o',e1⟩:=I.base.there b o e hx
   exact ⟨o',(hs.2 b (ne_of_lt (lt_of_lt_of_le (lt_size e) I.ok.above))).trans e1⟩
  ·by_cases hj:j=i
   ·subst hj
    rw [hi] at e1; cases e1
    rw [List.getElem?_set_self hiσ] at e2
    cases e2
    exact ⟨u,r,.inl ⟨hk,by simp⟩⟩
   ·rw [List.getElem?_set_ne (Ne.symm hj)] at e2
    obtain ⟨u',r',q⟩:=hl j y v' e1 e2 e3
    refine ⟨u',r',?_⟩
    rcases q with ⟨k,e⟩|⟨k,c,e,z⟩
    ·refine .inl ⟨k,?_⟩
     have:y≠x:=fun e=>hj (nY hN e1 (e ▸ hi))
     simp [this,e]
    ·exact .inr ⟨k,c,e,z.sameBut hs (cne y c e)⟩
  ·obtain ⟨w',z⟩:=I.cell y c e
   exact ⟨w',z.sameBut hs (cne y c e)⟩
  ·obtain ⟨e,n,ne,nf,d⟩:=I.pin p hp
   exact ⟨(hs.2 p.1 ne).trans e,n,ne,nf,d⟩
 ·have hfn:X.fn x=true:=by
   rcases hf with z|z
   ·exact z
   ·rw [z] at hk; cases hk
  obtain ⟨c,hc⟩:=I.ok.has x (.inl hk)
  obtain ⟨w',z⟩:=I.cell x c hc
  refine wpAny_storeName_cell I.ok.kind hk hc z (fun h' hc' hs=>?_)
  obtain ⟨oc,hoc,hocd⟩:=id z
  refine h { s with heap:=h' } ⟨I.ok,I.os,I.bare,⟨fun b o e n hb hx=>?_,fun b o e n hb hx=>?_,I.base.free,fun b o e hx=>?_,I.base.tups,I.base.frzs,I.base.tbls⟩,⟨m,hn.sameBut hs (Ne.symm (cne x c hc)),fun j y v' e1 e2 e3=>?_⟩,fun y c' e=>?_,I.free,I.freeC,fun p hp=>?_,tracked ⟨oc,hoc,I.freeC x c hc⟩ hs,by simpa using I.len⟩ ⟨c,hs,.inr hc⟩
  ·exact (hs.2 b (ne_of_lt (lt_of_lt_of_le (lt_size e) (I.ok.cab x c hfn hc)))).trans (I.base.keep b o e n hb hx)
  ·obtain ⟨sl,e1⟩:=I.base.slot b o e n hb hx
   exact ⟨sl,(hs.2 b (ne_of_lt (lt_of_lt_of_le (lt_size e) (I.ok.cab x c hfn hc)))).trans e1⟩
  ·obtain ⟨o',e1⟩:=I.base.there b o e hx
   exact ⟨o',(hs.2 b (ne_of_lt (lt_of_lt_of_le (lt_size e) (I.ok.cab x c hfn hc)))).trans e1⟩
  ·by_cases hj:j=i
   ·subst hj
    rw [hi] at e1; cases e1
    rw [List.getElem?_set_self hiσ] at e2
    cases e2
    exact ⟨u,r,.inr ⟨.inl hk,c,hc,hc'⟩⟩
   ·rw [List.getElem?_set_ne (Ne.symm hj)] at e2
    obtain ⟨u',r',q⟩:=hl j y v' e1 e2 e3
    refine ⟨u',r',?_⟩
    rcases q with q|⟨k,c',e,z'⟩
    ·exact .inl q
    ·refine .inr ⟨k,c',e,z'.sameBut hs ?_⟩
     rintro rfl
     exact hj (nY hN e1 (I.ok.inj _ _ _ e hc ▸ hi))
  ·by_cases hcc:c'=c
   ·subst hcc; exact ⟨_,hc'⟩
   ·obtain ⟨w2,z2⟩:=I.cell y c' e
    exact ⟨w2,z2.sameBut hs hcc⟩
  ·obtain ⟨e,n,ne,nf,d⟩:=I.pin p hp
   refine ⟨(hs.2 p.1 ?_).trans e,n,ne,nf,d⟩
   intro q
   rw [q,hoc] at e
   have q':oc=p.2:=Option.some.inj e
   exact d w' (by rw [← q']; exact hocd)
theorem eZ {M:Model}{A:Around}{E:Value->Shared->Prop}{i:Nat}{x:Str}{v:V}{u:Value}{Q:Unit->Shared->Prop} (I:aL X pins σ H s) (hN:X.N.Nodup) (hi:X.N[i]?=some x) (hx:US X.env.scope x) (r:aV v u)
  (h:∀ s',aL X pins (σ.set i (some v)) H s'->Q () s') (hf:X.fn x=true∨X.env.scope.names.lookup x=some .local:=by first|exact .inl rfl|exact .inr rfl|assumption):wpAny M A (storeName X.env x u) Q E s:=
 pP I hN hi hx r (fun s' I' _=>h s' I') hf
theorem aL.call' {s':Shared}{ch:List Addr} (I:aL X pins σ H s) (ho:s'.os=s.os) (u:Un (jA X.stack) ch H H' s.heap s'.heap) (hok:gG X.prog X.w H' s'.heap) (hg:AllBare s'.gens)
  (hch:∀ b∈ch,(b∈X.ex∨X.s₀.heap.objs.size<=b)/\b≠X.env.locals/\(∀ x c,X.env.cells.lookup x=some c->c≠b)/\∀ p∈X.pn++pins,p.1≠b):aL X pins σ H' s':=by
 obtain ⟨h',g',d',t',o'⟩:=s'
 have e:o'=s.os:=ho
 subst e
 exact I.call (g':=g') (t':=t') (d':=d') u hok hg hch
end
noncomputable abbrev XK:=Value->Option Addr->Hp->Prop
noncomputable abbrev St:=List (Option V)
noncomputable abbrev VK:=V->Hp->Prop
noncomputable abbrev TE:=St->Hp->VK->Prop
noncomputable abbrev TT:=St->Hp->(Bool->Hp->Prop)->Prop
noncomputable abbrev TA:=St->Hp->(List V->Hp->Prop)->Prop
structure cU where
 nx:St->Hp->Prop
 rt:VK
 bk:St->Hp->Prop:=fun _ _=>False
 ct:St->Hp->Prop:=fun _ _=>False
noncomputable abbrev TS:=cU->St->Hp->Prop
noncomputable def EP (X:Cx) (pins:List (Addr×Obj)) (σ:St) (Q:VK) (u:Value) (s':Shared):Prop:=∃ v H',aL X pins σ H' s'/\aV v u/\Q v H'
noncomputable def TP (X:Cx) (pins:List (Addr×Obj)) (σ:St) (Q:Bool->Hp->Prop) (b:Bool) (s':Shared):Prop:=∃ H',aL X pins σ H' s'/\Q b H'
noncomputable def AP (X:Cx) (pins:List (Addr×Obj)) (σ:St) (Q:List V->Hp->Prop) (us:List Value) (s':Shared):Prop:=∃ vs H',aL X pins σ H' s'/\aM vs us/\Q vs H'
noncomputable def SP (X:Cx) (pins:List (Addr×Obj)) (D:cU) (f:Flow) (s':Shared):Prop:=
 match f with
|.next=>∃ σ' H',aL X pins σ' H' s'/\D.nx σ' H'
|.brk=>∃ σ' H',aL X pins σ' H' s'/\D.bk σ' H'
|.cont=>∃ σ' H',aL X pins σ' H' s'/\D.ct σ' H'
|.ret u=>∃ v σ' H',aL X pins σ' H' s'/\aV v u/\D.rt v H'
noncomputable def PE (X:Cx) (e:Expr) (t:TE):Prop:=
 ∀ (pins:List (Addr×Obj)) (s:Shared) (σ:St) (H:Hp) (Q:VK),aL X pins σ H s->t σ H Q->wpAny (model X.prog X.w) X.A (eval e X.env) (EP X pins σ Q) X.xe s
noncomputable def PT (X:Cx) (e:Expr) (t:TT):Prop:=
 ∀ (pins:List (Addr×Obj)) (s:Shared) (σ:St) (H:Hp) (Q:Bool->Hp->Prop),aL X pins σ H s->t σ H Q->wpAny (model X.prog X.w) X.A (isTrue e X.env (eval e X.env)) (TP X pins σ Q) X.xe s
noncomputable def PW (X:Cx) (e:Expr) (t:TT):Prop:=
 ∀ (whole:Sem Value) (pins:List (Addr×Obj)) (s:Shared) (σ:St) (H:Hp) (Q:Bool->Hp->Prop),aL X pins σ H s->t σ H Q->wpAny (model X.prog X.w) X.A (isTrue e X.env whole) (TP X pins σ Q) X.xe s
theorem PW.pt {X:Cx}{e:Expr}{t:TT} (h:PW X e t):PT X e t:=h _
noncomputable def PA (X:Cx) (es:List Expr) (t:TA):Prop:=
 ∀ (pos:Pos) (pins:List (Addr×Obj)) (s:Shared) (σ:St) (H:Hp) (Q:List V->Hp->Prop),aL X pins σ H s->t σ H Q->wpAny (model X.prog X.w) X.A (spliced (backTo pos (starEach es X.env))) (AP X pins σ Q) X.xe s
noncomputable def PS (X:Cx) (st:Stmt) (t:TS):Prop:=
 ∀ (pins:List (Addr×Obj)) (s:Shared) (σ:St) (H:Hp) (D:cU),aL X pins σ H s->t D σ H->wpAny (model X.prog X.w) X.A (exec st X.env) (SP X pins D) X.xe s
noncomputable def tS (X:Cx) (st:List Stmt) (t:TS):Prop:=
 ∀ (pins:List (Addr×Obj)) (s:Shared) (σ:St) (H:Hp) (D:cU),aL X pins σ H s->t D σ H->wpAny (model X.prog X.w) X.A (execs st X.env) (SP X pins D) X.xe s
theorem bZ {α:Type}{t:Sem α}{Q Q':α->Shared->Prop}{M:Model}{A:Around}{E:Value->Shared->Prop}{s:Shared} (h:wpAny M A t Q E s) (hQ:∀ a s,Q a s->Q' a s):wpAny M A t Q' E s:=wpAny_mono h hQ fun _ _ x=>x
end
section
section
variable {X:Cx}
noncomputable def QK (i:Nat):TE:=fun σ H Q=>∃ v,σ[i]?=some (some v)/\Q v H
noncomputable def tC (v:V):TE:=fun _ H Q=>Q v H
theorem SH {i:Nat}{x:Str}{pos:Pos} (hN:X.N[i]?=some x) (hv:YV X.env.scope x) (hd:(x==("__debug__":Str))=false:=by decide) (hcd:(x==("__classdict__":Str))=false:=by decide):PE X (.Name x pos) (QK i):=by
 intro pins s σ H Q I h
 obtain ⟨v,e,h⟩:=h
 obtain ⟨m,hn,hl⟩:=I.loc
 obtain ⟨u,r,l⟩:=hl i x v hN e hv
 have fin:EP X pins σ Q u s:=⟨v,H,I,r,h⟩
 rcases l with ⟨hk,hm⟩|⟨hk,c,hc,hcell⟩
 ·exact wpAny_Name (wpAny_loadName_local I.ok.kind hk hn hm fin) hd
 ·rcases hk with hk|hk
  ·exact wpAny_Name (wpAny_loadName_cell I.ok.kind hk hc hcell fin) hd
  ·exact wpAny_Name (wpAny_loadName_free I.ok.kind hk hc hcell fin hcd) hd
theorem aD {i j pos}:PE X (.Constant (.int i) j pos) (tC (.int i)):=fun _ _ _ H _ I h=>wpAny_Constant_int ⟨.int i,H,I.tok _,⟨_,rfl⟩,h⟩
theorem lJ {b j pos}:PE X (.Constant (.bool b) j pos) (tC (.bl b)):=fun _ _ _ H _ I h=>Constant_bool ⟨.bl b,H,I,rfl,h⟩
theorem fR {j pos}:PE X (.Constant .none j pos) (tC .non):=fun _ _ _ H _ I h=>Constant_none ⟨.non,H,I,rfl,h⟩
theorem bW {x j pos}:PE X (.Constant (.str x) j pos) (tC (.str x)):=fun _ _ _ H _ I h=>Calls.Constant_str ⟨.str x,H,I.tok _,⟨_,rfl⟩,h⟩
noncomputable def Gl (X:Cx) (x:Str):Prop:=X.env.kindOf x=some .globalImplicit
theorem iS {E:Value->Shared->Prop}{pins:List (Addr×Obj)}{s:Shared}{σ:St}{H:Hp}{x:Str}{u:Value}{pos:Pos}{Q:Value->Shared->Prop} (I:aL X pins σ H s) (hg:Gl X x) (hm:X.mg x=some u) (h:Q u s)
  (hd:(x==("__debug__":Str))=false:=by decide):wpAny (model X.prog X.w) X.A (eval (.Name x pos) X.env) Q E s:=
 Calls.Name_function_global I.ok.kind hg (Calls.loadGlobal_global (by rw [I.ok.glob]; exact I.mod.glob.keeps I.bk) hm h) hd
theorem fV {E:Value->Shared->Prop}{pins:List (Addr×Obj)}{s:Shared}{σ:St}{H:Hp}{x:Str}{u:Value}{pos:Pos}{Q:Value->Shared->Prop} (I:aL X pins σ H s) (hg:Gl X x) (hm:X.mg x=none) (hv:bootBuiltins x=some u) (h:Q u s)
  (hn:x≠"__name__":=by decide) (hd:(x==("__debug__":Str))=false:=by decide):wpAny (model X.prog X.w) X.A (eval (.Name x pos) X.env) Q E s:=by
 obtain ⟨mb,h1,h2⟩:=I.mod.blt
 exact Calls.Name_function_global I.ok.kind hg (Calls.loadGlobal_builtin (by rw [I.ok.glob]; exact I.mod.glob.keeps I.bk) hm (by rw [I.ok.blt]; exact h1.keeps I.bk) ((h2 x hn).trans hv) h) hd
theorem dW {x:Str}{v:V}{u:Value}{pos:Pos} (hg:Gl X x) (hm:X.mg x=some u) (r:aV v u) (hd:(x==("__debug__":Str))=false:=by decide):PE X (.Name x pos) (tC v):=
 fun _ _ _ H _ I h=>iS I hg hm ⟨v,H,I,r,h⟩ hd
theorem AI {x:Str}{v:V}{u:Value}{pos:Pos} (hg:Gl X x) (hm:X.mg x=none) (hv:bootBuiltins x=some u) (r:aV v u) (hn:x≠"__name__":=by decide) (hd:(x==("__debug__":Str))=false:=by decide):PE X (.Name x pos) (tC v):=
 fun _ _ _ H _ I h=>fV I hg hm hv ⟨v,H,I,r,h⟩ hn hd
variable {a b:Expr} {ta tb:TE} {pos:Pos}
noncomputable def tB (t:TE):TT:=fun σ H Q=>t σ H fun x H1=>∃ c,x=.bl c/\Q c H1
theorem rY {e:Expr}{t:TE} (h:PE X e t) (he:∀ whole,isTrue e X.env whole=(do let v ← whole; standAt e.pos; holding [v] (truthy v)):=by intro _; rfl):PT X e (tB t):=by
 intro pins s σ H Q I hw
 refine isTrue_plain (bZ (h pins s σ H _ I hw) fun v s1 ⟨x,H1,I1,r1,q1⟩=>?_) (he _)
 obtain ⟨d,rfl,q⟩:=q1
 cases r1
 exact wpAny_truthy_bool ⟨H1,I1,q⟩
variable {tA tB':TT} {dN:List Expr}
noncomputable def VX (t u:TT):TT:=fun σ H Q=>t σ H fun c H1=>if c=true then u σ H1 Q else Q false H1
noncomputable def Bj (t u:TT):TT:=fun σ H Q=>t σ H fun c H1=>if c=true then Q true H1 else u σ H1 Q
noncomputable def VR (t:TT):TT:=fun σ H Q=>t σ H fun c H1=>Q (!c) H1
theorem iP (ha:PT X a tA):PW X (.BoolOp .And [a] pos) tA:=by
 intro wh pins s σ H Q I h
 refine isTrue_and (bZ (ha pins s σ H Q I h) fun c s1 e=>?_)
 cases c with
|true=>exact isTrue_and_nil e
|false=>exact e
theorem xL (ha:PT X a tA):PW X (.BoolOp .Or [a] pos) tA:=by
 intro wh pins s σ H Q I h
 refine isTrue_or (bZ (ha pins s σ H Q I h) fun c s1 e=>?_)
 cases c with
|false=>exact isTrue_or_nil e
|true=>exact e
theorem jG (ha:PT X a tA) (hb:PW X (.BoolOp .And (b::dN) pos) tB'):PW X (.BoolOp .And (a::b::dN) pos) (VX tA tB'):=by
 intro wh pins s σ H Q I h
 refine isTrue_and (bZ (ha pins s σ H _ I h) fun c s1 ⟨H1,I1,q1⟩=>?_)
 cases c with
|true=>exact hb wh pins s1 σ H1 Q I1 q1
|false=>exact ⟨H1,I1,q1⟩
theorem GC (ha:PT X a tA) (hb:PW X (.BoolOp .Or (b::dN) pos) tB'):PW X (.BoolOp .Or (a::b::dN) pos) (Bj tA tB'):=by
 intro wh pins s σ H Q I h
 refine isTrue_or (bZ (ha pins s σ H _ I h) fun c s1 ⟨H1,I1,q1⟩=>?_)
 cases c with
|true=>exact ⟨H1,I1,q1⟩
|false=>exact hb wh pins s1 σ H1 Q I1 q1
theorem xM (ha:PT X a tA):PT X (.UnaryOp .Not a pos) (VR tA):=by
 intro pins s σ H Q I h
 exact isTrue_not (ha pins s σ H (fun c H1=>Q (!c) H1) I h)
noncomputable def Bk (t:TT) (ta tb:TE):TE:=fun σ H Q=>t σ H fun c H1=>if c=true then ta σ H1 Q else tb σ H1 Q
theorem uZ {c:Expr} (hc:PT X c tA) (ha:PE X a ta) (hb:PE X b tb):PE X (.IfExp c a b pos) (Bk tA ta tb):=by
 intro pins s σ H Q I h
 refine wpAny_IfExp (bZ (hc pins s σ H _ I h) fun d s1 ⟨H1,I1,q1⟩=>?_)
 cases d with
|true=>exact ha pins s1 σ H1 Q I1 q1
|false=>exact hb pins s1 σ H1 Q I1 q1
end
end
section
noncomputable def bS (K:Frag) (H:Hp) (a:Addr) (xs:List V):Prop:=
 Rd H a (.lst xs) ∨
  ∃ (o:Obj) (its:Array Value) (n:Nat),K.lookup a=some o/\o.cls=.type "list"/\o.dict=none/\o.data=.seq its n/\its.size<=sizeLine/\aM xs its.toList
noncomputable def tX (K:Frag) (H:Hp) (a:Addr) (xs:List V):Prop:=
 Rd H a (.tup xs) ∨
  ∃ (o:Obj) (its:Array Value) (n:Nat),K.lookup a=some o/\o.cls=.type "tuple"/\o.data=.seq its n/\its.size<=sizeLine/\aM xs its.toList
noncomputable def Aw:Value->Option V
|.none=>some .non
|.bool b=>some (.bl b)
|.int i _=>some (.int i)
|.str x _=>some (.str x)
|.bytes b _=>some (.byt b)
|.float b _=>some (.flt b)
|.ref a=>some (.ref a)
|.type n=>some (.ty n)
|_=>none
theorem aV.abs {x:V}{u:Value} (r:aV x u):Aw u=some x:=by
 cases x with
|non=>cases r; rfl
|bl _=>cases r; rfl
|int _=>obtain ⟨t,rfl⟩:=r; rfl
|str _=>obtain ⟨t,rfl⟩:=r; rfl
|byt _=>obtain ⟨t,rfl⟩:=r; rfl
|flt _=>obtain ⟨t,rfl⟩:=r; rfl
|ref _=>cases r; rfl
|ty _=>cases r; rfl
theorem aV.inj {x y:V}{u:Value} (r:aV x u) (q:aV y u):x=y:=Option.some.inj (r.abs.symm.trans q.abs)
theorem aM.inj:∀ {xs ys:List V}{us:List Value},aM xs us->aM ys us->xs=ys
|_,_,_,.nil,.nil=>rfl
|_,_,_,.cons r t,.cons r' t'=>by rw [r.inj r',aM.inj t t']
section
variable {X:Cx} {pins:List (Addr×Obj)} {σ:St} {H:Hp} {s:Shared} {a:Addr} {xs ys:List V}
theorem bS.of {K:Frag} (h:H a=some (.lst xs)):bS K H a xs:=.inl (.inl h)
theorem tX.of {K:Frag} (h:H a=some (.tup xs)):tX K H a xs:=.inl (.inl h)
theorem aL.list (I:aL X pins σ H s) (h:bS X.K H a xs):∃ its:List Value,aM xs its/\PlainL s.heap a its.toArray/\xs.length<=sizeLine:=by
 rcases h with h|⟨o,its,n,hk,hc,hd,hs,hz,r⟩
 ·obtain ⟨z,its,n,r,e⟩:=h.ok I.hok
  exact ⟨its,r,⟨_,n,e,rfl,rfl,rfl⟩,z⟩
 ·refine ⟨its.toList,r,⟨o,n,I.kIn a o hk,hc,hd,by simpa using hs⟩,?_⟩
  have e:=r.length
  simp only [Array.length_toList] at e
  omega
theorem aL.tuple (I:aL X pins σ H s) (h:tX X.K H a xs):∃ its:List Value,aM xs its/\IsTup s.heap a its.toArray/\xs.length<=sizeLine:=by
 rcases h with h|⟨o,its,n,hk,hc,hs,hz,r⟩
 ·obtain ⟨z,its,r,p⟩:=h.ok I.hok
  exact ⟨its,r,p,z.1⟩
 ·refine ⟨its.toList,r,⟨o,I.kIn a o hk,hc,n,by simpa using hs⟩,?_⟩
  have e:=r.length
  simp only [Array.length_toList] at e
  omega
theorem aL.list_inj (I:aL X pins σ H s) (h:bS X.K H a xs) (h':bS X.K H a ys):xs=ys:=by
 obtain ⟨its,r,⟨o,n,e,_,_,d⟩,_⟩:=I.list h
 obtain ⟨its',r',⟨o',n',e',_,_,d'⟩,_⟩:=I.list h'
 rw [e] at e'; cases e'
 rw [d] at d'
 injection d' with d1 _
 have:its=its':=by simpa using congrArg Array.toList d1
 subst this
 exact r.inj r'
end
noncomputable abbrev Cx.wish (X:Cx) (E:Value->Shared->Prop):Cx:={ X with xe:=E }
noncomputable abbrev Cx.nox (X:Cx):Cx:=X.wish fun _ _=>False
theorem Cx.Ok.wish {X:Cx} (ok:X.Ok) (E:Value->Shared->Prop):(X.wish E).Ok:=
 ⟨ok.mod,ok.kind,ok.glob,ok.blt,ok.above,ok.inj,ok.has,ok.cab,ok.hd,ok.frames,ok.stk,ok.exf,ok.bs,ok.bsz,ok.noex,ok.exfs,ok.funs,ok.frf⟩
theorem Cx.Ok.unwish {X:Cx}{E:Value->Shared->Prop} (ok:(X.wish E).Ok):X.Ok:=
 ⟨ok.mod,ok.kind,ok.glob,ok.blt,ok.above,ok.inj,ok.has,ok.cab,ok.hd,ok.frames,ok.stk,ok.exf,ok.bs,ok.bsz,ok.noex,ok.exfs,ok.funs,ok.frf⟩
section
variable {X:Cx} {pins:List (Addr×Obj)} {σ:St} {H:Hp} {s:Shared} {E:Value -> Shared -> Prop}
theorem aL.wish (I:aL X pins σ H s) (E:Value->Shared->Prop):aL (X.wish E) pins σ H s:=⟨I.ok.wish E,I.os,I.bare,I.base,I.loc,I.cell,I.free,I.freeC,I.pin,I.hok,I.len⟩
theorem aL.unwish (I:aL (X.wish E) pins σ H s):aL X pins σ H s:=⟨I.ok.unwish,I.os,I.bare,I.base,I.loc,I.cell,I.free,I.freeC,I.pin,I.hok,I.len⟩
theorem SP.unwish {D:cU}{f:Flow}{s':Shared} (h:SP (X.wish E) pins D f s'):SP X pins D f s':=by
 cases f with
|next=>obtain ⟨σ',H',I,q⟩:=h; exact ⟨σ',H',I.unwish,q⟩
|brk=>obtain ⟨σ',H',I,q⟩:=h; exact ⟨σ',H',I.unwish,q⟩
|cont=>obtain ⟨σ',H',I,q⟩:=h; exact ⟨σ',H',I.unwish,q⟩
|ret u=>obtain ⟨v,σ',H',I,r,q⟩:=h; exact ⟨v,σ',H',I.unwish,r,q⟩
theorem tS.nox {st:List Stmt}{t:TS} (h:tS X.nox st t):tS X st t:=fun pins s σ H D I hw =>
 wpAny_mono (h pins s σ H D (I.wish _) hw) (fun _ _ q=>q.unwish) fun _ _ z=>False.elim z
end
section
variable {X:Cx} {st:Stmt} {dN:List Stmt} {t u:TS} {e:Expr} {te:TE} {pos:Pos}
noncomputable def OD:TS:=fun D σ H=>D.nx σ H
noncomputable def VN (t u:TS):TS:=fun D σ H=>t { D with nx:=u D } σ H
theorem bH:tS X [] OD:=fun _ _ σ H _ I h=>wpAny_execs_nil ⟨σ,H,I,h⟩
theorem aA (h1:PS X st t) (h2:tS X dN u):tS X (st::dN) (VN t u):=by
 intro pins s σ H D I h
 refine wpAny_execs_cons (bZ (h1 pins s σ H { D with nx:=u D } I h) fun f s1 q=>?_)
 cases f with
|next =>
  obtain ⟨σ',H',I',q⟩:=q
  exact h2 pins s1 σ' H' D I' q
|ret v=>exact q
|brk=>exact q
|cont=>exact q
theorem aF (h1:PS X st t):tS X [st] t:=by
 intro pins s σ H D I h
 refine wpAny_execs_cons (bZ (h1 pins s σ H D I h) fun f s1 q=>?_)
 cases f with
|next=>exact wpAny_execs_nil q
|ret v=>exact q
|brk=>exact q
|cont=>exact q
theorem aL.quiet {pins:List (Addr×Obj)}{σ:St}{H:Hp}{s:Shared} (I:aL X pins σ H s):interactive X.env=false:=by simp [interactive,I.ok.kind]
noncomputable def OG (te:TE):TS:=fun D σ H=>te σ H fun _ H1=>D.nx σ H1
theorem dU (he:PE X e te) (hs:swapsWith e none pos.line X.env=pure false:=by rfl):PS X (.Expr e pos) (OG te):=by
 intro pins s σ H D I h
 exact wpAny_Expr_any (bZ (he pins s σ H _ I h) fun v s1 ⟨x,H1,I1,r1,q1⟩=>⟨σ,H1,I1,q1⟩) I.quiet hs
noncomputable def VP (te:TE):TS:=fun D σ H=>te σ H D.rt
theorem aQ (he:PE X e te):PS X (.Return (some e) pos) (VP te):=by
 intro pins s σ H D I h
 exact wpAny_Return_some (bZ (he pins s σ H _ I h) fun v s1 ⟨x,H1,I1,r1,q1⟩=>⟨x,σ,H1,I1,r1,q1⟩)
noncomputable def VT (c:TT) (t u:TS):TS:=fun D σ H=>c σ H fun b H1=>if b=true then t D σ H1 else u D σ H1
theorem cY {c:Expr}{a b:List Stmt}{tc:TT} (hc:PT X c tc) (ha:tS X a t) (hb:tS X b u):PS X (.If c a b pos) (VT tc t u):=by
 intro pins s σ H D I h
 refine wpAny_If (bZ (hc pins s σ H _ I h) fun d s1 ⟨H1,I1,q1⟩=>?_)
 cases d with
|true=>exact ha pins s1 σ H1 D I1 q1
|false=>exact hb pins s1 σ H1 D I1 q1
end
noncomputable abbrev TG:=V->St->Hp->(St->Hp->Prop)->Prop
noncomputable abbrev NT:=List V->St->Hp->(St->Hp->Prop)->Prop
noncomputable def PG (X:Cx) (target:Expr) (t:TG):Prop:=
 ∀ (pins:List (Addr×Obj)) (s:Shared) (σ:St) (H:Hp) (v:V) (u:Value) (Q:St->Hp->Prop),aL X pins σ H s->aV v u->t v σ H Q ->
  wpAny (model X.prog X.w) X.A (assign target X.env u) (fun _ s'=>∃ σ' H',aL X pins σ' H' s'/\Q σ' H') X.xe s
noncomputable def ZQ (X:Cx) (ts:List Expr) (t:NT):Prop:=
 ∀ (pins:List (Addr×Obj)) (s:Shared) (σ:St) (H:Hp) (vs:List V) (us:List Value) (Q:St->Hp->Prop),aL X pins σ H s->aM vs us->t vs σ H Q ->
  wpAny (model X.prog X.w) X.A (assignInOrder ((assignEach ts X.env).map (·.2)) us) (fun _ s'=>∃ σ' H',aL X pins σ' H' s'/\Q σ' H') X.xe s
noncomputable abbrev YX:=V->V->Hp->VK->Prop
noncomputable def Bt (X:Cx) (op:Operator) (t:YX):Prop:=
 ∀ (pins:List (Addr×Obj)) (s:Shared) (σ:St) (H:Hp) (x y:V) (v u:Value) (Q:VK),aL X pins σ H s->aV x v->aV y u->t x y H Q ->
  wpAny (model X.prog X.w) X.A (inplaceOp op v u) (EP X pins σ Q) X.xe s
section
variable {X:Cx} {pos:Pos}
noncomputable def kH (i:Nat):TG:=fun v σ H Q=>Q (σ.set i (some v)) H
theorem aS {i:Nat}{x:Str} (hN:X.N.Nodup) (hi:X.N[i]?=some x) (hx:US X.env.scope x) (hf:X.fn x=true∨X.env.scope.names.lookup x=some .local:=by first|exact .inl rfl|exact .inr rfl|assumption):PG X (.Name x pos) (kH i):=by
 intro pins s σ H v u Q I r h
 exact wpAny_assign_Name (eZ I hN hi hx r (fun s' I'=>⟨_,H,I',h⟩) hf)
noncomputable def YJ:NT:=fun vs σ H Q=>vs=[]/\Q σ H
noncomputable def PY (t:TG) (u:NT):NT:=fun vs σ H Q=>∃ v r,vs=v::r/\t v σ H fun σ' H'=>u r σ' H' Q
theorem AF:ZQ X [] YJ:=by
 intro pins s σ H vs us Q I r h
 obtain ⟨e,h⟩:=h
 subst e
 cases r
 exact assignInOrder_nil ⟨σ,H,I,h⟩
theorem jW {e:Expr}{es:List Expr}{t:TG}{u:NT} (h1:PG X e t) (h2:ZQ X es u)
  (hs:(assignEach (e::es) X.env).map (·.2)=assign e X.env::(assignEach es X.env).map (·.2):=by rfl):ZQ X (e::es) (PY t u):=by
 intro pins s σ H vs us Q I r h
 obtain ⟨v,vr,e1,h⟩:=h
 subst e1
 cases r with
|cons r rr =>
  rw [hs]
  refine assignInOrder_cons (bZ (h1 pins s σ H _ _ _ I r h) fun _ s1 ⟨σ1,H1,I1,q1⟩=>?_)
  exact h2 pins s1 σ1 H1 _ _ Q I1 rr q1
noncomputable def YI (K:Frag) (n:Nat) (t:NT):TG:=fun v σ H Q=>∃ a xs,v=.ref a/\tX K H a xs/\xs.length=n/\t xs σ H Q
theorem GI {es:List Expr}{k:Nat}{t:NT}{n:Nat} (hc:X.calm=true) (h:ZQ X es t)
  (hn:(assignEach es X.env).length=n:=by rfl) (hst:(assignEach es X.env).findIdx? (·.1)=none:=by rfl):PG X (.Tuple es k pos) (YI X.K n t):=by
 intro pins s σ H v u Q I r hw
 obtain ⟨a,xs,e1,hq,hl,hw⟩:=hw
 subst e1
 cases r
 obtain ⟨its,rv,ht,hz⟩:=I.tuple hq
 refine assign_Tuple_tuple (I.ok.hd hc) ht (by simp [hn,← hl,rv.length]) hst fun h' hx=>?_
 have I1:aL X pins σ H { s with heap:=h' }:=I.kept (t':=s.toks) fun b o e=>hx b o (ne_of_lt (lt_size e)) e
 exact h pins _ σ H xs _ Q I1 (by simpa using rv) hw
noncomputable def QN (te:TE) (g:TG):TS:=fun D σ H=>te σ H fun x H1=>g x σ H1 D.nx
theorem aG {i:Nat}{x:Str}{e:Expr}{te:TE}{pos':Pos} (hN:X.N.Nodup) (hi:X.N[i]?=some x) (hx:US X.env.scope x) (he:PE X e te) (hs:swapsWith e (some (.Name x pos')) pos.line X.env=pure false:=by rfl) (hf:X.fn x=true∨X.env.scope.names.lookup x=some .local:=by first|exact .inl rfl|exact .inr rfl|assumption) :
  PS X (.Assign [.Name x pos'] e pos) (QN te (kH i)):=by
 intro pins s σ H D I h
 refine wpAny_Assign_Name (bZ (he pins s σ H _ I h) fun v s1 ⟨y,H1,I1,r1,q1⟩=>?_) hs
 exact eZ I1 hN hi hx r1 (fun s2 I2=>⟨_,H1,I2,q1⟩) hf
noncomputable def VQ (i j:Nat) (ta:TA):TS:=fun D σ H=>ta σ H fun vs H1=>∃ v w,vs=[v,w]/\D.nx ((σ.set i (some v)).set j (some w)) H1
theorem SD {i j:Nat}{x y:Str}{a b:Expr}{ta:TA}{px py pt:Pos}{kt k2 pt2} (hc:X.calm=true) (hN:X.N.Nodup) (hi:X.N[i]?=some x) (hj:X.N[j]?=some y) (hij:i≠j)
  (hx:X.env.scope.names.lookup x=some .local) (hy:X.env.scope.names.lookup y=some .local) (ha:PA X [a,b] ta)
  (hw:swappedStores [.Tuple [.Name x px,.Name y py] kt pt] (.Tuple [a,b] k2 pt2) X.env=pure (some [x,y]))
  (hs:swapsWithSole [.Tuple [.Name x px,.Name y py] kt pt] (.Tuple [a,b] k2 pt2) pos.line X.env=pure false:=by rfl) :
  PS X (.Assign [.Tuple [.Name x px,.Name y py] kt pt] (.Tuple [a,b] k2 pt2) pos) (VQ i j ta):=by
 intro pins s σ H D I h
 rw [exec_Assign_arm]
 refine wpAny_bind (wpAny_standAt ?_)
 rw [hs]
 refine wpAny_bind (wpAny_pure ?_)
 rw [if_neg (by decide)]
 refine wpAny_bind (Tuple_ (bZ (ha _ pins s σ H _ I h) fun us s1 ⟨vs,H1,I1,r1,q1⟩=>?_))
 obtain ⟨v,w,e1,q1⟩:=q1
 subst e1
 obtain ⟨u1,u2,rfl,rv,rw'⟩:∃ u1 u2,us=[u1,u2]/\aV v u1/\aV w u2:=by
  cases r1 with
 |cons p q =>
   cases q with
  |cons p' q' =>
    cases q'
    exact ⟨_,_,rfl,p,p'⟩
 refine wpAny_newObj_type ?_ (by show 2<=sizeLine; decide)
 have I2:aL X pins σ H1 { s1 with heap:=s1.heap.push { cls:=.type "tuple",data:=.seq [u1,u2].toArray } }:=I1.kept (t':=s1.toks) fun b o e=>get?_push_of_some _ e
 rw [hw]
 refine wpAny_bind (wpAny_pure ?_)
 show wpAny (model X.prog X.w) X.A (do rule "assign.swapped-stores"; let items ← unpackItems (.ref s1.heap.objs.size) 2 none; assignInOrder [fun v=>bindName X.env y v,fun v=>bindName X.env x v] items.reverse; pure Flow.next) _ _ _
 refine wpAny_bind (wpAny_rule (wpAny_bind (unpackItems_tuple (items:=#[u1,u2]) (I.ok.hd hc) (IsTup.new s1.heap _) fun h' hx'=>?_)))
 have I3:=I2.kept (h':=h') (t':=s1.toks) fun b o e=>hx' b o (ne_of_lt (lt_size e)) e
 show wpAny _ _ (assignInOrder [fun v=>bindName X.env y v,fun v=>bindName X.env x v] [u2,u1] >>= fun _=>pure Flow.next) _ _ _
 refine wpAny_bind (assignInOrder_cons (wpAny_bindName (eZ I3 hN hj (.inl hy) rw' (fun s2 I4=>?_) (.inr hy))))
 refine assignInOrder_cons (wpAny_bindName (eZ I4 hN hi (.inl hx) rv (fun s3 I5=>assignInOrder_nil (wpAny_pure ?_)) (.inr hx)))
 rw [List.set_comm _ _ (Ne.symm hij)] at I5
 exact ⟨_,H1,I5,q1⟩
noncomputable def VW (i:Nat) (te:TE) (ti:YX):TS:=fun D σ H=>∃ x,σ[i]?=some (some x)/\te σ H fun y H1=>ti x y H1 fun z H2=>D.nx (σ.set i (some z)) H2
theorem SE {i:Nat}{x:Str}{e:Expr}{te:TE}{op:Operator}{ti:YX}{pos':Pos} (hN:X.N.Nodup) (hi:X.N[i]?=some x) (hx:US X.env.scope x) (he:PE X e te) (ho:Bt X op ti) (hf:X.fn x=true∨X.env.scope.names.lookup x=some .local:=by first|exact .inl rfl|exact .inr rfl|assumption) :
  PS X (.AugAssign (.Name x pos') op e pos) (VW i te ti):=by
 intro pins s σ H D I h
 obtain ⟨v,e1,h⟩:=h
 obtain ⟨m,hn,hl⟩:=I.loc
 have vis:YV X.env.scope x:=by rcases hx with k|k; exact .inl k; exact .inr (.inl k)
 obtain ⟨u,r,l⟩:=hl i x v hi e1 vis
 refine wpAny_AugAssign_Name ?_
 have go:wpAny (model X.prog X.w) X.A (eval e X.env) (fun w s₂=>wpAny (model X.prog X.w) X.A (inplaceOp op u w) (fun r s₃=>wpAny (model X.prog X.w) X.A (storeName X.env x r) (fun _=>SP X pins D .next) X.xe s₃) X.xe s₂) X.xe s:=by
  refine bZ (he pins s σ H _ I h) fun w s1 ⟨y,H1,I1,r1,q1⟩=>?_
  refine bZ (ho pins s1 σ H1 v y u w _ I1 r r1 q1) fun z s2 ⟨zv,H2,I2,r2,q2⟩=>?_
  exact eZ I2 hN hi hx r2 (fun s3 I3=>⟨_,H2,I3,q2⟩) hf
 rcases l with ⟨hk,hm⟩|⟨hk,c,hc,hcell⟩
 ·exact wpAny_loadName_local I.ok.kind hk hn hm go
 ·rcases hk with hk|hk
  ·exact wpAny_loadName_cell I.ok.kind hk hc hcell go
  ·rcases hx with k|k
   ·have:X.env.scope.names.lookup x=some .free:=hk
    rw [k] at this; cases this
   ·have:X.env.scope.names.lookup x=some .free:=hk
    rw [k] at this; cases this
noncomputable def Bp (f:Int->Int->Int):YX:=fun x y H Q=>∃ i j,x=.int i/\y=.int j/\Q (.int (f i j)) H
theorem TM:Bt X .Sub (Bp fun i j=>i - j):=by
 intro pins s σ H x y v u Q I r1 r2 h
 obtain ⟨i,j,e1,e2,q⟩:=h
 subst e1; subst e2
 obtain ⟨t,rfl⟩:=r1
 obtain ⟨t',rfl⟩:=r2
 exact isub_int ⟨.int _,H,I.tok _,⟨_,rfl⟩,q⟩
end
section
variable {X:Cx} {pos:Pos}
noncomputable def qZ (c:TT) (tb:TS):TS:=fun D σ H=>∃ W:Nat->St->Hp->Prop,(∃ m,W m σ H)/\∀ m σ H,W m σ H ->
 c σ H fun b H1=>if b=true then ∃ N:St->Hp->Prop,(∀ σ' H',N σ' H'->∃ m',m' < m/\W m' σ' H')/\tb { D with nx:=N,ct:=N,bk:=D.nx } σ H1 else D.nx σ H1
theorem gD {c:Expr}{body:List Stmt}{tc:TT}{tb:TS} (hp:PassesOwn (model X.prog X.w) X.A X.env X.xe) (hc:PT X c tc) (hb:tS X body tb):PS X (.While c body [] pos) (qZ tc tb):=by
 intro pins s σ H D I h
 obtain ⟨W,⟨m0,w0⟩,turn⟩:=h
 refine wpAny_While (codeAny_whileLoop (fun n s'=>∃ σ' H',aL X pins σ' H' s'/\W n σ' H') ?_ m0 ⟨σ,H,I,w0⟩)
 rintro n s1 ⟨σ1,H1,I1,w1⟩
 refine wpAny_passesOwn hp (bZ (hc pins s1 σ1 H1 _ I1 (turn n σ1 H1 w1)) fun b s2 ⟨H2,I2,q2⟩=>?_)
 cases b with
|true =>
  obtain ⟨N,hN,q2⟩:=q2
  rw [if_pos rfl]
  refine wpAny_passesOwn hp (bZ (hb pins s2 σ1 H2 _ I2 q2) fun f s3 q3=>?_)
  cases f with
 |next =>
   obtain ⟨σ3,H3,I3,n3⟩:=q3
   obtain ⟨m',hm,w3⟩:=hN σ3 H3 n3
   exact ⟨m',hm,σ3,H3,I3,w3⟩
 |cont =>
   obtain ⟨σ3,H3,I3,n3⟩:=q3
   obtain ⟨m',hm,w3⟩:=hN σ3 H3 n3
   exact ⟨m',hm,σ3,H3,I3,w3⟩
 |brk=>exact q3
 |ret v=>exact q3
|false =>
  rw [if_neg Bool.false_ne_true]
  exact wpAny_execs_nil ⟨σ1,H2,I2,q2⟩
end
structure It where
 go:Nat->Hp->Prop
 yld:Nat->Hp->V->Hp->Prop
 stop:Nat->Hp->Prop
noncomputable def pA (X:Cx) (pins:List (Addr×Obj)) (H:Hp) (b:Addr):Prop:=
 H b=none/\b≠X.env.locals/\b∉X.fs/\(b∈X.ex∨X.s₀.heap.objs.size<=b)/\(∀ x c,X.env.cells.lookup x=some c->c≠b)/\∀ p∈X.pn++pins,p.1≠b
theorem aL.fpOk {X:Cx}{pins:List (Addr×Obj)}{σ:St}{H H':Hp}{s:Shared}{b:Addr} (I:aL X pins σ H s) (hb:s.heap.objs.size<=b) (hn:H' b=none):pA X pins H' b:=by
 refine ⟨hn,ne_of_gt (lt_of_lt_of_le I.lt hb),I.nofs hb,.inr (le_trans I.sz hb),fun x c e z=>?_,fun p hp z=>?_⟩
 ·obtain ⟨v,q⟩:=I.cell x c e
  exact absurd (lt_of_lt_of_le q.lt (by rw [z]; exact hb)) (lt_irrefl _)
 ·exact absurd (lt_of_lt_of_le (lt_size (I.pin p hp).1) (by rw [z]; exact hb)) (lt_irrefl _)
structure DS (P:Program) (w:World) (K:Frag) (tg:Expr) (J:It) (fp:List Addr) (it:Addr) (tn:Nat->Heap->Prop):Prop where
 mem:it∈fp
 obj:∀ i h,tn i h->∀ b∈fp,∃ o,h.get? b=some o/\∀ v,o.data≠.cell v
 keep:∀ i h h',tn i h->(∀ b∈fp,∀ o,h.get? b=some o->h'.get? b=some o)->tn i h'
 item:∀ (X:Cx),X.prog=P->X.w=w->X.K=K->X.calm=true->∀ (i:Nat) (pins:List (Addr×Obj)) (s:Shared) (σ:St) (H:Hp) (E:Value->Shared->Prop),aL X pins σ H s->(∀ b∈fp,pA X pins H b)->tn i s.heap->J.go i H ->
  wpAny (model P w) X.A (pyNext (.ref it)) (fun r s1=>∃ u,r=some u /\
   wpAny (model P w) X.A (letOwnedTupleGo tg (.ref it) u) (fun _ s2=>∃ x H',aL X pins σ H' s2/\aV x u/\J.yld i H x H'/\tn (i+1) s2.heap/\∀ b∈fp,H' b=none) E s1) E s
 done:∀ (X:Cx),X.prog=P->X.w=w->X.K=K->X.calm=true->∀ (i:Nat) (pins:List (Addr×Obj)) (s:Shared) (σ:St) (H:Hp) (E:Value->Shared->Prop),aL X pins σ H s->(∀ b∈fp,pA X pins H b)->tn i s.heap->J.stop i H ->
  wpAny (model P w) X.A (pyNext (.ref it)) (fun r s1=>r=none/\aL X pins σ H s1) E s
 self:∀ (A:Around) (i:Nat) (s:Shared) (Q:Value->Shared->Prop) (E:Value->Shared->Prop),tn i s.heap->Q (.ref it) s->wpAny (model P w) A (pyIter (.ref it)) Q E s
noncomputable abbrev TI:=St->Hp->(It->Hp->Prop)->Prop
noncomputable def Az (X:Cx) (pins:List (Addr×Obj)) (σ:St) (tg:Expr) (R:It->Hp->Prop) (itv:Value) (s2:Shared):Prop:=
 ∃ (it:Addr) (fp:List Addr) (tn:Nat->Heap->Prop) (J:It) (H':Hp),itv=.ref it/\aL X pins σ H' s2/\DS X.prog X.w X.K tg J fp it tn/\tn 0 s2.heap/\(∀ b∈fp,pA X pins H' b)/\R J H'
noncomputable def PI (X:Cx) (tg iter:Expr) (wi:TI):Prop:=
 ∀ (pins:List (Addr×Obj)) (s:Shared) (σ:St) (H:Hp) (R:It->Hp->Prop),aL X pins σ H s->wi σ H R ->
  wpAny (model X.prog X.w) X.A (eval iter X.env) (fun v s1=>wpAny (model X.prog X.w) X.A (pyIter v) (Az X pins σ tg R) X.xe s1) X.xe s
theorem AV {M:Model}{A:Around}{E:Value->Shared->Prop}{s:Shared}{tg:Expr}{it:Addr}{u:Value}{o:Obj}{n:String}{vs:Array Value}{Q:Unit->Shared->Prop} (ho:s.heap.get? it=some o) (hc:o.cls=.type n) (hd:o.data=.fields vs)
    (hn:["enumerate","zip","dict_itemiterator","dict_reverseitemiterator","odict_iterator","itertools.zip_longest","itertools.pairwise"].contains n=false) (hQ:Q () s):wpAny M A (letOwnedTupleGo tg (.ref it) u) Q E s:=by
  unfold letOwnedTupleGo
  cases tg <;> first
   |exact wpAny_pure hQ
    | (cases u <;> first
       |exact wpAny_pure hQ
        | (refine wpAny_bind (wpAny_load ho ?_)
           rw [hc,hd]
           show wpAny M A (if (["enumerate","zip","dict_itemiterator","dict_reverseitemiterator","odict_iterator","itertools.zip_longest","itertools.pairwise"].contains n&&vs[0]?==some (rawInt _))=true then _ else _) Q E s
           rw [if_neg (by intro h; rw [hn,Bool.false_and] at h; cases h)]
           exact wpAny_pure hQ))
noncomputable def JT (K:Frag) (a:Addr):It:=
 ⟨fun i H=>∃ xs x,bS K H a xs/\xs[i]?=some x,fun i H x H'=>H'=H/\∀ xs,bS K H a xs->xs[i]?=some x,fun i H=>∃ xs,bS K H a xs/\xs.length<=i⟩
noncomputable def JS (lo:Int) (n:Nat):It:=⟨fun i _=>i < n,fun i H x H'=>H'=H/\x=.int (lo+i),fun i _=>n<=i⟩
theorem BQ {P:Program}{w:World}{K:Frag}{tg:Expr} (a it:Addr):DS P w K tg (JT K a) [it] it (fun i h=>h.IsListIter it a i) where
 mem:=by simp
 obj:=fun i h st b hb=>by
  have e:b=it:=by simpa using hb
  subst e
  obtain ⟨o,e,c,d⟩:=st
  exact ⟨o,e,fun v z=>by rw [d] at z; cases z⟩
 keep:=fun i h h' st k=>st.at fun o e=>k it (by simp) o e
 item:=by
  intro X hP hw hK hc i pins s σ H E I hf st hg
  subst hP hw hK
  obtain ⟨xs,x,hq,hx⟩:=hg
  obtain ⟨its,rv,p,hz⟩:=I.list hq
  obtain ⟨u,hu,ru⟩:=rv.get hx
  obtain ⟨f0,f1,f2,f3,f4,f5⟩:=hf it (by simp)
  refine wpAny_pyNext_list_item st p.isList (x:=u) (by simpa using hu) fun h' st' sb=>?_
  have I1:aL X pins σ H { s with heap:=h' }:=I.turned (t':=s.toks) (fun b o hb e=>(sb.2 b hb).trans e) f0 f1 f3 f4 f5
  obtain ⟨o,e,c,d⟩:=id st'
  exact ⟨u,rfl,AV (s:={ s with heap:=h' }) e c d (by decide) ⟨x,H,I1,ru,⟨rfl,fun ys hy=>by rw [I.list_inj hy hq]; exact hx⟩,st',fun b hb=>(hf b hb).1⟩⟩
 done:=by
  intro X hP hw hK hc i pins s σ H E I hf st hg
  subst hP hw hK
  obtain ⟨xs,hq,hx⟩:=hg
  obtain ⟨its,rv,p,hz⟩:=I.list hq
  obtain ⟨f0,f1,f2,f3,f4,f5⟩:=hf it (by simp)
  have hl:=rv.length
  exact wpAny_pyNext_list_end (I.ok.hd hc) st p.isList (by simp; omega) fun h' eb=>⟨rfl,I.turned (t':=s.toks) (fun b o hb e=>eb b o hb e) f0 f1 f3 f4 f5⟩
 self:=fun _ _ _ _ _ st h=>wpAny_pyIter_listiter st h
theorem wR {P:Program}{w:World}{K:Frag}{tg:Expr} (it:Addr) (lo:Int) (n:Nat):DS P w K tg (JS lo n) [it] it (fun i h=>IsRangeIter h it (lo+(i:Nat) * 1) ((n:Int) - (i:Nat)) 1) where
 mem:=by simp
 obj:=fun i h st b hb=>by
  have e:b=it:=by simpa using hb
  subst e
  exact ⟨_,st,fun v z=>by
   have z':Data.fields _=Data.cell v:=z
   cases z'⟩
 keep:=fun i h h' st k=>k it (by simp) _ st
 item:=by
  intro X hP hw hK hc i pins s σ H E I hf st hg
  subst hP hw hK
  obtain ⟨f0,f1,f2,f3,f4,f5⟩:=hf it (by simp)
  have W:=Walks.range (prog:=X.prog) (w:=X.w) (I.ok.hd hc) it lo 1 n
  refine W.item i s _ _ hg st fun v h' tk hv st' kk=>?_
  obtain ⟨t,rfl⟩:=hv
  have I1:aL X pins σ H { s with heap:=h',toks:=tk }:=I.turned (fun b o hb e=>kk b o (by simpa using hb) e) f0 f1 f3 f4 f5
  refine ⟨_,rfl,AV (s:={ s with heap:=h',toks:=tk }) (n:="range_iterator") st' rfl rfl (by decide) ⟨.int (lo+i),H,I1,⟨t,?_⟩,⟨rfl,rfl⟩,st',fun b hb=>(hf b hb).1⟩⟩
  rw [Int.mul_one]
 done:=by
  intro X hP hw hK hc i pins s σ H E I hf st hg
  subst hP hw hK
  obtain ⟨f0,f1,f2,f3,f4,f5⟩:=hf it (by simp)
  exact wpAny_pyNext_range_end (I.ok.hd hc) st (by have:n<=i:=hg; omega) fun h' eb=>⟨rfl,I.turned (t':=s.toks) (fun b o hb e=>eb b o hb e) f0 f1 f3 f4 f5⟩
 self:=fun _ _ _ _ _ st h=>wpAny_pyIter_rangeiter st h
end
section
section
variable {X:Cx} {tg:Expr}
noncomputable def PR (K:Frag) (tl:TE):TI:=fun σ H R=>tl σ H fun x H1=>∃ a,x=.ref a/\(∃ xs,bS K H1 a xs)/\R (JT K a) H1
theorem cB {l:Expr}{tl:TE} (hl:PE X l tl):PI X tg l (PR X.K tl):=by
 intro pins s σ H R I h
 refine bZ (hl pins s σ H _ I h) fun v s1 ⟨x,H1,I1,r1,q1⟩=>?_
 obtain ⟨a,e,⟨xs,hq⟩,q⟩:=q1
 subst e
 cases r1
 obtain ⟨its,rv,p,hz⟩:=I1.list hq
 refine wpAny_pyIter_list p.isList ?_
 refine ⟨s1.heap.objs.size,[s1.heap.objs.size],_,_,H1,rfl,I1.kept (t':=s1.toks) fun b o e=>get?_push_of_some _ e,BQ a _,⟨_,get?_push_size _ rfl,rfl,rfl⟩,fun b hb=>?_,q⟩
 have e:b=s1.heap.objs.size:=by simpa using hb
 subst e
 exact I1.fpOk (le_refl _) (I1.hok.fresh (le_refl _))
theorem uQ {pins:List (Addr×Obj)}{σ:St}{H:Hp}{s:Shared}{R:It->Hp->Prop}{E:Value->Shared->Prop}{lo hi:Int}{t u v:Tok}{tk:Nat} (I:aL X pins σ H s) (h1:-(2 ^ 62)<=lo) (h2:lo < 2 ^ 62) (h3:-(2 ^ 62)<=hi) (h4:hi < 2 ^ 62)
  (q:R (JS lo (hi - lo).toNat) H):wpAny (model X.prog X.w) X.A (pyIter (.ref s.heap.objs.size)) (Az X pins σ tg R) E { s with heap:=s.heap.push { cls:=.type "range",data:=.fields #[.int lo t,.int hi u,.int 1 v] },toks:=tk }:=by
 refine wpAny_pyIter_range (IsRange.new ..) (small_one h1 h2 h3 h4) ?_
 have I1:aL X pins σ H { s with heap:=s.heap.push { cls:=.type "range",data:=.fields #[.int lo t,.int hi u,.int 1 v] },toks:=tk }:=I.kept fun b o e=>get?_push_of_some _ e
 refine ⟨(s.heap.push { cls:=.type "range",data:=.fields #[.int lo t,.int hi u,.int 1 v] }).objs.size,[(s.heap.push { cls:=.type "range",data:=.fields #[.int lo t,.int hi u,.int 1 v] }).objs.size],_,_,H,rfl,
  I1.kept (t':=tk) fun b o e=>get?_push_of_some _ e,wR _ lo (hi - lo).toNat,?_,fun b hb=>?_,q⟩
 ·have e1:lo+((0:Nat):Int) * 1=lo:=by simp
  have e2:(((hi - lo).toNat:Nat):Int) - ((0:Nat):Int)=Builtin.Range.rangeSize lo hi 1:=by rw [rangeSize_one]; split <;> omega
  show IsRangeIter _ _ (lo+((0:Nat):Int) * 1) ((((hi - lo).toNat:Nat):Int) - ((0:Nat):Int)) 1
  rw [e1,e2]
  exact get?_push_size _ rfl
 ·have e:b=(s.heap.push { cls:=.type "range",data:=.fields #[.int lo t,.int hi u,.int 1 v] }).objs.size:=by simpa using hb
  subst e
  exact I1.fpOk (le_refl _) (I1.hok.fresh (le_refl _))
noncomputable def PQ (ta:TA):TI:=fun σ H R=>ta σ H fun vs H1=>∃ j:Int,vs=[.int j]/\-(2 ^ 62)<=j/\j < 2 ^ 62/\R (JS 0 j.toNat) H1
noncomputable def PP (ta:TA):TI:=fun σ H R=>ta σ H fun vs H1=>∃ i j:Int,vs=[.int i,.int j]/\(-(2 ^ 62)<=i/\i < 2 ^ 62/\-(2 ^ 62)<=j/\j < 2 ^ 62)/\R (JS i (j - i).toNat) H1
theorem CC {a:Expr}{ta:TA}{p pos:Pos} (hg:Gl X "range") (hm:X.mg "range"=none) (ha:PA X [a] ta) (hs:starEach [a] X.env=[(false,eval a X.env)]:=by rfl):PI X tg (.Call (.Name "range" p) [a] [] pos) (PQ ta):=by
 intro pins s σ H R I h
 refine Call_ (fV I hg hm boot_range (PyProof.Rows.callWith_type1 (bZ (ha pos pins s σ H _ I h) fun us s1 ⟨vs,H1,I1,r1,q1⟩=>?_) hs rfl))
 obtain ⟨j,e,q1,q2,q⟩:=q1
 subst e
 cases r1 with
|cons r rr =>
  cases rr
  obtain ⟨t,rfl⟩:=r
  exact call_range_1 (uQ I1 (by omega) (by omega) q1 q2 (by simpa using q))
theorem lD {a b:Expr}{ta:TA}{p pos:Pos} (hg:Gl X "range") (hm:X.mg "range"=none) (ha:PA X [a,b] ta) (hs:starEach [a,b] X.env=[(false,eval a X.env),(false,eval b X.env)]:=by rfl) (hs2:starEach [b] X.env=[(false,eval b X.env)]:=by rfl) :
  PI X tg (.Call (.Name "range" p) [a,b] [] pos) (PP ta):=by
 intro pins s σ H R I h
 refine Call_ (fV I hg hm boot_range (PyProof.Rows.callWith_type1 (bZ (ha pos pins s σ H _ I h) fun us s1 ⟨vs,H1,I1,r1,q1⟩=>?_) (by rw [hs,hs2]) (by rw [hs2]; rfl)))
 obtain ⟨i,j,e,⟨q1,q2,q3,q4⟩,q⟩:=q1
 subst e
 cases r1 with
|cons r rr =>
  cases rr with
 |cons r' rr =>
   cases rr
   obtain ⟨t,rfl⟩:=r
   obtain ⟨t',rfl⟩:=r'
   exact call_range_2 (uQ I1 q1 q2 q3 q4 q)
noncomputable def QM (wi:TI) (g:TG) (tb:TS):TS:=fun D σ H=>wi σ H fun J H1=>∃ W:Nat->Nat->St->Hp->Prop,(∃ m,W 0 m σ H1)/\∀ i m σ H,W i m σ H ->
 (J.stop i H/\D.nx σ H)∨(J.go i H/\∃ N:St->Hp->Prop,(∀ σ' H',N σ' H'->∃ m',m' < m/\W (i+1) m' σ' H')/\∀ x H',J.yld i H x H'->g x σ H' fun σ2 H2=>tb { D with nx:=N,ct:=N,bk:=D.nx } σ2 H2)
noncomputable def jH (fp:List Addr) (h:Heap):List (Addr×Obj):=fp.filterMap fun b=>(h.get? b).map fun o=>(b,o)
theorem gX {fp:List Addr}{h:Heap}{b:Addr}{o:Obj} (hb:b∈fp) (e:h.get? b=some o):(b,o)∈jH fp h:=mem_filterMap.mpr ⟨b,hb,by rw [e]; rfl⟩
theorem CH {fp:List Addr}{h:Heap}{p:Addr×Obj} (hp:p∈jH fp h):p.1∈fp/\h.get? p.1=some p.2:=by
 obtain ⟨b,hb,e⟩:=mem_filterMap.mp hp
 cases q:h.get? b with
|none=>rw [q] at e; cases e
|some o =>
  rw [q] at e
  have e':(b,o)=p:=Option.some.inj e
  subst e'
  exact ⟨hb,q⟩
theorem aL.pinned {pins:List (Addr×Obj)}{σ:St}{H:Hp}{s:Shared}{fp:List Addr} (I:aL X pins σ H s) (hf:∀ b∈fp,pA X pins H b) (ho:∀ b∈fp,∃ o,s.heap.get? b=some o/\∀ v,o.data≠.cell v):aL X (pins++jH fp s.heap) σ H s:=
 I.pins_of fun p hp=>(mem_append.mp hp).elim (fun z=>I.pin p (mem_append_right _ z)) fun z=>by
  obtain ⟨hb,e⟩:=CH z
  obtain ⟨f0,f1,f2,_⟩:=hf p.1 hb
  obtain ⟨o,e',d⟩:=ho p.1 hb
  rw [e] at e'; cases e'
  exact ⟨e,f0,f1,f2,d⟩
theorem aL.unpinned {pins pl:List (Addr×Obj)}{σ:St}{H:Hp}{s:Shared} (I:aL X (pins++pl) σ H s):aL X pins σ H s:=I.pins_of fun p hp=>I.pin p (mem_append_right _ (mem_append_left _ hp))
theorem cO {iter:Expr}{body:List Stmt}{wi:TI}{g:TG}{tb:TS}{pos:Pos} (hp:PassesOwn (model X.prog X.w) X.A X.env X.xe) (hc:X.calm=true) (hi:PI X tg iter wi) (hg:PG X tg g) (hb:tS X body tb)
  (hs:∀ x,foldedSetIterable iter X.env x=pure x:=by intro _; rfl):PS X (.For tg iter body [] pos) (QM wi g tb):=by
 intro pins s σ H D I h
 refine wpAny_For (bZ (hi pins s σ H _ I h) fun v s1 h1=>bZ h1 fun itv s2 h2=>?_) hs
 obtain ⟨it,fp,tn,J,H2,e,I2,T,st2,f2,W,⟨m0,w0⟩,turn⟩:=h2
 subst e
 -- what stays true of the iterator's objects through the loop
 have stat:∀ {H':Hp},(∀ b∈fp,H' b=none)->∀ b∈fp,pA X pins H' b:=fun hn b hb=>⟨hn b hb,(f2 b hb).2⟩
 refine codeAny_forLoop_any (fun n s'=>∃ i σ' H',aL X pins σ' H' s'/\tn i s'.heap/\(∀ b∈fp,H' b=none)/\W i n σ' H') ?_ m0 ⟨0,σ,H2,I2,st2,fun b hb=>(f2 b hb).1,w0⟩
 rintro n s3 ⟨i,σ3,H3,I3,st3,fr3,w3⟩
 rcases turn i n σ3 H3 w3 with ⟨stop,qn⟩|⟨go,N,hN,step⟩
 ·refine wpAny_passesOwn hp (bZ (T.done X rfl rfl rfl hc i pins s3 σ3 H3 X.xe I3 (stat fr3) st3 stop) fun r s4 ⟨hr,I4⟩=>?_)
  subst hr
  exact wpAny_execs_nil ⟨σ3,H3,I4,qn⟩
 ·refine wpAny_passesOwn hp (bZ (T.item X rfl rfl rfl hc i pins s3 σ3 H3 X.xe I3 (stat fr3) st3 go) fun r s4 ⟨u,hr,h4⟩=>?_)
  subst hr
  refine wpAny_passesOwn hp (bZ h4 fun _ s5 ⟨x,H5,I5,r5,y5,st5,fr5⟩=>?_)
  have I5':=I5.pinned (stat fr5) (T.obj _ _ st5)
  refine wpAny_passesOwn hp (bZ (hg _ s5 σ3 H5 x u _ I5' r5 (step x H5 y5)) fun _ s6 ⟨σ6,H6,I6,q6⟩=>?_)
  refine wpAny_passesOwn hp (bZ (hb _ s6 σ6 H6 _ I6 q6) fun f s7 q7=>?_)
  have again:∀ {σ7:St} {H7:Hp},aL X (pins++jH fp s5.heap) σ7 H7 s7->N σ7 H7->∃ m,m < n/\∃ i σ' H',aL X pins σ' H' s7/\tn i s7.heap/\(∀ b∈fp,H' b=none)/\W i m σ' H':=fun {σ7 H7} I7 n7=>by
   obtain ⟨m',hm,w7⟩:=hN σ7 H7 n7
   refine ⟨m',hm,i+1,σ7,H7,I7.unpinned,T.keep _ _ _ st5 fun b hb o e=>(I7.pin (b,o) (mem_append_right _ (mem_append_right _ (gX hb e)))).1,fun b hb=>?_,w7⟩
   obtain ⟨o,e,d⟩:=T.obj _ _ st5 b hb
   exact (I7.pin (b,o) (mem_append_right _ (mem_append_right _ (gX hb e)))).2.1
  cases f with
 |next=>obtain ⟨σ7,H7,I7,n7⟩:=q7; exact again I7 n7
 |cont=>obtain ⟨σ7,H7,I7,n7⟩:=q7; exact again I7 n7
 |brk=>obtain ⟨σ7,H7,I7,q7⟩:=q7; exact ⟨σ7,H7,I7.unpinned,q7⟩
 |ret v=>obtain ⟨x7,σ7,H7,I7,r7,q7⟩:=q7; exact ⟨x7,σ7,H7,I7.unpinned,r7,q7⟩
end
theorem IE {K:Frag}{a:Addr}{xs:List V}{g:TG}{tb:TS}{D:cU}{σ:St}{H:Hp} (Pv:Nat->St->Hp->Prop) (h0:Pv 0 σ H) (hl:∀ i σ H,i<=xs.length->Pv i σ H->bS K H a xs)
  (hs:∀ i x σ H,xs[i]?=some x->Pv i σ H->g x σ H fun σ2 H2=>tb { D with nx:=Pv (i+1),ct:=Pv (i+1),bk:=D.nx } σ2 H2) (hd:∀ σ H,Pv xs.length σ H->D.nx σ H) :
  ∃ W:Nat->Nat->St->Hp->Prop,(∃ m,W 0 m σ H)/\∀ i m σ H,W i m σ H ->
   ((JT K a).stop i H/\D.nx σ H)∨((JT K a).go i H/\∃ N:St->Hp->Prop,(∀ σ' H',N σ' H'->∃ m',m' < m/\W (i+1) m' σ' H')/\∀ x H',(JT K a).yld i H x H'->g x σ H' fun σ2 H2=>tb { D with nx:=N,ct:=N,bk:=D.nx } σ2 H2):=by
 refine ⟨fun i m σ H=>m=xs.length - i/\i<=xs.length/\Pv i σ H,⟨xs.length,by simp,zero_le _,h0⟩,?_⟩
 rintro i m σ H ⟨rfl,hi,p⟩
 have q:=hl i σ H hi p
 by_cases hlt:i < xs.length
 ·refine .inr ⟨⟨xs,xs[i],q,by simp [hlt]⟩,Pv (i+1),fun σ' H' p'=>⟨xs.length - (i+1),by omega,rfl,hlt,p'⟩,fun x H' y=>?_⟩
  obtain ⟨e,y⟩:=y
  subst e
  exact hs i x σ _ (y xs q) p
 ·have e:i=xs.length:=by omega
  subst e
  exact .inl ⟨⟨xs,q,le_refl _⟩,hd σ H p⟩
theorem DE {lo:Int}{n:Nat}{g:TG}{tb:TS}{D:cU}{σ:St}{H:Hp} (Pv:Nat->St->Hp->Prop) (h0:Pv 0 σ H)
  (hs:∀ i σ H,i < n->Pv i σ H->g (.int (lo+i)) σ H fun σ2 H2=>tb { D with nx:=Pv (i+1),ct:=Pv (i+1),bk:=D.nx } σ2 H2) (hd:∀ σ H,Pv n σ H->D.nx σ H) :
  ∃ W:Nat->Nat->St->Hp->Prop,(∃ m,W 0 m σ H)/\∀ i m σ H,W i m σ H ->
   ((JS lo n).stop i H/\D.nx σ H)∨((JS lo n).go i H/\∃ N:St->Hp->Prop,(∀ σ' H',N σ' H'->∃ m',m' < m/\W (i+1) m' σ' H')/\∀ x H',(JS lo n).yld i H x H'->g x σ H' fun σ2 H2=>tb { D with nx:=N,ct:=N,bk:=D.nx } σ2 H2):=by
 refine ⟨fun i m σ H=>m=n - i/\i<=n/\Pv i σ H,⟨n,by simp,zero_le _,h0⟩,?_⟩
 rintro i m σ H ⟨rfl,hi,p⟩
 by_cases hlt:i < n
 ·refine .inr ⟨hlt,Pv (i+1),fun σ' H' p'=>⟨n - (i+1),by omega,rfl,hlt,p'⟩,fun x H' y=>?_⟩
  obtain ⟨e,y⟩:=y
  subst e y
  exact hs i σ _ hlt p
 ·have e:i=n:=by omega
  subst e
  exact .inl ⟨le_refl _,hd σ H p⟩
theorem uB {c:TT}{tb:TS}{D:cU}{σ:St}{H:Hp} (Pv:St->Hp->Prop) (μ:St->Hp->Nat) (h0:Pv σ H)
  (hs:∀ σ H,Pv σ H->c σ H fun b H1=>if b=true then tb { D with nx:=fun σ' H'=>Pv σ' H'/\μ σ' H' < μ σ H,ct:=fun σ' H'=>Pv σ' H'/\μ σ' H' < μ σ H,bk:=D.nx } σ H1 else D.nx σ H1)
  (mono:∀ σ H Q Q',(∀ b H1,Q b H1->Q' b H1)->c σ H Q->c σ H Q'):qZ c tb D σ H:=by
 refine ⟨fun m σ H=>m=μ σ H/\Pv σ H,⟨_,rfl,h0⟩,?_⟩
 rintro m σ H ⟨rfl,p⟩
 refine mono σ H _ _ (fun b H1 q=>?_) (hs σ H p)
 cases b with
|true=>exact ⟨_,fun σ' H' ⟨p',l⟩=>⟨_,l,rfl,p'⟩,q⟩
|false=>exact q
end
section
noncomputable abbrev R2:=V->V->Hp->VK->Prop
noncomputable def gA (X:Cx) (f:Value->Value->Sem Value) (r:R2):Prop:=
 ∀ (pins:List (Addr×Obj)) (s:Shared) (σ:St) (H:Hp) (x y:V) (v u:Value) (Q:VK),aL X pins σ H s->aV x v->aV y u->r x y H Q ->
  wpAny (model X.prog X.w) X.A (f v u) (EP X pins σ Q) X.xe s
noncomputable def Ax (X:Cx) (f:Value->Sem Value) (r:V->Hp->VK->Prop):Prop:=
 ∀ (pins:List (Addr×Obj)) (s:Shared) (σ:St) (H:Hp) (x:V) (v:Value) (Q:VK),aL X pins σ H s->aV x v->r x H Q ->
  wpAny (model X.prog X.w) X.A (f v) (EP X pins σ Q) X.xe s
noncomputable def cK (X:Cx) (f:Value) (r:List V->Hp->VK->Prop):Prop:=
 ∀ (pins:List (Addr×Obj)) (s:Shared) (σ:St) (H:Hp) (xs:List V) (us:List Value) (Q:VK),aL X pins σ H s->aM xs us->r xs H Q ->
  wpAny (model X.prog X.w) X.A (call f us) (EP X pins σ Q) X.xe s
noncomputable def Ay (X:Cx) (r:V->Hp->(Bool->Hp->Prop)->Prop):Prop:=
 ∀ (pins:List (Addr×Obj)) (s:Shared) (σ:St) (H:Hp) (x:V) (v:Value) (Q:Bool->Hp->Prop),aL X pins σ H s->aV x v->r x H Q ->
  wpAny (model X.prog X.w) X.A (truthy v) (TP X pins σ Q) X.xe s
noncomputable def UV (r:R2) (ta tb:TE):TE:=fun σ H Q=>ta σ H fun x H1=>tb σ H1 fun y H2=>r x y H2 Q
noncomputable def Bh (r:V->Hp->VK->Prop) (ta:TE):TE:=fun σ H Q=>ta σ H fun x H1=>r x H1 Q
noncomputable def rI (C:Int->Int->Prop) (g:Int->Int->V):R2:=fun x y H Q=>∃ i j,x=.int i/\y=.int j/\C i j/\Q (g i j) H
noncomputable def JM (g:Int->Int->V):R2:=fun x y H Q=>∃ i j,x=.int i/\y=.int j/\Q (g i j) H
noncomputable def rU (g:Int->V):V->Hp->VK->Prop:=fun x H Q=>∃ i,x=.int i/\Q (g i) H
section
variable {X:Cx} {a b c:Expr} {ta tb tc:TE} {pos:Pos}
theorem UK (ha:PE X a ta) (hb:PE X b tb) {pins:List (Addr×Obj)}{s:Shared}{σ:St}{H:Hp}{R:V->V->Hp->Prop} (I:aL X pins σ H s)
  (h:ta σ H fun x H1=>tb σ H1 fun y H2=>R x y H2) {Q:Value->Shared->Prop} {f:Value->Value->Sem Value}
  (hf:∀ v u s2 x y H2,aL X pins σ H2 s2->aV x v->aV y u->R x y H2->wpAny (model X.prog X.w) X.A (f v u) Q X.xe s2) :
  wpAny (model X.prog X.w) X.A (eval a X.env) (fun v s₁=>wpAny (model X.prog X.w) X.A (eval b X.env) (fun u s₂=>wpAny (model X.prog X.w) X.A (f v u) Q X.xe s₂) X.xe s₁) X.xe s:=by
 refine bZ (ha pins s σ H _ I h) fun v s1 ⟨x,H1,I1,r1,q1⟩=>?_
 refine bZ (hb pins s1 σ H1 _ I1 q1) fun u s2 ⟨y,H2,I2,r2,q2⟩=>?_
 exact hf v u s2 x y H2 I2 r1 r2 q2
theorem aH {op:Operator}{r:R2} (ho:gA X (binaryOp op) r) (ha:PE X a ta) (hb:PE X b tb):PE X (.BinOp a op b pos) (UV r ta tb):=by
 intro pins s σ H Q I h
 exact wpAny_BinOp (UK ha hb I h fun v u s2 x y H2 I2 rx ry q=>ho pins s2 σ H2 x y v u Q I2 rx ry q)
theorem GK {op:UnaryOp}{r:V->Hp->VK->Prop} (ho:Ax X (unaryOp op) r) (ha:PE X a ta):PE X (.UnaryOp op a pos) (Bh r ta):=by
 intro pins s σ H Q I h
 exact UnaryOp_ (bZ (ha pins s σ H _ I h) fun v s1 ⟨x,H1,I1,r1,q1⟩=>ho pins s1 σ H1 x v Q I1 r1 q1)
theorem YA {f:Value->Value->Sem Value}{C:Int->Int->Prop}{g:Int->Int->Int}
  (rule:∀ (i j:Int) (t u:Tok) (s:Shared) (Q:Value->Shared->Prop) (E:Value->Shared->Prop),C i j->Q (.int (g i j) s.toks) { s with toks:=s.toks+1 }->wpAny (model X.prog X.w) X.A (f (.int i t) (.int j u)) Q E s) :
  gA X f (rI C fun i j=>.int (g i j)):=by
 intro pins s σ H x y v u Q I rx ry h
 obtain ⟨i,j,rfl,rfl,hc,q⟩:=h
 obtain ⟨t,rfl⟩:=rx
 obtain ⟨t',rfl⟩:=ry
 exact rule i j t t' s _ _ hc ⟨.int (g i j),H,I.tok _,⟨_,rfl⟩,q⟩
theorem XZ {f:Value->Value->Sem Value}{g:Int->Int->Int}
  (rule:∀ (i j:Int) (t u:Tok) (s:Shared) (Q:Value->Shared->Prop) (E:Value->Shared->Prop),Q (.int (g i j) s.toks) { s with toks:=s.toks+1 }->wpAny (model X.prog X.w) X.A (f (.int i t) (.int j u)) Q E s) :
  gA X f (JM fun i j=>.int (g i j)):=by
 intro pins s σ H x y v u Q I rx ry h
 obtain ⟨i,j,rfl,rfl,q⟩:=h
 obtain ⟨t,rfl⟩:=rx
 obtain ⟨t',rfl⟩:=ry
 exact rule i j t t' s _ _ ⟨.int (g i j),H,I.tok _,⟨_,rfl⟩,q⟩
theorem MD {f:Value->Value->Sem Value}{g:Int->Int->Bool}
  (rule:∀ (i j:Int) (t u:Tok) (s:Shared) (Q:Value->Shared->Prop) (E:Value->Shared->Prop),Q (.bool (g i j)) s->wpAny (model X.prog X.w) X.A (f (.int i t) (.int j u)) Q E s) :
  gA X f (JM fun i j=>.bl (g i j)):=by
 intro pins s σ H x y v u Q I rx ry h
 obtain ⟨i,j,rfl,rfl,q⟩:=h
 obtain ⟨t,rfl⟩:=rx
 obtain ⟨t',rfl⟩:=ry
 exact rule i j t t' s _ _ ⟨.bl (g i j),H,I,rfl,q⟩
noncomputable def UT (i j:Int):Prop:=0<=j/\j<=1000000/\i.natAbs < 2 ^ 64
noncomputable def UU (i j:Int):Prop:=(-(2 ^ 64) < i/\i < 2 ^ 64)∨(-(2 ^ 64) < j/\j < 2 ^ 64)
theorem UU.ok {i j:Int} (h:UU i j):IntMulOk i j:=by
 rcases h with ⟨h1,h2⟩|⟨h1,h2⟩
 ·exact .of_left (intBits_le_64 h1 h2)
 ·exact .of_right (intBits_le_64 h1 h2)
theorem SR:gA X (binaryOp .Add) (JM fun i j=>.int (i+j)):=XZ fun _ _ _ _ _ _ _ q=>add_int q
theorem fS:gA X (binaryOp .Sub) (JM fun i j=>.int (i - j)):=XZ fun _ _ _ _ _ _ _ q=>sub_int q
theorem cH:gA X (binaryOp .Mod) (rI (fun _ j=>0 < j) fun i j=>.int (i % j)):=YA fun i j _ _ _ _ _ hc q=>by
 have h1:(0:Int) < j:=hc
 exact mod_int' (by omega) (by rw [Int.fmod_eq_emod_of_nonneg i (by omega)]; exact q)
theorem MA:gA X (binaryOp .Mod) (rI (fun _ j=>j≠0) fun i j=>.int (i.fmod j)):=YA fun _ _ _ _ _ _ _ hc q=>mod_int' hc q
theorem GU:gA X (binaryOp .Pow) (rI UT fun i j=>.int (i ^ j.toNat)):=YA fun _ _ _ _ _ _ _ hc q=>pow_int_small hc.1 hc.2.1 hc.2.2 q
theorem unI {f:Value->Sem Value}{g:Int->Int}
  (rule:∀ (i:Int) (t:Tok) (s:Shared) (Q:Value->Shared->Prop) (E:Value->Shared->Prop),Q (.int (g i) s.toks) { s with toks:=s.toks+1 }->wpAny (model X.prog X.w) X.A (f (.int i t)) Q E s) :
  Ax X f (rU fun i=>.int (g i)):=by
 intro pins s σ H x v Q I rx h
 obtain ⟨i,rfl,q⟩:=h
 obtain ⟨t,rfl⟩:=rx
 exact rule i t s _ _ ⟨.int (g i),H,I.tok _,⟨_,rfl⟩,q⟩
theorem wP:Ax X (unaryOp .USub) (rU fun i=>.int (-i)):=unI fun _ _ _ _ _ q=>neg_int q
end
noncomputable def VY:V->V->Bool
|.non,.non=>true|.non,.int _=>true|.int _,.non=>true|.non,.bl _=>true|.bl _,.non=>true|.non,.str _=>true|.str _,.non=>true
|.int _,.int _=>true|.bl _,.bl _=>true|.str _,.str _=>true|.byt _,.byt _=>true
|.int _,.str _=>true|.str _,.int _=>true|.bl _,.str _=>true|.str _,.bl _=>true
|_,_=>false
noncomputable def Ap:R2:=fun x y H Q=>VY x y=true/\Q (.bl (decide (x=y))) H
noncomputable def Ao:R2:=fun x y H Q=>VY x y=true/\Q (.bl (!decide (x=y))) H
theorem mX {i j:Int}:decide (V.int i=V.int j)=(i==j):=by
 rw [Bool.eq_iff_iff]
 simp
theorem IT {i j:Bool}:decide (V.bl i=V.bl j)=(i==j):=by
 rw [Bool.eq_iff_iff]
 simp
theorem tD {i j:Str}:decide (V.str i=V.str j)=(i==j):=by
 rw [Bool.eq_iff_iff]
 simp
theorem BH {i j:Array UInt8}:decide (V.byt i=V.byt j)=(i.toList==j.toList):=by
 rw [Bool.eq_iff_iff]
 cases i
 cases j
 simp
section
variable {X:Cx} {a b c:Expr} {ta tb tc:TE} {pos:Pos}
theorem bA {pins:List (Addr×Obj)}{σ:St}{H:Hp}{s:Shared}{Q:VK}{k k':Bool} (I:aL X pins σ H s) (q:Q (.bl k) H) (e:k=k'):EP X pins σ Q (.bool k') s:=by
 subst e
 exact ⟨.bl k,H,I,rfl,q⟩
theorem XY:gA X (compareOp .Eq) Ap:=by
 intro pins s σ H x y v u Q I rx ry h
 obtain ⟨hs,q⟩:=h
 cases x with
|non =>
  cases rx
  cases y with
 |non=>cases ry; exact PySem.EqNone.eq_none_none (bA I q (by simp))
 |bl j=>cases ry; exact PySem.EqNone.eq_none_bool (bA I q (by simp))
 |int j=>obtain ⟨t',rfl⟩:=ry; exact PySem.EqNone.eq_none_int (bA I q (by simp))
 |str j=>obtain ⟨t',rfl⟩:=ry; exact PySem.EqNone.eq_none_str (bA I q (by simp))
 |_=>exact absurd (show false=true from hs) Bool.false_ne_true
|bl i =>
  cases rx
  cases y with
 |non=>cases ry; exact PySem.EqNone.eq_bool_none (bA I q (by simp))
 |bl j=>cases ry; exact eq_bool (bA I q IT)
 |str j=>obtain ⟨t',rfl⟩:=ry; exact PySem.EqMixed.eq_bool_str (bA I q (by simp))
 |_=>exact absurd (show false=true from hs) Bool.false_ne_true
|int i =>
  obtain ⟨t,rfl⟩:=rx
  cases y with
 |non=>cases ry; exact PySem.EqNone.eq_int_none (bA I q (by simp))
 |int j=>obtain ⟨t',rfl⟩:=ry; exact eq_int (bA I q mX)
 |str j=>obtain ⟨t',rfl⟩:=ry; exact PySem.EqMixed.eq_int_str (bA I q (by simp))
 |_=>exact absurd (show false=true from hs) Bool.false_ne_true
|str i =>
  obtain ⟨t,rfl⟩:=rx
  cases y with
 |non=>cases ry; exact PySem.EqNone.eq_str_none (bA I q (by simp))
 |bl j=>cases ry; exact PySem.EqMixed.eq_str_bool (bA I q (by simp))
 |int j=>obtain ⟨t',rfl⟩:=ry; exact PySem.EqMixed.eq_str_int (bA I q (by simp))
 |str j=>obtain ⟨t',rfl⟩:=ry; exact eq_str (bA I q tD)
 |_=>exact absurd (show false=true from hs) Bool.false_ne_true
|byt i =>
  obtain ⟨t,rfl⟩:=rx
  cases y with
 |byt j=>obtain ⟨t',rfl⟩:=ry; exact PySem.W.eq_bytes (bA I q BH)
 |_=>exact absurd (show false=true from hs) Bool.false_ne_true
|_=>cases y <;> exact absurd (show false=true from hs) Bool.false_ne_true
theorem XW:gA X (compareOp .NotEq) Ao:=by
 intro pins s σ H x y v u Q I rx ry h
 obtain ⟨hs,q⟩:=h
 cases x with
|non =>
  cases rx
  cases y with
 |non=>cases ry; exact PySem.EqNone.ne_none_none (bA I q (by simp))
 |bl j=>cases ry; exact PySem.EqNone.ne_none_bool (bA I q (by simp))
 |int j=>obtain ⟨t',rfl⟩:=ry; exact PySem.EqNone.ne_none_int (bA I q (by simp))
 |str j=>obtain ⟨t',rfl⟩:=ry; exact PySem.EqNone.ne_none_str (bA I q (by simp))
 |_=>exact absurd (show false=true from hs) Bool.false_ne_true
|bl i =>
  cases rx
  cases y with
 |non=>cases ry; exact PySem.EqNone.ne_bool_none (bA I q (by simp))
 |bl j=>cases ry; exact ne_bool (bA I q (congrArg not IT))
 |str j=>obtain ⟨t',rfl⟩:=ry; exact PySem.EqMixed.ne_bool_str (bA I q (by simp))
 |_=>exact absurd (show false=true from hs) Bool.false_ne_true
|int i =>
  obtain ⟨t,rfl⟩:=rx
  cases y with
 |non=>cases ry; exact PySem.EqNone.ne_int_none (bA I q (by simp))
 |int j=>obtain ⟨t',rfl⟩:=ry; exact ne_int (bA I q (congrArg not mX))
 |str j=>obtain ⟨t',rfl⟩:=ry; exact PySem.EqMixed.ne_int_str (bA I q (by simp))
 |_=>exact absurd (show false=true from hs) Bool.false_ne_true
|str i =>
  obtain ⟨t,rfl⟩:=rx
  cases y with
 |non=>cases ry; exact PySem.EqNone.ne_str_none (bA I q (by simp))
 |bl j=>cases ry; exact PySem.EqMixed.ne_str_bool (bA I q (by simp))
 |int j=>obtain ⟨t',rfl⟩:=ry; exact PySem.EqMixed.ne_str_int (bA I q (by simp))
 |str j=>obtain ⟨t',rfl⟩:=ry; exact ne_str (bA I q (congrArg not tD))
 |_=>exact absurd (show false=true from hs) Bool.false_ne_true
|byt i =>
  obtain ⟨t,rfl⟩:=rx
  cases y with
 |byt j=>obtain ⟨t',rfl⟩:=ry; exact PySem.W.ne_bytes (bA I q (congrArg not BH))
 |_=>exact absurd (show false=true from hs) Bool.false_ne_true
|_=>cases y <;> exact absurd (show false=true from hs) Bool.false_ne_true
theorem vE:gA X (compareOp .Lt) (JM fun i j=>.bl (decide (i < j))):=MD fun _ _ _ _ _ _ _ q=>lt_int q
theorem AN:gA X (compareOp .LtE) (JM fun i j=>.bl (decide (i<=j))):=MD fun _ _ _ _ _ _ _ q=>le_int q
theorem lK:gA X (compareOp .Gt) (JM fun i j=>.bl (decide (j < i))):=MD fun _ _ _ _ _ _ _ q=>gt_int q
theorem XX:gA X (compareOp .GtE) (JM fun i j=>.bl (decide (j<=i))):=MD fun _ _ _ _ _ _ _ q=>ge_int q
theorem SN:gA X (compareOp .Is) (fun x y H Q=>y=.non/\Q (.bl (decide (x=.non))) H):=by
 intro pins s σ H x y v u Q I rx ry h
 obtain ⟨rfl,q⟩:=h
 cases ry
 refine is_none_gen (bA I q ?_)
 cases x <;> first
 |(cases rx; rfl)
 |(obtain ⟨t,rfl⟩:=rx; rfl)
theorem LY:gA X (compareOp .IsNot) (fun x y H Q=>y=.non/\Q (.bl (!decide (x=.non))) H):=by
 intro pins s σ H x y v u Q I rx ry h
 obtain ⟨rfl,q⟩:=h
 cases ry
 refine isnot_none_gen (bA I q ?_)
 cases x <;> first
 |(cases rx; rfl)
 |(obtain ⟨t,rfl⟩:=rx; rfl)
theorem gA.or {f:Value->Value->Sem Value}{r r':R2} (h:gA X f r) (h':gA X f r'):gA X f (fun x y H Q=>r x y H Q∨r' x y H Q):=by
 intro pins s σ H x y v u Q I rx ry q
 rcases q with q|q
 ·exact h pins s σ H x y v u Q I rx ry q
 ·exact h' pins s σ H x y v u Q I rx ry q
theorem aU (b:Expr) {op:CmpOp} (h:op≠.In:=by decide) (h2:op≠.NotIn:=by decide):behindInMarks op b=false:=by
 have e1:(op==CmpOp.In)=false:=by cases op <;> first|rfl|exact absurd rfl h
 have e2:(op==CmpOp.NotIn)=false:=by cases op <;> first|rfl|exact absurd rfl h2
 cases b <;> simp [behindInMarks,e1,e2]
theorem LX {op:CmpOp}{r:R2} (ho:gA X (compareOp op) r) (ha:PE X a ta) (hb:PE X b tb) (hm:behindInMarks op b=false):PE X (.Compare a [op] [b] pos) (UV r ta tb):=by
 intro pins s σ H Q I h
 exact wpAny_Compare1 (UK ha hb I h fun v u s2 x y H2 I2 rx ry q=>ho pins s2 σ H2 x y v u Q I2 rx ry q) hm
noncomputable def OB (t:TE):TT:=fun σ H Q=>t σ H fun x H'=>∃ k,x=.bl k/\Q k H'
theorem aN {op:CmpOp}{r:R2} (ho:gA X (compareOp op) r) (ha:PE X a ta) (hb:PE X b tb) (hm:behindInMarks op b=false):PT X (.Compare a [op] [b] pos) (OB (UV r ta tb)):=by
 intro pins s σ H Q I h
 refine wpAny_isTrue_Compare1 (bZ (ha pins s σ H _ I h) fun v s1 ⟨x,H1,I1,r1,q1⟩=>bZ (hb pins s1 σ H1 _ I1 q1) fun u s2 ⟨y,H2,I2,r2,q2⟩ =>
  bZ (ho pins s2 σ H2 x y v u _ I2 r1 r2 q2) fun c s3 ⟨z,H3,I3,r3,k,e,q3⟩=>?_) hm
 subst e
 cases r3
 exact wpAny_truthy_bool ⟨H3,I3,q3⟩
noncomputable def NS (K:Frag) (x:V) (H:Hp) (k:Bool):Prop:=
 match x with
|.non=>k=false
|.bl b=>k=b
|.int i=>k=(i !=0)
|.str y=>y.length<=sizeLine/\k=((y.length:Int) !=0)
|.byt y=>y.size<=sizeLine/\k=((y.size:Int) !=0)
|.ref p=>(∃ xs,bS K H p xs/\k=!xs.isEmpty)∨(∃ xs,tX K H p xs/\k=!xs.isEmpty)∨∃ kvs,H p=some (.dK kvs)/\k=!kvs.isEmpty
|_=>False
theorem yA {κ:Type}{kvs:List (κ×V)}{vs:List (κ×Value)} (r:KV kvs vs):(!vs.isEmpty)=!kvs.isEmpty:=by
 cases r <;> rfl
theorem oI {xs:List V}{its:List Value} (r:aM xs its):(!its.toArray.isEmpty)=!xs.isEmpty:=by
 cases r <;> simp
theorem oD:(sizeLine:Nat) < 2 ^ 63:=by rw [sizeLine_eq]; decide
theorem QJ:Ay X (fun x H Q=>∃ k,NS X.K x H k/\Q k H):=by
 intro pins s σ H x v Q I rx h
 obtain ⟨k,e,q⟩:=h
 have hl:=oD
 have hs:sizeLine=16777216:=sizeLine_eq
 cases x with
|non =>
  cases rx
  have e':k=false:=e
  subst e'
  exact truthy_none ⟨H,I,q⟩
|bl b =>
  cases rx
  have e':k=b:=e
  subst e'
  exact wpAny_truthy_bool ⟨H,I,q⟩
|int i =>
  obtain ⟨t,rfl⟩:=rx
  have e':k=(i !=0):=e
  subst e'
  exact PySem.P.truthy_int ⟨H,I,q⟩
|str y =>
  obtain ⟨t,rfl⟩:=rx
  obtain ⟨hy,e'⟩:y.length<=sizeLine/\k=((y.length:Int) !=0):=e
  subst e'
  exact PySem.P.truthy_str (by omega) ⟨H,I.tok _,q⟩
|byt y =>
  obtain ⟨t,rfl⟩:=rx
  obtain ⟨hy,e'⟩:y.size<=sizeLine/\k=((y.size:Int) !=0):=e
  subst e'
  exact PySem.W.truthy_bytes (by omega) ⟨H,I.tok _,q⟩
|ref p =>
  cases rx
  have e':(∃ xs,bS X.K H p xs/\k=!xs.isEmpty)∨(∃ xs,tX X.K H p xs/\k=!xs.isEmpty)∨∃ kvs,H p=some (.dK kvs)/\k=!kvs.isEmpty:=e
  rcases e' with ⟨xs,hx,e'⟩|⟨xs,hx,e'⟩|⟨kvs,hx,e'⟩
  ·subst e'
   obtain ⟨its,r,pl,hz⟩:=I.list hx
   have hlen:=r.length
   exact wpAny_truthy_list pl.isList (by simp only [size_toArray]; omega) ⟨H,I.tok _,by rw [oI r]; exact q⟩
  ·subst e'
   obtain ⟨its,r,pl,hz⟩:=I.tuple hx
   have hlen:=r.length
   exact truthy_tuple pl (by simp only [size_toArray]; omega) ⟨H,I.tok _,by rw [oI r]; exact q⟩
  ·subst e'
   obtain ⟨hz,hS,vs,r,m⟩:kvs.length<=sizeLine/\(p==sysModules)=false/\∃ vs,KV kvs vs/\s.heap.DictOf (aY X.prog X.w) p vs:=I.hok p _ hx
   have hlen:kvs.length=vs.length:=Paired.length r
   exact wpAny_truthy_dict hS m (by omega) ⟨H,I.tok _,by rw [yA r]; exact q⟩
|_=>exact (show False from e).elim
theorem GE (ha:PE X a ta) (he:∀ whole,isTrue a X.env whole=(do let v ← whole; standAt a.pos; holding [v] (truthy v))) :
  PT X a (fun σ H Q=>ta σ H fun x H'=>∃ k,NS X.K x H' k/\Q k H'):=by
 intro pins s σ H Q I h
 exact isTrue_plain (bZ (ha pins s σ H _ I h) fun v s1 ⟨x,H1,I1,r1,q1⟩=>QJ pins s1 σ H1 x v Q I1 r1 q1) (he _)
theorem xQ:gA X (binaryOp .Add) (fun x y H Q=>∃ i j,x=.str i/\y=.str j/\i.length+j.length<=sizeLine/\Q (.str (i++j)) H):=by
 intro pins s σ H x y v u Q I rx ry h
 obtain ⟨i,j,rfl,rfl,hz,q⟩:=h
 obtain ⟨t,rfl⟩:=rx
 obtain ⟨t',rfl⟩:=ry
 exact add_str (fun t' tk=>⟨.str (i++j),H,I.tok _,⟨_,rfl⟩,q⟩) hz
theorem nC {x:V}{us:List Value} (r:aM [x] us):∃ u,us=[u]/\aV x u:=by
 cases r with
|cons r1 r2=>cases r2; exact ⟨_,rfl,r1⟩
theorem IW:cK X (.builtin "abs") (fun xs H Q=>∃ i,xs=[.int i]/\Q (.int (if i < 0 then -i else i)) H):=by
 intro pins s σ H xs us Q I r h
 obtain ⟨i,rfl,q⟩:=h
 obtain ⟨u,rfl,t,rfl⟩:=nC r
 exact call_abs_int fun u tk=>⟨.int (if i < 0 then -i else i),H,I.tok _,⟨_,rfl⟩,q⟩
theorem DO:cK X (.type "int") (fun xs H Q=>(∃ i,xs=[.int i]/\Q (.int i) H)∨∃ k,xs=[.bl k]/\Q (.int (if k then 1 else 0)) H):=by
 intro pins s σ H xs us Q I r h
 rcases h with ⟨i,rfl,q⟩|⟨k,rfl,q⟩
 ·obtain ⟨u,rfl,t,rfl⟩:=nC r
  exact call_int_int ⟨.int i,H,I,⟨_,rfl⟩,q⟩
 ·obtain ⟨u,rfl,r1⟩:=nC r
  cases r1
  exact call_int_bool ⟨.int (if k then 1 else 0),H,I.tok _,⟨_,rfl⟩,q⟩
noncomputable def ZC (K:Frag) (x:V) (H:Hp) (n:Nat):Prop:=
 match x with
|.str y=>y.length<=sizeLine/\n=y.length
|.byt y=>y.size<=sizeLine/\n=y.size
|.ref p=>(∃ xs,bS K H p xs/\n=xs.length)∨∃ xs,tX K H p xs/\n=xs.length
|_=>False
theorem IV:cK X (.builtin "len") (fun xs H Q=>∃ x n,xs=[x]/\ZC X.K x H n/\Q (.int n) H):=by
 intro pins s σ H xs us Q I r h
 obtain ⟨x,n,rfl,e,q⟩:=h
 obtain ⟨u,rfl,rx⟩:=nC r
 have hl:=oD
 have hs:sizeLine=16777216:=sizeLine_eq
 cases x with
|str y =>
  obtain ⟨t,rfl⟩:=rx
  obtain ⟨hy,e'⟩:y.length<=sizeLine/\n=y.length:=e
  subst e'
  exact len_str (by omega) ⟨.int _,H,I.tok _,⟨_,rfl⟩,q⟩
|byt y =>
  obtain ⟨t,rfl⟩:=rx
  obtain ⟨hy,e'⟩:y.size<=sizeLine/\n=y.size:=e
  subst e'
  exact PySem.W.len_bytes (by omega) ⟨.int _,H,I.tok _,⟨_,rfl⟩,q⟩
|ref p =>
  cases rx
  have e':(∃ xs,bS X.K H p xs/\n=xs.length)∨∃ xs,tX X.K H p xs/\n=xs.length:=e
  rcases e' with ⟨xs,hx,e'⟩|⟨xs,hx,e'⟩
  ·subst e'
   obtain ⟨its,r',pl,hz⟩:=I.list hx
   have hlen:=r'.length
   exact Calls.call_len_list pl.isList (by simp only [size_toArray]; omega) ⟨.int xs.length,H,I.tok _,⟨_,by simp only [size_toArray]; rw [hlen]⟩,q⟩
  ·subst e'
   obtain ⟨its,r',pl,hz⟩:=I.tuple hx
   have hlen:=r'.length
   exact len_tuple pl (by simp only [size_toArray]; omega) ⟨.int xs.length,H,I.tok _,⟨_,by simp only [size_toArray]; rw [hlen]⟩,q⟩
|_=>exact (show False from e).elim
end
end
section
structure UQ (h:Heap) (x dx C:Addr) (mA:Str->Option Value):Prop where
 obj:h.get? x=some (instObj C dx)
 ns:h.Ns1 dx mA
 ne:dx≠x
theorem CL {h:Heap}{dx:Addr}{mA:Str->Option Value} (n:h.Ns1 dx mA):∃ od,h.get? dx=some od/\∀ name,lookIn name od=some (mA name):=by
 obtain ⟨o,es,ep,ho,hd,hk,_,hm⟩:=n
 refine ⟨o,ho,fun name=>?_⟩
 have e:=hm name
 unfold nsFind findBy at e
 rw [← Array.find?_toList] at e
 unfold lookIn
 rw [hd]
 dsimp only
 split
 ·rename_i y q
  rw [q] at e
  exact congrArg some e
 ·rename_i q
  rw [q] at e
  have a:es.toList.any (·.refKey)=false:=by
   rw [List.any_eq_false]
   intro y hy
   obtain ⟨z,t,hkey⟩:=hk y (Array.mem_toList_iff.mp hy)
   simp [DictEntry.refKey,hkey]
  have a':¬ es.toList.any (·.refKey)=true:=by rw [a]; exact Bool.false_ne_true
  rw [if_neg a']
  exact congrArg some e
theorem UQ.look {h:Heap}{x dx C:Addr}{mA:Str->Option Value} (I:UQ h x dx C mA):∃ od,InstAt h x (instObj C dx) C (some od)/\∀ name,lookIn name od=some (mA name):=
 let ⟨od,ho,hl⟩:=CL I.ns
 ⟨od,⟨I.obj,rfl,rfl,ho⟩,hl⟩
section
variable {prog:Program} {w:World} {A:Around} {E:Value -> Shared -> Prop} {s:Shared} {K:Frag} {x dx C f:Addr} {mA:Str -> Option Value} {name:Str} {v:Value}
end
theorem oX.some_of {v:V}{o:Option Value} (r:oX (some v) o):∃ u,o=some u/\aV v u:=by
 cases o with
|none=>exact (show False from r).elim
|some u=>exact ⟨u,rfl,r⟩
section
variable {P:Program} {w:World} {H H':Hp} {h h':Heap} {a C dx:Addr} {fs fs':List (Str×V)}
theorem MU (hok:gG P w H h) (e:H a=some (.ins C dx fs)):∃ mA,UQ h a dx C mA/\(∀ f,oX (fs.lookup f) (mA f))/\PySem.Within mA (fs.map (·.1))/\fs.length<=1000/\H dx=some (.own a):=by
 obtain ⟨d,z,ne,ob,mA,n,r,q⟩:=(show bC P w H h a (.ins C dx fs) from hok a _ e)
 exact ⟨mA,⟨ob,n,ne⟩,r,q,z,d⟩
end
structure Bd (K:Frag) (C:Addr):Prop where
 pg:plainGet K C Str.empty=true
 hd:PySem.W.hasDictIn K C=true
 po:PySem.W.plainOver K C=true
 sa:PySem.W.findIn K (.ref C) "__setattr__"=some (some (.builtin "object.__setattr__"))
theorem Bd.get {K:Frag}{C:Addr} (c:Bd K C) (f:Str):plainGet K C f=true:=c.pg
section
variable {X:Cx} {pins:List (Addr×Obj)} {σ:St} {H:Hp} {s:Shared} {a C dx:Addr} {fs:List (Str×V)} {f:Str} {v:V} {A:Around} {E:Value -> Shared -> Prop}
end
section
variable {X:Cx} {o e value:Expr} {f:Str} {pos pos' tpos:Pos} {ta tv:TE}
end
section
variable {X:Cx} {pins:List (Addr×Obj)} {σ:St} {H:Hp} {s:Shared} {A:Around} {E:Value -> Shared -> Prop} {Q:Value -> Shared -> Prop} {c:Value} {b:Bool}
inductive kQ (K:Frag) (H:Hp):V->Value->Prop where
|non:kQ K H .non (.type "NoneType")
|bl (x:Bool):kQ K H (.bl x) (.type "bool")
|int (i:Int):kQ K H (.int i) (.type "int")
|str (x:Str):kQ K H (.str x) (.type "str")
|flt (x:UInt64):kQ K H (.flt x) (.type "float")
|lst {a:Addr} {xs:List V} (e:H a=some (.lst xs)):kQ K H (.ref a) (.type "list")
|frz {a:Addr} {o:Obj} {xs:List V} (e:H a=some (.frz o (.lst xs))):kQ K H (.ref a) (.type "list")
|tup {a:Addr} {xs:List V} (e:H a=some (.tup xs)):kQ K H (.ref a) (.type "tuple")
|dK {a:Addr} {kvs:List (aR×V)} (e:H a=some (.dK kvs)):kQ K H (.ref a) (.type "dict")
|dT {a:Addr} {kvs:List (List aR×V)} (e:H a=some (.dT kvs)):kQ K H (.ref a) (.type "dict")
|ins {a C dx:Addr} {fs:List (Str×V)} (e:H a=some (.ins C dx fs)) (cl:Bd K C) (ha:PySem.W.findIn K (.ref C) "__class__"=some (some (.builtin "object.__class__")))
   (hn:PySem.W.specialIn K (.builtin "object.__class__") "__get__"=some (some (.builtin "getset_descriptor.__get__"))) (htk:PySem.W.takesIn K (.builtin "object.__class__")=some true)
   (hm:mroIn K C (.type "object")=some true):kQ K H (.ref a) (.ref C)
theorem CZ {x:V}{u t:Value} (I:aL X pins σ H s) (rx:aV x u) (ty:kQ X.K H x t) (e:kitOne X.K t c=some b) (h:∀ tk,Q (.bool b) { s with toks:=tk }) :
  wpAny (model X.prog X.w) A (call (.builtin "isinstance") [u,c]) Q E s:=by
 cases ty with
|non=>cases (show u=Value.none from rx); exact kia_one PySem.W.kitx_none I.kIn True.intro e (fun z=>nomatch z) h
|bl y=>cases (show u=Value.bool y from rx); exact kia_one PySem.W.kitx_bool I.kIn True.intro e (fun z=>nomatch z) h
|int i=>obtain ⟨t,q⟩:=(show ∃ t,u=Value.int i t from rx); cases q; exact kia_one PySem.W.kitx_int I.kIn True.intro e (fun z=>nomatch z) h
|str y=>obtain ⟨t,q⟩:=(show ∃ t,u=Value.str y t from rx); cases q; exact kia_one PySem.W.kitx_str I.kIn True.intro e (fun z=>nomatch z) h
|flt y=>obtain ⟨t,q⟩:=(show ∃ t,u=Value.float y t from rx); cases q; exact kia_one PySem.W.kitx_float I.kIn True.intro e (fun z=>nomatch z) h
|@lst a xs ea =>
  cases (show u=Value.ref a from rx)
  obtain ⟨_,_,n,_,h1⟩:=(show bC X.prog X.w H s.heap a (.lst xs) from I.hok a _ ea)
  exact kia_one kitx_list I.kIn ⟨_,h1,rfl⟩ e (fun z=>nomatch z) h
|@frz a ob xs ea =>
  cases (show u=Value.ref a from rx)
  obtain ⟨_,_,_,n,_,h1⟩:=(show bC X.prog X.w H s.heap a (.frz ob (.lst xs)) from I.hok a _ ea)
  exact kia_one kitx_list I.kIn ⟨_,h1,rfl⟩ e (fun z=>nomatch z) h
|@tup a xs ea =>
  cases (show u=Value.ref a from rx)
  obtain ⟨_,_,_,p⟩:=(show bC X.prog X.w H s.heap a (.tup xs) from I.hok a _ ea)
  obtain ⟨o,h1,h2,_⟩:=p
  exact kia_one PySem.W.kitx_tuple I.kIn ⟨o,h1,h2⟩ e (fun z=>nomatch z) h
|@dK a kvs ea =>
  cases (show u=Value.ref a from rx)
  obtain ⟨_,_,vs,_,p⟩:=(show bC X.prog X.w H s.heap a (.dK kvs) from I.hok a _ ea)
  obtain ⟨o,es,ep,h1,h2,_⟩:=p
  exact kia_one kitx_dict I.kIn ⟨o,h1,h2.1⟩ e (fun z=>nomatch z) h
|@dT a kvs ea =>
  cases (show u=Value.ref a from rx)
  obtain ⟨_,_,xs,_,o,es,ep,h1,h2,_⟩:=(show bC X.prog X.w H s.heap a (.dT kvs) from I.hok a _ ea)
  exact kia_one kitx_dict I.kIn ⟨o,h1,h2.1⟩ e (fun z=>nomatch z) h
|@ins a C dx fs ea cl ha hn htk hm =>
  cases (show u=Value.ref a from rx)
  obtain ⟨mA,O,_⟩:=MU I.hok ea
  obtain ⟨od,J,_⟩:=O.look
  exact kia_one (PySem.W.kitx_own (cl.get _) cl.hd ha hn htk hm) I.kIn J e (fun z=>nomatch z) h
end
end
section
structure dJ (k:Nat) (A:Around):Prop where
 hd:A.handled=none
 dp:A.depth+3 * k+5 < recursionLimit
 un:A.units+16 * k+200 < cLine
theorem dJ.mono {j k:Nat}{A:Around} (r:dJ k A) (h:j<=k):dJ j A:=⟨r.hd,by have:=r.dp; omega,by have:=r.un; omega⟩
theorem dJ.deeper {k:Nat}{A:Around} (r:dJ (k+1) A) (env:Env):dJ k (A.deeper env):=
 ⟨r.hd,by have:=r.dp; show A.depth+1+3 * k+5 < _; omega,by have:=r.un; show A.units+3+16 * k+200 < _; omega⟩
theorem dJ.depth {k:Nat}{A:Around} (r:dJ k A):A.depth < recursionLimit:=by have:=r.dp; omega
theorem dJ.units {k:Nat}{A:Around} (r:dJ k A):A.units+64 < cLine:=by have:=r.un; omega
noncomputable def wW:TA:=fun _ H Q=>Q [] H
noncomputable def iZ (ta:TE) (tr:TA):TA:=fun σ H Q=>ta σ H fun x H1=>tr σ H1 fun xs H2=>Q (x::xs) H2
section
variable {X:Cx} {e:Expr} {es:List Expr} {te:TE} {t:TA} {pos:Pos}
theorem fD:PA X [] wW:=fun _ _ _ _ H Q I h=>Calls.spliced_nil ⟨[],H,I,.nil,h⟩
theorem bI (ha:PE X e te) (hr:PA X es t) (hs:starEach (e::es) X.env=(false,eval e X.env)::starEach es X.env:=by rfl):PA X (e::es) (iZ te t):=by
 intro pos pins s σ H Q I h
 rw [hs]
 show wpAny _ _ (spliced ((false,eval e X.env)::backTo pos (starEach es X.env))) _ _ s
 refine Calls.spliced_cons (bZ (ha pins s σ H _ I h) fun u s1 ⟨x,H1,I1,r1,q1⟩=>?_)
 exact bZ (hr pos pins s1 σ H1 _ I1 q1) fun us s2 ⟨xs,H2,I2,r2,q2⟩=>⟨x::xs,H2,I2,.cons r1 r2,q2⟩
noncomputable def VJ (t:TA):TE:=fun σ H Q=>t σ H fun xs H1=>xs.length<=sizeLine/\∀ p,H1 p=none->Q (.ref p) (upd H1 p (.tup xs))
noncomputable def VS (t:TA):TE:=fun σ H Q=>t σ H fun xs H1=>xs.length<=sizeLine/\∀ p,H1 p=none->Q (.ref p) (upd H1 p (.lst xs))
theorem dF {x1} (h:PA X es t):PE X (.Tuple es x1 pos) (VJ t):=by
 intro pins s σ H Q I hq
 refine wpAny_Tuple_spliced (bZ (h pos pins s σ H _ I hq) fun us s1 ⟨xs,H1,I1,r,z,q⟩=>⟨by rw [← r.length]; exact z,?_⟩)
 have hf:H1 s1.heap.objs.size=none:=I1.hok.fresh (le_refl _)
 refine ⟨.ref s1.heap.objs.size,upd H1 s1.heap.objs.size (.tup xs),I1.laid (t':=s1.toks) (fun b u e=>get?_push_of_some _ e) (le_refl _) ?_,rfl,q _ hf⟩
 exact ⟨⟨z,_,get?_push_size _ rfl,rfl⟩,us,r,⟨_,get?_push_size _ rfl,rfl,_,rfl⟩⟩
theorem bF (h:PA X es t):PE X (.List es pos) (VS t):=by
 intro pins s σ H Q I hq
 refine wpAny_List_spliced (bZ (h pos pins s σ H _ I hq) fun us s1 ⟨xs,H1,I1,r,z,q⟩=>⟨by rw [← r.length]; exact z,?_⟩)
 have hf:H1 s1.heap.objs.size=none:=I1.hok.fresh (le_refl _)
 refine ⟨.ref s1.heap.objs.size,upd H1 s1.heap.objs.size (.lst xs),I1.laid (t':=s1.toks) (fun b u e=>get?_push_of_some _ e) (le_refl _) ?_,rfl,q _ hf⟩
 exact ⟨z,us,0,r,get?_push_size _ rfl⟩
end
noncomputable abbrev Sp:=List V->Hp->VK->XK->Prop
noncomputable abbrev DY:=List Env->Hp->Shared->XK->Value->Shared->Prop
structure NW (P:Program) (w:World) (K:Frag) (mg:Str->Option Value) (base:Heap) (A:Around) (outer:List Env) (s:Shared) (H:Hp):Prop where
 frames:A.frames=some outer
 mod:Mod K mg base
 bs:∀ b o,base.get? b=some o->s.heap.get? b=some o/\H b=none
 bsz:base.objs.size<=s.heap.objs.size
 funs:s.heap.FunFrames base outer
 frf:∀ b∈jA outer,H b=none
 hok:gG P w H s.heap
 bare:AllBare s.gens
noncomputable def CE (outer:List Env) (P:Program) (w:World) (H:Hp) (s:Shared) (Q:VK) (u:Value) (s':Shared):Prop:=
 ∃ v H',s'.os=s.os/\AllBare s'.gens/\Un (jA outer) [] H H' s.heap s'.heap/\gG P w H' s'.heap/\aV v u/\Q v H'
noncomputable def CR (CX:DY) (outer:List Env) (P:Program) (w:World) (H:Hp) (s:Shared) (Q:VK) (E:XK) (r:Result) (s':Shared):Prop:=
 match r with
|.ok (.ret u)=>CE outer P w H s Q u s'
|.ok _=>False
|.error e=>CX outer H s E e s'
structure iB (P:Program) (w:World) (K:Frag) (mg:Str->Option Value) (base:Heap) (CX:DY) (k:Nat) (f:Addr) (fd:FuncData) (ps:List Str) (sp:Sp):Prop where
 len:∀ vs H Q E,sp vs H Q E->vs.length=ps.length
 run:∀ (A:Around) (outer:List Env) (s:Shared) (H:Hp) (args:Args) (us:List Value) (vs:List V) (Q:VK) (E:XK),dJ k A->NW P w K mg base A outer s H->BindsTo s fd args (ps.zip us)->aM vs us->sp vs H Q E ->
  codeAny (model P w) A (.call (.ref f) args) (CR CX outer P w H s Q E) s
theorem iB.mono {P:Program}{w:World}{K:Frag}{mg:Str->Option Value}{base:Heap}{CX:DY}{j k:Nat}{f:Addr}{fd:FuncData}{ps:List Str}{sp:Sp} (F:iB P w K mg base CX j f fd ps sp) (h:j<=k) :
  iB P w K mg base CX k f fd ps sp:=⟨F.len,fun A outer s H args us vs Q E hr=>F.run A outer s H args us vs Q E (hr.mono h)⟩
section
variable {X:Cx} {pins:List (Addr×Obj)} {σ:St} {H:Hp} {s s':Shared}
theorem aL.env0 (I:aL X pins σ H s):NW X.prog X.w X.K X.mg X.base X.A X.stack s H:=
 ⟨I.ok.frames,I.ok.mod,I.bs,le_trans I.ok.bsz I.sz,I.stack,I.stkFree,I.hok,I.bare⟩
theorem aL.after {Q:VK}{u:Value} (I:aL X pins σ H s) (h:CE X.stack X.prog X.w H s Q u s'):EP X pins σ Q u s':=by
 obtain ⟨v,H',os,bare,un,hok,r,q⟩:=h
 obtain ⟨hh,g,d,t,os'⟩:=s'
 obtain rfl:os'=s.os:=os
 exact ⟨v,H',I.call (h':=hh) (g':=g) (d':=d) (t':=t) (ch:=[]) un hok bare (fun b z=>absurd z (by simp)),r,q⟩
end
noncomputable def zC (sp:Sp) (dvs:List V) (E:XK) (t:TA):TE:=fun σ H Q=>t σ H fun vs H1=>sp (vs++dvs) H1 Q E
noncomputable def fN (K:Frag) (fd:FuncData) (ps:List Str) (ds:List Value):Prop:=
 ∀ (s:Shared) (us:List Value),K.In s.heap->(us++ds).length=ps.length->BindsTo s fd ⟨us,[]⟩ (ps.zip (us++ds))
theorem fN.all {K:Frag}{fd:FuncData}{ps:List Str} (h:∀ us:List Value,us.length=ps.length->bindArgs fd ⟨us,[]⟩=pure (ps.zip us)):fN K fd ps []:=fun s us _ hl=>by
 rw [append_nil] at hl ⊢
 exact .of_eq (h us hl)
noncomputable def iI (CX:DY) (X:Cx) (E:XK):Prop:=∀ (pins:List (Addr×Obj)) (σ:St) (H:Hp) (s:Shared) (e:Value) (s':Shared),aL X pins σ H s->CX X.stack H s E e s'->X.xe e s'
section
variable {X:Cx} {CX:DY} {k:Nat} {f C:Addr} {fd:FuncData} {ps:List Str} {sp:Sp} {dvs:List V} {ds:List Value} {E:XK} {x m:Str} {p pos apos:Pos} {e o:Expr} {es:List Expr} {ta:TE} {t:TA}
theorem QT {pins:List (Addr×Obj)}{σ:St}{H:Hp}{s:Shared}{Q:VK}{us:List Value}{vs:List V} (F:iB X.prog X.w X.K X.mg X.base CX k f fd ps sp) (hr:dJ k X.A) (hb:fN X.K fd ps ds) (hd:aM dvs ds) (hx:iI CX X E)
  (I:aL X pins σ H s) (r:aM vs us) (h:sp (vs++dvs) H Q E):wpAny (model X.prog X.w) X.A (call (.ref f) us) (EP X pins σ Q) X.xe s:=by
 have r2:aM (vs++dvs) (us++ds):=r.append hd
 have hl:(us++ds).length=ps.length:=by rw [← r2.length]; exact F.len _ _ _ _ h
 refine wpAny_call (codeAny_mono (F.run X.A X.stack s H ⟨us,[]⟩ (us++ds) (vs++dvs) Q E hr I.env0 (hb s us I.kIn hl) r2 h) fun r s' hq=>?_)
 cases r with
|error e=>exact hx pins σ H s e s' I hq
|ok fl =>
  cases fl with
 |ret u=>exact I.after hq
 |next=>exact False.elim hq
 |brk=>exact False.elim hq
 |cont=>exact False.elim hq
theorem AH (F:iB X.prog X.w X.K X.mg X.base CX k f fd ps sp) (hr:dJ k X.A) (hg:Gl X x) (hm:X.mg x=some (.ref f)) (hk:keepIn X.K (.ref f)=true) (hb:fN X.K fd ps ds) (hd:aM dvs ds) (hx:iI CX X E)
  (ha:PA X (e::es) t) (hdb:(x==("__debug__":Str))=false:=by decide) (he:starEach (e::es) X.env=(false,eval e X.env)::starEach es X.env:=by rfl) (hpl:(backTo pos (starEach es X.env)).any (·.1)=false:=by rfl) :
  PE X (.Call (.Name x p) (e::es) [] pos) (zC sp dvs E t):=by
 intro pins s σ H Q I h
 refine wpAny_Call_Name_kw (iS I hg hm ?_ hdb)
 refine callWith_K (h₀:=X.base) I.ok.mod.kin hk (bZ (ha pos pins s σ H _ I h) fun us s1 ⟨vs,H1,I1,r,q⟩=>⟨I1.kIn,?_⟩) he hpl
 exact QT F hr hb hd hx I1 r q
end
noncomputable def PK (X:Cx) (kws:List Keyword) (t:TA):Prop:=
 ∀ (pos:Pos) (pins:List (Addr×Obj)) (s:Shared) (σ:St) (H:Hp) (Q:List V->Hp->Prop),aL X pins σ H s->t σ H Q->wpAny (model X.prog X.w) X.A (evalAll ((backToKw pos (keywordEach kws X.env)).map (·.2))) (AP X pins σ Q) X.xe s
section
variable {X:Cx} {CX:DY} {k:Nat} {f C:Addr} {fd:FuncData} {ps ks:List Str} {sp:Sp} {E:XK} {x m:Str} {p pos apos kpos:Pos} {e o:Expr} {es:List Expr} {kws:List Keyword} {te ta:TE} {t tk:TA} {nm:Option Str}
theorem SF:PK X [] wW:=fun _ _ _ _ H Q I h=>wpAny_evalAll_nil ⟨[],H,I,.nil,h⟩
theorem LU (ha:PE X e te) (hr:PK X kws t):PK X (⟨nm,e,kpos⟩::kws) (iZ te t):=by
 intro pos pins s σ H Q I h
 show wpAny _ _ (evalAll ((do let v ← eval e X.env; standAt pos; pure v)::(backToKw pos (keywordEach kws X.env)).map (·.2))) _ _ s
 refine wpAny_evalAll_cons (wpAny_bind (bZ (ha pins s σ H _ I h) fun u s1 ⟨x,H1,I1,r1,q1⟩=>wpAny_bind (wpAny_standAt (wpAny_pure ?_))))
 exact bZ (hr pos pins s1 σ H1 _ I1 q1) fun us s2 ⟨xs,H2,I2,r2,q2⟩=>⟨x::xs,H2,I2,.cons r1 r2,q2⟩
structure tV (K:Frag) (fd:FuncData) (ps ks:List Str) (g:List Value->List Value->List Value) (gV:List V->List V->List V):Prop where
 to:∀ (s:Shared) (us ws:List Value),K.In s.heap->(g us ws).length=ps.length->BindsTo s fd ⟨us,ks.zip ws⟩ (ps.zip (g us ws))
 rel:∀ {vs:List V} {us:List Value} {zs:List V} {ws:List Value},aM vs us->aM zs ws->aM (gV vs zs) (g us ws)
noncomputable def wY (sp:Sp) (gV:List V->List V->List V) (E:XK) (t tk:TA):TE:=fun σ H Q=>t σ H fun vs H1=>tk σ H1 fun zs H2=>sp (gV vs zs) H2 Q E
variable {g:List Value -> List Value -> List Value} {gV:List V -> List V -> List V}
theorem KM {pins:List (Addr×Obj)}{σ:St}{H:Hp}{s:Shared}{Q:VK}{us ws:List Value}{vs zs:List V} (F:iB X.prog X.w X.K X.mg X.base CX k f fd ps sp) (hr:dJ k X.A) (hb:tV X.K fd ps ks g gV) (hx:iI CX X E)
  (I:aL X pins σ H s) (r:aM vs us) (rz:aM zs ws) (h:sp (gV vs zs) H Q E):wpAny (model X.prog X.w) X.A (call (.ref f) us (ks.zip ws)) (EP X pins σ Q) X.xe s:=by
 have r2:=hb.rel r rz
 have hl:(g us ws).length=ps.length:=by rw [← r2.length]; exact F.len _ _ _ _ h
 refine wpAny_call (codeAny_mono (F.run X.A X.stack s H ⟨us,ks.zip ws⟩ (g us ws) (gV vs zs) Q E hr I.env0 (hb.to s us ws I.kIn hl) r2 h) fun r s' hq=>?_)
 cases r with
|error e=>exact hx pins σ H s e s' I hq
|ok fl =>
  cases fl with
 |ret u=>exact I.after hq
 |next=>exact False.elim hq
 |brk=>exact False.elim hq
 |cont=>exact False.elim hq
theorem GM (F:iB X.prog X.w X.K X.mg X.base CX k f fd ps sp) (hr:dJ k X.A) (hg:Gl X x) (hm:X.mg x=some (.ref f)) (hk:keepIn X.K (.ref f)=true) (hb:tV X.K fd ps ks g gV) (hx:iI CX X E)
  (ha:PA X (e::es) t) (hkw:PK X kws tk) (hall:(backToKw pos (keywordEach kws X.env)).all (·.1.isSome)=true:=by rfl) (hks:(backToKw pos (keywordEach kws X.env)).filterMap (·.1)=ks:=by rfl)
  (hdb:(x==("__debug__":Str))=false:=by decide) (he:starEach (e::es) X.env=(false,eval e X.env)::starEach es X.env:=by rfl)
  (hpl:((backTo pos (starEach (e::es) X.env)).any (·.1) || (backToKw pos (keywordEach kws X.env)).any (·.1.isNone))=false:=by rfl) :
  PE X (.Call (.Name x p) (e::es) kws pos) (wY sp gV E t tk):=by
 intro pins s σ H Q I h
 refine wpAny_Call_Name_kw (iS I hg hm ?_ hdb)
 refine PySem.W.callWith_KW (h₀:=X.base) I.ok.mod.kin hk hall (bZ (ha pos pins s σ H _ I h) fun us s1 ⟨vs,H1,I1,r,q⟩=>?_) hpl he
 refine bZ (hkw pos pins s1 σ H1 _ I1 q) fun ws s2 ⟨zs,H2,I2,rz,q2⟩=>⟨I2.kIn,?_⟩
 rw [hks]
 exact KM F hr hb hx I2 r rz q2
end
structure aO (N P:List Str) (sc:Scope):Prop where
 kind:sc.kind=.function
 co:sc.isCoroutine=false
 gen:sc.isGenerator=false
 nd:N.Nodup
 pre:N.take P.length=P
 par:∀ x∈P,sc.names.lookup x=some .local∨sc.names.lookup x=some .cell
 nofree:∀ y∈sc.names,y.2≠.free
theorem qT {kindOf:Str->Option NameKind}{x:Str}:∀ {binds:List (Str×Value)}{m:Str->Option Value},(∀ v,(x,v)∉binds)->bindL kindOf binds m x=m x
|[],_,_=>rfl
|(n,v)::r,m,h=>by
  unfold bindL
  rw [qT fun w hw=>h w (mem_cons_of_mem _ hw)]
  split
  ·have:x≠n:=by rintro rfl; exact h v mem_cons_self
   simp [this]
  ·rfl
theorem qV {kindOf:Str->Option NameKind}{x:Str}:∀ {binds:List (Str×Value)}{m:Str->Option Value},(∀ v,(x,v)∉binds)->bindC kindOf binds m x=m x
|[],_,_=>rfl
|(n,v)::r,m,h=>by
  unfold bindC
  rw [qV fun w hw=>h w (mem_cons_of_mem _ hw)]
  split
  ·rfl
  ·have:x≠n:=by rintro rfl; exact h v mem_cons_self
   simp [this]
theorem qU {kindOf:Str->Option NameKind}{x:Str}{v:Value}:∀ {P:List Str}{vs:List Value}{i:Nat}{m:Str->Option Value},P.Nodup->P[i]?=some x->vs[i]?=some v->kindOf x=some .local ->
  bindL kindOf (P.zip vs) m x=some v
|[],_,_,_,_,h,_,_=>by simp at h
|_::_,[],_,_,_,_,h,_=>by simp at h
|p::P,w::vs,0,m,nd,h1,h2,hk=>by
  simp at h1 h2; subst h1; subst h2
  show bindL kindOf ((p,w)::P.zip vs) m p=_
  unfold bindL
  rw [qT fun v hv=>(nodup_cons.mp nd).1 (of_mem_zip hv).1,if_pos hk]
  simp
|p::P,w::vs,i+1,m,nd,h1,h2,hk=>by
  show bindL kindOf ((p,w)::P.zip vs) m x=_
  unfold bindL
  exact qU (i:=i) (nodup_cons.mp nd).2 (by simpa using h1) (by simpa using h2) hk
theorem qW {kindOf:Str->Option NameKind}{x:Str}{v:Value}:∀ {P:List Str}{vs:List Value}{i:Nat}{m:Str->Option Value},P.Nodup->P[i]?=some x->vs[i]?=some v->kindOf x≠some .local ->
  bindC kindOf (P.zip vs) m x=some v
|[],_,_,_,_,h,_,_=>by simp at h
|_::_,[],_,_,_,_,h,_=>by simp at h
|p::P,w::vs,0,m,nd,h1,h2,hk=>by
  simp at h1 h2; subst h1; subst h2
  show bindC kindOf ((p,w)::P.zip vs) m p=_
  unfold bindC
  rw [qV fun v hv=>(nodup_cons.mp nd).1 (of_mem_zip hv).1,if_neg hk]
  simp
|p::P,w::vs,i+1,m,nd,h1,h2,hk=>by
  show bindC kindOf ((p,w)::P.zip vs) m x=_
  unfold bindC
  exact qW (i:=i) (nodup_cons.mp nd).2 (by simpa using h1) (by simpa using h2) hk
noncomputable def hX (N:List Str) (vs:List V):St:=vs.map some++List.replicate (N.length - vs.length) none
noncomputable def lG (CX:DY) (P:Program) (w:World) (K:Frag) (mg:Str->Option Value) (base:Heap) (N:List Str) (qual:Str) (scope:Scope) (f:Addr) (cd:Value) (A:Around) (outer:List Env) (s:Shared) (H:Hp) (E:XK):Cx where
 prog:=P
 w:=w
 K:=K
 mg:=mg
 base:=base
 A:=A.deeper (envOfC qual scope s.heap.objs.size f cd)
 N:=N
 s₀:=s
 H₀:=H
 env:=envOfC qual scope s.heap.objs.size f cd
 outer:=outer
 stack:=envOfC qual scope s.heap.objs.size f cd::outer
 ex:=[]
 calm:=true
 fn:=fun _=>true
 pn:=[]
 xe:=fun e s'=>wpAny (model P w) (A.deeper (envOfC qual scope s.heap.objs.size f cd)) (leaving (envOfC qual scope s.heap.objs.size f cd) e) (fun _ s''=>CX outer H s E e s'') (fun e' s''=>CX outer H s E e' s'') s'
theorem wH {sc:Scope}{n:Nat}{x:Str} (h:sc.names.lookup x=some .cell):∃ c,(cellsFrom n sc.names []).lookup x=some c:=by
 have q:=cellsFrom_some sc.names n [] (.inl h)
 exact Option.isSome_iff_exists.mp q
theorem DB {CX:DY}{P:Program}{w:World}{K:Frag}{mg:Str->Option Value}{base:Heap}{N ps:List Str}{qual:Str}{scope:Scope}{f:Addr}{cd:Value}{A:Around}{outer:List Env}{s s1:Shared}{H:Hp}{E:XK}{us:List Value}{vs:List V}
  (S:aO N ps scope) (hd:A.handled=none) (e0:NW P w K mg base A outer s H) (hl:vs.length=ps.length) (r:aM vs us)
  (x:InCallC s s.heap.objs.size (bindL (envOfC qual scope s.heap.objs.size f cd).kindOf (ps.zip us) fun _=>none) (cellsFrom (s.heap.objs.size+1) scope.names []) (bindC (envOfC qual scope s.heap.objs.size f cd).kindOf (ps.zip us) fun _=>none) s1) :
  aL (lG CX P w K mg base N qual scope f cd A outer s H E) [] (hX N vs) H s1:=by
 have hpl:ps.length<=N.length:=by have:=congrArg List.length S.pre; rw [length_take] at this; omega
 obtain ⟨h1,tk,rfl,hk⟩:=x.done
 have noA:∀ b:Addr,b∉(lG CX P w K mg base N qual scope f cd A outer s H E).ex:=fun b z=>absurd (show b∈([]:List Addr) from z) (by simp)
 refine ⟨⟨e0.mod,S.kind,rfl,rfl,le_refl _,fun y z c h1 h2=>?_,fun y hy=>?_,fun y c _ h=>?_,fun _=>hd,Around.frames_deeper e0.frames,.inr ⟨rfl,rfl⟩,fun b z=>absurd z (noA b),e0.bs,e0.bsz,fun b _ _=>noA b,fun b z=>absurd z (noA b),e0.funs,e0.frf⟩,
  rfl,e0.bare,Un.kept hk,⟨_,x.toInCall.ns,fun i y v h1 h2 h3=>?_⟩,fun y c h=>⟨_,x.cell y c h⟩,e0.hok.fresh (le_refl _),fun y c h=>?_,fun p hp=>absurd (show p∈([]:List (Addr×Obj)) from hp) (by simp),e0.hok.kept hk,?_⟩
 ·exact name_of_addr x.apart (PySem.mem_of_lookup h1) (PySem.mem_of_lookup h2)
 ·have hy:scope.names.lookup y=some .cell∨scope.names.lookup y=some .free:=hy
  rcases hy with hy|hy
  ·exact wH hy
  ·exact absurd rfl (S.nofree _ (PySem.mem_of_lookup hy))
 ·exact le_of_lt (x.above y c (PySem.mem_of_lookup h))
 ·have hi:i < vs.length:=by
   unfold hX at h2
   by_cases hi:i < vs.length
   ·exact hi
   ·rw [List.getElem?_append_right (by simpa using hi)] at h2
    rw [List.getElem?_replicate] at h2
    split at h2 <;> cases h2
  have ha:vs[i]?=some v:=by
   unfold hX at h2
   rw [List.getElem?_append_left (by simpa using hi),List.getElem?_map] at h2
   cases e:vs[i]? with
  |none=>rw [e] at h2; cases h2
  |some a=>rw [e] at h2; cases h2; rfl
  obtain ⟨u,hu,rv⟩:=r.get ha
  have hp:ps[i]?=some y:=by
   rw [← S.pre,List.getElem?_take_of_lt (by omega)]; exact h1
  have ndP:ps.Nodup:=by rw [← S.pre]; exact S.nd.sublist (List.take_sublist _ _)
  refine ⟨u,rv,?_⟩
  rcases S.par y (mem_of_getElem? hp) with k|k
  ·exact .inl ⟨k,qU ndP hp hu k⟩
  ·obtain ⟨c,e⟩:=wH (n:=s.heap.objs.size+1) k
   refine .inr ⟨.inl k,c,e,?_⟩
   have q:=x.cell y c e
   rw [qW ndP hp hu (by show scope.names.lookup y≠_; rw [k]; decide)] at q
   exact q
 ·exact e0.hok.fresh (le_of_lt (x.above y c (PySem.mem_of_lookup h)))
 ·unfold hX
  show _=N.length
  rw [length_append,length_map,length_replicate]
  omega
theorem vW {CX:DY}{P:Program}{w:World}{K:Frag}{mg:Str->Option Value}{base:Heap}{k:Nat}{f:Addr}{name qual:Str}{params:Arguments}{body:List Stmt}{scope:Scope}{dV kV doc pm cdv ct oc:Value}{an od:Option Addr}
  {osl:Array (Option Value)} {N ps:List Str} {sp:Sp} (lk:K.lookup f=some ⟨oc,od,.func (fnOf name qual params body scope dV kV doc pm an cdv ct),osl⟩) (hcd:PySem.W.codeIn K cdv qual=true) (S:aO N ps scope)
  (len:∀ vs H Q E,sp vs H Q E->vs.length=ps.length)
  (hbody:∀ (A:Around) (outer:List Env) (s:Shared) (H:Hp) (vs:List V) (Q:VK) (E:XK),dJ k (A.deeper (envOfC qual scope s.heap.objs.size f cdv))->sp vs H Q E ->
   ∃ t,tS (lG CX P w K mg base N qual scope f cdv A outer s H E) body t/\t { nx:=fun _ H'=>Q .non H',rt:=Q } (hX N vs) H) :
  iB P w K mg base CX (k+1) f (fnOf name qual params body scope dV kV doc pm an cdv ct) ps sp:=by
 refine ⟨len,fun A outer s H args us vs Q E hr e0 hb r hsp=>?_⟩
 have hl:=len _ _ _ _ hsp
 have KX:K.In s.heap:=e0.mod.kin.keeps fun b o e=>(e0.bs b o e).1
 have lim:s.heap.NoLimit:=e0.mod.nolimit.keeps fun b o e=>(e0.bs b o e).1
 have hkind:∀ y∈ps.zip us,scope.names.lookup y.1=some .local∨(scope.names.lookup y.1=some .cell/\((cellsFrom (s.heap.objs.size+1) scope.names []).lookup y.1).isSome=true):=fun ⟨n,v⟩ hy=>by
  rcases S.par n (of_mem_zip hy).1 with q|q
  ·exact .inl q
  ·exact .inr ⟨q,cellsFrom_some _ _ _ (.inl q)⟩
 refine codeAny_call_function hr.depth (KX _ _ lk) rfl S.co S.gen rfl (PySem.W.codeRec_of KX hcd) (hb _ _ _ _ ?_)
 refine wpAny_newFunctionEnv_cells S.kind hkind fun env he s1 x=>?_
 subst he
 refine ⟨lim.keeps x.toInCall.keep,codeAny_func ?_⟩
 obtain ⟨t,ht,hq⟩:=hbody A outer s H vs Q E (hr.deeper _) hsp
 have I:aL (lG CX P w K mg base N qual scope f cdv A outer s H E) [] (hX N vs) H s1:=DB S hr.hd e0 hl r x
 refine wpAny_mono (ht [] s1 (hX N vs) H _ I hq) (fun fl s' hs=>?_) fun e s' hs=>hs
 have fin:∀ {σ':St} {H':Hp} {v:V} {u:Value},aL (lG CX P w K mg base N qual scope f cdv A outer s H E) [] σ' H' s'->aV v u->Q v H'->CE outer P w H s Q u s':=
  fun {σ' H' v u} J rv q=>⟨v,H',J.os,J.bare,J.base,J.hok,rv,q⟩
 cases fl with
|ret u =>
  obtain ⟨v,σ',H',J,rv,q⟩:=hs
  exact fin J rv q
|next =>
  obtain ⟨σ',H',J,q⟩:=hs
  exact fin (v:=V.non) (u:=Value.none) J rfl q
|brk =>
  obtain ⟨_,_,_,q⟩:=hs
  exact False.elim q
|cont =>
  obtain ⟨_,_,_,q⟩:=hs
  exact False.elim q
end
section
section
variable {X:Cx} {x:Str} {p pos:Pos} {e:Expr} {es:List Expr} {t:TA} {id T:String} {r:List V -> Hp -> VK -> Prop}
noncomputable def ZI (r:List V->Hp->VK->Prop) (t:TA):TE:=fun σ H Q=>t σ H fun vs H1=>r vs H1 Q
theorem aX (hc:cK X (.builtin id) r) (hg:Gl X x) (hm:X.mg x=none) (hv:bootBuiltins x=some (.builtin id)) (ha:PA X (e::es) t) (hn:x≠"__name__":=by decide) (hdb:(x==("__debug__":Str))=false:=by decide)
  (he:starEach (e::es) X.env=(false,eval e X.env)::starEach es X.env:=by rfl) (hpl:(backTo pos (starEach es X.env)).any (·.1)=false:=by rfl):PE X (.Call (.Name x p) (e::es) [] pos) (ZI r t):=by
 intro pins s σ H Q I h
 refine wpAny_Call_Name_kw (fV I hg hm hv ?_ hn hdb)
 exact PyProof.Rows.callWith_builtin1 (bZ (ha pos pins s σ H _ I h) fun us s1 ⟨vs,H1,I1,r1,q1⟩=>hc pins s1 σ H1 vs us Q I1 r1 q1) he hpl
theorem bG (hc:cK X (.type T) r) (hg:Gl X x) (hm:X.mg x=none) (hv:bootBuiltins x=some (.type T)) (ha:PA X (e::es) t) (hn:x≠"__name__":=by decide) (hdb:(x==("__debug__":Str))=false:=by decide)
  (he:starEach (e::es) X.env=(false,eval e X.env)::starEach es X.env:=by rfl) (hpl:(backTo pos (starEach es X.env)).any (·.1)=false:=by rfl):PE X (.Call (.Name x p) (e::es) [] pos) (ZI r t):=by
 intro pins s σ H Q I h
 refine wpAny_Call_Name_kw (fV I hg hm hv ?_ hn hdb)
 exact PyProof.Rows.callWith_type1 (bZ (ha pos pins s σ H _ I h) fun us s1 ⟨vs,H1,I1,r1,q1⟩=>hc pins s1 σ H1 vs us Q I1 r1 q1) he hpl
end
end
end L2
namespace HT
open PySem PyProof.Rows
section
open PySem.SeqAt
open PySem.AutoSeq1 (wpAny_loadPart')
open PySem.MeetsSeq PySem.MeetsSeq2 PySem.MeetsSeq3
end
section
variable {prog:Program} {w:World} {A:Around} {E:Value -> Shared -> Prop} {s:Shared}
theorem cat_tup {t b:Addr}{vs ws:List Value}{Q:Value->Shared->Prop} (ht:IsTup s.heap t vs.toArray) (hb:IsTup s.heap b ws.toArray) (hv:vs≠[])
  (h1:ws=[]->Q (.ref t) s) (h2:ws≠[]->Q (.ref s.heap.objs.size) { s with heap:=s.heap.push { cls:=.type "tuple",data:=.seq (vs++ws).toArray } })
  (hsz:vs.length+ws.length<=sizeLine):wpAny (model prog w) A (binaryOp .Add (.ref t) (.ref b)) Q E s:=by
 obtain ⟨⟨cls,dd,data,sl⟩,ho,hc,n,hd⟩:=id ht
 obtain ⟨⟨cls2,dd2,data2,sl2⟩,ho2,hc2,n2,hd2⟩:=id hb
 simp only at hc hd hc2 hd2
 subst hc hd hc2 hd2
 have e:vs.toArray++ws.toArray=(vs++ws).toArray:=by simp
 by_cases hw:ws=[]
 ·exact concat_meets ⟨_,ho,rfl⟩ ⟨_,ho2,rfl⟩ noFill_tuple_add seq_tuple_add slot_tuple_add PySem.F.entry_tuple_add (PySem.F.args_tuple_add_2 _ _)
   (tuple_addW1 t b vs.toArray ws.toArray n n2 dd dd2 sl sl2 (by simpa using hv) (by simp [hw])) ⟨ho,ho2,h1 hw⟩
 ·refine concat_meets ⟨_,ho,rfl⟩ ⟨_,ho2,rfl⟩ noFill_tuple_add seq_tuple_add slot_tuple_add PySem.F.entry_tuple_add (PySem.F.args_tuple_add_2 _ _)
   (tuple_addW2 t b vs.toArray ws.toArray n n2 dd dd2 sl sl2 (by simpa using hv) (by simpa using hw) (by rw [size_toArray,size_toArray]; exact hsz)) ⟨ho,ho2,?_⟩
  rw [e]
  exact h2 hw
noncomputable def sIx (n d:Nat):Option Int->Nat
|none=>d
|some v=>if v < 0 then (v+(n:Int)).toNat else min v.toNat n
theorem QS (n d:Nat) (hd:d<=n) (o:Option Int):sIx n d o<=n:=by
 cases o with
|none=>exact hd
|some v =>
  show (if v < 0 then (v+(n:Int)).toNat else min v.toNat n)<=n
  by_cases hv:v < 0
  ·rw [if_pos hv]; omega
  ·rw [if_neg hv]; exact Nat.min_le_right _ _
theorem BK (v:Int) (n d:Nat):(if v < 0 then max (v+(n:Int)) 0 else min v (n:Int))=((sIx n d (some v):Nat):Int):=by
 show (if v < 0 then max (v+(n:Int)) 0 else min v (n:Int))=(((if v < 0 then (v+(n:Int)).toNat else min v.toNat n):Nat):Int)
 by_cases hv:v < 0
 ·simp only [if_pos hv]; omega
 ·simp only [if_neg hv]; omega
theorem yR (lo hi:Option Int) (n:Nat):Builtin.Slice.sliceAdjust lo hi 1 (n:Int)=(((sIx n 0 lo:Nat):Int),((sIx n n hi:Nat):Int)):=by
 have h1:¬ ((1:Int) < 0):=by omega
 unfold Builtin.Slice.sliceAdjust
 simp only [h1,if_false]
 refine Prod.ext ?_ ?_
 ·cases lo with
 |none=>rfl
 |some v=>exact BK v n 0
 ·cases hi with
 |none=>rfl
 |some v=>exact BK v n n
theorem xN (i j:Nat):Builtin.Slice.slicePlaces (i:Int) (j:Int) 1=j - i:=by
 unfold Builtin.Slice.slicePlaces
 have h1:(1:Int) > 0:=by omega
 simp only [h1,if_true,Int.ediv_one]
 split <;> omega
theorem nI {v:Value}{o:Option Int}{Q:Option Int->Shared->Prop} (p:IsPart v o) (h:Q o s):wpAny (model prog w) A (Builtin.Slice.slicePartIndex v) Q E s:=by
 cases p with
|none=>exact slicePart_none h
|int i t=>exact slicePart_int h
theorem kY {sl:Addr}{vl vu:Value}{lo hi:Option Int}{n:Nat}{Q:Int×Int×Nat->Shared->Prop} (hs:s.heap.IsSliceOf sl vl vu .none) (pl:IsPart vl lo) (pu:IsPart vu hi)
  (h:Q (((sIx n 0 lo:Nat):Int),1,sIx n n hi - sIx n 0 lo) s):wpAny (model prog w) A (Builtin.Slice.sliceApplied (.ref sl) (pure (n:Int))) Q E s:=by
 obtain ⟨os,hos,hcs,hds⟩:=id hs
 unfold Builtin.Slice.sliceApplied Builtin.Slice.sliceFields
 refine wpAny_bind (wpAny_bind (wpAny_field hos hds (x:=vl) rfl (wpAny_bind (wpAny_field hos hds (x:=vu) rfl (wpAny_bind (wpAny_field hos hds (x:=.none) rfl (wpAny_pure ?_)))))))
 refine wpAny_bind (slicePart_none ?_)
 show wpAny _ _ (if ((1:Int)==0)=true then _ else _) _ _ s
 rw [if_neg (by decide)]
 refine wpAny_bind (nI pl (wpAny_bind (nI pu (wpAny_bind (wpAny_pure ?_)))))
 show wpAny _ _ (match Builtin.Slice.sliceAdjust lo hi 1 (n:Int) with|(lo,hi)=>pure (lo,(1:Int),Builtin.Slice.slicePlaces lo hi 1)) _ _ s
 rw [yR lo hi n]
 show wpAny _ _ (pure (((sIx n 0 lo:Nat):Int),(1:Int),Builtin.Slice.slicePlaces ((sIx n 0 lo:Nat):Int) ((sIx n n hi:Nat):Int) 1)) _ _ s
 rw [xN]
 exact wpAny_pure h
theorem GH (xs:Array Value) (i k:Nat):((List.range k).filterMap fun (m:Nat)=>xs[((i:Int)+(m:Int) * 1).toNat]?).toArray=((xs.toList.drop i).take k).toArray:=by
 have e:(fun (m:Nat)=>xs[((i:Int)+(m:Int) * 1).toNat]?)=fun m=>xs[i+m]?:=by
  funext m
  have:((i:Int)+(m:Int) * 1).toNat=i+m:=by omega
  rw [this]
 rw [e]
 have:=pick_run xs i k
 rw [List.filterMap_map] at this
 have e2:((fun x=>xs[x]?) ∘ fun x=>i+x)=fun m=>xs[i+m]?:=rfl
 rw [e2] at this
 rw [this]
theorem getItem_tuple_cut {t sl:Addr}{items:Array Value}{vl vu:Value}{lo hi:Option Int}{Q:Value->Shared->Prop} (ht:IsTup s.heap t items) (hs:s.heap.IsSliceOf sl vl vu .none) (pl:IsPart vl lo) (pu:IsPart vu hi)
  (hw:¬ (sIx items.size 0 lo=0/\sIx items.size items.size hi=items.size))
  (h:Q (.ref s.heap.objs.size) { s with heap:=s.heap.push { cls:=.type "tuple",data:=.seq ((items.toList.drop (sIx items.size 0 lo)).take (sIx items.size items.size hi - sIx items.size 0 lo)).toArray } })
  (hsz:items.size<=sizeLine):wpAny (model prog w) A (getItem (.ref t) (.ref sl)) Q E s:=by
 have htake:sizeOk (.seq ((items.toList.drop (sIx items.size 0 lo)).take (sIx items.size items.size hi - sIx items.size 0 lo)).toArray):=by
  show ((items.toList.drop (sIx items.size 0 lo)).take (sIx items.size items.size hi - sIx items.size 0 lo)).toArray.size<=sizeLine
  rw [size_toArray,length_take,length_drop,Array.length_toList]
  omega
 have hj:sIx items.size items.size hi<=items.size:=QS _ _ (le_refl _) hi
 obtain ⟨os,hos,hcs,hds⟩:=id hs
 have hTs:s.TypeIs (.ref sl) "slice":=⟨os,hos,hcs⟩
 unfold getItem
 try with_reducible refine wpAny_holding ?_
 first|refine wpAny_bind (wpAny_pure ?_)|skip
 refine wpAny_bind (wpAny_sequenceKey ht.typeIs (by decide) ?_)
 refine wpAny_bind (wpAny_callSpecial?_slot (name:=Str.ofString "__getitem__") ht.typeIs PyProof.Rows.slot_tuple_getitem
  (wpAny_call_entry PyProof.Rows.slot_tuple_getitem ht.typeIs entry_tuple_getitem ?_ (args_tuple_getitem _ _)))
 show wpAny _ _ (Builtin.Tuple.tupleItemsOf (.ref t) >>= _) _ _ s
 refine wpAny_bind (tupleItemsOf_ ht ?_)
 refine wpAny_bind (wpAny_typeOf hTs ?_)
 rw [if_pos (by decide)]
 refine wpAny_bind (kY hs pl pu ?_)
 have hno:¬ ((((sIx items.size 0 lo:Nat):Int)==0&&(1:Int)==1&&(sIx items.size items.size hi - sIx items.size 0 lo)==items.size)=true):=by
  intro q
  rw [Bool.and_eq_true,Bool.and_eq_true] at q
  have q1:((sIx items.size 0 lo:Nat):Int)=0:=eq_of_beq q.1.1
  have q2:sIx items.size items.size hi - sIx items.size 0 lo=items.size:=eq_of_beq q.2
  exact hw ⟨by omega,by omega⟩
 show wpAny _ _ (if (((sIx items.size 0 lo:Nat):Int)==0&&(1:Int)==1&&(sIx items.size items.size hi - sIx items.size 0 lo)==items.size)=true then _ else _) _ _ s
 rw [if_neg hno,GH]
 first
 |exact wpAny_bind (m:=Builtin.Tuple.tupleExact _) (wpAny_newObj_type (wpAny_pure ⟨_,rfl,wpAny_pure h⟩) htake)
 |exact wpAny_bind (m:=Builtin.Tuple.tupleExact _) (wpAny_newObj_type (wpAny_bind (wpAny_pure (wpAny_pure ⟨_,rfl,wpAny_pure h⟩))) htake)
 |exact wpAny_bind (wpAny_bind (m:=Builtin.Tuple.tupleExact _) (wpAny_newObj_type (wpAny_pure (wpAny_pure ⟨_,rfl,wpAny_pure h⟩)) htake))
 |exact wpAny_bind (wpAny_bind (m:=Builtin.Tuple.tupleExact _) (wpAny_newObj_type (wpAny_pure ⟨_,rfl,wpAny_pure h⟩) htake))
end
end HT
namespace L2
open PySem PySem.Spec PyProof.Rows
section
noncomputable abbrev TO:=St->Hp->(Option Int->Hp->Prop)->Prop
noncomputable def PO (X:Cx) (e:Option Expr) (t:TO):Prop:=
 ∀ (pins:List (Addr×Obj)) (s:Shared) (σ:St) (H:Hp) (Q:Option Int->Hp->Prop),aL X pins σ H s->t σ H Q ->
  wpAny (model X.prog X.w) X.A (evalPart e X.env) (fun u s'=>∃ o H',aL X pins σ H' s'/\IsPart u o/\Q o H') X.xe s
noncomputable def zA:TO:=fun _ H Q=>Q none H
noncomputable def OC (t:TE):TO:=fun σ H Q=>t σ H fun x H1=>∃ i,x=.int i/\Q (some i) H1
section
variable {X:Cx} {e:Expr} {te:TE} {lo hi:Option Expr} {tl th:TO} {pos p2:Pos}
theorem LS:PO X none zA:=by
 intro pins s σ H Q I h
 rw [evalPart_none]
 exact wpAny_pure ⟨none,H,I,.none,h⟩
theorem sI (h:PE X e te):PO X (some e) (OC te):=by
 intro pins s σ H Q I hw
 rw [evalPart_some]
 refine bZ (h pins s σ H _ I hw) fun u s1 ⟨x,H1,I1,r1,q1⟩=>?_
 obtain ⟨i,rfl,q⟩:=q1
 obtain ⟨t,rfl⟩:=r1
 exact ⟨some i,H1,I1,.int i t,q⟩
noncomputable def NU (X:Cx) (r:V->Option Int->Option Int->Hp->VK->Prop):Prop:=
 ∀ (pins:List (Addr×Obj)) (s:Shared) (σ:St) (H:Hp) (x:V) (v vl vu:Value) (lo hi:Option Int) (sl:Addr) (Q:VK),aL X pins σ H s->aV x v->s.heap.IsSliceOf sl vl vu .none->IsPart vl lo->IsPart vu hi->r x lo hi H Q ->
  ∃ T id,typeLookup (.type T) "__getitem__"=pure (some (.builtin id))/\s.TypeIs v T/\wpAny (model X.prog X.w) X.A (getItem v (.ref sl)) (EP X pins σ Q) X.xe s
theorem NU.or {r r':V->Option Int->Option Int->Hp->VK->Prop} (h:NU X r) (h':NU X r'):NU X (fun x lo hi H Q=>r x lo hi H Q∨r' x lo hi H Q):=by
 intro pins s σ H x v vl vu lo hi sl Q I rx hs pl pu q
 rcases q with q|q
 ·exact h pins s σ H x v vl vu lo hi sl Q I rx hs pl pu q
 ·exact h' pins s σ H x v vl vu lo hi sl Q I rx hs pl pu q
noncomputable def Bi (r:V->Option Int->Option Int->Hp->VK->Prop) (te:TE) (tl th:TO):TE:=fun σ H Q=>te σ H fun x H1=>tl σ H1 fun l H2=>th σ H2 fun u H3=>r x l u H3 Q
theorem uY {r:V->Option Int->Option Int->Hp->VK->Prop} (hr:NU X r) (he:PE X e te) (hl:PO X lo tl) (hu:PO X hi th):PE X (.Subscript e (.Slice lo hi none p2) pos) (Bi r te tl th):=by
 intro pins s σ H Q I h
 refine Subscript_ (bZ (he pins s σ H _ I h) fun v s1 ⟨x,H1,I1,r1,q1⟩=>?_)
 refine wpAny_Slice (bZ (hl pins s1 σ H1 _ I1 q1) fun vl s2 ⟨l,H2,I2,pl,q2⟩=>bZ (hu pins s2 σ H2 _ I2 q2) fun vu s3 ⟨u,H3,I3,pu,q3⟩=>?_)
 rw [evalPart_none]
 refine wpAny_pure ?_
 have I4:aL X pins σ H3 { s3 with heap:=s3.heap.push { cls:=.type "slice",data:=.fields #[vl,vu,.none] } }:=I3.kept (t':=s3.toks) fun b ob q=>get?_push_of_some _ q
 obtain ⟨T,id,hT,ht,hg⟩:=hr pins { s3 with heap:=s3.heap.push { cls:=.type "slice",data:=.fields #[vl,vu,.none] } } σ H3 x v vl vu l u s3.heap.objs.size Q I4 r1 (Heap.IsSliceOf.new ..) pl pu q3
 show wpAny (model X.prog X.w) X.A (subscriptTail e (.Slice lo hi none p2) v (.ref s3.heap.objs.size)) (EP X pins σ Q) X.xe { s3 with heap:=s3.heap.push { cls:=.type "slice",data:=.fields #[vl,vu,.none] } }
 exact tail_any (ops:=[.ref s3.heap.objs.size,v]) ht hT hg (by with_unfolding_all rfl)
noncomputable def tE (xs:List V) (lo hi:Option Int):List V:=(xs.drop (HT.sIx xs.length 0 lo)).take (HT.sIx xs.length xs.length hi - HT.sIx xs.length 0 lo)
theorem lN (xs:List V) (lo hi:Option Int):(tE xs lo hi).length<=xs.length:=by
 unfold tE
 rw [length_take,length_drop]
 omega
noncomputable def XL (K:Frag):V->Option Int->Option Int->Hp->VK->Prop:=fun x lo hi H Q=>∃ a xs,x=.ref a/\tX K H a xs /\
 ¬ (HT.sIx xs.length 0 lo=0/\HT.sIx xs.length xs.length hi=xs.length)/\∀ p,H p=none->Q (.ref p) (upd H p (.tup (tE xs lo hi)))
theorem QO:NU X (XL X.K):=by
 intro pins s σ H x v vl vu lo hi sl Q I rx hs pl pu h
 obtain ⟨a,xs,rfl,hx,hw,q⟩:=h
 cases rx
 obtain ⟨its,r,ht,hz⟩:=I.tuple hx
 have hlen:its.toArray.size=xs.length:=by rw [size_toArray]; exact r.length.symm
 refine ⟨"tuple",_,PyProof.Rows.slot_tuple_getitem.lookup,ht.typeIs,?_⟩
 refine HT.getItem_tuple_cut ht hs pl pu (by rw [hlen]; exact hw) ?_ (by rw [hlen]; exact hz)
 rw [hlen]
 refine ⟨.ref s.heap.objs.size,_,I.laid (t':=s.toks) (o:=.tup (tE xs lo hi)) (fun b ob q=>get?_push_of_some _ q) (le_refl _) ?_,rfl,q _ (I.hok.fresh (le_refl _))⟩
 exact ⟨⟨le_trans (lN xs lo hi) hz,_,get?_push_size _ rfl,rfl⟩,_,(r.drop (HT.sIx xs.length 0 lo)).take (HT.sIx xs.length xs.length hi - HT.sIx xs.length 0 lo),IsTup.new _ _⟩
noncomputable def OY (K:Frag):R2:=fun x y H Q=>∃ a b xs ys,x=.ref a/\y=.ref b/\tX K H a xs/\tX K H b ys/\xs≠[]/\xs.length+ys.length<=sizeLine /\
 (ys=[]->Q (.ref a) H)/\(ys≠[]->∀ p,H p=none->Q (.ref p) (upd H p (.tup (xs++ys))))
theorem aM.nil_iff {xs:List V}{us:List Value} (r:aM xs us):us=[] ↔ xs=[]:=by
 cases r with
|nil=>simp
|cons _ _=>simp
theorem MB:gA X (binaryOp .Add) (OY X.K):=by
 intro pins s σ H x y v u Q I rx ry h
 obtain ⟨a,b,xs,ys,rfl,rfl,ha,hb,hx,hz,q1,q2⟩:=h
 cases rx
 cases ry
 obtain ⟨its,r1,p1,_⟩:=I.tuple ha
 obtain ⟨its2,r2,p2,_⟩:=I.tuple hb
 refine HT.cat_tup p1 p2 (fun z=>hx (r1.nil_iff.mp z)) (fun z=>⟨.ref a,H,I,rfl,q1 (r2.nil_iff.mp z)⟩) (fun z=>?_) (by rw [← r1.length,← r2.length]; exact hz)
 refine ⟨.ref s.heap.objs.size,_,I.laid (t':=s.toks) (o:=.tup (xs++ys)) (fun b ob q=>get?_push_of_some _ q) (le_refl _) ?_,rfl,q2 (fun w=>z (r2.nil_iff.mpr w)) _ (I.hok.fresh (le_refl _))⟩
 exact ⟨⟨by rw [length_append]; exact hz,_,get?_push_size _ rfl,rfl⟩,_,r1.append r2,IsTup.new _ _⟩
end
end
section
noncomputable def PN (n:Nat) (i:Int):Option Nat:=if 0<=i then (if i < n then some i.toNat else none) else if -(n:Int)<=i then some (i+n).toNat else none
noncomputable def kO {α:Type} (xs:List α) (i:Int):Option α:=(PN xs.length i).bind fun j=>xs[j]?
theorem MT {n:Nat}{i:Int}{j:Nat} (h:PN n i=some j):seqIndex? i n=some j/\j < n/\-(n:Int)<=i/\i < n:=by
 unfold PN at h
 by_cases h0:0<=i
 ·rw [if_pos h0] at h
  by_cases h1:i < n
  ·rw [if_pos h1] at h
   have e:i.toNat=j:=Option.some.inj h
   exact ⟨by rw [seqIndex_of h0 h1,e],by omega,by omega,h1⟩
  ·rw [if_neg h1] at h; cases h
 ·rw [if_neg h0] at h
  by_cases h1:-(n:Int)<=i
  ·rw [if_pos h1] at h
   have e:(i+n).toNat=j:=Option.some.inj h
   exact ⟨by rw [seqIndex_neg (by omega) h1,e],by omega,h1,by omega⟩
  ·rw [if_neg h1] at h; cases h
theorem tM {α:Type}{xs:List α}{i:Int}{v:α} (h:kO xs i=some v):∃ j,seqIndex? i xs.length=some j/\xs[j]?=some v/\j < xs.length/\-(xs.length:Int)<=i/\i < xs.length:=by
 unfold kO at h
 cases e:PN xs.length i with
|none=>rw [e] at h; cases h
|some j =>
  rw [e] at h
  obtain ⟨h1,h2,h3,h4⟩:=MT e
  exact ⟨j,h1,h,h2,h3,h4⟩
theorem cJ {α:Type}{xs:List α}{j:Nat}{v:α} (h:xs[j]?=some v):kO xs (j:Int)=some v:=by
 have hj:j < xs.length:=(List.getElem?_eq_some_iff.mp h).1
 have e:PN xs.length (j:Int)=some j:=by
  unfold PN
  rw [if_pos (by omega),if_pos (by omega)]; simp
 unfold kO; rw [e]; exact h
theorem JA {α:Type} (xs:List α) (v:α):kO (xs++[v]) (-1)=some v:=by
 have hl:(xs++[v]).length=xs.length+1:=by simp
 have e:PN (xs++[v]).length (-1)=some xs.length:=by
  unfold PN
  rw [hl,if_neg (by decide),if_pos (by omega)]
  congr 1
  omega
 unfold kO
 rw [e]
 show (xs++[v])[xs.length]?=some v
 simp
noncomputable def NV (b:Expr):Prop:=∀ o i,subscripted b false o i=operate [o,i] (getItem o i)
noncomputable def JJ (X:Cx) (r:R2):Prop:=
 ∀ (value slice:Expr) (pins:List (Addr×Obj)) (s:Shared) (σ:St) (H:Hp) (x y:V) (v u:Value) (Q:VK),aL X pins σ H s->aV x v->aV y u->r x y H Q ->
  subscripted slice false v u=operate [v,u] (getItem v u)->wpAny (model X.prog X.w) X.A (subscriptTail value slice v u) (EP X pins σ Q) X.xe s
noncomputable def ZB (X:Cx) (id:String) (r:V->List V->Hp->VK->Prop):Prop:=
 ∀ (pins:List (Addr×Obj)) (s:Shared) (σ:St) (H:Hp) (x:V) (xs:List V) (v:Value) (us:List Value) (Q:VK),aL X pins σ H s->aV x v->aM xs us->r x xs H Q ->
  wpAny (model X.prog X.w) X.A (call (.builtin id) (v::us)) (EP X pins σ Q) X.xe s
section
variable {X:Cx} {a b:Expr} {ta tb:TE} {pos:Pos}
theorem JJ.or {r r':R2} (h:JJ X r) (h':JJ X r'):JJ X (fun x y H Q=>r x y H Q∨r' x y H Q):=by
 intro value slice pins s σ H x y v u Q I rx ry q hs
 rcases q with q|q
 ·exact h value slice pins s σ H x y v u Q I rx ry q hs
 ·exact h' value slice pins s σ H x y v u Q I rx ry q hs
theorem bQ {r:R2} (hr:JJ X r) (ha:PE X a ta) (hb:PE X b tb) (hs:NV b):PE X (.Subscript a b pos) (UV r ta tb):=by
 intro pins s σ H Q I h
 exact Subscript_ (UK ha hb I h fun v u s2 x y H2 I2 rx ry q=>hr a b pins s2 σ H2 x y v u Q I2 rx ry q (hs _ _))
noncomputable def LN (K:Frag):R2:=fun x y H Q=>∃ p xs i v,x=.ref p/\y=.int i/\bS K H p xs/\kO xs i=some v/\Q v H
noncomputable def LM (K:Frag):R2:=fun x y H Q=>∃ p xs i v,x=.ref p/\y=.int i/\tX K H p xs/\kO xs i=some v/\Q v H
noncomputable def RV:R2:=fun x y H Q=>∃ z i c,x=.str z/\y=.int i/\z.length<=sizeLine/\kO z.cps.toList i=some c/\Q (.str ⟨#[c]⟩) H
theorem MS:JJ X (LN X.K):=by
 intro value slice pins s σ H x y v u Q I rx ry h hs
 obtain ⟨p,xs,i,z,rfl,rfl,hq,he,q⟩:=h
 cases rx
 obtain ⟨t,rfl⟩:=ry
 obtain ⟨its,r,pl,hz⟩:=I.list hq
 obtain ⟨j,h1,h2,h3,h4,h5⟩:=tM he
 obtain ⟨w,ew,rw'⟩:=r.get h2
 have hl:=r.length
 have hn:=oD
 have fin:EP X pins σ Q w s:=⟨z,H,I,rw',q⟩
 by_cases h0:0<=i
 ·have hj:i.toNat=j:=by
   rw [seqIndex_of h0 h5] at h1
   exact Option.some.inj h1
  exact item_listR pl.isList h0 (by omega) (by rw [hj]; simpa using ew) fin hs
 ·have hj:(i+(its.toArray.size:Int)).toNat=j:=by
   rw [seqIndex_neg (by omega) h4] at h1
   rw [size_toArray,← hl]
   exact Option.some.inj h1
  exact subscriptTail_builtinR (x:=w) pl.isList.typeIs slot_list_getitem.lookup
   (wpAny_getItem_list_neg (Q:=fun r s'=>r=w/\EP X pins σ Q r s') pl.isList (by omega) (by rw [size_toArray] <;> omega) (by omega) (by rw [hj]; simpa using ew) ⟨rfl,fin⟩) hs
theorem TH:JJ X (LM X.K):=by
 intro value slice pins s σ H x y v u Q I rx ry h hs
 obtain ⟨p,xs,i,z,rfl,rfl,hq,he,q⟩:=h
 cases rx
 obtain ⟨t,rfl⟩:=ry
 obtain ⟨its,r,pl,hz⟩:=I.tuple hq
 obtain ⟨j,h1,h2,h3,h4,h5⟩:=tM he
 obtain ⟨w,ew,rw'⟩:=r.get h2
 have hl:=r.length
 have hn:=oD
 have fin:EP X pins σ Q w s:=⟨z,H,I,rw',q⟩
 exact subscriptTail_builtinR (x:=w) pl.typeIs slot_tuple_getitem.lookup
  (getItem_tuple (j:=j) (Q:=fun r s'=>r=w/\EP X pins σ Q r s') pl (by omega) (by omega) (by rw [size_toArray,← hl]; exact h1) (by simpa using ew) ⟨rfl,fin⟩) hs
theorem TJ:JJ X RV:=by
 intro value slice pins s σ H x y v u Q I rx ry h hs
 obtain ⟨z,i,c,rfl,rfl,hz,he,q⟩:=h
 obtain ⟨t,rfl⟩:=rx
 obtain ⟨t',rfl⟩:=ry
 obtain ⟨j,h1,h2,h3,h4,h5⟩:=tM he
 have hl:z.cps.toList.length=z.length:=by simp [Str.length]
 rw [hl] at h1 h4 h5
 have hn:=oD
 exact tail_any (typeIs_str s z t) slot_str_getitem.lookup (getItem_str (c:=c) (by
  have e1:decide (i < -(2 ^ 63:Int))=false:=decide_eq_false (by omega)
  have e2:decide (i ≥ 2 ^ 63)=false:=decide_eq_false (by omega)
  rw [e1,e2,Bool.or_false]) (by rw [h1]; simpa using h2) ⟨.str ⟨#[c]⟩,H,I.tok _,⟨_,rfl⟩,q⟩) hs
noncomputable def rIx (K:Frag):R2:=fun x y H Q=>LN K x y H Q∨LM K x y H Q∨RV x y H Q
theorem TL:JJ X (rIx X.K):=MS.or (TH.or TJ)
theorem rC (lo hi:Option Int) (n:Nat):(sliceBounds lo hi none n).1=((HT.sIx n 0 lo:Nat):Int)/\(sliceBounds lo hi none n).2.1=((HT.sIx n n hi:Nat):Int)/\(sliceBounds lo hi none n).2.2=1:=by
 refine ⟨?_,?_,rfl⟩
 ·cases lo with
 |none=>simp [sliceBounds,HT.sIx]
 |some i =>
   simp only [sliceBounds,HT.sIx,Option.getD_none,show (1:Int) > 0 by decide,if_true]
   by_cases h:i < 0
   ·simp only [h,if_true] <;> omega
   ·simp only [h,if_false] <;> omega
 ·cases hi with
 |none=>simp [sliceBounds,HT.sIx]
 |some i =>
   simp only [sliceBounds,HT.sIx,Option.getD_none,show (1:Int) > 0 by decide,if_true]
   by_cases h:i < 0
   ·simp only [h,if_true] <;> omega
   ·simp only [h,if_false] <;> omega
theorem pB (its:List Value) (lo hi:Option Int):slicePick its.toArray lo hi none=((its.drop (HT.sIx its.length 0 lo)).take (HT.sIx its.length its.length hi - HT.sIx its.length 0 lo)).toArray:=by
 obtain ⟨h1,h2,h3⟩:=rC lo hi its.toArray.size
 unfold slicePick
 rw [h1,h2,h3]
 simp only [sliceRange_one,pick_run,size_toArray] <;> rfl
noncomputable def XM (K:Frag):V->Option Int->Option Int->Hp->VK->Prop:=fun x lo hi H Q=>∃ a xs,x=.ref a/\bS K H a xs/\∀ p,H p=none->Q (.ref p) (upd H p (.lst (tE xs lo hi)))
theorem KD:NU X (XM X.K):=by
 intro pins s σ H x v vl vu lo hi sl Q I rx hs pl pu h
 obtain ⟨a,xs,rfl,hx,q⟩:=h
 cases rx
 obtain ⟨its,r,ht,hz⟩:=I.list hx
 have hlen:=r.length
 refine ⟨"list",_,slot_list_getitem.lookup,ht.isList.typeIs,?_⟩
 refine wpAny_getItem_list_slice ht.isList hs pl pu .none (by simp) ?_ (by rw [size_toArray] <;> omega)
 rw [pB,← hlen]
 refine ⟨.ref s.heap.objs.size,_,I.laid (t':=s.toks) (o:=.lst (tE xs lo hi)) (fun b ob q=>get?_push_of_some _ q) (le_refl _) ?_,rfl,q _ (I.hok.fresh (le_refl _))⟩
 exact ⟨le_trans (lN xs lo hi) hz,_,0,(r.drop (HT.sIx xs.length 0 lo)).take (HT.sIx xs.length xs.length hi - HT.sIx xs.length 0 lo),get?_push_size _ rfl⟩
noncomputable def kI:V->Bool
|.non=>true
|.bl _=>true
|.int _=>true
|.str _=>true
|_=>false
noncomputable def QA:V->V->Bool
|.non,.non=>true
|.bl a,.bl b=>a==b
|.bl a,.int b=>(if a then 1 else 0)==b
|.int a,.bl b=>a==(if b then 1 else 0)
|.int a,.int b=>a==b
|.str a,.str b=>a==b
|_,_=>false
theorem TV {A:Around}{s:Shared}{y x:V}{u v:Value} (ry:aV y u) (rx:aV x v) (fy:kI y=true) (fx:kI x=true):SeqAt.EqAt A s u v (QA y x):=by
 cases y with
|non =>
  cases ry
  cases x with
 |non=>cases rx; exact SeqAt.EqAt.same _
 |bl b=>cases rx; exact SeqAt.EqAt.none_bool b
 |int b=>obtain ⟨t,rfl⟩:=rx; exact SeqAt.EqAt.none_int b t
 |str b=>obtain ⟨t,rfl⟩:=rx; exact SeqAt.EqAt.none_str b t
 |_=>exact absurd (show false=true from fx) Bool.false_ne_true
|bl a =>
  cases ry
  cases x with
 |non=>cases rx; exact SeqAt.EqAt.bool_none a
 |bl b=>cases rx; exact SeqAt.EqAt.bool_bool a b
 |int b=>obtain ⟨t,rfl⟩:=rx; exact SeqAt.EqAt.bool_int a b t
 |str b=>obtain ⟨t,rfl⟩:=rx; exact SeqAt.EqAt.bool_str a b t
 |_=>exact absurd (show false=true from fx) Bool.false_ne_true
|int a =>
  obtain ⟨t',rfl⟩:=ry
  cases x with
 |non=>cases rx; exact SeqAt.EqAt.int_none a t'
 |bl b=>cases rx; exact SeqAt.EqAt.int_bool a t' b
 |int b=>obtain ⟨t,rfl⟩:=rx; exact SeqAt.EqAt.int_int a t' b t
 |str b=>obtain ⟨t,rfl⟩:=rx; exact SeqAt.EqAt.int_str a t' b t
 |_=>exact absurd (show false=true from fx) Bool.false_ne_true
|str a =>
  obtain ⟨t',rfl⟩:=ry
  cases x with
 |non=>cases rx; exact SeqAt.EqAt.str_none a t'
 |bl b=>cases rx; exact SeqAt.EqAt.str_bool a t' b
 |int b=>obtain ⟨t,rfl⟩:=rx; exact SeqAt.EqAt.str_int a t' b t
 |str b=>obtain ⟨t,rfl⟩:=rx; exact SeqAt.EqAt.str_str a t' b t
 |_=>exact absurd (show false=true from fx) Bool.false_ne_true
|_=>exact absurd (show false=true from fy) Bool.false_ne_true
noncomputable def NA (x:V) (u:Value):Bool:=match u with
|.none=>QA .non x
|.bool b=>QA (.bl b) x
|.int i _=>QA (.int i) x
|.str z _=>QA (.str z) x
|_=>false
theorem II {x y:V}{u:Value} (r:aV y u) (f:kI y=true):NA x u=QA y x:=by
 cases y with
|non=>cases r; rfl
|bl b=>cases r; rfl
|int i=>obtain ⟨t,rfl⟩:=r; rfl
|str z=>obtain ⟨t,rfl⟩:=r; rfl
|_=>exact absurd (show false=true from f) Bool.false_ne_true
theorem tO {x:V}:∀ {xs:List V}{us:List Value},aM xs us->xs.all kI=true->us.any (NA x)=xs.any fun y=>QA y x
|_,_,.nil,_=>rfl
|y::xs,u::us,.cons r t,f=>by
  rw [all_cons,Bool.and_eq_true] at f
  rw [any_cons,any_cons,II r f.1,tO t f.2]
theorem oA {A:Around}{s:Shared}{x:V}{v:Value} (rx:aV x v) (fx:kI x=true):∀ {xs:List V}{us:List Value},aM xs us->xs.all kI=true->∀ u∈us,SeqAt.EqAt A s u v (NA x u)
|_,_,.nil,_=>fun u hu=>by cases hu
|y::xs,u::us,.cons r t,f=>fun u' hu=>by
  rw [all_cons,Bool.and_eq_true] at f
  rcases mem_cons.mp hu with rfl|hu
  ·rw [II r f.1]; exact TV r rx f.1 fx
  ·exact oA rx fx t f.2 u' hu
noncomputable def ZM (x:V) (xs:List V):Bool:=xs.any fun y=>QA y x
noncomputable def rIn (K:Frag) (neg:Bool):R2:=fun x y H Q=>∃ p xs,y=.ref p/\(bS K H p xs∨tX K H p xs)/\kI x=true/\xs.all kI=true/\Q (.bl (if neg then !ZM x xs else ZM x xs)) H
theorem sM:gA X (compareOp .NotIn) (rIn X.K true):=by
 intro pins s σ H x y v u Q I rx ry h
 obtain ⟨p,xs,rfl,hq,fx,fs,q⟩:=h
 cases ry
 rcases hq with hq|hq
 ·obtain ⟨its,r,pl,hz⟩:=I.list hq
  refine SeqAt.notIn_listAt (NA x) pl.isList (fun w hw=>oA rx fx r fs w (by simpa using hw)) ⟨.bl _,H,I,rfl,?_⟩
  rw [show its.toArray.any (NA x)=its.any (NA x) by simp,tO r fs]
  exact q
 ·obtain ⟨its,r,pl,hz⟩:=I.tuple hq
  refine SeqAt.notIn_tupleAt (NA x) pl (fun w hw=>oA rx fx r fs w (by simpa using hw)) ⟨.bl _,H,I,rfl,?_⟩
  rw [show its.toArray.any (NA x)=its.any (NA x) by simp,tO r fs]
  exact q
theorem tJ:cK X (.type "list") (fun xs H Q=>∃ p ys,xs=[.ref p]/\(bS X.K H p ys∨tX X.K H p ys)/\∀ l,H l=none->Q (.ref l) (upd H l (.lst ys))):=by
 intro pins s σ H xs us Q I r h
 obtain ⟨p,ys,rfl,hq,q⟩:=h
 obtain ⟨u,rfl,rx⟩:=nC r
 cases rx
 have fin:∀ (its:List Value),aM ys its->ys.length<=sizeLine->∀ (h':Heap) (c':Nat),(∀ b o',s.heap.get? b=some o'->h'.get? b=some o') ->
   h'.get? s.heap.objs.size=some { cls:=.type "list",dict:=none,data:=.seq its.toArray c',slots:=#[] }->EP X pins σ Q (.ref s.heap.objs.size) { s with heap:=h' }:=fun its r' hz h' c' kp e =>
  ⟨.ref s.heap.objs.size,_,I.laid (t':=s.toks) kp (le_refl _) (show bC X.prog X.w _ h' _ (.lst ys) from ⟨hz,its,c',r',e⟩),rfl,q _ (I.hok.fresh (le_refl _))⟩
 rcases hq with hq|hq
 ·obtain ⟨its,r',pl,hz⟩:=I.list hq
  have hlen:=r'.length
  obtain ⟨o,ho,hc,n,hd⟩:=pl.isList
  exact call_list_seq p (.inl rfl) ho hc hd (fun h' c' kp e=>fin its r' hz h' c' kp e) (by simp only [size_toArray] <;> omega)
 ·obtain ⟨its,r',pl,hz⟩:=I.tuple hq
  have hlen:=r'.length
  obtain ⟨o,ho,hc,n,hd⟩:=pl
  exact call_list_seq p (.inr rfl) ho hc hd (fun h' c' kp e=>fin its r' hz h' c' kp e) (by simp only [size_toArray] <;> omega)
noncomputable def VF (K:Frag) (T:String) (x:V) (H:Hp):Prop:=match x with
|.str _=>T="str"
|.int _=>T="int"
|.ref p=>(T="list"/\∃ xs,bS K H p xs)∨(T="tuple"/\∃ o,K.lookup p=some o/\o.cls=.type "tuple"/\o.dict=none) ∨
   (T="dict"/\((∃ kvs,H p=some (.dK kvs))∨∃ kvs,H p=some (.dT kvs)))∨(T="set"/\∃ S n,H p=some (.set S n))
|_=>False
theorem EH {pins:List (Addr×Obj)}{σ:St}{H:Hp}{s:Shared}{T:String}{x:V}{v:Value} (I:aL X pins σ H s) (r:aV x v) (ty:VF X.K T x H) :
  s.TypeIs v T/\∀ a,v=.ref a->∃ ob,s.heap.get? a=some ob/\ob.dict=none:=by
 cases x with
|str z =>
  obtain ⟨t,rfl⟩:=r
  cases (show T="str" from ty)
  exact ⟨typeIs_str s z t,fun _ e=>nomatch e⟩
|int i =>
  obtain ⟨t,rfl⟩:=r
  cases (show T="int" from ty)
  exact ⟨typeIs_int s i t,fun _ e=>nomatch e⟩
|ref p =>
  cases r
  rcases ty with ⟨rfl,xs,hq⟩|⟨rfl,o,hk,hc,hd⟩|⟨rfl,hk⟩|⟨rfl,S,n,hk⟩
  ·obtain ⟨its,_,pl,_⟩:=I.list hq
   refine ⟨pl.isList.typeIs,fun a e=>?_⟩
   cases e
   obtain ⟨o,n,e,c,hd,_⟩:=pl
   exact ⟨o,e,hd⟩
  ·refine ⟨⟨o,I.kIn p o hk,hc⟩,fun a e=>?_⟩
   cases e
   exact ⟨o,I.kIn _ o hk,hd⟩
  ·have z:∃ o,s.heap.get? p=some o/\o.ExactDict:=by
    rcases hk with ⟨kvs,hk⟩|⟨kvs,hk⟩
    ·obtain ⟨_,_,_,_,o,_,_,e,ex,_⟩:=I.hok p _ hk
     exact ⟨o,e,ex⟩
    ·obtain ⟨_,_,_,_,o,_,_,e,ex,_⟩:=I.hok p _ hk
     exact ⟨o,e,ex⟩
   obtain ⟨o,e,ex⟩:=z
   refine ⟨⟨o,e,ex.1⟩,fun a e2=>?_⟩
   cases e2
   exact ⟨o,e,ex.2.1⟩
  ·obtain ⟨o,_,_,_,e,ex,_⟩:=I.hok p _ hk
   refine ⟨⟨o,e,ex.1⟩,fun a e2=>?_⟩
   cases e2
   exact ⟨o,e,ex.2.1⟩
|_=>exact False.elim ty
noncomputable def VU (K:Frag) (T:String) (r:V->List V->Hp->VK->Prop) (to:TE):TE:=fun σ H Q=>to σ H fun x H1=>VF K T x H1/\r x [] H1 Q
noncomputable def Bm (K:Frag) (T:String) (r:V->List V->Hp->VK->Prop) (to:TE) (t:TA):TE:=fun σ H Q=>to σ H fun x H1=>VF K T x H1/\t σ H1 fun xs H2=>r x xs H2 Q
variable {o e:Expr} {es:List Expr} {to:TE} {t:TA} {name:Str} {apos cpos:Pos} {T id:String} {r:V -> List V -> Hp -> VK -> Prop}
theorem nR (pa:PlainAttrs T) (slot:Slot T name id) (hty:typeOf (.builtin id)=pure (.type "method_descriptor")) (hm:ZB X id r) (ho:PE X o to)
  (hbase:attributeBase o name X.env (eval o X.env)=eval o X.env:=by rfl) (hline:(apos.endLine==cpos.line)=true:=by rfl):PE X (.Call (.Attribute o name apos) [] [] cpos) (VU X.K T r to):=by
 intro pins s σ H Q I h
 refine wpAny_Call_method0_late hbase hline (bZ (ho pins s σ H _ I h) fun v s1 ⟨x,H1,I1,r1,ty,q1⟩=>?_)
 obtain ⟨h1,h2⟩:=EH I1 r1 ty
 exact ⟨T,id,pa,slot,hty,h1,h2,Calls.callWith_builtin rfl (PySem.evalArgs_none (hm pins s1 σ H1 x [] v [] Q I1 r1 .nil q1))⟩
theorem jX (pa:PlainAttrs T) (slot:Slot T name id) (hty:typeOf (.builtin id)=pure (.type "method_descriptor")) (hm:ZB X id r) (ho:PE X o to) (ha:PA X (e::es) t)
  (hbase:attributeBase o name X.env (eval o X.env)=eval o X.env:=by rfl)
  (hfew:((backTo cpos (starEach (e::es) X.env)).all (fun x=>!x.1)&&(backToKw cpos (keywordEach [] X.env)).all (fun x=>x.1.isSome)
   && decide ((e::es).length+([]:List Keyword).length+(if ([]:List Keyword).isEmpty then 0 else 1) < 30))=true:=by rfl)
  (hline:(apos.endLine==cpos.line)=true:=by rfl) (hs:starEach (e::es) X.env=(false,eval e X.env)::starEach es X.env:=by rfl) (hplain:(backTo cpos (starEach es X.env)).any (·.1)=false:=by rfl) :
  PE X (.Call (.Attribute o name apos) (e::es) [] cpos) (Bm X.K T r to t):=by
 intro pins s σ H Q I h
 refine wpAny_Call_method_late hbase hfew hline rfl (bZ (ho pins s σ H _ I h) fun v s1 ⟨x,H1,I1,r1,ty,q1⟩=>?_)
 obtain ⟨h1,h2⟩:=EH I1 r1 ty
 refine ⟨T,id,pa,slot,hty,h1,h2,?_⟩
 have hA:=ha cpos pins s1 σ H1 _ I1 q1
 rw [hs] at hA ⊢
 refine Calls.callWith_builtin (by show (false || (backTo cpos (starEach es X.env)).any (·.1))=false; rw [hplain] <;> rfl) (Calls.evalArgs_plain ?_)
 exact bZ hA fun us s2 ⟨vs,H2,I2,r2,q2⟩=>hm pins s2 σ H2 x vs v us Q I2 r1 r2 q2
/- xs.append(e),list.index on a module's tuple .. are ZB facts of 06m -/
end
end
section
noncomputable def ZS (X:Cx) (id:String) (r:V->List V->Hp->VK->Prop):Prop:=
 ∀ (pins:List (Addr×Obj)) (s:Shared) (σ:St) (H:Hp) (x:V) (xs:List V) (v:Value) (us:List Value) (Q:VK),aL X pins σ H s->aV x v->aM xs us->r x xs H Q ->
  wpAny (model X.prog X.w) X.A (call (.builtin id) (v::us)) (EP X pins σ Q) X.xe s
theorem aM.one:∀ {x:V}{us:List Value},aM [x] us->∃ u,us=[u]/\aV x u
 :=fun h=>by cases h with|cons r h=>cases h; exact ⟨_,rfl,r⟩
theorem aM.two:∀ {x y:V}{us:List Value},aM [x,y] us->∃ u v,us=[u,v]/\aV x u/\aV y v
 :=fun h=>by cases h with|cons r h=>cases h with|cons q h=>cases h; exact ⟨_,_,rfl,r,q⟩
theorem aM.zero:∀ {us:List Value},aM [] us->us=[]
|_,.nil=>rfl
theorem aM.dropLast {xs:List V}{us:List Value} (h:aM xs us):aM xs.dropLast us.dropLast:=by
 induction h with
|nil=>exact .nil
|cons r t ih =>
  cases t with
 |nil=>exact .nil
 |cons q t'=>exact .cons r ih
theorem aM.reverse {xs:List V}{us:List Value} (h:aM xs us):aM xs.reverse us.reverse:=by
 induction h with
|nil=>exact .nil
|cons r t ih=>rw [reverse_cons,reverse_cons]; exact aM.append ih (.cons r .nil)
theorem aM.rep {xs:List V}{us:List Value} (h:aM xs us):∀ k:Nat,aM (List.replicate k xs).flatten (List.replicate k us).flatten
|0=>.nil
|k+1=>by
  rw [replicate_succ,replicate_succ,flatten_cons,flatten_cons]
  exact aM.append h (aM.rep h k)
theorem yH {α:Type} (l:List α):l.eraseIdx (l.length - 1)=l.dropLast:=by
 induction l with
|nil=>rfl
|cons a r ih =>
  cases r with
 |nil=>rfl
 |cons b r =>
   have e:(a::b::r).length - 1=((b::r).length - 1)+1:=by
    have h1:(a::b::r).length=r.length+2:=rfl
    have h2:(b::r).length=r.length+1:=rfl
    omega
   rw [e,List.eraseIdx_cons_succ,ih]
   all_goals rfl
theorem qO (its:List Value):∀ (k:Nat) (acc:List Value),
  List.foldl (fun x1 x2=>x1++x2) acc.toArray (List.replicate k its.toArray)=(acc++(List.replicate k its).flatten).toArray
|0,acc=>by simp
|k+1,acc=>by
  have e:acc.toArray++its.toArray=(acc++its).toArray:=by simp
  have e2:(acc++its)++(List.replicate k its).flatten=acc++(List.replicate (k+1) its).flatten:=by
   rw [replicate_succ,flatten_cons,append_assoc]
  rw [← e2,← qO its k (acc++its),← e,replicate_succ,List.foldl_cons]
section
variable {X:Cx} {pins:List (Addr×Obj)} {σ:St} {H:Hp} {s:Shared} {l b:Addr} {xs ys zs:List V}
theorem aL.lset {its its':List Value}{n:Nat}{f:Array Value->Array Value}{t':Nat} (I:aL X pins σ H s) (hH:H l=some (.lst xs))
  (e:s.heap.get? l=some { cls:=.type "list",data:=.seq its.toArray n }) (hf:f its.toArray=its'.toArray) (hv:aM ys its') (hz:ys.length<=sizeLine) :
  aL X pins σ (upd H l (.lst ys)) { s with heap:=s.heap.update l (Obj.mapSeq f),toks:=t' }:=by
 have q:=PySem.IsL.update e f
 rw [hf] at q
 refine I.write (x:=l) (e:=l) (by rw [hH]; exact trivial) (.inl rfl) (fun b' u hb hu=>(get?_update_other s.heap (Obj.mapSeq f) (Ne.symm hb)).trans hu) ⟨_,q⟩ ?_
 exact ⟨hz,its',_,hv,q⟩
theorem aL.lnew {its:List Value}{t':Nat} (I:aL X pins σ H s) (hv:aM ys its) (hz:ys.length<=sizeLine) :
  aL X pins σ (upd H s.heap.objs.size (.lst ys)) { s with heap:=s.heap.push { cls:=.type "list",data:=.seq its.toArray },toks:=t' }:=
 I.laid (fun _ _ q=>get?_push_of_some _ q) (le_refl _) ⟨hz,its,0,hv,get?_push_size _ rfl⟩
theorem aL.fresh (I:aL X pins σ H s):H s.heap.objs.size=none:=I.hok.fresh (le_refl _)
theorem aL.lstM (I:aL X pins σ H s) (hH:H l=some (.lst xs)):xs.length<=sizeLine/\∃ (its:List Value) (n:Nat),aM xs its/\xs.length=its.length/\s.heap.get? l=some { cls:=.type "list",data:=.seq its.toArray n }:=by
 obtain ⟨z,its,n,r,e⟩:=I.hok l _ hH
 exact ⟨z,its,n,r,r.length,e⟩
theorem vJ {n:Nat} (h:n<=sizeLine):Builtin.List.listTooLong n=false:=by
 unfold Builtin.List.listTooLong
 exact decide_eq_false (by omega)
end
section
variable {X:Cx}
noncomputable def zY:V->List V->Hp->VK->Prop:=fun x vs H Q=>∃ l xs y,x=.ref l/\vs=[y]/\H l=some (.lst xs)/\xs.length < sizeLine/\Q .non (upd H l (.lst (xs++[y])))
theorem dM:ZS X "list.append" zY:=by
 intro pins s σ H x vs v us Q I rx rv h
 obtain ⟨l,xs,y,rfl,rfl,hH,hz,q⟩:=h
 cases rx
 obtain ⟨u,rfl,ru⟩:=rv.one
 obtain ⟨z,its,n,r,hl,e⟩:=I.lstM hH
 refine call_meets F.slot_list_append ⟨_,e,rfl⟩ F.entry_list_append (F.args_list_append_2 _ _) (PySem.list_append l its.toArray n u (by rw [size_toArray]; omega)) ⟨e,?_⟩
 refine ⟨.non,_,I.lset (its':=its++[u]) hH e (by simp) (r.append (.cons ru .nil)) ?_,rfl,q⟩
 rw [length_append,length_singleton]
 omega
noncomputable def zX:V->List V->Hp->VK->Prop:=fun x vs H Q=>∃ l b xs zs,x=.ref l/\vs=[.ref b]/\H l=some (.lst xs)/\H b=some (.lst zs)/\xs.length+zs.length<=sizeLine/\Q .non (upd H l (.lst (xs++zs)))
theorem qH:ZS X "list.extend" zX:=by
 intro pins s σ H x vs v us Q I rx rv h
 obtain ⟨l,b,xs,zs,rfl,rfl,hH,hB,hz,q⟩:=h
 cases rx
 obtain ⟨u,rfl,ru⟩:=rv.one
 cases ru
 obtain ⟨z,its,n,r,hl,e⟩:=I.lstM hH
 obtain ⟨z2,its2,n2,r2,hl2,e2⟩:=I.lstM hB
 have hsz:its.toArray.size+its2.toArray.size<=sizeLine:=by rw [size_toArray,size_toArray]; omega
 have hlong:¬ (!its.toArray.isEmpty&&Builtin.List.listTooLong (its.toArray.size+its2.toArray.size))=true:=by
  rw [vJ hsz,Bool.and_false]
  exact Bool.false_ne_true
 refine call_meets F.slot_list_extend ⟨_,e,rfl⟩ F.entry_list_extend (F.args_list_extend_2 _ _)
  (AutoSeq1.list_extend_list_list_0 l its.toArray n b its2.toArray n2 hlong (by rw [size_toArray]; omega) (by omega)) ⟨e,e2,?_⟩
 refine ⟨.non,_,I.lset (its':=its++its2) hH e (by simp) (r.append r2) ?_,rfl,q⟩
 rw [length_append]
 omega
noncomputable def Am:V->List V->Hp->VK->Prop:=fun x vs H Q=>∃ l xs y,x=.ref l/\vs=[]/\H l=some (.lst xs)/\xs[xs.length - 1]?=some y/\Q y (upd H l (.lst xs.dropLast))
theorem SV:ZS X "list.pop" Am:=by
 intro pins s σ H x vs v us Q I rx rv h
 obtain ⟨l,xs,y,rfl,rfl,hH,hy,q⟩:=h
 cases rx
 have hus:=rv.zero
 subst hus
 obtain ⟨z,its,n,r,hl,e⟩:=I.lstM hH
 obtain ⟨u,hu,ru⟩:=r.get hy
 have hy':its.toArray[its.toArray.size - 1]?=some u:=by
  show its.toArray[its.length - 1]?=some u
  rw [← Array.getElem?_toList,← hl]
  exact hu
 refine call_meets F.slot_list_pop ⟨_,e,rfl⟩ F.entry_list_pop (F.args_list_pop_1 _) (MeetsSeq.list_pop_last l its.toArray n u hy' (by rw [size_toArray]; omega)) ⟨e,?_⟩
 refine ⟨y,_,I.lset (its':=its.dropLast) hH e ?_ r.dropLast ?_,ru,q⟩
 ·show its.toArray.eraseIdxIfInBounds (its.toArray.size - 1)=its.dropLast.toArray
  rw [size_toArray,List.eraseIdxIfInBounds_toArray,yH]
 ·rw [List.length_dropLast]
  omega
noncomputable def RZ:V->List V->Hp->VK->Prop:=fun x vs H Q=>∃ l xs,x=.ref l/\vs=[]/\H l=some (.lst xs)/\Q .non (upd H l (.lst []))
theorem HH:ZS X "list.clear" RZ:=by
 intro pins s σ H x vs v us Q I rx rv h
 obtain ⟨l,xs,rfl,rfl,hH,q⟩:=h
 cases rx
 have hus:=rv.zero
 subst hus
 obtain ⟨z,its,n,r,hl,e⟩:=I.lstM hH
 refine call_meets F.slot_list_clear ⟨_,e,rfl⟩ F.entry_list_clear (F.args_list_clear_1 _) (AutoSeq1.list_clear_list_0 l its.toArray n (by rw [size_toArray]; omega)) ⟨e,?_⟩
 exact ⟨.non,_,I.lset (its':=[]) (ys:=[]) hH e rfl .nil (zero_le _),rfl,q⟩
noncomputable def XS:R2:=fun x y H Q=>∃ l b xs zs,x=.ref l/\y=.ref b/\H l=some (.lst xs)/\H b=some (.lst zs)/\xs.length+zs.length<=sizeLine/\∀ p,H p=none->Q (.ref p) (upd H p (.lst (xs++zs)))
theorem SQ:gA X (binaryOp .Add) XS:=by
 intro pins s σ H x y v u Q I rx ry h
 obtain ⟨l,b,xs,zs,rfl,rfl,hH,hB,hz,q⟩:=h
 cases rx
 cases ry
 obtain ⟨z,its,n,r,hl,e⟩:=I.lstM hH
 obtain ⟨z2,its2,n2,r2,hl2,e2⟩:=I.lstM hB
 refine PySem.P.add_list e e2 ?_ (by rw [size_toArray,size_toArray]; omega)
 have ea:its.toArray++its2.toArray=(its++its2).toArray:=by simp
 rw [ea]
 exact ⟨.ref _,_,I.lnew (t':=s.toks) (r.append r2) (by rw [length_append]; omega),rfl,q _ I.fresh⟩
noncomputable def Al:R2:=fun x y H Q=>∃ l k xs,x=.ref l/\y=.int k/\H l=some (.lst xs)/\-(2 ^ 63)<=k/\k < 2 ^ 63/\xs.length * k.toNat<=sizeLine /\
 ∀ p,H p=none->Q (.ref p) (upd H p (.lst (List.replicate k.toNat xs).flatten))
theorem MO {α:Type} (xs:List α) (k:Nat):(List.replicate k xs).flatten.length=k * xs.length:=by
 induction k with
|zero=>simp
|succ k ih=>rw [replicate_succ,flatten_cons,length_append,ih,Nat.succ_mul,Nat.add_comm]
theorem GS:gA X (binaryOp .Mult) Al:=by
 intro pins s σ H x y v u Q I rx ry h
 obtain ⟨l,k,xs,rfl,rfl,hH,h1,h2,hz,q⟩:=h
 cases rx
 obtain ⟨t,rfl⟩:=ry
 obtain ⟨z,its,n,r,hl,e⟩:=I.lstM hH
 have hlen:its.toArray.size * k.toNat<=sizeLine:=by rw [size_toArray,← hl]; exact hz
 have hcap:¬ its.toArray.size * k.toNat > (2 ^ 63 - 1) / 8:=by
  have:(sizeLine:Nat)<=(2 ^ 63 - 1) / 8:=by decide
  omega
 have hfit:¬ (!Builtin.List.listFitsIndex k)=true:=by
  rw [fitsIndex_both h1 h2]
  exact Bool.false_ne_true
 have hlong:¬ Builtin.List.listTooLong (its.toArray.size * k.toNat)=true:=by
  rw [vJ hlen]
  exact Bool.false_ne_true
 have hnew:List.foldl (fun x1 x2=>x1++x2) #[] (List.replicate (if its.toArray.isEmpty=true then 0 else k.toNat) its.toArray)=(List.replicate k.toNat its).flatten.toArray:=by
  have f0:∀ m:Nat,List.foldl (fun x1 x2=>x1++x2) #[] (List.replicate m its.toArray)=(List.replicate m its).flatten.toArray:=fun m=>by
   have:=qO its m []
   rw [nil_append] at this
   exact this
  rw [f0]
  cases its with
 |nil=>simp
 |cons a r'=>rw [if_neg (by simp)]
 refine wpAny_binaryOp_repeat_ref (T:="list") (U:="int") (by decide) ⟨_,e,rfl⟩ (fun s'=>typeIs_int s' k t) noFill_list_mul F.fills_int_mul F.slot_int_rmul repeat_list F.slot_int_index.lookup
  (call_meets F.slot_int_rmul (typeIs_int s k t) F.entry_int_rmul (F.args_int_rmul_2 _ _) (int___rmul___int_list k t l its.toArray n)
   ⟨e,rfl,⟨_,e,rfl⟩,call_meets F.slot_list_mul ⟨_,e,rfl⟩ F.entry_list_mul (F.args_list_mul_2 _ _) (AutoListH.list___mul___list_int_3 l its.toArray n k t hfit hcap hlong) ⟨e,?_⟩⟩)
 rw [hnew]
 exact ⟨.ref _,_,I.lnew (t':=s.toks) (r.rep k.toNat) (by rw [MO,mul_comm]; exact hz),rfl,q _ I.fresh⟩
end
section
variable {prog:Program} {w:World} {A:Around} {E:Value -> Shared -> Prop} {s:Shared}
end
section
variable {X:Cx}
end
end
end L2
namespace Att
open PySem PySem.W PySem.Calls PyProof.Rows
theorem lW {P:Params}{h:Heap}:∀ (ns:List Int) (vs:List Value),WellAll P h vs (ns.map WData.int)->IntsAre vs ns:=by
 intro ns
 induction ns with
|nil =>
  intro vs w
  rw [map_nil] at w
  cases w
  exact .nil
|cons n ns ih =>
  intro vs w
  rw [map_cons] at w
  cases w with
 |cons a b =>
   cases a
   exact .cons _ _ (ih _ b)
theorem BY {l:OpenLaw}{n:Nat} (hn:l.most=some n) {P:Params}{h:Heap}{args:List WData}{vals:List Value}
  (hpre:l.row.toRowW.claim.pre args=true) (hwl:WellAll P h vals args) :
  ∃ a vs ns,vals=[Value.ref a]/\args=[WData.list (ns.map WData.int)]/\h.get? a=some { cls:=.type "list",data:=.seq vs.toArray }/\IntsAre vs ns/\ns.length<=n:=by
 have hsh:WShape.hasAll [] args [.list .int]=true:=(pre_splitW hpre).1
 have hc:l.pre.holds [] { args:=args }=true:=(pre_splitW hpre).2
 obtain ⟨d,r,rfl,h1,h2⟩:=hasAllW_cons hsh
 obtain rfl:=hasAllW_nil h2
 obtain ⟨xs,rfl,h3⟩:=hasW_list h1
 obtain ⟨ns,rfl⟩:=items_int h3
 have hlen:ns.length<=n:=by
  unfold OpenLaw.pre at hc
  have h4:(WTm.not (.lt (.lit (.int (n:Int))) (.len (.arg 0)))).holds [] { args:=[.list (ns.map .int)] }=true:=by
   have h4:=(holds_andW hc).1
   rw [hn] at h4
   exact h4
  have h5:=condW_of h4 (w_not (w_lt w_lit (w_len_list (w_arg rfl))))
  rw [length_map] at h5
  refine Nat.le_of_not_lt fun q=>?_
  have q':(n:Int) < ((ns.length:Nat):Int):=by omega
  first
  |(rw [decide_eq_true q'] at h5; exact absurd h5 (by decide))
  |(simp at h5; omega)
 cases hwl with
|cons w1 w2 =>
  cases w2
  cases w1 with
 |list ho hall=>exact ⟨_,_,ns,rfl,rfl,ho,lW ns _ hall,hlen⟩
theorem CA (l:OpenLaw) (args:List WData):l.row.toRowW.claim.post args (.bool true) args=true:=
 postW_of (r:=l.row.toRowW) (X:=(true==true))
  (show WShape.has [] (.bool true) .bool=true by first|rfl|decide|simp [WShape.has,WShape.arms,WShape.armsAll])
  (show (WTm.eq .res (.lit (.bool true))).value [] { args:=args,res:=some (.bool true),after:=args }=some (.bool (true==true)) from w_eq_bool (w_res rfl) w_lit) rfl
theorem attach_call {l:OpenLaw}{n:Nat}{q:Program}{loose:List Str}{XP:(Str->Option Value)->Heap->Prop}{YP:World->Heap->Prop}{d:DefRec}
  (hn:l.most=some n) (hdf:d.params.defaults=[])
  (call:∀ (w:World) (s₀ s₁:Shared) (mg mb:Str->Option Value) (fa:Addr) (o:Obj) (pm cd doc:Value) (a:Addr) (vs:List Value) (ns:List Int),
   Ground q loose [] XP w s₀ mg mb s₁.heap->YP w s₁.heap ->
   s₁.heap.get? fa=some o->o.data=.func (docDef d.name d.params d.body d.scope pm cd doc)->s₁.heap.CodeRec cd d.name->mg d.name=some (.ref fa) ->
   s₁.heap.get? a=some { cls:=.type "list",data:=.seq vs.toArray }->IntsAre vs ns->ns.length<=n->s₁.gens=#[] ->
   codeAny (model l.prog w) callerA (.call (.ref fa) ⟨[.ref a],[]⟩) (fun r s'=>r=.ok (.ret (.bool true))/\OldK s₁.heap s'.heap/\s'.os=s₁.os/\AllBare s'.gens) s₁) :
  WalkO q loose XP YP l.row.toRowW d [] (fun f vs=>PySem.call f vs):=by
 intro w s₀ s₁ mg mb G Y fa o pm cd doc dV kV ho hd hcd hD hmg hg args vals as hpre hlay hrd hwl hlo
 obtain rfl:dV=.none:=Dflts.none hD hdf
 obtain rfl:kV=.none:=Dflts.noKw hD
 obtain ⟨a,vs,ns,rfl,rfl,hobj,hints,hlen⟩:=BY hn hpre hwl
 refine enter_call (codeAny_mono (call w s₀ s₁ mg mb fa o pm cd doc a vs ns G Y ho (fd_plain hd) hcd hmg hobj hints hlen hg) fun r s' hq=>?_)
 obtain ⟨rfl,h2,h3,h4⟩:=hq
 exact ⟨.inl ⟨.bool true,.bool true,[],rfl,fun _=>rfl,.bool true,CA l _,fun _=>⟨List.Pairwise.nil,fun _ hm=>(nomatch hm)⟩⟩,h2,h3,h4⟩
section
variable {prog:Program} {w:World} {A:Around} {E:Value -> Shared -> Prop} {s:Shared} {K:Frag}
noncomputable def noObjs (h:Heap):Heap:={ h with objs:=#[] }
theorem noObjs_get (h:Heap) (b:Addr):(noObjs h).get? b=none:=by
 cases e:(noObjs h).get? b with
|none=>rfl
|some o=>exact absurd (lt_size e) (not_lt_zero _)
noncomputable def ledger (h:Heap) (L d:Addr):List (Addr×Obj):=(List.range h.objs.size).filterMap fun a=>if a=L∨a=d then none else (h.get? a).map fun o=>(a,o)
theorem mem_ledger {h:Heap}{L d a:Addr}{o:Obj}:(a,o)∈ledger h L d ↔ a≠L/\a≠d/\h.get? a=some o:=by
 unfold ledger
 rw [mem_filterMap]
 constructor
 ·rintro ⟨b,_,e⟩
  split at e
  ·cases e
  ·rename_i hb
   obtain ⟨o',ho,e'⟩:=Option.map_eq_some_iff.mp e
   cases e'
   exact ⟨fun q=>hb (.inl q),fun q=>hb (.inr q),ho⟩
 ·rintro ⟨n1,n2,ho⟩
  refine ⟨a,mem_range.mpr (lt_size ho),?_⟩
  rw [if_neg (show ¬ (a=L∨a=d) from fun q=>q.elim n1 n2),ho] <;> rfl
end
end Att
namespace L2
open PySem PySem.Spec PyProof.Rows
section
theorem iL:∀ {vs:List Value}{ns:List Int},IntsAre vs ns->aM (ns.map V.int) vs
|_,_,.nil=>.nil
|_,_,.cons n t h=>.cons ⟨t,rfl⟩ (iL h)
end
section
end
end L2
/- THE LAST THEOREM (shape; LID,My.* are yours):
   My.Adr: a structure of the addresses that your layer names (classes,functions); My.Txt K t: a structure (Prop) of the equations over K;
   My.txt_mk:{K} {implicit addresses ..} (e1:nsIn K mainGlobals "law"=some (some (.ref f))) (e2:K.lookup f=some ⟨oc,od,.func (fnOf "law" "law" params body scope dV kV doc pm an cdv ct),sl⟩) (e3:codeIn K cdv "law"=true) ..:∃ t,My.Txt K t
(the tactic k_is has no namespace: write k_is) -/
namespace L2
open PySem PySem.Spec PyProof.Rows
section
noncomputable def bJ (s:Stmt):Arguments:=match s with
|.FunctionDef _ a _ _ _ _ _ _ _ _=>a
|_=>{ posonlyargs:=[],args:=[],vararg:=none,kwonlyargs:=[],kw_defaults:=[],kwarg:=none,defaults:=[] }
noncomputable def aZ (s:Stmt):List Stmt:=match s with
|.FunctionDef _ _ b _ _ _ _ _ _ _=>b
|_=>[]
noncomputable def aE (s:Stmt):Scope:=match s with
|.FunctionDef _ _ _ _ _ _ sc _ _ _=>sc
|_=>{ kind:=.function,names:=[],isGenerator:=false,isCoroutine:=false }
noncomputable abbrev JU:DY:=fun _ _ _ _ _ _=>False
noncomputable abbrev E0:XK:=fun _ _ _=>False
theorem XU {X:Cx}:iI JU X E0:=fun _ _ _ _ _ _ _ h=>h.elim
structure ZU (K:Frag) (x qual:Str) (st:Stmt) (f:Addr) (fd:FuncData):Prop where
 ex:∃ (oc:Value) (od:Option Addr) (kV doc pm:Value) (an:Option Addr) (cdv ct:Value) (osl:Array (Option Value)),
  fd=fnOf x qual (bJ st) (aZ st) (aE st) .none kV doc pm an cdv ct/\K.lookup f=some ⟨oc,od,.func fd,osl⟩/\PySem.W.codeIn K cdv qual=true
 kp:keepIn K (.ref f)=true
section
variable {P:Program} {w:World} {K:Frag} {mg:Str -> Option Value} {base:Heap}
theorem ZU.ok {x qual:Str}{st:Stmt}{f:Addr}{fd:FuncData}{N ps:List Str}{k:Nat}{sp:Sp} (F:ZU K x qual st f fd) (S:aO N ps (aE st)) (len:∀ vs H Q E,sp vs H Q E->vs.length=ps.length)
  (hbody:∀ (cdv:Value) (A:Around) (outer:List Env) (s:Shared) (H:Hp) (vs:List V) (Q:VK) (E:XK),dJ k (A.deeper (envOfC qual (aE st) s.heap.objs.size f cdv))->sp vs H Q E ->
   ∃ t,tS (lG JU P w K mg base N qual (aE st) f cdv A outer s H E).nox (aZ st) t/\t { nx:=fun _ H'=>Q .non H',rt:=Q } (hX N vs) H):iB P w K mg base JU (k+1) f fd ps sp:=by
 obtain ⟨oc,od,kV,doc,pm,an,cdv,ct,osl,rfl,lk,hcd⟩:=F.ex
 refine vW lk hcd S len fun A outer s H vs Q E hr hsp=>?_
 obtain ⟨t,h,q⟩:=hbody cdv A outer s H vs Q E hr hsp
 exact ⟨t,h.nox,q⟩
theorem TU {x qual:Str}{st:Stmt}{f:Addr}{oc:Value}{od an:Option Addr}{osl:Array (Option Value)}{kV doc pm cdv ct:Value} (l:K.lookup f=some ⟨oc,od,.func (fnOf x qual (bJ st) (aZ st) (aE st) .none kV doc pm an cdv ct),osl⟩)
  (c:PySem.W.codeIn K cdv qual=true) (k:keepIn K (.ref f)=true):ZU K x qual st f (fnOf x qual (bJ st) (aZ st) (aE st) .none kV doc pm an cdv ct):=⟨⟨oc,od,kV,doc,pm,an,cdv,ct,osl,rfl,l,c⟩,k⟩
end
theorem dL {n:Nat} (h:n<=1000):n < sizeLine:=lt_of_le_of_lt h (by decide)
section
variable {X:Cx}
theorem pv (i:Nat) {x:Str}{pos:Pos} (hN:X.N[i]?=some x:=by rfl) (hv:YV X.env.scope x:=by first|exact Or.inl rfl|exact Or.inr (Or.inl rfl)|exact Or.inr (Or.inr rfl)) (hd:(x==("__debug__":Str))=false:=by decide)
  (hcd:(x==("__classdict__":Str))=false:=by decide):PE X (.Name x pos) (QK i):=SH hN hv hd hcd
end
theorem YF {A B:Prop} (h:B):if false=true then A else B:=by
 rw [if_neg Bool.false_ne_true]
 exact h
theorem YE {A B:Prop} (h:A):if true=true then A else B:=by
 rw [if_pos rfl]
 exact h
noncomputable def aJ (H H':Hp):Prop:=∀ b o,H b=some o->H' b=some o
theorem aJ.refl (H:Hp):aJ H H:=fun _ _ h=>h
theorem aJ.trans {H H1 H2:Hp} (a:aJ H H1) (b:aJ H1 H2):aJ H H2:=fun c o h=>b c o (a c o h)
theorem aJ.free {H H':Hp} (e:aJ H H') {l:Addr} (h:H' l=Option.none):H l=Option.none:=by
 cases q:H l with
|none=>rfl
|some o =>
  rw [e l o q] at h
  cases h
theorem aJ.seq {K:Frag}{H H':Hp}{a:Addr}{xs:List V} (e:aJ H H') (h:bS K H a xs):bS K H' a xs:=by
 rcases h with (h|⟨o,h⟩)|h
 ·exact .inl (.inl (e _ _ h))
 ·exact .inl (.inr ⟨o,e _ _ h⟩)
 ·exact .inr h
end
section
section
variable {κ:Type} [DecidableEq κ]
noncomputable def gC (kvs:List (κ×V)) (k:κ):Option V:=(kvs.find? fun kv=>decide (kv.1=k)).map (·.2)
noncomputable def cV (kvs:List (κ×V)) (k:κ) (v:V):List (κ×V):=
 if (kvs.any fun kv=>decide (kv.1=k))=true then kvs.map (fun kv=>if kv.1=k then (kv.1,v) else kv) else kvs++[(k,v)]
theorem eV {p:κ×V}{r:List (κ×V)}{k:κ} (e:p.1=k):gC (p::r) k=some p.2:=by simp [gC,find?_cons,e]
theorem eW {p:κ×V}{r:List (κ×V)}{k:κ} (e:¬ p.1=k):gC (p::r) k=gC r k:=by simp [gC,find?_cons,e]
theorem uC (k:κ):∀ kvs:List (κ×V),(kvs.any fun kv=>decide (kv.1=k))=(gC kvs k).isSome
|[]=>rfl
|p::r=>by
  rw [any_cons]
  by_cases e:p.1=k
  ·simp only [eV e,decide_eq_true e,Bool.true_or,Option.isSome_some]
  ·rw [eW e,decide_eq_false e,Bool.false_or]; exact uC k r
theorem iE (kvs:List (κ×V)) (k:κ) (v:V):(cV kvs k v).length<=kvs.length+1:=by
 unfold cV
 split
 ·rw [length_map]; omega
 ·rw [length_append,length_cons,List.length_nil]; omega
theorem oX.isSome_eq {o:Option V}{u:Option Value} (r:oX o u):o.isSome=u.isSome:=by
 cases o with
|none=>cases u with
 |none=>rfl
 |some _=>exact (show False from r).elim
|some _=>cases u with
 |none=>exact (show False from r).elim
 |some _=>rfl
theorem KV.val {kvs:List (κ×V)}{vs:List (κ×Value)} (r:KV kvs vs) (k:κ):oX (gC kvs k) (valueAt vs k):=by
 unfold KV at r
 induction r with
|nil=>exact True.intro
|@cons p q ps qs h t ih =>
  obtain ⟨h1,h2⟩:=h
  by_cases e:p.1=k
  ·have e':q.1=k:=h1.symm.trans e
   have b:valueAt (q::qs) k=some q.2:=by simp [valueAt,find?_cons,e']
   rw [eV e,b]; exact h2
  ·have e':¬ q.1=k:=fun z=>e (h1.trans z)
   have b:valueAt (q::qs) k=valueAt qs k:=by simp [valueAt,find?_cons,e']
   rw [eW e,b]; exact ih
theorem KV.any {kvs:List (κ×V)}{vs:List (κ×Value)} (r:KV kvs vs) (k:κ):(kvs.any fun kv=>decide (kv.1=k))=vs.any fun kv=>decide (kv.1=k):=by
 unfold KV at r
 induction r with
|nil=>rfl
|cons h t ih=>rw [any_cons,any_cons,ih,h.1]
theorem KV.repl {kvs:List (κ×V)}{vs:List (κ×Value)} (r:KV kvs vs) (k:κ) {y:V}{u:Value} (ry:aV y u) :
  KV (kvs.map fun kv=>if kv.1=k then (kv.1,y) else kv) (vs.map fun kv=>if kv.1=k then (kv.1,u) else kv):=by
 unfold KV at r ⊢
 induction r with
|nil=>exact .nil
|@cons p q ps qs h t ih =>
  rw [map_cons,map_cons]
  refine .cons ?_ ih
  obtain ⟨h1,h2⟩:=h
  by_cases e:p.1=k
  ·rw [if_pos e,if_pos (h1.symm.trans e)]; exact ⟨h1,ry⟩
  ·rw [if_neg e,if_neg (fun z=>e (h1.trans z))]; exact ⟨h1,h2⟩
theorem KV.put {kvs:List (κ×V)}{vs:List (κ×Value)} (r:KV kvs vs) (k:κ) {y:V}{u:Value} (ry:aV y u):KV (cV kvs k y) (stored vs k u):=by
 unfold cV stored
 rw [r.any k]
 by_cases e:(vs.any fun kv=>decide (kv.1=k))=true
 ·rw [if_pos e,if_pos e]; exact r.repl k ry
 ·rw [if_neg e,if_neg e]; exact Paired.snoc r ⟨rfl,ry⟩
theorem KV.length {kvs:List (κ×V)}{vs:List (κ×Value)} (r:KV kvs vs):kvs.length=vs.length:=Paired.length r
end
theorem vT {P:Program}{w:World}{k:aR}{u:Value} (r:aV (kV k) u):(aY P w).is k u=true:=by
 cases k with
|inl i=>obtain ⟨t,e⟩:=(show ∃ t,u=Value.int i t from r); subst e; exact vN P w i t
|inr x=>obtain ⟨t,e⟩:=(show ∃ t,u=Value.str x t from r); subst e; exact vM P w x t
theorem qM {P:Program}{w:World}:∀ {ks:List aR}{us:List Value},aM (ks.map kV) us->ItemsAre (aY P w) ks us
|[],_,r=>by rw [map_nil] at r; cases r; exact .nil
|k::ks,_,r=>by
  rw [map_cons] at r
  cases r with
 |cons h t=>exact .cons (vT h) (qM t)
noncomputable abbrev KT (H:Hp):List (List aR×V)->List (List aR×Addr×Value)->Prop:=Paired fun p q=>p.1=q.1/\H q.2.1=some (.tup (p.1.map kV))/\aV p.2 q.2.2
theorem KT.val {H:Hp}{kvs:List (List aR×V)}{xs:List (List aR×Addr×Value)} (r:KT H kvs xs) (k:List aR):oX (gC kvs k) ((atKey xs k).map (·.2)):=by
 induction r with
|nil=>exact True.intro
|@cons p q ps qs h t ih =>
  obtain ⟨h1,_,h2⟩:=h
  by_cases e:p.1=k
  ·have e':q.1=k:=h1.symm.trans e
   have b:atKey (q::qs) k=some q.2:=by simp [atKey,find?_cons,e']
   rw [eV e,b]; exact h2
  ·have e':¬ q.1=k:=fun z=>e (h1.trans z)
   have b:atKey (q::qs) k=atKey qs k:=by simp [atKey,find?_cons,e']
   rw [eW e,b]; exact ih
theorem KT.repl {H:Hp}{kvs:List (List aR×V)}{xs:List (List aR×Addr×Value)} (r:KT H kvs xs) (k:List aR) {y:V}{u:Value} (ry:aV y u) :
  KT H (kvs.map fun kv=>if kv.1=k then (kv.1,y) else kv) (xs.map (putAt k u)):=by
 induction r with
|nil=>exact .nil
|@cons p q ps qs h t ih =>
  rw [map_cons,map_cons]
  refine .cons ?_ ih
  obtain ⟨h1,h2,h3⟩:=h
  unfold putAt
  by_cases e:p.1=k
  ·rw [if_pos e,if_pos (h1.symm.trans e)]; exact ⟨h1,h2,ry⟩
  ·rw [if_neg e,if_neg (fun z=>e (h1.trans z))]; exact ⟨h1,h2,h3⟩
theorem KT.put {H:Hp}{kvs:List (List aR×V)}{xs:List (List aR×Addr×Value)} (r:KT H kvs xs) (k:List aR) {b:Addr}{y:V}{u:Value} (hb:H b=some (.tup (k.map kV))) (ry:aV y u) :
  KT H (cV kvs k y) (storedH xs k b u):=by
 have e:(kvs.any fun kv=>decide (kv.1=k))=(atKey xs k).isSome:=by
  rw [uC,(r.val k).isSome_eq,Option.isSome_map]
 unfold cV storedH
 rw [e]
 by_cases q:(atKey xs k).isSome=true
 ·rw [if_pos q,if_pos q]; exact r.repl k ry
 ·rw [if_neg q,if_neg q]; exact Paired.snoc r ⟨rfl,hb,ry⟩
theorem KT.keeps {H H':Hp}{kvs:List (List aR×V)}{xs:List (List aR×Addr×Value)} (r:KT H kvs xs) (ht:∀ b ys,H b=some (.tup ys)->H' b=some (.tup ys)):KT H' kvs xs:=
 Paired.mapP r fun _ _ z=>⟨z.1,ht _ _ z.2.1,z.2.2⟩
section
variable {P:Program} {w:World} {H:Hp} {h:Heap} {a:Addr}
theorem OK {u:HO} (ok:gG P w H h) (e:Rd H a u):bC P w H h a u:=e.ok ok
theorem BE {kvs:List (aR×V)} (ok:gG P w H h) (e:Rd H a (.dK kvs)):kvs.length<=sizeLine/\(a==sysModules)=false/\∃ vs,KV kvs vs/\h.DictOf (aY P w) a vs:=
 show bC P w H h a (.dK kvs) from OK ok e
theorem lM {kvs:List (aR×V)} (ok:gG P w H h) (e:H a=some (.dK kvs)):kvs.length<=sizeLine/\(a==sysModules)=false/\∃ vs,KV kvs vs/\h.DictOf (aY P w) a vs:=BE ok (.inl e)
theorem oH {ks:List aR} (ok:gG P w H h) (e:H a=some (.tup (ks.map kV))):(tupleKind (aY P w)).is h ks a:=by
 obtain ⟨_,its,r,o,h1,h2,n,h3⟩:=(show bC P w H h a (.tup (ks.map kV)) from ok a _ e)
 exact ⟨o,its.toArray,n,h1,h2,h3,by simpa using qM r⟩
theorem IQ {kvs:List (List aR×V)} (ok:gG P w H h) (e:Rd H a (.dT kvs)):kvs.length<=sizeLine/\(a==sysModules)=false /\
  ∃ xs,KT H kvs xs/\h.DictOfH (tupleKind (aY P w)) a xs:=by
 obtain ⟨z,y,xs,r,o,es,ep,h1,h2,h3,h4,h5⟩:=(show bC P w H h a (.dT kvs) from OK ok e)
 refine ⟨z,y,xs,r,o,es,ep,h1,h2,h3,h4,fun x hx=>?_,h5⟩
 have all:∀ {l:List (List aR×V)} {m:List (List aR×Addr×Value)},KT H l m->∀ x∈m,(tupleKind (aY P w)).is h x.1 x.2.1:=by
  intro l m q
  induction q with
 |nil=>intro x hx; exact nomatch hx
 |@cons p q ps qs hq t ih =>
   intro x hx
   rcases mem_cons.mp hx with e|hx
   ·subst e
    exact oH ok (by rw [← hq.1]; exact hq.2.1)
   ·exact ih x hx
 exact all r x hx
theorem YQ {kvs:List (List aR×V)} (ok:gG P w H h) (e:H a=some (.dT kvs)):kvs.length<=sizeLine/\(a==sysModules)=false /\
  ∃ xs,KT H kvs xs/\h.DictOfH (tupleKind (aY P w)) a xs:=IQ ok (.inl e)
end
noncomputable def NY (H:Hp) (a:Addr) (y:V) (r:Option V):Prop:=
 (∃ kvs k,Rd H a (.dK kvs)/\y=kV k/\r=gC kvs k)∨∃ kvs k b,Rd H a (.dT kvs)/\y=.ref b/\H b=some (.tup (k.map kV))/\r=gC kvs k
noncomputable def tW (H:Hp) (a:Addr) (y v:V) (H':Hp):Prop:=
 (∃ kvs k,H a=some (.dK kvs)/\y=kV k/\kvs.length < sizeLine/\H'=upd H a (.dK (cV kvs k v))) ∨
 ∃ kvs k b,H a=some (.dT kvs)/\y=.ref b/\H b=some (.tup (k.map kV))/\kvs.length < sizeLine/\H'=upd H a (.dT (cV kvs k v))
theorem tW.k {H:Hp}{a:Addr}{kvs:List (aR×V)}{k:aR}{v:V} (e:H a=some (.dK kvs)) (hl:kvs.length < sizeLine):tW H a (kV k) v (upd H a (.dK (cV kvs k v))):=.inl ⟨kvs,k,e,rfl,hl,rfl⟩
theorem tW.t {H:Hp}{a b:Addr}{kvs:List (List aR×V)}{k:List aR}{v:V} (e:H a=some (.dT kvs)) (eb:H b=some (.tup (k.map kV))) (hl:kvs.length < sizeLine) :
  tW H a (.ref b) v (upd H a (.dT (cV kvs k v))):=.inr ⟨kvs,k,b,e,rfl,eb,hl,rfl⟩
section
variable {X:Cx} {pins:List (Addr×Obj)} {σ:St} {H:Hp} {s:Shared} {a:Addr} {y v:V} {u r:Value} {o:Option V} {A:Around} {E:Value -> Shared -> Prop}
theorem aL.big (I:aL X pins σ H s):sysModules < s.heap.objs.size:=by
 have h:mainGlobals < s.heap.objs.size:=(I.mod.glob.keeps I.bk).lt
 exact lt_trans (by decide) h
theorem DK {Q:Value->Shared->Prop} (hu:A.units+1 < cLine) (I:aL X pins σ H s) (g:NY H a y (some v)) (ry:aV y u) (h:∀ w' s',aL X pins σ H s'->aV v w'->Q w' s') :
  wpAny (model X.prog X.w) A (getItem (.ref a) u) Q E s:=by
 rcases g with ⟨kvs,k,e,ey,l⟩|⟨kvs,k,b,e,ey,eb,l⟩
 ·subst ey
  obtain ⟨z,hd,vs,rel,dd⟩:=BE I.hok e
  obtain ⟨w',hw,rw'⟩:=oX.some_of (v:=v) (o:=valueAt vs k) (by rw [l]; exact rel.val k)
  exact wpAny_getItem_of (vT ry) dd.mapOf hw (h w' _ (I.tok _) rw')
 ·subst ey
  cases (show u=Value.ref b from ry)
  obtain ⟨z,hd,xs,rel,dd⟩:=IQ I.hok e
  obtain ⟨w',hw,rw'⟩:=oX.some_of (v:=v) (o:=(atKey xs k).map (·.2)) (by rw [l]; exact rel.val k)
  obtain ⟨p,hp,hp2⟩:=Option.map_eq_some_iff.mp hw
  refine wpAny_getItem_heap (tupleKind_room_in1 hu) (oH I.hok eb) dd hp ?_
  rw [hp2]
  exact h w' _ (I.tok _) rw'
theorem mY {h':Heap}{t':Nat}{ob:HO} (I:aL X pins σ H s) (mu:ZA (H a)) (hs:Heap.SameBut a s.heap h') (he:∃ q,h'.get? a=some q) (new:bC X.prog X.w (upd H a ob) h' a ob) :
  aL X pins σ (upd H a ob) { s with heap:=h',toks:=t' }:=
 I.write (x:=a) (e:=a) mu (.inl rfl) (fun b q hb z=>(hs.2 b hb).trans z) he new
theorem oQ {P:Program}{w:World}{H':Hp}{h':Heap}{kvs:List (aR×V)}{vs:List (aR×Value)} (z:kvs.length<=sizeLine) (hd:(a==sysModules)=false) (rel:KV kvs vs) (dd:h'.DictOf (aY P w) a vs) :
  bC P w H' h' a (.dK kvs):=⟨z,hd,vs,rel,dd⟩
theorem DJ {H':Hp}{Q:Unit->Shared->Prop} (hu:A.units+1 < cLine) (I:aL X pins σ H s) (g:tW H a y v H') (ry:aV y u) (rv:aV v r) (h:∀ s',aL X pins σ H' s'->Q () s') :
  wpAny (model X.prog X.w) A (setItem (.ref a) u r) Q E s:=by
 rcases g with ⟨kvs,k,e,ey,l,eH⟩|⟨kvs,k,b,e,ey,eb,l,eH⟩
 ·subst ey eH
  obtain ⟨z,hd,vs,rel,dd⟩:=lM I.hok e
  have hz:vs.length<=sizeLine:=by rw [← rel.length]; exact z
  have hl:(cV kvs k v).length<=sizeLine:=by have:=iE kvs k v; omega
  refine wpAny_setItem_pairs (hsz:=hz) (vT ry) dd fun h' dd' hs=>h _ ?_
  have he:∃ q,h'.get? a=some q:=let ⟨q,_,_,hq,_⟩:=dd'; ⟨q,hq⟩
  exact mY I (by rw [e]; exact True.intro) hs he (oQ hl hd (rel.put k rv) dd')
 ·subst ey eH
  cases (show u=Value.ref b from ry)
  obtain ⟨z,hd,xs,rel,dd⟩:=YQ I.hok e
  have hz:xs.length<=sizeLine:=by rw [← Paired.length rel]; exact z
  have hl:(cV kvs k v).length<=sizeLine:=by have:=iE kvs k v; omega
  refine wpAny_setItem_heap (hsz:=hz) (tupleKind_room_in1 hu) (oH I.hok eb) dd fun h' dd' hs=>h _ ?_
  obtain ⟨q,es,ep,hq,h2,h3,h4,_,h5⟩:=dd'
  refine mY I (by rw [e]; exact True.intro) hs ⟨q,hq⟩ ⟨hl,hd,_,(rel.put k eb rv).keeps fun c ys ec=>?_,q,es,ep,hq,h2,h3,h4,h5⟩
  rw [aI (cD ec e (fun z=>nomatch z))]
  exact ec
end
section
variable {X:Cx} {pins:List (Addr×Obj)} {σ:St} {H:Hp} {s:Shared} {a:Addr} {kvs:List (aR×V)} {k:aR} {u:Value} {A:Around} {E:Value -> Shared -> Prop}
theorem NE {Q:Value->Shared->Prop} (I:aL X pins σ H s) (e:H a=some (.dK kvs)) (h:∀ s',aL X pins σ (upd H a (.dK [])) s'->Q .none s'):wpAny (model X.prog X.w) A (call (.builtin "dict.clear") [.ref a]) Q E s:=by
 obtain ⟨z,hd,vs,rel,dd⟩:=lM I.hok e
 refine call_meetsIn PySem.F.slot_dict_clear dd.typeIs PySem.F.entry_dict_clear (PySem.F.args_dict_clear_1 _) (meets_dict_clear (aY X.prog X.w) a) ⟨vs,dd,by rw [← rel.length]; exact z,fun h' dd' hs=>h _ ?_⟩
 have he:∃ q,h'.get? a=some q:=let ⟨q,_,_,hq,_⟩:=dd'; ⟨q,hq⟩
 exact mY (t':=s.toks) I (by rw [e]; exact True.intro) hs he (oQ (zero_le _) hd .nil dd')
theorem YS {Q:Value->Shared->Prop} (I:aL X pins σ H s) (e:Rd H a (.dK kvs)) (h:∀ t s',aL X pins σ H s'->Q (.int kvs.length t) s'):wpAny (model X.prog X.w) A (call (.builtin "len") [.ref a]) Q E s:=by
 obtain ⟨z,hd,vs,rel,dd⟩:=BE I.hok e
 refine call_len_dict hd dd (by rw [← rel.length]; rw [sizeLine_eq] at z; omega) ?_
 rw [← rel.length]
 exact h _ _ (I.tok _)
end
noncomputable def YZ (i:Expr):Prop:=∀ ov iv,subscripted i false ov iv=operate [ov,iv] (getItem ov iv)
theorem KC {prog:Program}{w:World}{A:Around}{E:Value->Shared->Prop}{s:Shared}{env:Env}{value slice:Expr}{pos:Pos}{T id:String}{Q:Value->Shared->Prop}
  (hl:typeLookup (.type T) "__getitem__"=pure (some (.builtin id))) (hs:YZ slice)
  (h:wpAny (model prog w) A (eval value env) (fun o s₁=>wpAny (model prog w) A (eval slice env) (fun i s₂=>s₂.TypeIs o T/\wpAny (model prog w) A (getItem o i) Q E s₂) E s₁) E s) :
  wpAny (model prog w) A (eval (.Subscript value slice pos) env) Q E s:=by
 refine Subscript_ (wpAny_mono h (fun o s₁ h₁=>wpAny_mono h₁ (fun i s₂ h₂=>?_) fun _ _ x=>x) fun _ _ x=>x)
 obtain ⟨hT,h₂⟩:=h₂
 unfold subscriptTail
 refine wpAny_bind ?_
 rw [getitemInPython_of_ne hT.not_modules]
 refine wpAny_bind (wpAny_specialOf hT hl ?_)
 have fin:wpAny (model prog w) A (subscripted slice false o i) (fun r s₃=>wpAny (model prog w) A (letTemporaryGo value o r >>= fun _=>pure r) Q E s₃) E s₂:=by
  rw [hs o i]
  exact wpAny_operating (wpAny_mono h₂ (fun r s₃ h₃=>wpAny_bind (wpAny_letTemporaryGo (wpAny_pure h₃))) fun _ _ x=>x)
 first
 |exact wpAny_pure (wpAny_bind fin)
 |exact wpAny_bind (wpAny_pure (wpAny_bind fin))
 |exact wpAny_bind fin
theorem wD {X:Cx}{pins:List (Addr×Obj)}{σ:St}{H:Hp}{s:Shared}{a:Addr}{y:V}{o:Option V} (I:aL X pins σ H s) (g:NY H a y o):s.TypeIs (.ref a) "dict":=by
 rcases g with ⟨kvs,k,e,_,_⟩|⟨kvs,k,b,e,_,_,_⟩
 ·obtain ⟨_,_,vs,_,dd⟩:=BE I.hok e
  exact dd.typeIs
 ·obtain ⟨_,_,xs,_,dd⟩:=IQ I.hok e
  exact dd.typeIs
noncomputable def OI (td ty:TE):TE:=fun σ H Q=>td σ H fun x H1=>ty σ H1 fun y H2=>∃ a v,x=.ref a/\NY H2 a y (some v)/\Q v H2
noncomputable def OJ (td ty tv:TE):TS:=fun D σ H=>tv σ H fun v H1=>td σ H1 fun x H2=>ty σ H2 fun y H3=>∃ a H4,x=.ref a/\tW H3 a y v H4/\D.nx σ H4
section
variable {X:Cx} {o i e value:Expr} {pos pos' tpos:Pos} {td ty tv:TE}
theorem iQ (hu:X.A.units+1 < cLine) (ho:PE X o td) (hi:PE X i ty) (hs:YZ i):PE X (.Subscript o i pos) (OI td ty):=by
 intro pins s σ H Q I h
 refine KC PySem.F.slot_dict_getitem.lookup hs (bZ (ho pins s σ H _ I h) fun u s1 ⟨x,H1,I1,rx,q1⟩=>bZ (hi pins s1 σ H1 _ I1 q1) fun iv s2 ⟨y,H2,I2,ry,a,v,ex,g,q2⟩=>?_)
 subst ex
 obtain rfl:u=Value.ref a:=rx
 exact ⟨wD I2 g,DK hu I2 g ry fun w' s3 I3 rw'=>⟨v,H2,I3,rw',q2⟩⟩
theorem jV (hu:X.A.units+1 < cLine) (ho:PE X o td) (hi:PE X i ty) (hv:PE X value tv) (hs:swapsWith value (some (.Subscript o i pos')) pos.line X.env=pure false) :
  PS X (.Assign [.Subscript o i pos'] value pos) (OJ td ty tv):=by
 intro pins s σ H D I h
 refine wpAny_Assign_Subscript (bZ (hv pins s σ H _ I h) fun r s1 ⟨v,H1,I1,rv,q1⟩=>bZ (ho pins s1 σ H1 _ I1 q1) fun u s2 ⟨x,H2,I2,rx,q2⟩=>bZ (hi pins s2 σ H2 _ I2 q2) fun iv s3 ⟨y,H3,I3,ry,a,H4,ex,g,q3⟩=>?_) hs
 subst ex
 obtain rfl:u=Value.ref a:=rx
 exact DJ hu I3 g ry rv fun s4 I4=>⟨σ,H4,I4,q3⟩
end
theorem wC {P:Program}{w:World}{H:Hp} (h:Heap) (hb:sysModules < h.objs.size):bC P w H (h.push { cls:=.type "dict",data:=.dict #[] }) h.objs.size (.dK []):=
 ⟨zero_le _,beq_eq_false_iff_ne.mpr (Ne.symm (ne_of_lt hb)),[],.nil,Heap.DictOf.new h⟩
theorem IR {P:Program}{w:World}{H:Hp} (h:Heap) (hb:sysModules < h.objs.size):bC P w H (h.push { cls:=.type "dict",data:=.dict #[] }) h.objs.size (.dT []):=
 ⟨zero_le _,beq_eq_false_iff_ne.mpr (Ne.symm (ne_of_lt hb)),[],.nil,_,#[],0,get?_push_size _ rfl,⟨rfl,rfl,rfl⟩,rfl,rfl,nodup_nil⟩
noncomputable def EL:TE:=fun _ H Q=>∀ p,H p=none->Q (.ref p) (upd H p (.dK []))
noncomputable def EK:TE:=fun _ H Q=>∀ p,H p=none->Q (.ref p) (upd H p (.dT []))
section
variable {X:Cx} {pos:Pos}
theorem nQ:PE X (.Dict [] [] pos) EL:=fun pins s σ H Q I h =>
 wpAny_Dict_empty ⟨.ref s.heap.objs.size,_,I.laid (a:=s.heap.objs.size) (o:=.dK []) (t':=s.toks) (fun _ _ q=>get?_push_of_some _ q) (le_refl _) (wC s.heap I.big),rfl,h _ (I.hok.fresh (le_refl _))⟩
theorem GL:PE X (.Dict [] [] pos) EK:=fun pins s σ H Q I h =>
 wpAny_Dict_empty ⟨.ref s.heap.objs.size,_,I.laid (a:=s.heap.objs.size) (o:=.dT []) (t':=s.toks) (fun _ _ q=>get?_push_of_some _ q) (le_refl _) (IR s.heap I.big),rfl,h _ (I.hok.fresh (le_refl _))⟩
end
noncomputable def wV:List (TE×TE)->St->Hp->(List (V×V)->Hp->Prop)->Prop
|[],_,H,Q=>Q [] H
|(tk,tv)::r,σ,H,Q=>tk σ H fun x H1=>tv σ H1 fun y H2=>wV r σ H2 fun ps H3=>Q ((x,y)::ps) H3
noncomputable abbrev VV:List (V×V)->List (Value×Value)->Prop:=Paired fun p q=>aV p.1 q.1/\aV p.2 q.2
noncomputable def ZP (X:Cx) (pos:Pos) (keys:List (Option Expr)) (values:List Expr) (trs:List (TE×TE)):Prop:=
 ∀ (pins:List (Addr×Obj)) (s:Shared) (σ:St) (H:Hp) (Q:List (V×V)->Hp->Prop),aL X pins σ H s->wV trs σ H Q ->
  wpAny (model X.prog X.w) X.A (evalPairs (pairTrees keys values X.env pos)) (fun vs s'=>∃ ps H',aL X pins σ H' s'/\VV ps vs/\Q ps H') X.xe s
theorem AB {X:Cx}{pos:Pos}:ZP X pos [] [] []:=fun pins s σ H Q I h=>pairTrees_nil_walk ⟨[],H,I,.nil,h⟩
theorem uW {X:Cx}{pos:Pos}{k v:Expr}{ks:List (Option Expr)}{vs:List Expr}{tk tv:TE}{trs:List (TE×TE)} (hk:PE X k tk) (hv:PE X v tv) (hr:ZP X pos ks vs trs) :
  ZP X pos (some k::ks) (v::vs) ((tk,tv)::trs):=fun pins s σ H Q I h =>
 pairTrees_cons_walk (bZ (hk pins s σ H _ I h) fun u s1 ⟨x,H1,I1,rx,q1⟩=>bZ (hv pins s1 σ H1 _ I1 q1) fun w2 s2 ⟨y,H2,I2,ry,q2⟩ =>
  bZ (hr pins s2 σ H2 _ I2 q2) fun ws s3 ⟨ps,H3,I3,rel,q3⟩=>⟨(x,y)::ps,H3,I3,.cons ⟨rx,ry⟩ rel,q3⟩)
noncomputable def dH (kvs more:List (aR×V)):List (aR×V):=more.foldl (fun acc kv=>cV acc kv.1 kv.2) kvs
theorem KV.merge:∀ {more:List (aR×V)}{rs:List (aR×Value)}{kvs:List (aR×V)}{vs:List (aR×Value)},KV more rs->KV kvs vs->KV (dH kvs more) (merged vs rs):=by
 intro more rs kvs vs r
 unfold KV at r
 induction r generalizing kvs vs with
|nil=>intro q; exact q
|@cons p q ps qs h t ih =>
  intro r0
  have e:KV (cV kvs p.1 p.2) (stored vs q.1 q.2):=by
   have:=r0.put p.1 h.2
   rw [← h.1]; exact this
  exact ih e
theorem fU:∀ (more kvs:List (aR×V)),(dH kvs more).length<=kvs.length+more.length
|[],kvs=>by show kvs.length<=kvs.length+0; omega
|p::r,kvs=>by
  have h1:=fU r (cV kvs p.1 p.2)
  have h2:=iE kvs p.1 p.2
  show (dH (cV kvs p.1 p.2) r).length<=_
  rw [length_cons]; omega
theorem oR {P:Program}{w:World}:∀ {kvs:List (aR×V)}{ws:List (Value×Value)},VV (kvs.map fun kv=>(kV kv.1,kv.2)) ws->∃ rs,Carries (aY P w) ws rs/\KV kvs rs
|[],_,r=>by rw [map_nil] at r; cases r; exact ⟨[],True.intro,.nil⟩
|p::kvs,_,r=>by
  rw [map_cons] at r
  cases r with
 |@cons a b as bs h t =>
   obtain ⟨rs,c,q⟩:=oR (P:=P) (w:=w) t
   obtain ⟨b1,b2⟩:=b
   exact ⟨(p.1,b2)::rs,⟨vT h.1,rfl,c⟩,.cons ⟨rfl,h.2⟩ q⟩
noncomputable def OH (trs:List (TE×TE)):TE:=fun σ H Q=>∀ p,H p=none->wV trs σ (upd H p (.dK [])) fun ps H2=>H2 p=some (.dK [])/\∃ kvs:List (aR×V),ps=kvs.map (fun kv=>(kV kv.1,kv.2))/\kvs.length<=15/\Q (.ref p) (upd H2 p (.dK (dH [] kvs)))
theorem AG {X:Cx}{pos:Pos}{keys:List (Option Expr)}{values:List Expr}{trs:List (TE×TE)} (h:ZP X pos keys values trs) (hall:keys.all (·.isSome)=true) (hl:keys.length=values.length) (h0:keys≠[])
  (h15:keys.length<=15):PE X (.Dict keys values pos) (OH trs):=by
 intro pins s σ H Q I q
 have hn:=I.hok.fresh (le_refl s.heap.objs.size)
 have I1:=I.laid (a:=s.heap.objs.size) (o:=.dK []) (h':=s.heap.push { cls:=.type "dict",data:=.dict #[] }) (t':=s.toks) (fun _ _ q=>get?_push_of_some _ q) (le_refl _) (wC s.heap I.big)
 refine wpAny_Dict_walk (knd:=aY X.prog X.w) hall hl h0 h15 (bZ (h pins _ σ _ _ I1 (q _ hn)) fun ws s2 ⟨ps,H2,I2,rel,e,kvs,ep,lk,q2⟩=>?_)
 subst ep
 obtain ⟨rs,c,rk⟩:=oR (P:=X.prog) (w:=X.w) rel
 obtain ⟨z,hd,vs0,r0,dd⟩:=lM I2.hok e
 cases r0
 refine ⟨rs,c,dd,fun h' dd' hs=>⟨.ref s.heap.objs.size,_,?_,rfl,q2⟩⟩
 have hz:(dH [] kvs).length<=sizeLine:=by
  have h1:=fU kvs []
  rw [List.length_nil] at h1
  rw [sizeLine_eq]; omega
 have he:∃ q,h'.get? s.heap.objs.size=some q:=let ⟨q,_,_,hq,_⟩:=dd'; ⟨q,hq⟩
 exact mY I2 (by rw [e]; exact True.intro) hs he (oQ hz hd (rk.merge .nil) dd')
section
variable {X:Cx} {pins:List (Addr×Obj)} {σ:St} {H:Hp} {s:Shared} {a:Addr} {y d:V} {u r:Value} {o:Option V} {A:Around} {E:Value -> Shared -> Prop}
end
section
variable {X:Cx} {o e f:Expr} {apos cpos:Pos} {td ty tx:TE}
end
section
variable {X:Cx} {pins:List (Addr×Obj)} {σ:St} {H:Hp} {s:Shared} {a:Addr} {kvs:List (aR×V)} {A:Around} {E:Value -> Shared -> Prop}
end
section
variable {X:Cx} {pins:List (Addr×Obj)} {σ:St} {H:Hp} {s:Shared} {a:Addr} {y:V} {u:Value} {A:Around} {E:Value -> Shared -> Prop}
end
end
section
section
variable {κ:Type} [DecidableEq κ]
end
end
section
noncomputable def Sm (n:Nat) (x:Int):Prop:=x.natAbs < 2 ^ n
theorem Sm.mono {m n:Nat}{x:Int} (h:Sm m x) (l:m<=n):Sm n x:=lt_of_lt_of_le h (Nat.pow_le_pow_right (by decide) l)
theorem Sm.bits {n:Nat}{x:Int} (h:Sm n x):Builtin.Int.intBits x<=n:=by
  unfold Builtin.Int.intBits
  split
  . exact zero_le _
  . have hn:x.natAbs < 2 ^ n:=h
    rename_i hx
    have h0 : x.natAbs ≠ 0 := fun e => hx (by have : x = 0 := by omega
                                              rw [this]; rfl)
    have:x.natAbs.log2 < n:=(Nat.log2_lt h0).mpr hn
    omega
theorem Sm.mulOk {a b:Int}{m n:Nat} (ha:Sm m a) (hb:Sm n b) (h:m+n<=134217728):IntMulOk a b:=PyProof.Rows.mulOk_of_bits ha.bits hb.bits h
theorem Sm.log2 {n:Nat}{x:Int} (h:Sm n x):x.natAbs.log2 < n+1:=by
 have hn:x.natAbs < 2 ^ n:=h
 by_cases h0:x.natAbs=0
 ·rw [h0,Nat.log2_zero]; omega
 ·have:=(Nat.log2_lt h0).mpr hn
  omega
theorem Sm.of {n:Nat}{x:Int} (h1:-(2 ^ n:Nat) < x) (h2:x < (2 ^ n:Nat)):Sm n x:=by
 unfold Sm
 generalize 2 ^ n=k at *
 omega
theorem Sm.mul {a b:Int}{m n:Nat} (ha:Sm m a) (hb:Sm n b):Sm (m+n) (a * b):=by
 unfold Sm at *
 rw [Int.natAbs_mul,Nat.pow_add]
 exact Nat.mul_lt_mul'' ha hb
theorem Sm.le {a b:Int}{n:Nat} (h:a.natAbs<=b.natAbs) (hb:Sm n b):Sm n a:=lt_of_le_of_lt h hb
section
variable {X:Cx}
noncomputable def jD (_ j:Int):Prop:=j≠0/\Sm 8000 j
theorem bE:gA X (binaryOp .FloorDiv) (rI jD fun i j=>.int (i.fdiv j)):=YA fun _ _ _ _ _ _ _ hc q=>floordiv_int hc.1 q (.inl (PyProof.noPylong_of_log2 (lt_trans hc.2.log2 (by decide))))
noncomputable def eO (i j:Int):Prop:=UU i j∨(Sm 60000000 i/\Sm 60000000 j)
theorem eO.ok {i j:Int} (h:eO i j):IntMulOk i j:=by
 rcases h with h|⟨h1,h2⟩
 ·exact h.ok
 ·exact h1.mulOk h2 (by decide)
theorem eO.l {i j:Int} (h1:-(2 ^ 64) < i) (h2:i < 2 ^ 64):eO i j:=.inl (.inl ⟨h1,h2⟩)
theorem eO.r {i j:Int} (h1:-(2 ^ 64) < j) (h2:j < 2 ^ 64):eO i j:=.inl (.inr ⟨h1,h2⟩)
theorem eO.s {i j:Int}{m n:Nat} (h1:Sm m i) (h2:Sm n j) (hm:m<=60000000) (hn:n<=60000000):eO i j:=.inr ⟨h1.mono hm,h2.mono hn⟩
theorem bO:gA X (binaryOp .Mult) (rI eO fun i j=>.int (i * j)):=YA fun _ _ _ _ _ _ _ hc q=>mul_int q hc.ok
noncomputable def OW (K:Frag) (T:String):List V->Hp->VK->Prop:=fun xs H Q=>∃ x t b,xs=[x,.ty T]/\kQ K H x t/\kitOne K t (.type T)=some b/\Q (.bl b) H
theorem qS {T:String}:cK X (.builtin "isinstance") (OW X.K T):=by
 intro pins s σ H xs us Q I r h
 obtain ⟨x,t,b,rfl,ty,e,q⟩:=h
 obtain ⟨u,v,rfl,ru,rv⟩:=aM.two r
 obtain rfl:v=Value.type T:=rv
 exact CZ I ru ty e fun tk=>⟨.bl b,H,I.tok tk,rfl,q⟩
end
section
variable {σ:St} {H H':Hp} {Q:VK} {D:cU} {t u:TS} {te ta tb:TE} {v w x:V} {i j:Int} {b c:Bool} {X:Cx} {K:Frag}
theorem WB {n:Nat} (h:σ[n]?=some (some v)) (k:Q v H):QK n σ H Q:=⟨v,h,k⟩
theorem r_c (k:Q v H):tC v σ H Q:=k
theorem zQ (k:t ⟨u D,D.rt,D.bk,D.ct⟩ σ H):VN t u D σ H:=k
theorem RC {n r b' c'} (k:n σ H):cU.nx ⟨n,r,b',c'⟩ σ H:=k
theorem Ab {n r b' c'} (k:r v H):cU.rt ⟨n,r,b',c'⟩ v H:=k
theorem RD (k:D.nx σ H):OD D σ H:=k
theorem XH {g:TG} (k:te σ H fun x H1=>g x σ H1 D.nx):QN te g D σ H:=k
theorem LD {n:Nat}{R:St->Hp->Prop} (k:R (σ.set n (some v)) H):kH n v σ H R:=k
theorem Ad {r:R2} (k:ta σ H fun x H1=>tb σ H1 fun y H2=>r x y H2 Q):UV r ta tb σ H Q:=k
theorem ZY {r} (k:ta σ H fun x H1=>r x H1 Q):Bh r ta σ H Q:=k
theorem RT {g} (k:Q (g i j) H):JM g (.int i) (.int j) H Q:=⟨i,j,rfl,rfl,k⟩
theorem UW {C g} (c:C i j) (k:Q (g i j) H):rI C g (.int i) (.int j) H Q:=⟨i,j,rfl,rfl,c,k⟩
theorem r_U {g} (k:Q (g i) H):rU g (.int i) H Q:=⟨i,rfl,k⟩
noncomputable def bK (R:Bool->Hp->Prop):VK:=fun x H=>∃ k,x=.bl k/\R k H
theorem Ah {R:Bool->Hp->Prop} (k:R b H):bK R (.bl b) H:=⟨b,rfl,k⟩
theorem QV {R:Bool->Hp->Prop} (k:te σ H (bK R)):OB te σ H R:=k
theorem ZZ {R:Bool->Hp->Prop} (k:te σ H (bK R)):tB te σ H R:=k
theorem WV {tc:TT} (k:tc σ H fun b H1=>if b=true then t D σ H1 else u D σ H1):VT tc t u D σ H:=k
theorem Af {tc:TT} (k:tc σ H fun b H1=>if b=true then ta σ H1 Q else tb σ H1 Q):Bk tc ta tb σ H Q:=k
theorem XI {ca cb:TT}{R:Bool->Hp->Prop} (k:ca σ H fun c H1=>if c=true then cb σ H1 R else R false H1):VX ca cb σ H R:=k
theorem Ac {ca cb:TT}{R:Bool->Hp->Prop} (k:ca σ H fun c H1=>if c=true then R true H1 else cb σ H1 R):Bj ca cb σ H R:=k
theorem WK {ca:TT}{R:Bool->Hp->Prop} (k:ca σ H fun c H1=>R (!c) H1):VR ca σ H R:=k
theorem WH (k:te σ H D.rt):VP te D σ H:=k
theorem RK (k:te σ H fun _ H1=>D.nx σ H1):OG te D σ H:=k
theorem WL {R:List V->Hp->Prop} (k:R [] H):wW σ H R:=k
theorem RN {tr:TA}{R:List V->Hp->Prop} (k:ta σ H fun x H1=>tr σ H1 fun xs H2=>R (x::xs) H2):iZ ta tr σ H R:=k
noncomputable def QI (Q:VK):List V->Hp->Prop:=fun xs H1=>xs.length<=sizeLine/\∀ p,H1 p=none->Q (.ref p) (upd H1 p (.tup xs))
noncomputable def SW (Q:VK):List V->Hp->Prop:=fun xs H1=>xs.length<=sizeLine/\∀ p,H1 p=none->Q (.ref p) (upd H1 p (.lst xs))
theorem kC {n:Nat} (h:n<=1000):n<=sizeLine:=le_of_lt (dL h)
theorem WC {tr:TA} (k:tr σ H (QI Q)):VJ tr σ H Q:=k
theorem WO {tr:TA} (k:tr σ H (SW Q)):VS tr σ H Q:=k
theorem gO {xs:List V} (k:∀ p,H p=none->Q (.ref p) (upd H p (.tup xs))) (h:xs.length<=1000:=by exact le_of_ble_eq_true rfl):QI Q xs H:=⟨kC h,k⟩
theorem bU {xs:List V} (k:∀ p,H p=none->Q (.ref p) (upd H p (.lst xs))) (h:xs.length<=1000:=by exact le_of_ble_eq_true rfl):SW Q xs H:=⟨kC h,k⟩
theorem RP {sp:Sp}{E:XK}{tr:TA} (k:tr σ H fun vs H1=>sp vs H1 Q E):zC sp [] E tr σ H Q:=by
 show tr σ H fun vs H1=>sp (vs++[]) H1 Q E
 have e:(fun (vs:List V) H1=>sp (vs++[]) H1 Q E)=fun vs H1=>sp vs H1 Q E:=by
  funext vs H1
  rw [append_nil]
 rw [e]; exact k
theorem Ai {r}{tr:TA} (k:tr σ H fun vs H1=>r vs H1 Q):ZI r tr σ H Q:=k
theorem WI {n m:Nat}{ta:TA} (k:ta σ H fun vs H1=>∃ v w,vs=[v,w]/\D.nx ((σ.set n (some v)).set m (some w)) H1):VQ n m ta D σ H:=k
theorem WZ (k:Q (.bl (decide (i=j))) H):Ap (.int i) (.int j) H Q:=⟨rfl,by rw [mX,Bool.beq_eq_decide_eq]; exact k⟩
theorem WM (k:Q (.bl (!decide (i=j))) H):Ao (.int i) (.int j) H Q:=⟨rfl,by rw [mX,Bool.beq_eq_decide_eq]; exact k⟩
theorem OM {p:Addr}{xs:List V} (h:bS K H p xs) (e:kO xs i=some v) (k:Q v H):LN K (.ref p) (.int i) H Q:=⟨p,xs,i,v,rfl,rfl,h,e,k⟩
theorem WT {p:Addr}{xs:List V} (h:tX K H p xs) (e:kO xs i=some v) (k:Q v H):LM K (.ref p) (.int i) H Q:=⟨p,xs,i,v,rfl,rfl,h,e,k⟩
noncomputable def nO (K:Frag):R2:=fun x y H Q=>LN K x y H Q∨LM K x y H Q∨RV x y H Q
theorem cP:JJ X (nO X.K):=TL
theorem bY {p:Addr}{xs:List V} (h:H p=some (.lst xs)) (e:kO xs i=some v) (k:Q v H):nO K (.ref p) (.int i) H Q:=.inl (OM (bS.of h) e k)
theorem WR {p:Addr}{xs:List V} (h:H p=some (.tup xs)) (e:kO xs i=some v) (k:Q v H):nO K (.ref p) (.int i) H Q:=.inr (.inl (WT (tX.of h) e k))
theorem i_T {A B:Prop} (h:A):if true=true then A else B:=YE h
theorem i_F {A B:Prop} (h:B):if false=true then A else B:=YF h
theorem YG {p A B:Prop} [Decidable p] (hp:p) (h:A):if decide p=true then A else B:=by rw [decide_eq_true hp]; exact YE h
theorem YH {p A B:Prop} [Decidable p] (hp:¬ p) (h:B):if decide p=true then A else B:=by rw [decide_eq_false hp]; exact YF h
theorem lY {p A B:Prop} [Decidable p] (h1:p->A) (h2:¬ p->B):if decide p=true then A else B:=by
 by_cases h:p
 ·exact YG h (h1 h)
 ·exact YH h (h2 h)
theorem TN {A B:Prop} (h:if b=true then B else A):if (!b)=true then A else B:=by cases b <;> exact h
end
noncomputable def Kp (p:Addr) (H H':Hp):Prop:=∀ b o,b≠p->H b=some o->H' b=some o
theorem Kp.refl (p:Addr) (H:Hp):Kp p H H:=fun _ _ _ h=>h
theorem Kp.trans {p:Addr}{H H1 H2:Hp} (a:Kp p H H1) (b:Kp p H1 H2):Kp p H H2:=fun c o n h=>b c o n (a c o n h)
theorem Kp.upd {p:Addr}{H:Hp}{o:HO}:Kp p H (upd H p o):=fun c u n h=>by rw [aI n]; exact h
theorem Kp.new {p q:Addr}{H:Hp}{o:HO} (hq:H q=none):Kp p H (L2.upd H q o):=fun c u n h=>by rw [aI (aB h hq)]; exact h
theorem aJ.new {q:Addr}{H:Hp}{o:HO} (hq:H q=none):aJ H (upd H q o):=fun c u h=>by rw [aI (aB h hq)]; exact h
theorem aJ.kp {p:Addr}{H H':Hp} (s:aJ H H'):Kp p H H':=fun c o _ h=>s c o h
noncomputable def Bs (H:Hp) (p:Addr) (n:Int):Prop:=∃ a b c:Int,H p=some (.lst [.int a,.int b,.int c])/\0<=a/\0<=b/\b<=n
structure Df (K:Frag) (mg:Str->Option Value) (x:Str) (st:Stmt) (ps:List Str):Prop where
 ex:∃ (f:Addr) (fd:FuncData),(∃ (oc:Value) (od:Option Addr) (dV kV doc pm:Value) (an:Option Addr) (cdv ct:Value) (osl:Array (Option Value)),
  fd=fnOf x x (bJ st) (aZ st) (aE st) dV kV doc pm an cdv ct/\K.lookup f=some ⟨oc,od,.func fd,osl⟩/\PySem.W.codeIn K cdv x=true)/\keepIn K (.ref f)=true/\mg x=some (.ref f)/\fN K fd ps []
structure bV (P:Program) (w:World) (K:Frag) (mg:Str->Option Value) (base:Heap) (k:Nat) (x:Str) (ps:List Str) (sp:Sp):Prop where
 ex:∃ (f:Addr) (fd:FuncData),mg x=some (.ref f)/\keepIn K (.ref f)=true/\fN K fd ps []/\iB P w K mg base JU k f fd ps sp
theorem bV.mono {P:Program}{w:World}{K:Frag}{mg:Str->Option Value}{base:Heap}{j k:Nat}{x:Str}{ps:List Str}{sp:Sp} (o:bV P w K mg base j x ps sp) (h:j<=k):bV P w K mg base k x ps sp:=
 let ⟨f,fd,a,b,c,d⟩:=o.ex; ⟨f,fd,a,b,c,d.mono h⟩
theorem bV.of {P:Program}{w:World}{K:Frag}{mg:Str->Option Value}{base:Heap}{k:Nat}{x:Str}{st:Stmt}{N ps:List Str}{sp:Sp} (d:Df K mg x st ps) (S:aO N ps (aE st)) (len:∀ vs H Q E,sp vs H Q E->vs.length=ps.length)
  (hbody:∀ (f:Addr) (cdv:Value) (A:Around) (outer:List Env) (s:Shared) (H:Hp) (vs:List V) (Q:VK) (E:XK),dJ k (A.deeper (envOfC x (aE st) s.heap.objs.size f cdv))->sp vs H Q E ->
   ∃ t,tS (lG JU P w K mg base N x (aE st) f cdv A outer s H E).nox (aZ st) t/\t { nx:=fun _ H'=>Q .non H',rt:=Q } (hX N vs) H):bV P w K mg base (k+1) x ps sp:=by
 obtain ⟨f,fd,⟨oc,od,dV,kV,doc,pm,an,cdv,ct,osl,rfl,lk,hcd⟩,kp,a,b⟩:=d.ex
 refine ⟨f,_,a,kp,b,vW lk hcd S len fun A outer s H vs Q E hr hsp=>?_⟩
 obtain ⟨t,h,q⟩:=hbody f cdv A outer s H vs Q E hr hsp
 exact ⟨t,h.nox,q⟩
theorem YR {K:Frag}{mg:Str->Option Value}{h:Heap}{x:Str}{st:Stmt}{ps:List Str}{f:Addr}{oc:Value}{od an:Option Addr}{osl:Array (Option Value)}{dV kV doc pm cdv ct:Value} (X:K.In h) (G:h.Ns mainGlobals mg)
  (a:nsIn K mainGlobals x=some (some (.ref f))) (l:K.lookup f=some ⟨oc,od,.func (fnOf x x (bJ st) (aZ st) (aE st) dV kV doc pm an cdv ct),osl⟩)
  (c:PySem.W.codeIn K cdv x=true) (k:keepIn K (.ref f)=true)
  (b:∀ us:List Value,us.length=ps.length->bindArgs (fnOf x x (bJ st) (aZ st) (aE st) dV kV doc pm an cdv ct) ⟨us,[]⟩=pure (ps.zip us)):Df K mg x st ps:=
 ⟨f,_,⟨oc,od,dV,kV,doc,pm,an,cdv,ct,osl,rfl,l,c⟩,k,mg_of X G a,.all b⟩
section
variable {X:Cx} {k:Nat} {x:Str} {ps:List Str} {dvs:List V} {sp:Sp} {p pos:Pos} {e:Expr} {es:List Expr} {t:TA}
end
section
variable {X:Cx} {k:Nat} {x:Str} {ps:List Str} {sp:Sp} {p pos:Pos} {e:Expr} {es:List Expr} {t:TA}
theorem aK (o:bV X.prog X.w X.K X.mg X.base k x ps sp) (hr:dJ k X.A) (hg:Gl X x) (ha:PA X (e::es) t) (hdb:(x==("__debug__":Str))=false:=by decide)
  (he:starEach (e::es) X.env=(false,eval e X.env)::starEach es X.env:=by rfl) (hpl:(backTo pos (starEach es X.env)).any (·.1)=false:=by rfl) :
  PE X (.Call (.Name x p) (e::es) [] pos) (zC sp [] E0 t):=by
 obtain ⟨f,fd,a,b,c,d⟩:=o.ex
 exact AH d hr hg a b c .nil XU ha hdb he hpl
end
section
variable {σ:St} {H:Hp} {Q:VK} {D:cU} {v:V} {i j:Int} {K:Frag}
theorem WS {p:Addr}{xs:List V} (h:bS K H p xs) (e:kO xs i=some v) (k:Q v H):nO K (.ref p) (.int i) H Q:=.inl (OM h e k)
theorem WN (h:0 < j) (k:Q (.int (i % j)) H):rI (fun _ j=>0 < j) (fun i j=>.int (i % j)) (.int i) (.int j) H Q:=UW h k
theorem qB (h:eO i j) (k:Q (.int (i * j)) H):rI eO (fun i j=>.int (i * j)) (.int i) (.int j) H Q:=UW h k
theorem jD.of (h0:0 < j) (h1:j < 2 ^ 64):jD i j:=⟨by omega,Sm.mono (m:=64) (Sm.of (by omega) (by omega)) (by decide)⟩
theorem fQ (h:jD i j) (k:Q (.int (i.fdiv j)) H):rI jD (fun i j=>.int (i.fdiv j)) (.int i) (.int j) H Q:=UW h k
theorem QZ (k:Q (.int 1000000000) H):rI UT (fun i j=>.int (i ^ j.toNat)) (.int 10) (.int 9) H Q:=UW ⟨by decide,by decide,by decide⟩ k
theorem RB {n m:Nat}{w:V} (k:D.nx ((σ.set n (some v)).set m (some w)) H):∃ v' w',[v,w]=[v',w']/\D.nx ((σ.set n (some v')).set m (some w')) H:=⟨v,w,rfl,k⟩
end
theorem jO:bootBuiltins "int"=some (.type "int"):=by decide +kernel
theorem UF:bootBuiltins "str"=some (.type "str"):=by decide +kernel
theorem kN:bootBuiltins "list"=some (.type "list"):=by decide +kernel
theorem IX:bootBuiltins "tuple"=some (.type "tuple"):=by decide +kernel
theorem BN:bootBuiltins "dict"=some (.type "dict"):=by decide +kernel
theorem IY:bootBuiltins "set"=some (.type "set"):=by decide +kernel
theorem tK:bootBuiltins "enumerate"=some (.type "enumerate"):=by decide +kernel
theorem UE:bootBuiltins "zip"=some (.type "zip"):=by decide +kernel
theorem wI:bootBuiltins "reversed"=some (.type "reversed"):=by decide +kernel
theorem fZ:bootBuiltins "len"=some (.builtin "len"):=by decide +kernel
theorem IZ:bootBuiltins "abs"=some (.builtin "abs"):=by decide +kernel
theorem UH:bootBuiltins "max"=some (.builtin "max"):=by decide +kernel
theorem UG:bootBuiltins "min"=some (.builtin "min"):=by decide +kernel
theorem dB:bootBuiltins "isinstance"=some (.builtin "isinstance"):=by decide +kernel
theorem iV:bootBuiltins "sorted"=some (.builtin "sorted"):=by decide +kernel
structure Bl (mg:Str->Option Value):Prop where
 z_int:mg "int"=none
 z_bool:mg "bool"=none
 z_str:mg "str"=none
 z_list:mg "list"=none
 z_tuple:mg "tuple"=none
 z_dict:mg "dict"=none
 z_set:mg "set"=none
 z_range:mg "range"=none
 z_enumerate:mg "enumerate"=none
 z_zip:mg "zip"=none
 z_reversed:mg "reversed"=none
 z_len:mg "len"=none
 z_abs:mg "abs"=none
 z_max:mg "max"=none
 z_min:mg "min"=none
 z_isinstance:mg "isinstance"=none
 z_sorted:mg "sorted"=none
 z_all:mg "all"=none
 z_any:mg "any"=none
 z_sum:mg "sum"=none
section
variable {K:Frag} {H:Hp} {Q:VK}
theorem iF:kitOne K (.type "str") (.type "str")=some true:=by first|rfl|with_unfolding_all rfl|decide
theorem pI:kitOne K (.type "tuple") (.type "str")=some false:=by first|rfl|with_unfolding_all rfl|decide
theorem lV:kitOne K (.type "tuple") (.type "tuple")=some true:=by first|rfl|with_unfolding_all rfl|decide
theorem nM {T:String}{x:V}{t:Value}{b:Bool} (ty:kQ K H x t) (e:kitOne K t (.type T)=some b) (k:Q (.bl b) H):OW K T [x,.ty T] H Q:=⟨x,t,b,rfl,ty,e,k⟩
end
section
variable {X:Cx} {K:Frag} {σ:St} {H:Hp} {Q:VK} {D:cU} {i j:Int} {b:Bool}
noncomputable def XT:List V->Hp->VK->Prop:=fun xs H Q=>∃ i,xs=[.int i]/\Q (.int (if i < 0 then -i else i)) H
theorem QB:cK X (.builtin "abs") XT:=IW
theorem XJ (k:Q (.int (if i < 0 then -i else i)) H):XT [.int i] H Q:=⟨i,rfl,k⟩
noncomputable def LL (K:Frag):List V->Hp->VK->Prop:=fun xs H Q=>∃ x n,xs=[x]/\ZC K x H n/\Q (.int n) H
theorem kL:cK X (.builtin "len") (LL X.K):=IV
theorem FP {p:Addr}{xs:List V} (h:bS K H p xs) (k:Q (.int xs.length) H):LL K [.ref p] H Q:=⟨_,_,rfl,.inl ⟨xs,h,rfl⟩,k⟩
theorem RH {p:Addr}{xs:List V} (h:H p=some (.lst xs)) (k:Q (.int xs.length) H):LL K [.ref p] H Q:=FP (bS.of h) k
theorem rS {x:Str} (h:x.length<=sizeLine) (k:Q (.int x.length) H):LL K [.str x] H Q:=⟨_,_,rfl,⟨h,rfl⟩,k⟩
noncomputable def OX:List V->Hp->VK->Prop:=fun xs H Q=>(∃ i,xs=[.int i]/\Q (.int i) H)∨∃ k,xs=[.bl k]/\Q (.int (if k then 1 else 0)) H
theorem oU:cK X (.type "int") OX:=DO
theorem RI (k:Q (.int (if b then 1 else 0)) H):OX [.bl b] H Q:=.inr ⟨b,rfl,k⟩
noncomputable def yE (g:TG) (tb:TS) (D:cU) (σ:St):It->Hp->Prop:=fun J H1=>∃ W:Nat->Nat->St->Hp->Prop,(∃ m,W 0 m σ H1)/\∀ i m σ H,W i m σ H ->
 (J.stop i H/\D.nx σ H)∨(J.go i H/\∃ N:St->Hp->Prop,(∀ σ' H',N σ' H'->∃ m',m' < m/\W (i+1) m' σ' H')/\∀ x H',J.yld i H x H'->g x σ H' fun σ2 H2=>tb { D with nx:=N,ct:=N,bk:=D.nx } σ2 H2)
theorem WW {wi:TI}{g:TG}{tb:TS} (k:wi σ H (yE g tb D σ)):QM wi g tb D σ H:=k
noncomputable def WA (R:It->Hp->Prop):List V->Hp->Prop:=fun vs H1=>∃ j:Int,vs=[.int j]/\-(2 ^ 62)<=j/\j < 2 ^ 62/\R (JS 0 j.toNat) H1
noncomputable def VZ (R:It->Hp->Prop):List V->Hp->Prop:=fun vs H1=>∃ i j:Int,vs=[.int i,.int j]/\(-(2 ^ 62)<=i/\i < 2 ^ 62/\-(2 ^ 62)<=j/\j < 2 ^ 62)/\R (JS i (j - i).toNat) H1
theorem QY {ta:TA}{R:It->Hp->Prop} (k:ta σ H (WA R)):PQ ta σ H R:=k
theorem QX {ta:TA}{R:It->Hp->Prop} (k:ta σ H (VZ R)):PP ta σ H R:=k
theorem rW {lo:Int}{n:Nat}{g:TG}{tb:TS} (Pv:Nat->St->Hp->Prop) (h0:Pv 0 σ H)
  (hs:∀ i σ H,i < n->Pv i σ H->g (.int (lo+i)) σ H fun σ2 H2=>tb ⟨Pv (i+1),D.rt,D.nx,Pv (i+1)⟩ σ2 H2) (hd:∀ σ H,Pv n σ H->D.nx σ H):yE g tb D σ (JS lo n) H:=DE Pv h0 hs hd
noncomputable def PH (K:Frag) (R:It->Hp->Prop):VK:=fun x H1=>∃ a,x=.ref a/\(∃ xs,bS K H1 a xs)/\R (JT K a) H1
theorem KZ {tl:TE}{R:It->Hp->Prop} (k:tl σ H (PH K R)):PR K tl σ H R:=k
theorem cA {a:Addr}{xs:List V}{R:It->Hp->Prop} (h:bS K H a xs) (k:R (JT K a) H):PH K R (.ref a) H:=⟨a,rfl,⟨xs,h⟩,k⟩
theorem gQ {a:Addr}{xs:List V}{g:TG}{tb:TS} (Pv:Nat->St->Hp->Prop) (h0:Pv 0 σ H) (hl:∀ i σ H,i<=xs.length->Pv i σ H->bS K H a xs)
  (hs:∀ i x σ H,xs[i]?=some x->Pv i σ H->g x σ H fun σ2 H2=>tb ⟨Pv (i+1),D.rt,D.nx,Pv (i+1)⟩ σ2 H2) (hd:∀ σ H,Pv xs.length σ H->D.nx σ H):yE g tb D σ (JT K a) H:=IE Pv h0 hl hs hd
end
end
end L2
namespace L2
open PySem
noncomputable def sg (t b:Int):Int:=if b < 0 then 0 - (Int.gcd t b:Int) else (Int.gcd t b:Int)
noncomputable def dY (t b:Int):Int:=t.fdiv (sg t b)
noncomputable def dO (t b:Int):Int:=b.fdiv (sg t b)
theorem kD {t b:Int} (h:b≠0):0 < Int.gcd t b:=Nat.pos_of_ne_zero fun e=>h (Int.gcd_eq_zero_iff.mp e).2
theorem EW {t b:Int} (h:b≠0):sg t b≠0:=by
 have:=kD (t:=t) h
 unfold sg
 split <;> omega
theorem EY (t b:Int):sg t b ∣ t:=by
 unfold sg
 split
 ·exact (Int.zero_sub _ ▸ Int.neg_dvd.mpr (Int.gcd_dvd_left ..))
 ·exact Int.gcd_dvd_left ..
theorem EX (t b:Int):sg t b ∣ b:=by
 unfold sg
 split
 ·exact (Int.zero_sub _ ▸ Int.neg_dvd.mpr (Int.gcd_dvd_right ..))
 ·exact Int.gcd_dvd_right ..
theorem kJ {a g:Int} (hg:g≠0) (h:g ∣ a):a.fdiv g * g=a:=by
 obtain ⟨c,rfl⟩:=h
 rw [Int.mul_fdiv_cancel_left _ hg,Int.mul_comm]
theorem oB {t b:Int} (h:b≠0):dY t b * sg t b=t:=kJ (EW h) (EY t b)
theorem kB {t b:Int} (h:b≠0):dO t b * sg t b=b:=kJ (EW h) (EX t b)
theorem pX (t b:Int):(sg t b).natAbs=Int.gcd t b:=by
 unfold sg
 split <;> omega
theorem oC {t b:Int} (h:b≠0):0 < dO t b:=by
 have e:=kB (t:=t) h
 have hp:=kD (t:=t) h
 by_cases hb:b < 0
 ·have hs:sg t b < 0:=by unfold sg; rw [if_pos hb]; omega
  rcases Int.lt_or_le 0 (dO t b) with q|q
  ·exact q
  ·have:0<=dO t b * sg t b:=Int.mul_nonneg_of_nonpos_of_nonpos q (Int.le_of_lt hs)
   omega
 ·have hs:0 < sg t b:=by unfold sg; rw [if_neg hb]; omega
  rcases Int.lt_or_le 0 (dO t b) with q|q
  ·exact q
  ·have:dO t b * sg t b<=0:=Int.mul_nonpos_of_nonpos_of_nonneg q (Int.le_of_lt hs)
   omega
theorem AS {t b:Int} (h:b≠0):Int.gcd (dY t b) (dO t b)=1:=by
 have e1:=oB (t:=t) h
 have e2:=kB (t:=t) h
 have hp:=kD (t:=t) h
 have e:Int.gcd (dY t b * sg t b) (dO t b * sg t b)=Int.gcd (dY t b) (dO t b) * (sg t b).natAbs:=Int.gcd_mul_right ..
 rw [e1,e2,pX] at e
 have:1 * Int.gcd t b=Int.gcd (dY t b) (dO t b) * Int.gcd t b:=by omega
 exact (Nat.eq_of_mul_eq_mul_right hp this).symm
theorem CK {t b:Int} (h:b≠0):t * dO t b=b * dY t b:=by
 have e1:=oB (t:=t) h
 have e2:=kB (t:=t) h
 calc t * dO t b=(dY t b * sg t b) * dO t b:=by rw [e1]
  _=(dO t b * sg t b) * dY t b:=by rw [Int.mul_assoc,Int.mul_comm (sg t b),← Int.mul_assoc,Int.mul_comm (dY t b),Int.mul_assoc,Int.mul_comm (dY t b),← Int.mul_assoc]
  _=b * dY t b:=by rw [e2]
theorem eB {a g c:Int} (hg:g≠0) (e:a * g=c):a.natAbs<=c.natAbs:=by
 rw [← e,Int.natAbs_mul]
 exact Nat.le_mul_of_pos_right _ (by omega)
theorem IB {one other:Int} (h:0 < other):Int.gcd other (one % other)=Int.gcd one other:=by
 have e:one % other=one - (one / other) * other:=by rw [Int.emod_def,Int.mul_comm]
 rw [e,Int.gcd_comm other,Int.gcd_sub_mul_right_left]
theorem DD {one other:Int} (h:other≠0):Int.gcd other (one.fmod other)=Int.gcd one other:=by
 have e:one.fmod other=one - (one.fdiv other) * other:=by rw [Int.fmod_def,Int.mul_comm]
 rw [e,Int.gcd_comm other,Int.gcd_sub_mul_right_left]
theorem BC {k n m:Int} (h:k ∣ n * m) (g:Int.gcd k n=1):k ∣ m:=by
 have q:=Int.dvd_gcd_mul_iff_dvd_mul.mpr h
 rw [g] at q
 simpa using q
theorem HL {a b c d:Int} (hb:0 < b) (hd:0 < d) (h1:Int.gcd a b=1) (h2:Int.gcd c d=1) (e:a * d=c * b):a=c/\b=d:=by
 have k1:b ∣ d:=by
  have:b ∣ a * d:=⟨c,by rw [e,Int.mul_comm]⟩
  exact BC this (by rw [Int.gcd_comm]; exact h1)
 have k2:d ∣ b:=by
  have:d ∣ c * b:=⟨a,by rw [← e,Int.mul_comm]⟩
  exact BC this (by rw [Int.gcd_comm]; exact h2)
 have eb:b=d:=by
  have:=Int.le_of_dvd hd k1
  have:=Int.le_of_dvd hb k2
  omega
 subst eb
 exact ⟨Int.eq_of_mul_eq_mul_right (by omega) e,rfl⟩
theorem Aq {ns:List Int}{i:Int} (h0:0<=i) (h1:i < ns.length):∃ z,z∈ns/\kO (ns.map V.int) i=some (.int z):=by
 have hk:i.toNat < ns.length:=by omega
 have ek:i=((i.toNat:Nat):Int):=by omega
 have q:kO (ns.map V.int) ((i.toNat:Nat):Int)=some (.int ns[i.toNat]):=cJ (by rw [List.getElem?_map,List.getElem?_eq_getElem hk] <;> rfl)
 rw [← ek] at q
 exact ⟨ns[i.toNat],List.getElem_mem hk,q⟩
theorem RE {i j:Int}{H:Hp}{Q:VK} (h:j≠0) (k:Q (.int (i.fmod j)) H):rI (fun _ j=>j≠0) (fun i j=>.int (i.fmod j)) (.int i) (.int j) H Q:=UW h k
theorem MV {a b:Int} (h:b≠0):(a.fmod b).natAbs < b.natAbs:=by
 have e:=Int.fmod_eq_emod (a:=a) (b:=b)
 have h1:=Int.emod_nonneg a h
 have h2:=Int.emod_lt a h
 rw [e]
 by_cases hc:0<=b∨b ∣ a
 ·rw [if_pos hc]
  omega
 ·rw [if_neg hc]
  have h3:a % b≠0:=fun z=>hc (.inr (Int.dvd_of_emod_eq_zero z))
  omega
theorem qJ {t b:Int} (h:b≠0):dY t b * b=t * dO t b:=by rw [CK h,Int.mul_comm]
theorem SX {t b f g:Int} (hb:b≠0) (hg:0 < g) (hc:Int.gcd f g=1) (e:f * b=t * g):f=dY t b/\g=dO t b:=by
 have e1:=qJ (t:=t) hb
 have hp:=oC (t:=t) hb
 refine HL hg hp hc (AS hb) ?_
 have:(f * dO t b) * b=(dY t b * g) * b:=by
  have a1:(f * dO t b) * b=(f * b) * dO t b:=by rw [Int.mul_assoc,Int.mul_comm (dO t b),← Int.mul_assoc]
  have a2:(dY t b * g) * b=(dY t b * b) * g:=by rw [Int.mul_assoc,Int.mul_comm g,← Int.mul_assoc]
  rw [a1,a2,e,e1,Int.mul_assoc,Int.mul_comm g,← Int.mul_assoc]
 exact Int.eq_of_mul_eq_mul_right hb this
end L2
namespace L2
open PySem PySem.Spec PyProof.Rows
section
inductive Dt where
|non|bl (b:Bool)|int (i:Int)|str (x:Str)|tup (xs:List Dt)|lst (xs:List Dt)
mutual
noncomputable def lH (H:Hp):Dt->V->Prop
|.non,v=>v=.non
|.bl b,v=>v=.bl b
|.int i,v=>v=.int i
|.str x,v=>v=.str x
|.tup ds,v=>∃ p vs,v=.ref p/\H p=some (.tup vs)/\iY H ds vs
|.lst ds,v=>∃ p vs,v=.ref p/\H p=some (.lst vs)/\iY H ds vs
noncomputable def iY (H:Hp):List Dt->List V->Prop
|[],vs=>vs=[]
|d::ds,vs=>∃ v r,vs=v::r/\lH H d v/\iY H ds r
end
mutual
noncomputable def EA:Dt->Dt->Bool
|.non,.non=>true
|.bl a,.bl b=>a==b
|.bl a,.int b=>(if a then 1 else 0)==b
|.int a,.bl b=>a==(if b then 1 else 0)
|.int a,.int b=>a==b
|.str a,.str b=>a==b
|.tup xs,.tup ys=>iH xs ys
|.lst xs,.lst ys=>iH xs ys
|_,_=>false
noncomputable def iH:List Dt->List Dt->Bool
|[],[]=>true
|x::xs,y::ys=>EA x y&&iH xs ys
|_,_=>false
end
mutual
noncomputable def qR:Dt->Nat
|.tup xs=>fJ xs+1
|.lst xs=>fJ xs+1
|_=>0
noncomputable def fJ:List Dt->Nat
|[]=>0
|x::xs=>max (qR x) (fJ xs)
end
theorem iY.length {H:Hp}:∀ {ds:List Dt}{vs:List V},iY H ds vs->ds.length=vs.length
|[],vs,h=>by rw [show vs=[] from h]; rfl
|d::ds,vs,h=>by
  obtain ⟨v,r,rfl,_,t⟩:=h
  rw [length_cons,length_cons,iY.length t]
mutual
theorem lH.same_eq {H:Hp}:∀ (d e:Dt) {x:V},lH H d x->lH H e x->EA d e=true
|.tup ds,.tup es,x,h1,h2=>by
  obtain ⟨p,vs,rfl,a,b⟩:=h1
  obtain ⟨q,ws,e1,c,d⟩:=h2
  cases e1
  rw [a] at c
  cases c
  exact iY.same_eq ds es b d
|.lst ds,.lst es,x,h1,h2=>by
  obtain ⟨p,vs,rfl,a,b⟩:=h1
  obtain ⟨q,ws,e1,c,d⟩:=h2
  cases e1
  rw [a] at c
  cases c
  exact iY.same_eq ds es b d
|.tup ds,.lst es,x,h1,h2=>by
  obtain ⟨p,vs,rfl,a,b⟩:=h1
  obtain ⟨q,ws,e1,c,d⟩:=h2
  cases e1
  rw [a] at c
  cases c
|.lst ds,.tup es,x,h1,h2=>by
  obtain ⟨p,vs,rfl,a,b⟩:=h1
  obtain ⟨q,ws,e1,c,d⟩:=h2
  cases e1
  rw [a] at c
  cases c
|.non,e,x,h1,h2=>by
  have h1:x=.non:=h1
  subst h1
  cases e <;> first|rfl|(have h2:V.non=_:=h2; cases h2)|(obtain ⟨_,_,z,_⟩:=h2; cases z)
|.bl b,e,x,h1,h2=>by
  have h1:x=.bl b:=h1
  subst h1
  cases e <;> first|(have h2:V.bl b=_:=h2; cases h2; exact beq_self_eq_true b)|(have h2:V.bl b=_:=h2; cases h2; done)|(obtain ⟨_,_,z,_⟩:=h2; cases z)
|.int b,e,x,h1,h2=>by
  have h1:x=.int b:=h1
  subst h1
  cases e <;> first|(have h2:V.int b=_:=h2; cases h2; exact beq_self_eq_true b)|(have h2:V.int b=_:=h2; cases h2; done)|(obtain ⟨_,_,z,_⟩:=h2; cases z)
|.str b,e,x,h1,h2=>by
  have h1:x=.str b:=h1
  subst h1
  cases e <;> first|(have h2:V.str b=_:=h2; cases h2; exact beq_self_eq_true b)|(have h2:V.str b=_:=h2; cases h2; done)|(obtain ⟨_,_,z,_⟩:=h2; cases z)
|.tup ds,.non,x,h1,h2=>by obtain ⟨p,vs,rfl,_⟩:=h1; have h2:V.ref p=_:=h2; cases h2
|.tup ds,.bl _,x,h1,h2=>by obtain ⟨p,vs,rfl,_⟩:=h1; have h2:V.ref p=_:=h2; cases h2
|.tup ds,.int _,x,h1,h2=>by obtain ⟨p,vs,rfl,_⟩:=h1; have h2:V.ref p=_:=h2; cases h2
|.tup ds,.str _,x,h1,h2=>by obtain ⟨p,vs,rfl,_⟩:=h1; have h2:V.ref p=_:=h2; cases h2
|.lst ds,.non,x,h1,h2=>by obtain ⟨p,vs,rfl,_⟩:=h1; have h2:V.ref p=_:=h2; cases h2
|.lst ds,.bl _,x,h1,h2=>by obtain ⟨p,vs,rfl,_⟩:=h1; have h2:V.ref p=_:=h2; cases h2
|.lst ds,.int _,x,h1,h2=>by obtain ⟨p,vs,rfl,_⟩:=h1; have h2:V.ref p=_:=h2; cases h2
|.lst ds,.str _,x,h1,h2=>by obtain ⟨p,vs,rfl,_⟩:=h1; have h2:V.ref p=_:=h2; cases h2
theorem iY.same_eq {H:Hp}:∀ (ds es:List Dt) {xs:List V},iY H ds xs->iY H es xs->iH ds es=true
|[],[],xs,_,_=>rfl
|[],e::es,xs,h1,h2=>by
  have h1:xs=[]:=h1
  subst h1
  obtain ⟨_,_,z,_⟩:=h2
  cases z
|d::ds,[],xs,h1,h2=>by
  have h2:xs=[]:=h2
  subst h2
  obtain ⟨_,_,z,_⟩:=h1
  cases z
|d::ds,e::es,xs,h1,h2=>by
  obtain ⟨v,r,rfl,a,b⟩:=h1
  obtain ⟨v',r',z,a',b'⟩:=h2
  cases z
  show (EA d e&&iH ds es)=true
  rw [lH.same_eq d e a a',iY.same_eq ds es b b']
  rfl
end
noncomputable def HE (ds es:List Dt) (j:Nat):Bool:=match ds[j]?,es[j]? with
|some d,some e=>EA d e
|_,_=>false
theorem dA:∀ (ds es:List Dt),((List.range (min ds.length es.length)).all (HE ds es)&&ds.length==es.length)=iH ds es
|[],[]=>rfl
|[],e::es=>by show (_&&(0==es.length+1))=false; simp
|d::ds,[]=>by show (_&&(ds.length+1==0))=false; simp
|d::ds,e::es=>by
  have ih:=dA ds es
  show _=(EA d e&&iH ds es)
  rw [← ih]
  have h1:min (d::ds).length (e::es).length=min ds.length es.length+1:=by simp only [length_cons]; omega
  rw [h1,List.range_succ_eq_map,all_cons,List.all_map]
  have h2:(HE (d::ds) (e::es)) ∘ Nat.succ=HE ds es:=by funext j; rfl
  rw [h2]
  have h3:HE (d::ds) (e::es) 0=EA d e:=rfl
  rw [h3]
  have h4:((d::ds).length==(e::es).length)=(ds.length==es.length):=by simp
  rw [h4,Bool.and_assoc]
section
variable {X:Cx} {pins:List (Addr×Obj)} {σ:St} {H:Hp} {s:Shared}
theorem eY (I:aL X pins σ H s) {p:Addr}{vs:List V} (h:H p=some (.tup vs)):∃ its:List Value,aM vs its/\s.heap.IsTuple p its.toArray:=by
 obtain ⟨_,its,r,q⟩:=(show bC X.prog X.w H s.heap p (.tup vs) from I.hok p _ h)
 exact ⟨its,r,q⟩
theorem fE (I:aL X pins σ H s) {p:Addr}{vs:List V} (h:H p=some (.lst vs)):∃ its:List Value,aM vs its/\s.heap.IsList p its.toArray:=by
 obtain ⟨_,its,n,r,q⟩:=(show bC X.prog X.w H s.heap p (.lst vs) from I.hok p _ h)
 exact ⟨its,r,_,q,rfl,_,rfl⟩
theorem sV {A:Around}{ds:List Dt} (h:A.units+qR (.tup ds) < cLine):A.in1.units+fJ ds < cLine:=by
 have e:qR (.tup ds)=fJ ds+1:=by simp [qR]
 show A.units+1+fJ ds < cLine
 omega
theorem sW {A:Around}{ds:List Dt} (h:A.units+qR (.lst ds) < cLine):A.in1.units+fJ ds < cLine:=by
 have e:qR (.lst ds)=fJ ds+1:=by simp [qR]
 show A.units+1+fJ ds < cLine
 omega
mutual
theorem yI (I:aL X pins σ H s):∀ (d e:Dt) {x y:V}{u v:Value}{A:Around},lH H d x->lH H e y->aV x u->aV y v->A.units+qR d < cLine->SeqAt.EqAt A s u v (EA d e)
|.tup ds,e,x,y,u,v,A,h1,h2,rx,ry,hu=>by
  obtain ⟨p,vs,rfl,a,b⟩:=h1
  cases rx
  obtain ⟨its,r,t⟩:=eY I a
  have hu':A.units < cLine:=by omega
  cases e with
 |tup es =>
   obtain ⟨q,ws,rfl,a',b'⟩:=id h2
   cases ry
   by_cases hne:p=q
   ·subst hne
    have:=lH.same_eq (.tup ds) (.tup es) (x:=.ref p) ⟨p,vs,rfl,a,b⟩ h2
    rw [this]
    exact SeqAt.EqAt.same _
   ·obtain ⟨its',r',t'⟩:=eY I a'
    have z:=SeqAt.RcAt.tuples (e:=HE ds es) t t' hu' (fun j g1 g2=>jI I ds es b b' r r' (sV hu) j (by simpa using g1) (by simpa using g2))
    have l1:its.length=ds.length:=by rw [b.length,r.length]
    have l2:its'.length=es.length:=by rw [b'.length,r'.length]
    rw [size_toArray,size_toArray,l1,l2,dA] at z
    exact SeqAt.EqAt.of_refs hne z
 |lst es =>
   obtain ⟨q,ws,rfl,a',b'⟩:=id h2
   cases ry
   obtain ⟨its',r',t'⟩:=fE I a'
   exact SeqAt.EqAt.tuple_list t t' hu'
 |non=>cases (show y=.non from h2); cases ry; exact SeqAt.EqAt.tuple_none t hu'
 |bl b=>cases (show y=.bl b from h2); cases ry; exact SeqAt.EqAt.tuple_bool b t hu'
 |int b=>cases (show y=.int b from h2); obtain ⟨tk,rfl⟩:=ry; exact SeqAt.EqAt.tuple_int b tk t hu'
 |str b=>cases (show y=.str b from h2); obtain ⟨tk,rfl⟩:=ry; exact SeqAt.EqAt.tuple_str b tk t hu'
|.lst ds,e,x,y,u,v,A,h1,h2,rx,ry,hu=>by
  obtain ⟨p,vs,rfl,a,b⟩:=h1
  cases rx
  obtain ⟨its,r,t⟩:=fE I a
  have hu':A.units < cLine:=by omega
  cases e with
 |lst es =>
   obtain ⟨q,ws,rfl,a',b'⟩:=id h2
   cases ry
   by_cases hne:p=q
   ·subst hne
    have:=lH.same_eq (.lst ds) (.lst es) (x:=.ref p) ⟨p,vs,rfl,a,b⟩ h2
    rw [this]
    exact SeqAt.EqAt.same _
   ·obtain ⟨its',r',t'⟩:=fE I a'
    have l1:its.length=ds.length:=by rw [b.length,r.length]
    have l2:its'.length=es.length:=by rw [b'.length,r'.length]
    by_cases hl:ds.length=es.length
    ·have z:=SeqAt.RcAt.lists (e:=HE ds es) t t' (by rw [size_toArray,size_toArray,l1,l2,hl]) hu' (fun j g1 g2=>jI I ds es b b' r r' (sW hu) j (by simpa using g1) (by simpa using g2))
     have e1:=dA ds es
     rw [hl,min_self,beq_self_eq_true,Bool.and_true] at e1
     rw [size_toArray,l1,hl,e1] at z
     exact SeqAt.EqAt.of_refs hne z
    ·have z:=SeqAt.RcAt.lists_lengths t t' (by rw [size_toArray,size_toArray,l1,l2]; simpa using hl) hu'
     have e1:=dA ds es
     rw [show (ds.length==es.length)=false from by simpa using hl,Bool.and_false] at e1
     have e2:EA (.lst ds) (.lst es)=false:=by show iH ds es=false; exact e1.symm
     rw [e2]
     exact SeqAt.EqAt.of_refs hne z
 |tup es =>
   obtain ⟨q,ws,rfl,a',b'⟩:=id h2
   cases ry
   obtain ⟨its',r',t'⟩:=eY I a'
   exact SeqAt.EqAt.list_tuple t t' hu'
 |non=>cases (show y=.non from h2); cases ry; exact SeqAt.EqAt.list_none t hu'
 |bl b=>cases (show y=.bl b from h2); cases ry; exact SeqAt.EqAt.list_bool b t hu'
 |int b=>cases (show y=.int b from h2); obtain ⟨tk,rfl⟩:=ry; exact SeqAt.EqAt.list_int b tk t hu'
 |str b=>cases (show y=.str b from h2); obtain ⟨tk,rfl⟩:=ry; exact SeqAt.EqAt.list_str b tk t hu'
|.non,e,x,y,u,v,A,h1,h2,rx,ry,hu=>by
  cases (show x=.non from h1); cases rx
  have hu':A.units < cLine:=by omega
  cases e with
 |tup es=>obtain ⟨q,ws,rfl,a',b'⟩:=id h2; cases ry; obtain ⟨its',r',t'⟩:=eY I a'; exact SeqAt.EqAt.none_tuple t' hu'
 |lst es=>obtain ⟨q,ws,rfl,a',b'⟩:=id h2; cases ry; obtain ⟨its',r',t'⟩:=fE I a'; exact SeqAt.EqAt.none_list t' hu'
 |non=>cases (show y=.non from h2); cases ry; exact SeqAt.EqAt.same _
 |bl b=>cases (show y=.bl b from h2); cases ry; exact SeqAt.EqAt.none_bool b
 |int b=>cases (show y=.int b from h2); obtain ⟨tk,rfl⟩:=ry; exact SeqAt.EqAt.none_int b tk
 |str b=>cases (show y=.str b from h2); obtain ⟨tk,rfl⟩:=ry; exact SeqAt.EqAt.none_str b tk
|.bl c,e,x,y,u,v,A,h1,h2,rx,ry,hu=>by
  cases (show x=.bl c from h1); cases rx
  have hu':A.units < cLine:=by omega
  cases e with
 |tup es=>obtain ⟨q,ws,rfl,a',b'⟩:=id h2; cases ry; obtain ⟨its',r',t'⟩:=eY I a'; exact SeqAt.EqAt.bool_tuple c t' hu'
 |lst es=>obtain ⟨q,ws,rfl,a',b'⟩:=id h2; cases ry; obtain ⟨its',r',t'⟩:=fE I a'; exact SeqAt.EqAt.bool_list c t' hu'
 |non=>cases (show y=.non from h2); cases ry; exact SeqAt.EqAt.bool_none c
 |bl b=>cases (show y=.bl b from h2); cases ry; exact SeqAt.EqAt.bool_bool c b
 |int b=>cases (show y=.int b from h2); obtain ⟨tk,rfl⟩:=ry; exact SeqAt.EqAt.bool_int c b tk
 |str b=>cases (show y=.str b from h2); obtain ⟨tk,rfl⟩:=ry; exact SeqAt.EqAt.bool_str c b tk
|.int c,e,x,y,u,v,A,h1,h2,rx,ry,hu=>by
  cases (show x=.int c from h1); obtain ⟨tc,rfl⟩:=rx
  have hu':A.units < cLine:=by omega
  cases e with
 |tup es=>obtain ⟨q,ws,rfl,a',b'⟩:=id h2; cases ry; obtain ⟨its',r',t'⟩:=eY I a'; exact SeqAt.EqAt.int_tuple c tc t' hu'
 |lst es=>obtain ⟨q,ws,rfl,a',b'⟩:=id h2; cases ry; obtain ⟨its',r',t'⟩:=fE I a'; exact SeqAt.EqAt.int_list c tc t' hu'
 |non=>cases (show y=.non from h2); cases ry; exact SeqAt.EqAt.int_none c tc
 |bl b=>cases (show y=.bl b from h2); cases ry; exact SeqAt.EqAt.int_bool c tc b
 |int b=>cases (show y=.int b from h2); obtain ⟨tk,rfl⟩:=ry; exact SeqAt.EqAt.int_int c tc b tk
 |str b=>cases (show y=.str b from h2); obtain ⟨tk,rfl⟩:=ry; exact SeqAt.EqAt.int_str c tc b tk
|.str c,e,x,y,u,v,A,h1,h2,rx,ry,hu=>by
  cases (show x=.str c from h1); obtain ⟨tc,rfl⟩:=rx
  have hu':A.units < cLine:=by omega
  cases e with
 |tup es=>obtain ⟨q,ws,rfl,a',b'⟩:=id h2; cases ry; obtain ⟨its',r',t'⟩:=eY I a'; exact SeqAt.EqAt.str_tuple c tc t' hu'
 |lst es=>obtain ⟨q,ws,rfl,a',b'⟩:=id h2; cases ry; obtain ⟨its',r',t'⟩:=fE I a'; exact SeqAt.EqAt.str_list c tc t' hu'
 |non=>cases (show y=.non from h2); cases ry; exact SeqAt.EqAt.str_none c tc
 |bl b=>cases (show y=.bl b from h2); cases ry; exact SeqAt.EqAt.str_bool c tc b
 |int b=>cases (show y=.int b from h2); obtain ⟨tk,rfl⟩:=ry; exact SeqAt.EqAt.str_int c tc b tk
 |str b=>cases (show y=.str b from h2); obtain ⟨tk,rfl⟩:=ry; exact SeqAt.EqAt.str_str c tc b tk
theorem jI (I:aL X pins σ H s):∀ (ds es:List Dt) {xs ys:List V}{us vs:List Value}{A:Around},iY H ds xs->iY H es ys->aM xs us->aM ys vs->A.units+fJ ds < cLine ->
  ∀ (j:Nat) (g1:j < us.length) (g2:j < vs.length),SeqAt.EqAt A s us[j] vs[j] (HE ds es j)
|[],es,xs,ys,us,vs,A,h1,h2,r1,r2,hu=>fun j g1 g2=>by
  have h1:xs=[]:=h1
  subst h1
  cases r1
  exact absurd g1 (not_lt_zero _)
|d::ds,[],xs,ys,us,vs,A,h1,h2,r1,r2,hu=>fun j g1 g2=>by
  have h2:ys=[]:=h2
  subst h2
  cases r2
  exact absurd g2 (not_lt_zero _)
|d::ds,e::es,xs,ys,us,vs,A,h1,h2,r1,r2,hu=>fun j g1 g2=>by
  obtain ⟨x,xr,rfl,a,b⟩:=h1
  obtain ⟨y,yr,rfl,a',b'⟩:=h2
  cases r1 with
 |cons rx r1 =>
   cases r2 with
  |cons ry r2 =>
    have hd:fJ (d::ds)=max (qR d) (fJ ds):=by simp [fJ]
    cases j with
   |zero=>exact yI I d e a a' rx ry (by omega)
   |succ j=>exact jI I ds es b b' r1 r2 (by omega) j (by simpa using g1) (by simpa using g2)
end
noncomputable def XR:R2:=fun x y H Q=>∃ d e,lH H d x/\lH H e y/\qR d<=60/\((∃ ds es,d=.tup ds/\e=.tup es)∨∃ ds es,d=.lst ds/\e=.lst es)/\Q (.bl (EA d e)) H
noncomputable def XO:R2:=fun x y H Q=>∃ d e,lH H d x/\lH H e y/\qR d<=60/\((∃ ds es,d=.tup ds/\e=.tup es)∨∃ ds es,d=.lst ds/\e=.lst es)/\Q (.bl (!EA d e)) H
theorem SO (hu:X.A.units+64 < cLine):gA X (compareOp .Eq) XR:=by
 intro pins s σ H x y v u Q I rx ry h
 obtain ⟨d,e,h1,h2,hd,k,q⟩:=h
 rcases k with ⟨ds,es,rfl,rfl⟩|⟨ds,es,rfl,rfl⟩
 ·obtain ⟨p,vs,rfl,a,b⟩:=h1
  obtain ⟨p',ws,rfl,a',b'⟩:=h2
  cases rx
  cases ry
  obtain ⟨its,r,t⟩:=eY I a
  obtain ⟨its',r',t'⟩:=eY I a'
  have z:=SeqAt.RcAt.tuples (A:=X.A) (e:=HE ds es) t t' (by omega) (fun j g1 g2=>jI I ds es b b' r r' (sV (by omega)) j (by simpa using g1) (by simpa using g2))
  have l1:its.length=ds.length:=by rw [b.length,r.length]
  have l2:its'.length=es.length:=by rw [b'.length,r'.length]
  rw [size_toArray,size_toArray,l1,l2,dA] at z
  exact z _ _ _ _ ⟨.bl _,H,I,rfl,q⟩
 ·obtain ⟨p,vs,rfl,a,b⟩:=h1
  obtain ⟨p',ws,rfl,a',b'⟩:=h2
  cases rx
  cases ry
  obtain ⟨its,r,t⟩:=fE I a
  obtain ⟨its',r',t'⟩:=fE I a'
  have l1:its.length=ds.length:=by rw [b.length,r.length]
  have l2:its'.length=es.length:=by rw [b'.length,r'.length]
  by_cases hl:ds.length=es.length
  ·have z:=SeqAt.RcAt.lists (A:=X.A) (e:=HE ds es) t t' (by rw [size_toArray,size_toArray,l1,l2,hl]) (by omega) (fun j g1 g2=>jI I ds es b b' r r' (sW (by omega)) j (by simpa using g1) (by simpa using g2))
   have e1:=dA ds es
   rw [hl,min_self,beq_self_eq_true,Bool.and_true] at e1
   rw [size_toArray,l1,hl,e1] at z
   exact z _ _ _ _ ⟨.bl _,H,I,rfl,q⟩
  ·have z:=SeqAt.RcAt.lists_lengths (A:=X.A) t t' (by rw [size_toArray,size_toArray,l1,l2]; simpa using hl) (by omega)
   have e1:=dA ds es
   rw [show (ds.length==es.length)=false from by simpa using hl,Bool.and_false] at e1
   have e2:EA (.lst ds) (.lst es)=false:=by show iH ds es=false; exact e1.symm
   rw [e2] at q
   exact z _ _ _ _ ⟨.bl _,H,I,rfl,q⟩
theorem SM (hu:X.A.units+64 < cLine):gA X (compareOp .NotEq) XO:=by
 intro pins s σ H x y v u Q I rx ry h
 obtain ⟨d,e,h1,h2,hd,k,q⟩:=h
 rcases k with ⟨ds,es,rfl,rfl⟩|⟨ds,es,rfl,rfl⟩
 ·obtain ⟨p,vs,rfl,a,b⟩:=h1
  obtain ⟨p',ws,rfl,a',b'⟩:=h2
  cases rx
  cases ry
  obtain ⟨its,r,t⟩:=eY I a
  obtain ⟨its',r',t'⟩:=eY I a'
  have z:=SeqAt.RcNeAt.tuples (A:=X.A) (e:=HE ds es) t t' (by omega) (fun j g1 g2=>jI I ds es b b' r r' (sV (by omega)) j (by simpa using g1) (by simpa using g2))
  have l1:its.length=ds.length:=by rw [b.length,r.length]
  have l2:its'.length=es.length:=by rw [b'.length,r'.length]
  rw [size_toArray,size_toArray,l1,l2,dA] at z
  exact z _ _ _ _ ⟨.bl _,H,I,rfl,q⟩
 ·obtain ⟨p,vs,rfl,a,b⟩:=h1
  obtain ⟨p',ws,rfl,a',b'⟩:=h2
  cases rx
  cases ry
  obtain ⟨its,r,t⟩:=fE I a
  obtain ⟨its',r',t'⟩:=fE I a'
  have l1:its.length=ds.length:=by rw [b.length,r.length]
  have l2:its'.length=es.length:=by rw [b'.length,r'.length]
  by_cases hl:ds.length=es.length
  ·have z:=SeqAt.RcNeAt.lists (A:=X.A) (e:=HE ds es) t t' (by rw [size_toArray,size_toArray,l1,l2,hl]) (by omega) (fun j g1 g2=>jI I ds es b b' r r' (sW (by omega)) j (by simpa using g1) (by simpa using g2))
   have e1:=dA ds es
   rw [hl,min_self,beq_self_eq_true,Bool.and_true] at e1
   rw [size_toArray,l1,hl,e1] at z
   exact z _ _ _ _ ⟨.bl _,H,I,rfl,q⟩
  ·have z:=SeqAt.RcNeAt.lists_lengths (A:=X.A) t t' (by rw [size_toArray,size_toArray,l1,l2]; simpa using hl) (by omega)
   have e1:=dA ds es
   rw [show (ds.length==es.length)=false from by simpa using hl,Bool.and_false] at e1
   have e2:EA (.lst ds) (.lst es)=false:=by show iH ds es=false; exact e1.symm
   rw [e2] at q
   exact z _ _ _ _ ⟨.bl _,H,I,rfl,q⟩
noncomputable def LO:R2:=fun x y H Q=>Ap x y H Q∨XR x y H Q
noncomputable def GA:R2:=fun x y H Q=>Ao x y H Q∨XO x y H Q
theorem lE (hu:X.A.units+64 < cLine):gA X (compareOp .Eq) LO:=XY.or (SO hu)
theorem sN (hu:X.A.units+64 < cLine):gA X (compareOp .NotEq) GA:=XW.or (SM hu)
end
section
variable {H:Hp} {Q:VK} {i j:Int} {b c:Bool} {x y:Str} {u v:V}
theorem IP (k:Q (.bl (decide (i=j))) H):LO (.int i) (.int j) H Q:=.inl (WZ k)
theorem YB (k:Q (.bl (!decide (i=j))) H):GA (.int i) (.int j) H Q:=.inl (WM k)
theorem AO (k:Q (.bl (!(x==y))) H):GA (.str x) (.str y) H Q:=.inl ⟨rfl,by rw [tD]; exact k⟩
theorem YN {ds es:List Dt} (h1:lH H (.lst ds) u) (h2:lH H (.lst es) v) (hd:fJ ds<=50) (k:Q (.bl (iH ds es)) H):LO u v H Q:=
 .inr ⟨_,_,h1,h2,by simp [qR]; omega,.inr ⟨_,_,rfl,rfl⟩,k⟩
theorem AQ {ds es:List Dt} (h1:lH H (.lst ds) u) (h2:lH H (.lst es) v) (hd:fJ ds<=50) (k:Q (.bl (!iH ds es)) H):GA u v H Q:=
 .inr ⟨_,_,h1,h2,by simp [qR]; omega,.inr ⟨_,_,rfl,rfl⟩,k⟩
theorem ND {p:Addr}{a b:Int} (h:H p=some (.tup [.int a,.int b])):lH H (.tup [.int a,.int b]) (.ref p):=⟨p,_,rfl,h,_,_,rfl,rfl,_,_,rfl,rfl,rfl⟩
end
end
section
section
variable {X:Cx} {K:Frag} {H H':Hp} {Q:VK} {i j:Int} {σ:St}
noncomputable def OZ:R2:=fun x y H Q=>∃ i j,x=.str i/\y=.str j/\i.length+j.length<=sizeLine/\Q (.str (i++j)) H
theorem MC:gA X (binaryOp .Add) OZ:=xQ
noncomputable def uU (K:Frag):R2:=fun x y H Q=>JM (fun i j=>.int (i+j)) x y H Q∨XS x y H Q∨OY K x y H Q∨OZ x y H Q
theorem aW:gA X (binaryOp .Add) (uU X.K):=SR.or (SQ.or (MB.or MC))
theorem QD (k:Q (.int (i+j)) H):uU K (.int i) (.int j) H Q:=.inl (RT k)
theorem JD {p q:Addr}{xs ys:List V} (h1:H p=some (.lst xs)) (h2:H q=some (.lst ys)) (hl:xs.length+ys.length<=1000) (k:∀ l,H l=none->Q (.ref l) (upd H l (.lst (xs++ys)))):uU K (.ref p) (.ref q) H Q:=
 .inr (.inl ⟨p,q,xs,ys,rfl,rfl,h1,h2,kC hl,k⟩)
theorem QC {x y:Str} (hl:x.length+y.length<=1000) (k:Q (.str (x++y)) H):uU K (.str x) (.str y) H Q:=.inr (.inr (.inr ⟨x,y,rfl,rfl,kC hl,k⟩))
noncomputable def zW (K:Frag):List V->Hp->VK->Prop:=fun xs H Q=>∃ p ys,xs=[.ref p]/\(bS K H p ys∨tX K H p ys)/\∀ l,H l=none->Q (.ref l) (upd H l (.lst ys))
theorem UC:cK X (.type "list") (zW X.K):=tJ
theorem YD {p:Addr}{xs:List V} (h:H p=some (.lst xs)) (k:∀ l,H l=none->Q (.ref l) (upd H l (.lst xs))):zW K [.ref p] H Q:=⟨p,xs,rfl,.inl (bS.of h),k⟩
noncomputable def Ak (K:Frag):V->Option Int->Option Int->Hp->VK->Prop:=fun x lo hi H Q=>XM K x lo hi H Q∨XL K x lo hi H Q
theorem QQ:NU X (Ak X.K):=KD.or QO
noncomputable def PD (R:Option Int->Hp->Prop):VK:=fun x H1=>∃ i,x=.int i/\R (some i) H1
theorem RA {t:TE}{R:Option Int->Hp->Prop} (k:t σ H (PD R)):OC t σ H R:=k
theorem KW {R:Option Int->Hp->Prop} (k:R (some i) H):PD R (.int i) H:=⟨i,rfl,k⟩
theorem FO {R:Option Int->Hp->Prop} (k:R none H):zA σ H R:=k
theorem Aa {r:V->Option Int->Option Int->Hp->VK->Prop}{te:TE}{tl th:TO} (k:te σ H fun x H1=>tl σ H1 fun l H2=>th σ H2 fun u H3=>r x l u H3 Q):Bi r te tl th σ H Q:=k
theorem bB {H:Hp}{q b:Addr}{o u:HO} (hq:H q=none) (h:H b=some u):upd H q o b=some u:=by rw [aI (aB h hq)]; exact h
end
end
section
noncomputable def cC (X:Cx) (scope:Scope) (cl:List (Str×Addr)) (N:List Str) (C:Addr) (s0:Shared) (H0:Hp) (ex:List Addr):Cx:=
 { X with N:=N,s₀:=s0,H₀:=H0,env:=compEnvC scope cl C X.env,outer:=X.stack,stack:=X.stack,ex:=ex,fn:=fun _=>false,pn:=[],xe:=fun _ _=>False }
noncomputable def bD (env:Env) (names:List Str):List (Str×Addr):=names.filterMap fun n=>(env.cells.lookup n).map fun c=>(n,c)
theorem hU {env:Env}:∀ {names:List Str}{x:Str}{c:Addr},(bD env names).lookup x=some c->env.cells.lookup x=some c
|[],x,c,h=>by simp [bD] at h
|n::r,x,c,h=>by
  unfold bD at h
  rw [filterMap_cons] at h
  cases e:env.cells.lookup n with
 |none =>
   rw [e] at h
   exact hU (names:=r) h
 |some d =>
   rw [e] at h
   have h':List.lookup x ((n,d)::bD env r)=some c:=h
   rw [lookup_cons] at h'
   by_cases hx:x=n
   ·subst hx
    rw [beq_self_eq_true] at h'
    cases h'
    exact e
   ·rw [beq_eq_false_iff_ne.mpr hx] at h'
    exact hU (names:=r) h'
theorem jL {env:Env}:∀ {names:List Str}{x:Str}{c:Addr},x∈names->env.cells.lookup x=some c->(bD env names).lookup x=some c
|[],x,c,h,_=>by cases h
|n::r,x,c,h,e=>by
  unfold bD
  rw [filterMap_cons]
  by_cases hx:x=n
  ·subst hx
   rw [e]
   show List.lookup x ((x,c)::_)=some c
   rw [lookup_cons,beq_self_eq_true]
  ·have hr:x∈r:=(mem_cons.mp h).resolve_left hx
   have ih:=jL (env:=env) hr e
   cases e2:env.cells.lookup n with
  |none=>exact ih
  |some d =>
    show List.lookup x ((n,d)::bD env r)=some c
    rw [lookup_cons,beq_eq_false_iff_ne.mpr hx]
    exact ih
noncomputable def jM (σ:St) (is:List Nat):St:=is.map fun i=>(σ[i]?).join
noncomputable def lO (te:TE) (tc:Option TT) (g:TG) (ts:St) (caps:St) (Q:VK):It->Hp->Prop:=fun J H1=>∀ acc,H1 acc=none ->
 ∃ W:Nat->Nat->List V->Hp->Prop,(∃ m,W 0 m [] (upd H1 acc (.lst [])))/\∀ i m ys H,W i m ys H ->
  H acc=some (.lst ys)/\((J.stop i H/\Q (.ref acc) H)∨(ys.length < sizeLine/\J.go i H/\∀ (us:St) x H',us.length=ts.length->J.yld i H x H'->g x (us++caps) H' fun σ2 H2 =>
   (∃ us2,us2.length=ts.length/\σ2=us2++caps) /\
   let made:=te σ2
   let next:=fun y H3=>H3 acc=some (.lst ys)/\∃ m',m' < m/\W (i+1) m' (ys++[y]) (upd H3 acc (.lst (ys++[y])))
   match tc with
  |none=>made H2 next
   | some c=>c σ2 H2 fun b H3=>if b=true then made H3 next else ∃ m',m' < m/\W (i+1) m' ys H3))
noncomputable def zB (wi:TI) (te:TE) (tc:Option TT) (g:TG) (k:Nat) (is:List Nat):TE:=fun σ H Q=>wi σ H (lO te tc g (List.replicate k none) (jM σ is) Q)
section
variable {X:Cx} {scope:Scope} {N tn names:List Str} {is:List Nat} {elt iter tg:Expr} {ifs:List Expr} {pos:Pos} {wi:TI} {te:TE} {tc:Option TT} {g:TG}
structure lI (X:Cx) (scope:Scope) (tn names:List Str) (is:List Nat):Prop where
 cls:(∀ x∈names,∃ c,X.env.cells.lookup x=some c)->closureFor scope X.env=pure (bD X.env names)
 nocell:∀ y∈scope.names,y.2≠.cell
 kind:scope.kind=.function
 nms:∀ y∈scope.names,y.2=.local->scope.names.lookup y.1=some .local
 slots:∀ (j i:Nat) (x:Str),is[j]?=some i->names[j]?=some x->X.N[i]?=some x
 len:is.length=names.length
 outk:∀ x∈names,X.env.kindOf x=some .cell∨X.env.kindOf x=some .free
 ink:∀ x∈names,(relabel scope X.env).names.lookup x=some .cell∨(relabel scope X.env).names.lookup x=some .free
 free:∀ x,((relabel scope X.env).names.lookup x=some .cell∨(relabel scope X.env).names.lookup x=some .free)->x∈names
theorem jK {env:Env}:∀ (l:List (Str×NameKind)) (acc:List (Str×Addr)),(∀ x∈(l.filter fun y=>y.2==.free).map (·.1),∃ c,env.cells.lookup x=some c) ->
  (forIn l acc fun (x:Str×NameKind) (cs:List (Str×Addr))=>(if (x.2==.free)=true then (do let a ← cellOf env x.1; pure (ForInStep.yield ((x.1,a)::cs))) else pure (ForInStep.yield cs)):Sem (List (Str×Addr)))
   = pure ((((l.filter fun y=>y.2==.free).map (·.1)).reverse.filterMap fun n=>(env.cells.lookup n).map fun c=>(n,c))++acc)
|[],acc,_=>rfl
|(n,k)::r,acc,h=>by
  rw [forIn_cons]
  by_cases hk:(k==NameKind.free)=true
  ·have hf:((n,k)::r).filter (fun y=>y.2==.free)=(n,k)::r.filter fun y=>y.2==.free:=by rw [filter_cons]; exact if_pos hk
   rw [hf] at h ⊢
   obtain ⟨c,e⟩:=h n (by simp)
   have e1:cellOf env n=pure c:=by unfold cellOf; rw [e]
   show (((if (k==NameKind.free)=true then (do let a ← cellOf env n; pure (ForInStep.yield ((n,a)::acc))) else pure (ForInStep.yield acc)):Sem _) >>= _)=_
   rw [if_pos hk,e1]
   have ih:=jK r ((n,c)::acc) fun x hx=>h x (by simp at hx ⊢; exact .inr hx)
   have e2:(((n,k)::r.filter fun y=>y.2==.free).map (·.1)).reverse.filterMap (fun n=>(env.cells.lookup n).map fun c=>(n,c))=((r.filter fun y=>y.2==.free).map (·.1)).reverse.filterMap (fun n=>(env.cells.lookup n).map fun c=>(n,c))++[(n,c)]:=by
    rw [map_cons,reverse_cons,filterMap_append,filterMap_cons,e]
    rfl
   rw [e2,append_assoc]
   exact ih
  ·have hf:((n,k)::r).filter (fun y=>y.2==.free)=r.filter fun y=>y.2==.free:=by rw [filter_cons]; exact if_neg hk
   rw [hf] at h ⊢
   show (((if (k==NameKind.free)=true then (do let a ← cellOf env n; pure (ForInStep.yield ((n,a)::acc))) else pure (ForInStep.yield acc)):Sem _) >>= _)=_
   rw [if_neg hk]
   exact jK r acc h
theorem mB {scope:Scope}{env:Env}{names:List Str} (hn:((scope.names.filter fun y=>y.2==.free).map (·.1)).reverse=names) (h:∀ x∈names,∃ c,env.cells.lookup x=some c) :
  closureFor scope env=pure (bD env names):=by
 unfold closureFor bD
 have q:=jK (env:=env) scope.names [] fun x hx=>h x (by rw [← hn]; exact List.mem_reverse.mpr hx)
 rw [hn,append_nil] at q
 show (_ >>= fun r=>pure r)=_
 have q2:(forIn scope.names ([]:List (Str×Addr)) fun (x:Str×NameKind) (cs:List (Str×Addr))=>match x with
   | (name,kind)=>(if (kind==.free)=true then (do let a ← cellOf env name; pure (ForInStep.yield ((name,a)::cs))) else pure (ForInStep.yield cs)):Sem (List (Str×Addr)))=pure (names.filterMap fun n=>(env.cells.lookup n).map fun c=>(n,c)):=q
 first
 |exact (congrArg (fun z=>z >>= fun r=>pure r) q2)
 |simpa using q2
noncomputable def zO (scope sc:Scope):Scope:={ scope with names:=scope.names.map fun (n,k)=>if (k==.free&&sc.kind==.function&&sc.names.lookup n==some .cell) then (n,.cell) else (n,k) }
theorem eJ {X:Cx}{scope sc:Scope}{N tn names:List Str}{is:List Nat} (hsc:X.env.scope=sc) (hN:X.N=N) (h1:((scope.names.filter fun y=>y.2==.free).map (·.1)).reverse=names) (h2:∀ y∈scope.names,y.2≠.cell) (h3:scope.kind=.function)
  (h4:∀ y∈scope.names,y.2=.local->scope.names.lookup y.1=some .local) (h5:(is.map fun i=>N[i]?)=names.map some) (h6:∀ x∈names,sc.names.lookup x=some .cell∨sc.names.lookup x=some .free)
  (h7:∀ x∈names,(zO scope sc).names.lookup x=some .cell∨(zO scope sc).names.lookup x=some .free) (h8:∀ y∈(zO scope sc).names,(y.2=.cell∨y.2=.free)->y.1∈names):lI X scope tn names is:=by
 subst hsc hN
 have hr:relabel scope X.env=zO scope X.env.scope:=rfl
 refine ⟨mB h1,h2,h3,h4,fun j i x e1 e2=>?_,?_,h6,?_,fun x hx=>?_⟩
 ·have q:=congrArg (fun l=>l[j]?) h5
  simp only [List.getElem?_map,e1,e2,Option.map_some] at q
  exact Option.some.inj q
 ·have q:=congrArg List.length h5
  simpa using q
 ·rw [hr]; exact h7
 ·rw [hr] at hx
  have mem:∀ {l:List (Str×NameKind)} {k:NameKind},l.lookup x=some k->(x,k)∈l:=fun {l} {k}=>by
   induction l with
  |nil=>intro e; cases e
  |cons y r ih =>
    intro e
    obtain ⟨n,k'⟩:=y
    rw [lookup_cons] at e
    by_cases hx:x=n
    ·subst hx
     rw [beq_self_eq_true] at e
     cases e
     exact mem_cons_self
    ·rw [beq_eq_false_iff_ne.mpr hx] at e
     exact mem_cons_of_mem _ (ih e)
  rcases hx with hx|hx
  ·exact h8 _ (mem hx) (.inl rfl)
  ·exact h8 _ (mem hx) (.inr rfl)
theorem NJ {X:Cx}{scope:Scope}{tn names:List Str}{is:List Nat} (C:lI X scope tn names is) {pins:List (Addr×Obj)}{σ:St}{H:Hp}{s:Shared} (I:aL X pins σ H s) {acc:Addr}{fp:List Addr}
  {s3:Shared} {h1:Heap} {t4:Nat} (I3:aL X pins σ (upd H acc (.lst [])) s3) (hf:∀ b∈fp,pA X pins H b) (hfl:∀ b∈fp,b < s3.heap.objs.size) (hacc:∀ b∈fp,b≠acc)
  (ns:h1.Ns s3.heap.objs.size fun _=>none) (kp:∀ b o,s3.heap.get? b=some o->h1.get? b=some o) :
  aL (cC X scope (bD X.env names) (tn++names) s3.heap.objs.size s3 (upd H acc (.lst [])) fp) [] (List.replicate tn.length none++jM σ is) (upd H acc (.lst [])) { s3 with heap:=h1,toks:=t4 }:=by
 have ok:=I3.ok
 have hC:∀ x c,(bD X.env names).lookup x=some c->X.env.cells.lookup x=some c:=fun x c h=>hU h
 have cellLt:∀ x c,X.env.cells.lookup x=some c->c < s3.heap.objs.size:=fun x c e=>let ⟨v,z⟩:=I3.cell x c e; z.lt
 refine ⟨⟨ok.mod,?_,ok.glob,ok.blt,le_refl _,fun x y c a b=>ok.inj x y c (hC _ _ a) (hC _ _ b),fun x hx=>?_,fun _ _ z=>absurd z (by simp [cC]),ok.hd,ok.frames,.inl rfl,fun b hb=>?_,fun b o e=>I3.bs b o e,le_trans ok.bsz I3.sz,fun b o e hb=>?_,fun b hb z=>?_,I3.stack,fun b hb=>I3.stkFree b hb⟩,
  rfl,I3.bare,Un.kept kp,⟨_,ns,fun i x v e1 e2 e3=>?_⟩,fun x c e=>?_,?_,fun x c e=>I3.freeC x c (hC _ _ e),fun p hp=>absurd hp (by simp [cC]),I3.hok.kept kp,?_⟩
 ·show (relabel scope X.env).kind=.function
  exact C.kind
 ·have hm:=C.free x hx
  obtain ⟨c,e⟩:=ok.has x (C.outk x hm)
  exact ⟨c,jL hm e⟩
 ·refine ⟨ne_of_lt (hfl b hb),fun x c e=>(hf b hb).2.2.2.2.1 x c (hC _ _ e)⟩
 ·rcases (hf b hb).2.2.2.1 with z|z
  ·exact ok.noex b o e z
  ·have:=lt_of_lt_of_le (lt_size e) ok.bsz
   omega
 ·have:=I3.stkSub b z
  rcases mem_cons.mp this with q|q
  ·exact (hf b hb).2.1 q
  ·exact (hf b hb).2.2.1 q
 ·by_cases hi:i < tn.length
  ·rw [List.getElem?_append_left (by rw [length_replicate]; exact hi),List.getElem?_replicate] at e2
   rw [if_pos hi] at e2
   cases e2
  ·have e1:(tn++names)[i]?=some x:=e1
   rw [List.getElem?_append_right (by omega)] at e1
   rw [List.getElem?_append_right (by rw [length_replicate]; omega),length_replicate] at e2
   generalize hj:i - tn.length=j at e1 e2
   unfold jM at e2
   rw [List.getElem?_map] at e2
   cases e4:is[j]? with
  |none=>rw [e4] at e2; cases e2
  |some i0 =>
    rw [e4] at e2
    have e5:(σ[i0]?).join=some v:=Option.some.inj e2
    have e6:σ[i0]?=some (some v):=by
     cases q:σ[i0]? with
    |none=>rw [q] at e5; cases e5
    |some o=>rw [q] at e5; exact congrArg some e5
    have hx:x∈names:=mem_of_getElem? e1
    obtain ⟨m,hm,look⟩:=I3.loc
    have hv:YV X.env.scope x:=by
     rcases C.outk x hx with q|q
     ·exact .inr (.inl q)
     ·exact .inr (.inr q)
    obtain ⟨u,ru,lk⟩:=look i0 x v (C.slots j i0 x e4 e1) e6 hv
    refine ⟨u,ru,.inr ⟨C.ink x hx,?_⟩⟩
    rcases lk with ⟨q,_⟩|⟨_,c,ec,z⟩
    ·rcases C.outk x hx with q'|q' <;> (rw [q] at q'; cases q')
    ·exact ⟨c,jL hx ec,let ⟨o,a,b⟩:=z; ⟨o,kp _ _ a,b⟩⟩
 ·obtain ⟨v,o,a,b⟩:=I3.cell x c (hC _ _ e)
  exact ⟨v,o,kp _ _ a,b⟩
 ·exact I3.hok.fresh (le_refl _)
 ·show (List.replicate tn.length none++jM σ is).length=(tn++names).length
  rw [length_append,length_append,length_replicate]
  unfold jM
  rw [length_map,C.len]
theorem tF {prog:Program}{w:World}{A:Around}{R:Result->Shared->Prop}{s:Shared}{elt target iter:Expr}{ifs:List Expr}{scope:Scope}{pos:Pos}{it acc:Value}{env:Env} (I:Nat->Shared->Prop)
  (turn:∀ n s,I n s->wpAny (model prog w) A (pyNext it) (fun r s₁=>match r with
  |none=>R (.ok .next) s₁
   | some v=>wpAny (model prog w) A (letOwnedTupleGo target it v) (fun _ s₁'=>wpAny (model prog w) A (assign target env v) (fun _ s₂ =>
     wpAny (model prog w) A (forIn ifs true fun c r=>if r=true then do let ok ← isTrue c env (eval c env); pure (ForInStep.yield ok) else pure (ForInStep.yield r)) (fun ok s₃ =>
      if ok=true then wpAny (model prog w) A (eval elt env) (fun x s₄ =>
       wpAny (model prog w) A (call (.builtin "list.append") [acc,x]) (fun _ s₅=>∃ m,m < n/\I m s₅) (fun _ _=>False) s₄) (fun _ _=>False) s₃
      else ∃ m,m < n/\I m s₃) (fun _ _=>False) s₂) (fun _ _=>False) s₁') (fun _ _=>False) s₁) (fun _ _=>False) s)
  (n:Nat) (h:I n s) :
  codeAny (model prog w) A (.compLoop (.ListComp elt [⟨target,iter,ifs,0⟩] scope pos) 0 it acc env) R s:=by
 refine codeAny_loop rfl I (fun n s hI=>?_) n h
 show wpAny _ A ((compTurn (.ListComp elt [⟨target,iter,ifs,0⟩] scope pos) 0 it acc env).onRaise (fun x=>do noteFrame x env; theTreesLotGoes x)) _ _ s
 refine wpAny_noted ?_
 rw [compTurn_list]
 refine wpAny_bind (wpAny_standAt (wpAny_bind (wpAny_mono (turn n s hI) (fun r s₁ h₁=>?_) fun _ _ h'=>h'.elim)))
 cases r with
|none=>exact wpAny_pure h₁
|some v =>
  refine wpAny_bind (wpAny_mono h₁ (fun _ s₁' h₁'=>?_) fun _ _ h'=>h'.elim)
  refine wpAny_bind (wpAny_mono h₁' (fun _ s₂ h₂=>wpAny_bind (wpAny_mono h₂ (fun ok s₃ h₃=>?_) fun _ _ h'=>h'.elim)) fun _ _ h'=>h'.elim)
  cases ok with
 |false=>exact wpAny_pure ⟨rfl,h₃⟩
 |true =>
   exact wpAny_bind (wpAny_bind (wpAny_mono h₃ (fun x s₄ h₄=>wpAny_bind (wpAny_mono h₄ (fun _ s₅ h₅=>wpAny_pure (wpAny_pure ⟨rfl,h₅⟩)) fun _ _ h'=>h'.elim)) fun _ _ h'=>h'.elim))
noncomputable def UP (X':Cx) (ifs:List Expr) (tc:Option TT):Prop:=match ifs,tc with
|[],none=>True
|[c],some t=>PT X' c t
|_,_=>False
theorem fB {X':Cx}:UP X' [] none:=trivial
theorem rX {X':Cx}{c:Expr}{t:TT} (h:PT X' c t):UP X' [c] (some t):=h
structure YW (ok:Cx->Prop) (P:Program) (w:World) (K:Frag) (tg:Expr) (J:It) (fp:List Addr) (it:Addr) (tn:Nat->Heap->Prop):Prop where
 mem:it∈fp
 obj:∀ i h,tn i h->∀ b∈fp,∃ o,h.get? b=some o/\∀ v,o.data≠.cell v
 keep:∀ i h h',tn i h->(∀ b∈fp,∀ o,h.get? b=some o->h'.get? b=some o)->tn i h'
 item:∀ (X:Cx),X.prog=P->X.w=w->X.K=K->ok X->∀ (i:Nat) (pins:List (Addr×Obj)) (s:Shared) (σ:St) (H:Hp) (E:Value->Shared->Prop),aL X pins σ H s->(∀ b∈fp,pA X pins H b)->tn i s.heap->J.go i H ->
  wpAny (model P w) X.A (pyNext (.ref it)) (fun r s1=>∃ u,r=some u/\wpAny (model P w) X.A (letOwnedTupleGo tg (.ref it) u) (fun _ s2=>∃ x H',aL X pins σ H' s2/\aV x u/\J.yld i H x H'/\tn (i+1) s2.heap/\∀ b∈fp,H' b=none) E s1) E s
 done:∀ (X:Cx),X.prog=P->X.w=w->X.K=K->ok X->∀ (i:Nat) (pins:List (Addr×Obj)) (s:Shared) (σ:St) (H:Hp) (E:Value->Shared->Prop),aL X pins σ H s->(∀ b∈fp,pA X pins H b)->tn i s.heap->J.stop i H ->
  wpAny (model P w) X.A (pyNext (.ref it)) (fun r s1=>r=none/\aL X pins σ H s1) E s
 self:∀ (A:Around) (i:Nat) (s:Shared) (Q:Value->Shared->Prop) (E:Value->Shared->Prop),tn i s.heap->Q (.ref it) s->wpAny (model P w) A (pyIter (.ref it)) Q E s
noncomputable def YY (ok:Cx->Prop) (X:Cx) (pins:List (Addr×Obj)) (σ:St) (tg:Expr) (R:It->Hp->Prop) (itv:Value) (s2:Shared):Prop:=
 ∃ (it:Addr) (fp:List Addr) (tn:Nat->Heap->Prop) (J:It) (H':Hp),itv=.ref it/\aL X pins σ H' s2/\YW ok X.prog X.w X.K tg J fp it tn/\tn 0 s2.heap/\(∀ b∈fp,pA X pins H' b)/\R J H'
theorem PB {X:Cx}{pins:List (Addr×Obj)}{σ:St}{tg:Expr}{R:It->Hp->Prop}{itv:Value}{s2:Shared} (h:Az X pins σ tg R itv s2):YY (fun X=>X.calm=true) X pins σ tg R itv s2:=
 let ⟨it,fp,tn,J,H',a,b,T,c,d,e⟩:=h; ⟨it,fp,tn,J,H',a,b,⟨T.mem,T.obj,T.keep,T.item,T.done,T.self⟩,c,d,e⟩
theorem wE {X:Cx}{ok:Cx->Prop}{scope:Scope}{tn names:List Str}{is:List Nat} (ck:lI X scope tn names is) (hc:∀ C s0 H0 ex,ok (cC X scope (bD X.env names) (tn++names) C s0 H0 ex)) {elt tg iter:Expr}{ifs:List Expr}{pos:Pos}{te:TE}{tc:Option TT}{g:TG}
  (hg:∀ C s0 H0 ex,PG (cC X scope (bD X.env names) (tn++names) C s0 H0 ex) tg g) (he:∀ C s0 H0 ex,PE (cC X scope (bD X.env names) (tn++names) C s0 H0 ex) elt te)
  (ht:∀ C s0 H0 ex,UP (cC X scope (bD X.env names) (tn++names) C s0 H0 ex) ifs tc)
  {pins:List (Addr×Obj)} {σ:St} {Q:VK} {s2:Shared} {itv:Value} {E:Value->Shared->Prop} (h2:YY ok X pins σ tg (lO te tc g (List.replicate tn.length none) (jM σ is) Q) itv s2) {RR:Value->Addr->Result->Shared->Prop}
  (fin:∀ (acc C:Addr) (H':Hp) (s':Shared) (m:Str->Option Value),aL X pins σ H' s'->s'.heap.Ns C m->H' C=none->C≠X.env.locals->(∀ x c,X.env.cells.lookup x=some c->c≠C)->(∀ p∈X.pn++pins,p.1≠C)->X.s₀.heap.objs.size<=C->Q (.ref acc) H' ->
   RR (.ref acc) C (.ok .next) s') :
  wpAny (model X.prog X.w) X.A (newList []) (fun acc s₃=>wpAny (model X.prog X.w) X.A (newFunctionEnv scope X.env.globals (bD X.env names) [] X.env.qual none .none (some X.env)) (fun cenv s₄ =>
   codeAny (model X.prog X.w) X.A (.compStart (.ListComp elt [⟨tg,iter,ifs,0⟩] scope pos) 0 itv acc { cenv with scope:=relabel scope X.env }) (RR acc cenv.locals) s₄) E s₃) E s2:=by
 obtain ⟨it,fp,tnx,J,H2,rfl,I2,T,st2,f2,hK⟩:=h2
 have facc:H2 s2.heap.objs.size=none:=I2.hok.fresh (le_refl _)
 refine wpAny_newObj_type ?_ (by show 0<=sizeLine; decide)
 have fpl:∀ b∈fp,b < s2.heap.objs.size:=fun b hb=>let ⟨o,e,_⟩:=T.obj 0 _ st2 b hb; lt_size e
 generalize hs3:({ s2 with heap:=s2.heap.push { cls:=.type "list",data:=.seq ([]:List Value).toArray } }:Shared)=s3
 have hsz3:s3.heap.objs.size=s2.heap.objs.size+1:=by rw [← hs3]; exact size_push ..
 have keep23:∀ b o,s2.heap.get? b=some o->s3.heap.get? b=some o:=fun b o e=>by rw [← hs3]; exact get?_push_of_some _ e
 have I3:aL X pins σ (upd H2 s2.heap.objs.size (.lst [])) s3:=by
  rw [← hs3]
  exact I2.laid (t':=s2.toks) (fun b u e=>get?_push_of_some _ e) (le_refl _) ⟨zero_le _,[],0,.nil,get?_push_size _ rfl⟩
 refine wpAny_newFunctionEnv ck.nocell (by intro y hy; simp at hy) (fun h1 ns sb=>?_) ck.kind
 have kp:∀ b o,s3.heap.get? b=some o->h1.get? b=some o:=fun b o e=>sb.extBut b o (ne_of_lt (lt_size e)) (get?_push_of_some _ e)
 have lt3:∀ b:Addr,b < s2.heap.objs.size->b < s3.heap.objs.size:=fun b hb=>lt_of_lt_of_le hb (by rw [hsz3]; exact le_succ _)
 have ns':h1.Ns s3.heap.objs.size fun _=>none:=ns
 have I4:=NJ (t4:=s3.toks+([]:List (Str×Value)).length) ck I2 I3 f2 (fun b hb=>lt3 b (fpl b hb)) (fun b hb=>ne_of_lt (fpl b hb)) ns' kp
 generalize hX':cC X scope (bD X.env names) (tn++names) s3.heap.objs.size s3 (upd H2 s2.heap.objs.size (.lst [])) fp=X' at I4
 have hA:X'.A=X.A:=by rw [← hX']; rfl
 have hP:X'.prog=X.prog:=by rw [← hX']; rfl
 have hW:X'.w=X.w:=by rw [← hX']; rfl
 have hKK:X'.K=X.K:=by rw [← hX']; rfl
 have hcm:ok X':=by rw [← hX']; exact hc _ _ _ _
 have hfs:X'.fs=jA X.stack:=by rw [← hX']; rfl
 have hex:X'.ex=fp:=by rw [← hX']; rfl
 have hloc:X'.env.locals=s3.heap.objs.size:=by rw [← hX']; rfl
 have hs0:X'.s₀=s3:=by rw [← hX']; rfl
 have hH0:X'.H₀=upd H2 s2.heap.objs.size (.lst []):=by rw [← hX']; rfl
 have hxe:X'.xe=fun _ _=>False:=by rw [← hX']; rfl
 have henv:X'.env=compEnvC scope (bD X.env names) s3.heap.objs.size X.env:=by rw [← hX']; rfl
 have hg':PG X' tg g:=by rw [← hX']; exact hg _ _ _ _
 have he':PE X' elt te:=by rw [← hX']; exact he _ _ _ _
 have ht':UP X' ifs tc:=by rw [← hX']; exact ht _ _ _ _
 have cells':∀ x c,X'.env.cells.lookup x=some c->X.env.cells.lookup x=some c:=fun x c e=>by rw [henv] at e; exact hU e
 obtain ⟨W,⟨m0,w0⟩,turn⟩:=hK _ facc
 have stat:∀ {H':Hp},(∀ b∈fp,H' b=none)->∀ b∈fp,pA X' [] H' b:=fun {H'} hn b hb=>by
  refine ⟨hn b hb,?_,?_,.inl (by rw [hex]; exact hb),fun x c e=>(f2 b hb).2.2.2.2.1 x c (cells' x c e),fun p hp=>?_⟩
  ·rw [hloc]; exact ne_of_lt (lt3 b (fpl b hb))
  ·rw [hfs]
   intro z
   rcases mem_cons.mp (I2.stkSub b z) with q|q
   ·exact (f2 b hb).2.1 q
   ·exact (f2 b hb).2.2.1 q
  ·rw [← hX'] at hp
   exact absurd hp (by simp [cC])
 have loop:∀ s4:Shared,aL X' [] (List.replicate tn.length none++jM σ is) (upd H2 s2.heap.objs.size (.lst [])) s4->tnx 0 s4.heap ->
   codeAny (model X.prog X.w) X.A (.compLoop (.ListComp elt [⟨tg,iter,ifs,0⟩] scope pos) 0 (.ref it) (.ref s2.heap.objs.size) X'.env) (RR (.ref s2.heap.objs.size) s3.heap.objs.size) s4:=by
  intro s4 J4 st4
  refine tF (fun n s'=>∃ i ys ts H',aL X' [] (ts++jM σ is) H' s'/\ts.length=tn.length/\tnx i s'.heap/\(∀ b∈fp,H' b=none)/\W i n ys H') ?_ m0
   ⟨0,[],_,_,J4,length_replicate ..,st4,fun b hb=>by rw [aI (ne_of_lt (fpl b hb))]; exact (f2 b hb).1,w0⟩
  rintro n s5 ⟨i,ys,ts,H5,I5,hts,st5,fr5,w5⟩
  obtain ⟨hacc5,hcase⟩:=turn i n ys H5 w5
  have hrun:∀ {α:Type} {m:Sem α} {Q':α->Shared->Prop} {s':Shared},wpAny (model X'.prog X'.w) X'.A m Q' (fun _ _=>False) s'->wpAny (model X.prog X.w) X.A m Q' (fun _ _=>False) s':=fun {α m Q' s'} z=>by
   rw [hP,hW,hA] at z; exact z
  rcases hcase with ⟨stop,qn⟩|⟨hlen,go,step⟩
  ·have z:=T.done X' hP hW hKK hcm i [] s5 _ H5 (fun _ _=>False) I5 (stat fr5) st5 stop
   rw [hA] at z
   refine bZ z fun r s6 ⟨hr,I6⟩=>?_
   subst hr
   -- the frame around,behind the block
   have u23:Un (jA X.stack) fp H2 (upd H2 s2.heap.objs.size (.lst [])) s2.heap s3.heap:=Un.laid keep23 (le_refl _) facc
   have u36:Un (jA X.stack) fp (upd H2 s2.heap.objs.size (.lst [])) H5 s3.heap s6.heap:=by
    have b:=I6.base
    rw [hfs,hex,hs0,hH0] at b
    exact b
   have hos:s6.os=s2.os:=by
    have b:=I6.os
    rw [hs0,← hs3] at b
    exact b
   have IO:aL X pins σ H5 s6:=I2.call' hos (u23.trans u36) (by have b:=I6.hok; rw [hP,hW] at b; exact b) I6.bare fun b hb=>by
    obtain ⟨_,f1,f2',f3,f4,f5⟩:=f2 b hb
    exact ⟨f3,f1,fun x c e=>f4 x c e,fun p hp=>f5 p hp⟩
   obtain ⟨m,hm,_⟩:=I6.loc
   rw [hloc] at hm
   have fC:H5 s3.heap.objs.size=none:=by have b:=I6.free; rw [hloc] at b; exact b
   refine fin _ _ H5 s6 m IO hm fC ?_ (fun x c e=>?_) (fun p hp=>?_) ?_ qn
   ·exact ne_of_gt (lt_of_lt_of_le I2.lt (by omega))
   ·obtain ⟨v,z⟩:=I2.cell x c e
    exact ne_of_lt (lt3 c z.lt)
   ·exact ne_of_lt (lt3 p.1 (lt_size (I2.pin p hp).1))
   ·exact le_trans I2.sz (by omega)
  ·have z:=T.item X' hP hW hKK hcm i [] s5 _ H5 (fun _ _=>False) I5 (stat fr5) st5 go
   rw [hA] at z
   refine bZ z fun r s6 ⟨u,hr,h6⟩=>?_
   subst hr
   refine bZ h6 fun _ s7 ⟨x,H7,I7,r7,y7,st7,fr7⟩=>?_
   have I7':=I7.pinned (stat fr7) (T.obj _ _ st7)
   have zg:=hg' _ s7 _ H7 x u _ I7' r7 (step ts x H7 (by rw [hts,length_replicate]) y7)
   rw [hxe] at zg
   refine bZ (hrun zg) fun _ s8 ⟨σ8,H8,I8,⟨us2,hus,e8⟩,q8⟩=>?_
   subst e8
   rw [length_replicate] at hus
   have back:∀ {s9:Shared} {H9:Hp},aL X' ([]++jH fp s7.heap) (us2++jM σ is) H9 s9->tnx (i+1) s9.heap/\∀ b∈fp,H9 b=none:=fun {s9 H9} I9=>by
    refine ⟨T.keep _ _ _ st7 fun b hb o e=>(I9.pin (b,o) (mem_append_right _ (mem_append_right _ (gX hb e)))).1,fun b hb=>?_⟩
    obtain ⟨o,e,d⟩:=T.obj _ _ st7 b hb
    exact (I9.pin (b,o) (mem_append_right _ (mem_append_right _ (gX hb e)))).2.1
   have made:∀ {s9:Shared} {H9:Hp},aL X' ([]++jH fp s7.heap) (us2++jM σ is) H9 s9->te (us2++jM σ is) H9 (fun y H3=>H3 s2.heap.objs.size=some (.lst ys)/\∃ m',m' < n/\W (i+1) m' (ys++[y]) (upd H3 s2.heap.objs.size (.lst (ys++[y])))) ->
     wpAny (model X.prog X.w) X.A (eval elt X'.env) (fun x s₄=>wpAny (model X.prog X.w) X.A (call (.builtin "list.append") [.ref s2.heap.objs.size,x]) (fun _ s₅=>∃ m,m < n/\∃ i ys ts H',aL X' [] (ts++jM σ is) H' s₅/\ts.length=tn.length/\tnx i s₅.heap/\(∀ b∈fp,H' b=none)/\W i m ys H') (fun _ _=>False) s₄) (fun _ _=>False) s9:=fun {s9 H9} I9 q9=>by
    have ze:=he' _ s9 _ H9 _ I9 q9
    rw [hxe] at ze
    refine bZ (hrun ze) fun y s10 ⟨yv,H10,I10,ry,ha10,m',hm',w10⟩=>?_
    have za:=(dM (X:=X')) ([]++jH fp s7.heap) s10 (us2++jM σ is) H10 (.ref s2.heap.objs.size) [yv] (.ref s2.heap.objs.size) [y] (fun v H'=>v=.non/\H'=upd H10 s2.heap.objs.size (.lst (ys++[yv]))) I10 rfl (.cons ry .nil)
     ⟨_,ys,yv,rfl,rfl,ha10,hlen,rfl,rfl⟩
    rw [hxe] at za
    refine bZ (hrun za) fun _ s11 ⟨_,H11,I11,_,_,e11⟩=>?_
    subst e11
    obtain ⟨b1,b2⟩:=back I11
    exact ⟨m',hm',i+1,_,us2,_,I11.unpinned,hus,b1,b2,w10⟩
   cases ifs with
  |nil =>
    cases tc with
   |some t=>exact ht'.elim
   |none=>exact wpAny_tests_nil (by rw [if_pos rfl]; exact made I8 q8)
  |cons c0 dN =>
    cases dN with
   |cons _ _=>cases tc <;> exact ht'.elim
   |nil =>
     cases tc with
    |none=>exact ht'.elim
    |some t =>
      have zt:=(show PT X' c0 t from ht') _ s8 _ H8 _ I8 q8
      rw [hxe] at zt
      refine wpAny_tests_one (bZ (hrun zt) fun ok s9 ⟨H9,I9,q9⟩=>?_)
      cases ok with
     |true=>rw [if_pos rfl]; rw [if_pos rfl] at q9; exact made I9 q9
     |false =>
       rw [if_neg Bool.false_ne_true]
       rw [if_neg Bool.false_ne_true] at q9
       obtain ⟨m',hm',w9⟩:=q9
       obtain ⟨b1,b2⟩:=back I9
       exact ⟨m',hm',i+1,_,us2,_,I9.unpinned,hus,b1,b2,w9⟩
 have st4:tnx 0 h1:=T.keep _ _ _ st2 fun b hb o e=>kp b o (keep23 b o e)
 have goal0:=loop _ I4 st4
 rw [henv] at goal0
 refine codeAny_compStart_list goal0 (T.self X.A 0 _ _ _ st4 goal0)
theorem iR (ck:lI X scope tn names is) (hc:X.calm=true) (hi:PI X tg iter wi)
  (hg:∀ C s0 H0 ex,PG (cC X scope (bD X.env names) (tn++names) C s0 H0 ex) tg g) (he:∀ C s0 H0 ex,PE (cC X scope (bD X.env names) (tn++names) C s0 H0 ex) elt te)
  (ht:∀ C s0 H0 ex,UP (cC X scope (bD X.env names) (tn++names) C s0 H0 ex) ifs tc) (hs:∀ x,foldedSetIterable iter X.env x=pure x:=by intro _; rfl) :
  PE X (.ListComp elt [⟨tg,iter,ifs,0⟩] scope pos) (zB wi te tc g tn.length is):=by
 intro pins s σ H Q I h
 rw [eval_ListComp]
 refine wpAny_comprehension_free (use:=none) rfl hs (ck.cls fun x hx=>I.ok.has x (ck.outk x hx)) ck.kind ck.nms (bZ (hi pins s σ H _ I h) fun v s1 h1=>bZ h1 fun itv s2 h2=>?_)
 refine wE (RR:=fun acc C=>compPost (model X.prog X.w) X.A X.xe none (EP X pins σ Q) acc C) (ok:=fun X=>X.calm=true) ck (fun _ _ _ _=>hc) hg he ht (PB h2) fun acc C H' s' m I' hn hC hL hcl hpn hsz q=>?_
 refine ⟨m,hn,fun h' sb=>⟨.ref acc,H',?_,rfl,q⟩⟩
 exact I'.turned (t':=s'.toks) (fun b o hb e=>sb.extBut b o hb e) hC hL (.inr hsz) hcl hpn
theorem rZ {i:Nat}{x:Str}{pos' spos:Pos} (hN:X.N.Nodup) (hi':X.N[i]?=some x) (hx:US X.env.scope x) (ck:lI X scope tn names is) (hc:X.calm=true) (hi:PI X tg iter wi)
  (hg:∀ C s0 H0 ex,PG (cC X scope (bD X.env names) (tn++names) C s0 H0 ex) tg g) (he:∀ C s0 H0 ex,PE (cC X scope (bD X.env names) (tn++names) C s0 H0 ex) elt te)
  (ht:∀ C s0 H0 ex,UP (cC X scope (bD X.env names) (tn++names) C s0 H0 ex) ifs tc) (hs:∀ x,foldedSetIterable iter X.env x=pure x:=by intro _; rfl)
  (hsw:swapsWith (.ListComp elt [⟨tg,iter,ifs,0⟩] scope pos) (some (.Name x pos')) spos.line X.env=pure true:=by rfl) (hf:X.fn x=true∨X.env.scope.names.lookup x=some .local:=by first|exact .inl rfl|exact .inr rfl|assumption) :
  PS X (.Assign [.Name x pos'] (.ListComp elt [⟨tg,iter,ifs,0⟩] scope pos) spos) (QN (zB wi te tc g tn.length is) (kH i)):=by
 intro pins s σ H D I h
 rw [exec_Assign_Name_used _ _ _ _ hsw]
 refine wpAny_bind (wpAny_standAt (wpAny_bind ?_))
 show wpAny _ X.A (do let _ ← comprehension (.ListComp elt [⟨tg,iter,ifs,0⟩] scope pos) scope X.env _ (newList []) false (eval iter X.env) (some (assign (.Name x pos') X.env))) _ _ s
 refine wpAny_bind (wpAny_mono (wpAny_comprehension_free (use:=some (assign (.Name x pos') X.env)) (Q:=fun _ s'=>SP X pins D .next s') rfl hs (ck.cls fun x hx=>I.ok.has x (ck.outk x hx)) ck.kind ck.nms
  (bZ (hi pins s σ H _ I h) fun v s1 h1=>bZ h1 fun itv s2 h2=>?_)) (fun _ s' hq=>wpAny_pure (wpAny_pure hq)) fun _ _ e=>e)
 refine wE (RR:=fun acc C=>compPost (model X.prog X.w) X.A X.xe (some (assign (.Name x pos') X.env)) (fun _ s'=>SP X pins D .next s') acc C) (ok:=fun X=>X.calm=true) ck (fun _ _ _ _=>hc) hg he ht (PB h2) fun acc C H' s' m I' hn hC hL hcl hpn hsz q=>?_
 show wpAny _ X.A (assign (.Name x pos') X.env (.ref acc)) _ _ s'
 refine wpAny_assign_Name (pP I' hN hi' hx (v:=.ref acc) rfl (fun s'' I'' sb=>?_) hf)
 obtain ⟨a,sb,ha⟩:=sb
 have hne:C≠a:=by
  rcases ha with rfl|ha
  ·exact hL
  ·exact fun z=>hcl x a ha z.symm
 refine ⟨m,hn.sameBut sb hne,fun h' sb'=>⟨_,H',I''.turned (t':=s''.toks) (fun b o hb e=>sb'.extBut b o hb e) hC hL (.inr hsz) hcl hpn,q⟩⟩
end
section
variable {te:TE} {Q:VK} {H:Hp} {σ caps:St} {wi:TI} {tc:TT} {K:Frag}
theorem RO {o:Option TT}{g:TG}{k:Nat}{is:List Nat} (h:wi σ H (lO te o g (List.replicate k none) (jM σ is) Q)):zB wi te o g k is σ H Q:=h
theorem MP {us:St} (h:us.length=1):∃ o,us=[o]:=by
 cases us with
|nil=>cases h
|cons o r =>
  cases r with
 |nil=>exact ⟨o,rfl⟩
 |cons _ _=>simp at h
noncomputable def cW (n:Nat) (acc:Addr) (Pv:Nat->List V->Hp->Prop):Nat->Nat->List V->Hp->Prop:=fun i m ys H1=>m=n - i/\i<=n/\ys.length=i/\H1 acc=some (.lst ys)/\Pv i ys H1
noncomputable def BM (n:Nat) (acc:Addr) (Pv:Nat->List V->Hp->Prop) (ys:List V) (i:Nat):VK:=fun y H3=>H3 acc=some (.lst ys)/\∃ m',m' < n - i/\cW n acc Pv (i+1) m' (ys++[y]) (upd H3 acc (.lst (ys++[y])))
theorem jN {n:Nat}{acc:Addr}{Pv:Nat->List V->Hp->Prop}{ys:List V}{i:Nat}{y:V}{H3:Hp} (hlt:i < n) (hl:ys.length=i) (ha:H3 acc=some (.lst ys)) (p:Pv (i+1) (ys++[y]) (upd H3 acc (.lst (ys++[y])))):BM n acc Pv ys i y H3:=
 ⟨ha,n - (i+1),by omega,rfl,hlt,by rw [length_append,hl]; rfl,aC,p⟩
theorem mO {a:Addr}{xs:List V} (hn:xs.length<=1000) (Pv:Addr->Nat->List V->Hp->Prop) (h0:∀ acc,H acc=none->Pv acc 0 [] (upd H acc (.lst []))) (hl':∀ acc i ys H1,H acc=none->i<=xs.length->Pv acc i ys H1->bS K H1 a xs)
  (hs:∀ acc i ys H1 x,H acc=none->xs[i]?=some x->ys.length=i->H1 acc=some (.lst ys)->Pv acc i ys H1->te (some x::caps) H1 (BM xs.length acc (Pv acc) ys i))
  (hd:∀ acc ys H1,H acc=none->H1 acc=some (.lst ys)->ys.length=xs.length->Pv acc xs.length ys H1->Q (.ref acc) H1):lO te none (kH 0) (List.replicate 1 none) caps Q (JT K a) H:=by
 intro acc hacc
 refine ⟨cW xs.length acc (Pv acc),⟨xs.length,by simp,zero_le _,rfl,aC,h0 acc hacc⟩,?_⟩
 rintro i m ys H1 ⟨rfl,hi,hl,ha,p⟩
 have q:=hl' acc i ys H1 hacc hi p
 refine ⟨ha,?_⟩
 by_cases hlt:i < xs.length
 ·refine .inr ⟨dL (by omega),⟨xs,xs[i],q,by simp [hlt]⟩,fun us x H' hu y=>?_⟩
  obtain ⟨e,y⟩:=y
  subst e
  obtain ⟨o,rfl⟩:=MP hu
  exact ⟨⟨[some x],rfl,rfl⟩,hs acc i ys _ x hacc (y xs q) hl ha p⟩
 ·have e:i=xs.length:=by omega
  subst e
  exact .inl ⟨⟨xs,q,le_refl _⟩,hd acc ys H1 hacc ha hl p⟩
end
end
end L2
namespace L2
open PySem
section
variable {H:Hp} {Q:VK} {u v:V} {a b c d:Int} {m n:Nat} {K:Frag}
end
end L2
namespace L2
theorem BI {x y z:Int} (h1:Int.gcd x y=1) (h2:Int.gcd x z=1):Int.gcd x (y * z)=1:=by
 unfold Int.gcd at *
 rw [Int.natAbs_mul]
 exact Nat.Coprime.mul_right h1 h2
theorem mZ {x x' y:Int} (h:x' ∣ x) (h1:Int.gcd x y=1):Int.gcd x' y=1:=by
 unfold Int.gcd at *
 exact Nat.Coprime.coprime_dvd_left (Int.natAbs_dvd_natAbs.mpr h) h1
theorem FK {t b f g:Int} (hb:b≠0) (hg:0 < g) (hc:Int.gcd f g=1) (e:f * b=t * g):(Rat.divInt t b).num=f/\((Rat.divInt t b).den:Int)=g:=by
 obtain ⟨n,rfl⟩:∃ n:Nat,g=n:=⟨g.toNat,by omega⟩
 have h1:Rat.divInt t b=Rat.divInt f n:=(Rat.divInt_eq_divInt_iff hb (by omega)).mpr e.symm
 have h2:Rat.divInt f n=Rat.mk' f n (by omega) hc:=Rat.num_divInt_den (Rat.mk' f n (by omega) hc)
 rw [h1,h2]
 exact ⟨rfl,rfl⟩
theorem oP {a g:Int} (hg:g≠0) (h:g ∣ a):a.fdiv g * g=a:=by
 obtain ⟨c,rfl⟩:=h
 rw [Int.mul_fdiv_cancel_left _ hg,Int.mul_comm]
theorem wB {k n m:Int} (h:k ∣ n * m) (g:Int.gcd k n=1):k ∣ m:=by
 have q:=Int.dvd_gcd_mul_iff_dvd_mul.mpr h
 rw [g] at q
 simpa using q
theorem oN {x y:Int} (h:∀ k:Int,k ∣ x->k ∣ y->k ∣ 1):Int.gcd x y=1:=by
 have h1:=h (Int.gcd x y) (Int.gcd_dvd_left ..) (Int.gcd_dvd_right ..)
 have:=Int.le_of_dvd (by decide) h1
 have h0:Int.gcd x y≠0:=by
  intro z
  rw [z] at h1
  simp at h1
 omega
theorem DR {a b c d s k f u v:Int} (hb:0 < b) (hd:0 < d) (h1:Int.gcd a b=1) (h2:Int.gcd c d=1) (hs:s=(Int.gcd b d:Int)) (hu:u=d.fdiv s) (hv:v=b.fdiv s)
  (hk:k=(Int.gcd (a * u+c * v) s:Int)) (hf:f=(a * u+c * v).fdiv k) :
  0 < s/\0 < k/\s<=b/\k<=s/\(0 < b.fdiv k * u/\Int.gcd f (b.fdiv k * u)=1/\f * (b * d)=(a * d+c * b) * (b.fdiv k * u)) /\
   u.natAbs<=d.natAbs/\v.natAbs<=b.natAbs/\f.natAbs<=(a * u+c * v).natAbs/\(b.fdiv k).natAbs<=b.natAbs:=by
 have le_of_mul:∀ {a g c:Int},g≠0->a * g=c->a.natAbs<=c.natAbs:=fun {a g c} hg e=>by
  rw [← e,Int.natAbs_mul]
  exact Nat.le_mul_of_pos_right _ (by omega)
 have s0:0 < s:=by
  rw [hs]
  have:Int.gcd b d≠0:=fun e=>by
   have:=(Int.gcd_eq_zero_iff.mp e).1
   omega
  omega
 have sb:s ∣ b:=hs ▸ Int.gcd_dvd_left ..
 have sd:s ∣ d:=hs ▸ Int.gcd_dvd_right ..
 have eu:u * s=d:=hu ▸ oP (by omega) sd
 have ev:v * s=b:=hv ▸ oP (by omega) sb
 have k0:0 < k:=by
  rw [hk]
  have:Int.gcd (a * u+c * v) s≠0:=fun e=>by
   have:=(Int.gcd_eq_zero_iff.mp e).2
   omega
  omega
 have kt:k ∣ a * u+c * v:=hk ▸ Int.gcd_dvd_left ..
 have ks:k ∣ s:=hk ▸ Int.gcd_dvd_right ..
 have ef:f * k=a * u+c * v:=hf ▸ oP (by omega) kt
 obtain ⟨m,em⟩:=ks
 have m0:0 < m:=by
  rcases Int.lt_or_le 0 m with q|q
  ·exact q
  ·have:k * m<=0:=Int.mul_nonpos_of_nonneg_of_nonpos (by omega) q
   omega
 have u0:0 < u:=by
  rcases Int.lt_or_le 0 u with q|q
  ·exact q
  ·have:u * s<=0:=Int.mul_nonpos_of_nonpos_of_nonneg q (by omega)
   omega
 have v0:0 < v:=by
  rcases Int.lt_or_le 0 v with q|q
  ·exact q
  ·have:v * s<=0:=Int.mul_nonpos_of_nonpos_of_nonneg q (by omega)
   omega
 have ebk:b.fdiv k=v * m:=by
  have:b=k * (v * m):=by rw [← ev,em]; grind
  rw [this,Int.mul_fdiv_cancel_left _ (by omega)]
 have cuv:Int.gcd u v=1:=by
  have e:Int.gcd (u * s) (v * s)=Int.gcd u v * s.natAbs:=Int.gcd_mul_right ..
  rw [eu,ev,Int.gcd_comm] at e
  have:s.natAbs=Int.gcd b d:=by omega
  rw [this] at e
  have h0:0 < Int.gcd b d:=by omega
  have:1 * Int.gcd b d=Int.gcd u v * Int.gcd b d:=by omega
  exact (Nat.eq_of_mul_eq_mul_right h0 this).symm
 have cu:Int.gcd (a * u+c * v) u=1:=by
  refine oN fun z h3 h4=>?_
  have h5:z ∣ c * v:=(Int.dvd_add_right (Int.dvd_mul_of_dvd_right h4)).mp h3
  have h6:Int.gcd z c=1:=mZ (Int.dvd_trans h4 ⟨s,eu.symm⟩) (by rw [Int.gcd_comm]; exact h2)
  have h7:z ∣ v:=wB h5 h6
  have:=Int.dvd_coe_gcd h4 h7
  rw [cuv] at this
  exact this
 have cv:Int.gcd (a * u+c * v) v=1:=by
  refine oN fun z h3 h4=>?_
  have h5:z ∣ a * u:=(Int.dvd_add_left (Int.dvd_mul_of_dvd_right h4)).mp h3
  have h6:Int.gcd z a=1:=mZ (Int.dvd_trans h4 ⟨s,ev.symm⟩) (by rw [Int.gcd_comm]; exact h1)
  have h7:z ∣ u:=wB h5 h6
  have:=Int.dvd_coe_gcd h7 h4
  rw [cuv] at this
  exact this
 have cm:Int.gcd f m=1:=by
  have e:Int.gcd (f * k) (m * k)=Int.gcd f m * k.natAbs:=Int.gcd_mul_right ..
  have:m * k=s:=by rw [em,Int.mul_comm]
  rw [ef,this] at e
  have h3:k.natAbs=Int.gcd (a * u+c * v) s:=by omega
  rw [h3] at e
  have h0:0 < Int.gcd (a * u+c * v) s:=by omega
  have:1 * Int.gcd (a * u+c * v) s=Int.gcd f m * Int.gcd (a * u+c * v) s:=by omega
  exact (Nat.eq_of_mul_eq_mul_right h0 this).symm
 have fd:f ∣ a * u+c * v:=⟨k,ef.symm⟩
 refine ⟨s0,k0,Int.le_of_dvd hb sb,Int.le_of_dvd s0 ⟨m,em⟩,⟨?_,?_,?_⟩,le_of_mul (by omega) eu,le_of_mul (by omega) ev,le_of_mul (by omega) ef,le_of_mul (g:=k) (by omega) (by rw [ebk,← ev,em]; grind)⟩
 ·rw [ebk]; exact Int.mul_pos (Int.mul_pos v0 m0) u0
 ·rw [ebk]
  exact BI (BI (mZ fd cv) cm) (mZ fd cu)
 ·rw [ebk]
  have e1:a * d+c * b=(f * k) * s:=by rw [ef,← eu,← ev]; grind
  rw [e1,← eu,← ev]
  have:f * (v * s * (u * s))=f * s * v * u * s:=by grind
  rw [this]
  have:f * k * s * (v * m * u)=f * s * v * u * (k * m):=by grind
  rw [this,← em]
noncomputable def Sz (n:Nat) (q:Rat):Prop:=q.num.natAbs < 2 ^ n/\q.den < 2 ^ n
theorem yS (q r:Rat):q+r=Rat.divInt (q.num * r.den+r.num * q.den) (q.den * r.den):=by
 have h1:(q.den:Int)≠0:=by have:=q.den_pos; omega
 have h2:(r.den:Int)≠0:=by have:=r.den_pos; omega
 have:=Rat.divInt_add_divInt q.num r.num h1 h2
 rw [Rat.num_divInt_den,Rat.num_divInt_den] at this
 exact this
theorem Sz.neg {n:Nat}{q:Rat} (h:Sz n q):Sz n (-q):=⟨by rw [Rat.neg_num,Int.natAbs_neg]; exact h.1,h.2⟩
end L2
namespace L2
end L2
namespace L2
open PySem
noncomputable def qX (xs:Array Nat):Prop:=xs.toList.Pairwise (· < ·)
theorem qX.lt {xs:Array Nat} (h:qX xs) {i j:Nat} (hij:i < j) (hj:j < xs.size):xs[i]'(lt_trans hij hj) < xs[j]:=by
 have:=List.pairwise_iff_getElem.mp h i j (by simpa using lt_trans hij hj) (by simpa using hj) hij
 simpa using this
theorem qX.le {xs:Array Nat} (h:qX xs) {i j:Nat} (hij:i<=j) (hj:j < xs.size):xs[i]'(lt_of_le_of_lt hij hj)<=xs[j]:=by
 rcases Nat.lt_or_eq_of_le hij with h1|h1
 ·exact le_of_lt (h.lt h1 hj)
 ·subst h1
  exact le_refl _
noncomputable def wK (xs:Array Nat) (j r:Nat):Prop:=r<=xs.size/\(∀ k (hk:k < xs.size),k < r->xs[k] < j)/\∀ k (hk:k < xs.size),r<=k->j<=xs[k]
theorem oW {xs:Array Nat}{j:Nat} (h:qX xs):∀ (fuel lo hi:Nat),hi - lo<=fuel->lo<=hi->hi<=xs.size->(∀ k (hk:k < xs.size),k < lo->xs[k] < j)->(∀ k (hk:k < xs.size),hi<=k->j<=xs[k])->wK xs j (SetTable.below.go xs j fuel lo hi)
|0,lo,hi,hf,hl,hh,h1,h2=>by
  have:lo=hi:=by omega
  subst this
  unfold SetTable.below.go
  exact ⟨hh,h1,h2⟩
|fuel+1,lo,hi,hf,hl,hh,h1,h2=>by
  unfold SetTable.below.go
  by_cases hlt:lo < hi
  ·rw [if_pos hlt]
   have hm:(lo+hi) / 2 < xs.size:=by omega
   have eg:xs.getD ((lo+hi) / 2) j=xs[(lo+hi) / 2]:=by simp [Array.getD,hm]
   show wK xs j (if xs.getD ((lo+hi) / 2) j < j then SetTable.below.go xs j fuel ((lo+hi) / 2+1) hi else SetTable.below.go xs j fuel lo ((lo+hi) / 2))
   rw [eg]
   by_cases c:xs[(lo+hi) / 2] < j
   ·rw [if_pos c]
    exact oW h fuel ((lo+hi) / 2+1) hi (by omega) (by omega) hh (fun k hk hk'=>lt_of_le_of_lt (h.le (show k<=(lo+hi) / 2 by omega) hm) c) h2
   ·rw [if_neg c]
    exact oW h fuel lo ((lo+hi) / 2) (by omega) (by omega) (by omega) h1 fun k hk hk'=>le_trans (Nat.le_of_not_lt c) (h.le hk' hk)
  ·rw [if_neg hlt]
   have:lo=hi:=by omega
   subst this
   exact ⟨hh,h1,h2⟩
theorem eM {xs:Array Nat} (j:Nat) (h:qX xs):wK xs j (SetTable.below xs j):=
 oW h xs.size 0 xs.size (by omega) (zero_le _) (le_refl _) (fun _ _ z=>absurd z (not_lt_zero _)) fun k hk z=>absurd hk (not_lt.mpr z)
theorem kX {xs:Array Nat}{j r r':Nat} (h:wK xs j r) (h':wK xs j r'):r=r':=by
 rcases Nat.lt_trichotomy r r' with c|c|c
 ·have hk:r < xs.size:=lt_of_lt_of_le c h'.1
  exact absurd (h'.2.1 r hk c) (not_lt.mpr (h.2.2 r hk (le_refl _)))
 ·exact c
 ·have hk:r' < xs.size:=lt_of_lt_of_le c h.1
  exact absurd (h.2.1 r' hk c) (not_lt.mpr (h'.2.2 r' hk (le_refl _)))
theorem yP {xs:Array Nat} (h:qX xs):SetTable.below xs 0=0:=
 kX (eM 0 h) ⟨zero_le _,fun _ _ z=>absurd z (not_lt_zero _),fun _ _ _=>zero_le _⟩
theorem yQ {xs:Array Nat} (h:qX xs) {i:Nat} (hi:i < xs.size):SetTable.below xs (xs[i]+1)=i+1:=
 kX (eM _ h) ⟨hi,fun k hk z=>Nat.lt_succ_of_le (h.le (Nat.le_of_lt_succ z) hi),fun k hk z=>Nat.succ_le_of_lt (h.lt z hk)⟩
theorem zN {xs:Array Nat}{j:Nat} (h:qX xs) (hn:xs[SetTable.below xs j]?≠some j):qX (SetTable.insertAt xs (SetTable.below xs j) j):=by
 have st:=eM j h
 generalize SetTable.below xs j=p at st hn
 unfold qX
 rw [SetTable.toList_insertAt]
 have h1:∀ a∈xs.toList.take p,a < j:=fun a ha=>by
  obtain ⟨k,hk,e⟩:=List.getElem_of_mem ha
  rw [length_take] at hk
  rw [List.getElem_take,Array.getElem_toList] at e
  rw [← e]
  exact st.2.1 k (by simp at hk; omega) (by omega)
 have h2:∀ a∈xs.toList.drop p,j < a:=fun a ha=>by
  obtain ⟨k,hk,e⟩:=List.getElem_of_mem ha
  rw [length_drop,Array.length_toList] at hk
  rw [List.getElem_drop,Array.getElem_toList] at e
  have hp:p < xs.size:=by omega
  have h0:=st.2.2 p hp (le_refl _)
  have h3:xs[p]≠j:=fun z=>hn (by rw [Array.getElem?_eq_getElem hp,z])
  have h4:=h.le (show p<=p+k by omega) (by omega)
  rw [← e]
  omega
 refine pairwise_append.mpr ⟨h.sublist (List.take_sublist ..),List.pairwise_cons.mpr ⟨h2,h.sublist (List.drop_sublist ..)⟩,fun a ha b hb=>?_⟩
 rcases mem_cons.mp hb with rfl|hb
 ·exact h1 a ha
 ·exact lt_trans (h1 a ha) (h2 b hb)
noncomputable def Tb (w:World) (t:SetTable) (_n:Nat):Prop:=t.led=!(w.params.followText "set-order")/\qX t.place/\t.dummies=#[]
theorem iO (n:Nat):qX (Array.range n):=by
 unfold qX
 rw [Array.toList_range]
 exact List.pairwise_lt_range
theorem mT (j:Nat):SetTable.has #[] j=false:=by
 unfold SetTable.has
 simp
theorem nP {t:SetTable}{f:Nat->Int}{h:Int} (ht:t.dummies=#[]):∀ (fuel:Nat) (p:SetTable.Probe) (j:Nat) (d:Option Nat),SetTable.probe.go t f h fuel p=some (.empty j d)->p.dummy=none->t.slot j=.empty/\d=none
|0,p,j,d,e,hd=>nomatch e
|fuel+1,p,j,d,e,hd=>by
  have adv:(t.advance p).dummy=none:=by
   unfold SetTable.advance
   split
   ·exact hd
   ·exact hd
  unfold SetTable.probe.go at e
  cases hs:t.slot p.j with
 |empty =>
   rw [hs] at e
   have e:=Option.some.inj e
   injection e with e1 e2
   exact ⟨by rw [← e1]; exact hs,by rw [← e2]; exact hd⟩
 |dummy =>
   exfalso
   unfold SetTable.slot at hs
   dsimp only at hs
   rw [ht,mT,if_neg Bool.false_ne_true] at hs
   split at hs <;> cases hs
 |live i =>
   rw [hs] at e
   dsimp only at e
   split at e
   ·exact nomatch Option.some.inj e
   ·exact nP ht fuel _ j d e adv
theorem pV {t:SetTable}{j:Nat} (h:t.slot j=.empty):t.place[SetTable.below t.place j]?≠some j:=fun e=>by
 unfold SetTable.slot at h
 dsimp only at h
 rw [e,if_pos (by simp)] at h
 cases h
theorem CQ {w:World}{t:SetTable}{n m:Nat} (es:Array (Int×Value)) (h:Int) (x:Value) (ht:Tb w t n):Tb w (layNew t es h x).2.1 m:=by
 obtain ⟨h1,h2,h3⟩:=ht
 unfold layNew
 split
 ·rename_i slot wd e
  dsimp only
  have hp:Tb w (t.put slot).1 m:=by
   have hs:t.place[SetTable.below t.place slot]?≠some slot:=by
    unfold SetTable.freeSlot at e
    split at e
    ·rename_i j d e'
     have:=nP h3 _ _ _ _ e' rfl
     rw [this.2] at e
     have e:=Option.some.inj e
     have e1:j=slot:=congrArg Prod.fst e
     rw [← e1]
     exact pV this.1
    ·cases e
   unfold SetTable.put
   refine ⟨h1,zN h2 hs,?_⟩
   show (if SetTable.has t.dummies slot then _ else t.dummies)=#[]
   rw [h3,mT,if_neg Bool.false_ne_true]
  unfold SetTable.orStandIn
  split
  ·exact hp
  ·exact ⟨h1,iO _,rfl⟩
 ·exact ⟨h1,iO _,rfl⟩
theorem FJ {w:World}{t:SetTable}{n m:Nat} (es:Array (Int×Value)) (k:Nat) (ht:Tb w t n):Tb w (relayAll t es k).2.1 m:=by
 obtain ⟨h1,h2,h3⟩:=ht
 unfold relayAll
 split
 ·rename_i t' order e
  unfold SetTable.relaid SetTable.laid at e
  cases hc:SetTable.layClean (SetTable.sizeAbove k - 1) (Array.map (fun x=>x.fst) es) with
 |none =>
   rw [hc] at e
   exact nomatch e
 |some ow =>
  rw [hc] at e
  have e3:=congrArg Prod.fst (Option.some.inj e)
  dsimp only at e3
  subst e3
  dsimp only
  split
  ·refine ⟨h1,?_,rfl⟩
   unfold qX
   dsimp only
   refine pairwise_map.mpr (List.pairwise_filterMap.mpr (List.pairwise_lt_range.imp fun {a b} hab x hx y hy=>?_))
   simp only [Option.map_eq_some_iff] at hx hy
   obtain ⟨_,_,rfl⟩:=hx
   obtain ⟨_,_,rfl⟩:=hy
   exact hab
  ·exact ⟨h1,iO _,rfl⟩
 ·exact ⟨h1,iO _,rfl⟩
section
variable {prog:Program} {w:World} {K:Type} [DecidableEq K] {knd:KeyKind prog w K} {A:Around} {E:Value -> Shared -> Prop} {s:Shared}
theorem JC {a:Addr}{o:Obj}{es:Array (Int×Value)}{ep:Nat}{t:SetTable}{x:Value}{k:K}{Q:Bool->Shared->Prop} (hsc:x.scannable=true) (hkey:knd.is k x=true) (ho:s.heap.get? a=some o) (hex:o.ExactSet) (hd:o.data=.set es ep t)
  (hel:ElemsOf knd es.toList) (hb:es.size+1 < scanBound) (hf:t.fits es.size=true) (ht:Tb w t es.size)
  (h1:(∃ e∈es.toList,knd.is k e.2=true)->Q false s)
  (h2:(∀ e∈es.toList,knd.is k e.2=false)->∀ (h':Heap) (es':Array (Int×Value)) (t':SetTable) (ep':Nat),Heap.SameBut a s.heap h'->h'.get? a=some { o with data:=.set es' ep' t' }->List.Perm es'.toList (es.toList++[(knd.hash k,x)]) ->
   t'.fits es'.size=true->Tb w t' es'.size->Q true { s with heap:=h' }):wpAny (model prog w) A (setAddHashed a x (knd.hash k)) Q E s:=by
 unfold setAddHashed setAddHashedIn
 refine wpAny_holding (wpAny_bind (wpAny_setState_of ho hd hf ?_))
 dsimp only
 rw [byScan_of hsc (by omega) hel,if_pos rfl]
 unfold setAddByScan
 refine wpAny_bind (wpAny_bind (wpAny_rule (wpAny_bind (wpAny_setScan_of hkey ho hd hf hel ?_))))
 cases hr:List.findIdx? (fun e=>knd.is k e.2) es.toList with
|some j =>
  obtain ⟨hj,hpj,_⟩:=List.findIdx?_eq_some_iff_getElem.mp hr
  exact wpAny_pure (wpAny_pure (h1 ⟨_,List.getElem_mem hj,hpj⟩))
|none =>
  have hno:=List.findIdx?_eq_none_iff.mp hr
  have gw:∀ (b:Bool) {s₁:Shared} {Q':Unit->Shared->Prop},Q' () s₁->wpAny (model prog w) A (match b with|true=>rule "set.scan.the-table-gave-way"|false=>pure ()) Q' E s₁:=fun b _ _ hq=>by
   cases b
   ·exact wpAny_pure hq
   ·exact wpAny_rule hq
  dsimp only
  have p1:=layNew_perm t es (knd.hash k) x
  have f1:=layNew_fits t es (knd.hash k) x
  have l1:=fun m=>CQ (m:=m) es (knd.hash k) x ht
  generalize layNew t es (knd.hash k) x=L at p1 f1 l1 ⊢
  obtain ⟨es1,t1,wd,gave⟩:=L
  dsimp only at p1 f1 l1 ⊢
  rw [Array.toList_push] at p1
  have hz:es1.size=es.size+1:=by
   have:=p1.length_eq
   simpa using this
  refine wpAny_bind (gw _ ?_)
  have fin:∀ t2:SetTable,t2.fits es1.size=true->(∀ m,Tb w t2 m)->wpAny (model prog w) A (do
    storeSet a es1 t2
    if (!wd&&t2.tooFull)=true then do
      (match (relayAll t2 es1 (SetTable.grown es1.size)).2.2 with|true=>rule "set.scan.the-table-gave-way"|false=>pure ())
      storeSet a (relayAll t2 es1 (SetTable.grown es1.size)).1 (relayAll t2 es1 (SetTable.grown es1.size)).2.1
      pure (some true)
     else pure (some true)) (fun r s₁=>wpAny (model prog w) A (match r with | some added=>pure added | none=>setAddHashedIn a x (knd.hash k) 99999) Q E s₁) E s:=by
   intro t2 f2 l2
   refine wpAny_bind (wpAny_storeSet_of ho hd ?_ (fits_of_scanBound (by omega)))
   have g1:(s.heap.update a (Obj.putSet es1 t2)).get? a=some { o with data:=.set es1 (ep+1) t2 }:=by
    have z:=get?_update_self (Obj.putSet es1 t2) ho (by rw [putSet_of es1 t2 hd]; rfl)
    rw [putSet_of es1 t2 hd] at z
    exact z
   have sb1:=Heap.SameBut.update s.heap a (Obj.putSet es1 t2)
   split
   ·have p2:=relayAll_perm t2 es1 (SetTable.grown es1.size)
    have f3:=relayAll_fits t2 es1 (SetTable.grown es1.size)
    have l3:=fun m=>FJ (m:=m) es1 (SetTable.grown es1.size) (l2 0)
    generalize relayAll t2 es1 (SetTable.grown es1.size)=R at p2 f3 l3 ⊢
    obtain ⟨es2,t3,gave2⟩:=R
    dsimp only at p2 f3 l3 ⊢
    have hz2:es2.size=es1.size:=by
     have:=p2.length_eq
     simpa using this
    refine wpAny_bind (gw _ ?_)
    refine wpAny_bind (wpAny_storeSet_of g1 rfl ?_ (fits_of_scanBound (by omega)))
    have g2:((s.heap.update a (Obj.putSet es1 t2)).update a (Obj.putSet es2 t3)).get? a=some { o with data:=.set es2 (ep+1+1) t3 }:=by
     have z:=get?_update_self (Obj.putSet es2 t3) g1 (by rw [putSet_of es2 t3 rfl]; rfl)
     rw [putSet_of es2 t3 rfl] at z
     exact z
    exact wpAny_pure (wpAny_pure (h2 hno _ es2 t3 _ (sb1.trans (Heap.SameBut.update _ a _)) g2 (p2.trans p1) f3 (l3 _)))
   ·exact wpAny_pure (wpAny_pure (h2 hno _ es1 t2 _ sb1 g1 p1 f2 (l2 _)))
  split
  ·refine wpAny_bind ?_
   rw [hashByValue_scannable 8 hsc]
   refine wpAny_pure ?_
   cases plainKind x with
  |true =>
    rw [if_pos rfl]
    exact fin t1 f1 l1
  |false =>
    rw [if_neg Bool.false_ne_true]
    exact fin _ (SetTable.fits_plain_off f1) l1
  ·refine wpAny_bind (wpAny_pure ?_)
   rw [if_pos rfl]
   exact fin t1 f1 l1
end
end L2
namespace L2
open PySem
section
variable {prog:Program} {w:World} {A:Around} {E:Value -> Shared -> Prop} {s:Shared}
theorem DI {M:Model}{src:Source}{n:Nat}{Q:Nat->Shared->Prop} (hn:n≠0) (h:∀ i d,i < n->Q i { s with drawn:=d }):wpAny M A (choose src n) Q E s:=by
 intro Γ p _
 show Sem.wp M Γ (.choose src n .pure) _ _ p s
 rw [Sem.wp_choose]
 exact ⟨hn,by rw [Sem.wp]; exact h _ _ (mod_lt _ (Nat.pos_of_ne_zero hn))⟩
theorem gZ {α:Type}:∀ {l:List α}{i:Nat}{x:α},l[i]?=some x->(x::l.eraseIdx i).Perm l
|[],i,x,h=>by simp at h
|a::l,0,x,h=>by simp at h; subst h; exact .refl _
|a::l,i+1,x,h=>by
  have ih:=gZ (l:=l) (i:=i) (x:=x) (by simpa using h)
  show (x::a::l.eraseIdx i).Perm (a::l)
  exact (List.Perm.swap ..).trans (ih.cons a)
theorem qD {M:Model}{α:Type}:∀ (n:Nat) (xs:List α) (s:Shared) (Q:List α->Shared->Prop),xs.length=n->(∀ ys d,ys.Perm xs->Q ys { s with drawn:=d })->wpAny M A (drawOrder n xs) Q E s
|0,xs,s,Q,hl,h=>by
  have:xs=[]:=length_eq_zero_iff.mp hl
  subst this
  exact wpAny_pure (h [] s.drawn (.refl _))
|n+1,[],s,Q,hl,h=>by cases hl
|n+1,x::xs,s,Q,hl,h=>by
  unfold drawOrder
  refine wpAny_bind (DI (by simp) fun i d hi=>?_)
  obtain ⟨y,hy⟩:∃ y,(x::xs)[i]?=some y:=⟨_,List.getElem?_eq_getElem hi⟩
  rw [hy]
  refine wpAny_bind (qD n _ _ _ ?_ fun ys d' hp=>wpAny_pure (h _ d' ?_))
  ·have:=(gZ hy).length_eq
   simp at this hl ⊢
   omega
  ·exact (hp.cons y).trans (gZ hy)
theorem AC {α:Type} (next:Nat->Nat):∀ (fuel k:Nat) (left:List α) (out:Array α),left.length=fuel->(pickOrder.go next fuel k left out).toList.Perm (out.toList++left)
|0,k,left,out,hl=>by
  have:left=[]:=length_eq_zero_iff.mp hl
  subst this
  unfold pickOrder.go
  simp
|fuel+1,k,left,out,hl=>by
  unfold pickOrder.go
  have hlt:next k % left.length < left.length:=mod_lt _ (by omega)
  obtain ⟨y,hy⟩:∃ y,left[next k % left.length]?=some y:=⟨_,List.getElem?_eq_getElem hlt⟩
  rw [hy]
  dsimp only
  have hp:=gZ hy
  have ih:=AC next fuel (k+1) (left.eraseIdx (next k % left.length)) (out.push y) (by
   have:=hp.length_eq
   simp at this
   omega)
  refine ih.trans ?_
  rw [Array.toList_push,append_assoc]
  exact List.Perm.append_left _ hp
theorem CB {α:Type} (next:Nat->Nat) (xs:Array α):(pickOrder next xs).toList.Perm xs.toList:=by
 unfold pickOrder
 have:=AC next xs.size 0 xs.toList #[] (by simp)
 simpa using this
theorem eQ:Slot "set_iterator" "__next__" "set_iterator.__next__":=
 .of (owner:="set_iterator") (n:="__next__") (by rw [typeLookup_type,builtinLookup_eq_fast]; kernel_rfl) (by decide +kernel) (by decide +kernel) (by decide +kernel) (by first|exact .inl (by decide +kernel)|exact .inr (by decide +kernel)) (by rw [isSubtype_type]; kernel_rfl)
theorem pL:entryFor table "set_iterator.__next__"=some Builtin.«set_iterator.__next__»:=entryFor_of_tree (by kernel_rfl)
theorem sZ:entryFor table "set.__iter__"=some Builtin.«frozenset.__iter__»:=entryFor_alias (id':="frozenset.__iter__") (by kernel_rfl) rfl (by decide +kernel) (by kernel_rfl)
theorem tN (a:Value):argsOk "set_iterator.__next__" ⟨[a],[]⟩:=by
 unfold argsOk
 kernel_rfl
end
end L2
namespace L2
open PySem
noncomputable def bM (es:Array (Int×Value)) (ep:Nat) (t:SetTable):Obj:={ cls:=.type "set",dict:=none,data:=.set es ep t,slots:=#[] }
noncomputable def iX (h:Heap) (it:Addr) (first:Value) (i:Nat) (a:Addr) (n ep:Nat):Prop:=
 ∃ o,h.get? it=some o/\o.cls=.type "set_iterator"/\o.data=.fields #[first,.int i 0,.ref a,.int n 0,.int ep 0]
theorem iX.typeIs {s:Shared}{it a:Addr}{first:Value}{i n ep:Nat} (x:iX s.heap it first i a n ep):s.TypeIs (.ref it) "set_iterator":=let ⟨o,ho,hc,_⟩:=x; ⟨o,ho,hc⟩
section
variable {prog:Program} {w:World} {A:Around} {E:Value -> Shared -> Prop} {s:Shared}
theorem mI {it:Addr}{Q:Option Value->Shared->Prop} (hT:s.TypeIs (.ref it) "set_iterator")
  (h:wpAny (model prog w) A.in1 (Builtin.«set_iterator.__next__» ⟨[.ref it],[]⟩) (fun fin s'=>∃ v,fin=.done (.ret v)/\Q (some v) s') (fun e s'=>wpAny (model prog w) A (do if ← isInstance e (.type "StopIteration") then pure none else throw e) Q E s') s) :
  wpAny (model prog w) A (pyNext (.ref it)) Q E s:=by
 unfold pyNext
 have hc:wpAny (model prog w) A (callSpecial? (.ref it) (Str.ofString "__next__")) (fun r s'=>∃ v,r=some v/\Q (some v) s') (fun e s'=>wpAny (model prog w) A (do if ← isInstance e (.type "StopIteration") then pure none else throw e) Q E s') s:=
  wpAny_callSpecial?_slot (name:=Str.ofString "__next__") hT eQ (wpAny_call_entry eQ hT pL (wpAny_mono h (fun fin s' ⟨v,e,q⟩=>⟨v,e,v,rfl,q⟩) fun _ _ e=>e) (tN _))
 refine wpAny_bind (wpAny_attempt (wpAny_mono hc (fun r s' hr=>?_) fun e s' he=>he))
 obtain ⟨v,rfl,q⟩:=hr
 exact wpAny_pure q
theorem zL {e:Value}{Q:Option Value->Shared->Prop} (hT:s.TypeIs e "StopIteration") (h:Q none s):wpAny (model prog w) A (do if ← isInstance e (.type "StopIteration") then pure none else throw e) Q E s:=by
 refine wpAny_bind (wpAny_isInstance hT isSubtype_stop ?_)
 exact wpAny_pure h
theorem uL {α:Type}{Q:α->Shared->Prop} (hh:A.handled=none) (h:∀ e h',(∀ b o,s.heap.get? b=some o->h'.get? b=some o)->Shared.TypeIs { s with heap:=h' } e "StopIteration"->E e { s with heap:=h' }) :
  wpAny (model prog w) A (do raiseNew (← newExc (.type "StopIteration") []):Sem α) Q E s:=by
 refine wpAny_bind ?_
 simp only [newExc,newTuple]
 refine wpAny_bind (wpAny_newObj_type ?_ (by size_fits))
 refine wpAny_bind (m:=firstArgMember _ _) (wpAny_of_eq (a:=Value.none) (by first|rfl|(simp only [firstArgMember]; rfl)) ?_)
 refine wpAny_newObj_type ?_ (by size_fits)
 simp only [raiseNew]
 refine wpAny_bind (wpAny_handled ?_)
 rw [hh]
 refine wpAny_bind (wpAny_pure (wpAny_throw ?_))
 exact h (.ref _) _ (fun b o e=>get?_push_of_some _ (get?_push_of_some _ e)) ⟨_,get?_push_size _ rfl,rfl⟩
variable {a it:Addr} {es:Array (Int×Value)} {ep i n:Nat} {t:SetTable} {first:Value}
theorem mH {Q:Fin->Shared->Prop} (hi:iX s.heap it first i a es.size ep) (ha:s.heap.get? a=some (bM es ep t)) (hf:t.fits es.size=true)
  (h:wpAny (model prog w) A (if let .int slot _:=first then do
    match ← setNext a slot.toNat i ep with
   |some (x,next) =>
     setField (.ref it) 0 (rawInt next)
     setField (.ref it) 1 (rawInt ((i:Int)+1))
     ret x
   |none=>setField (.ref it) 2 .none; raiseNew (← newExc (.type "StopIteration") [])
   else do
    let some places ← seqItems? first|unsupported "internal:set_iterator"
    match places[i]? with
   |some (.int place _) =>
     let x ← setNextDrawn a place.toNat ep
     setField (.ref it) 1 (rawInt ((i:Int)+1))
     ret x
   |some _=>unsupported "internal:set_iterator"
    | none=>setField (.ref it) 0 (rawInt 0); setField (.ref it) 2 .none; raiseNew (← newExc (.type "StopIteration") [])) Q E s) :
  wpAny (model prog w) A (Builtin.«set_iterator.__next__» ⟨[.ref it],[]⟩) Q E s:=by
 obtain ⟨o,ho,hc,hd⟩:=hi
 unfold Builtin.«set_iterator.__next__»
 refine wpAny_bind (m:=slotArgs _ _ _) (wpAny_pure ?_)
 refine wpAny_bind (wpAny_fieldsOf ho hd ?_)
 dsimp only
 refine wpAny_bind (wpAny_setEntries_of ha rfl hf ?_)
 rw [if_neg (by simp)]
 exact h
theorem rD {o:Obj}{vs:Array Value}{k:Nat}{v:Value} (h:Heap) (ho:h.get? it=some o) (hd:o.data=.fields vs):(h.update it (Obj.mapFields (·.setIfInBounds k v))).get? it=some (o.mapFields (·.setIfInBounds k v)):=
 get?_update_self _ ho (Obj.isFreed_of_fields (Obj.data_mapFields hd _))
theorem BW {tp:Addr}{places:List Nat}{p:Nat}{x:Int×Value}{Q:Option Value->Shared->Prop} (hi:iX s.heap it (.ref tp) i a es.size ep) (ha:s.heap.get? a=some (bM es ep t)) (hf:t.fits es.size=true) (hta:it≠a) (htt:it≠tp)
    (ht:∃ o k,s.heap.get? tp=some o/\o.data=.seq (places.map fun j=>rawInt (j:Nat)).toArray k) (hp:places[i]?=some p) (hx:es[p]?=some x)
    (h:∀ h',iX h' it (.ref tp) (i+1) a es.size ep->Heap.SameBut it s.heap h'->Q (some x.2) { s with heap:=h' }):wpAny (model prog w) A (pyNext (.ref it)) Q E s:=by
  refine mI hi.typeIs (mH hi ha hf ?_)
  obtain ⟨o,ho,hc,hd⟩:=hi
  obtain ⟨ot,kt,h1,h2⟩:=ht
  show wpAny (model prog w) A.in1 (do
        let some places ← seqItems? (.ref tp)|unsupported "internal:set_iterator"
        match places[i]? with
       |some (.int place _) =>
          let x ← setNextDrawn a place.toNat ep
          setField (.ref it) 1 (rawInt ((i:Int)+1))
          ret x
       |some _=>unsupported "internal:set_iterator"
        | none=>setField (.ref it) 0 (rawInt 0); setField (.ref it) 2 .none; raiseNew (← newExc (.type "StopIteration") [])) _ _ s
  unfold seqItems?
  refine wpAny_bind (wpAny_bind (wpAny_load h1 ?_))
  rw [h2]
  refine wpAny_pure ?_
  have e1:(places.map fun j=>rawInt (j:Nat)).toArray[i]?=some (rawInt (p:Nat)):=by simp [hp]
  dsimp only
  rw [e1]
  show wpAny (model prog w) A.in1 (do
          let x ← setNextDrawn a ((p:Int)).toNat ep
          setField (.ref it) 1 (rawInt ((i:Int)+1))
          ret x) _ _ s
  unfold setNextDrawn
  refine wpAny_bind (wpAny_bind (wpAny_setState_of ha rfl hf ?_))
  dsimp only
  rw [if_neg (by simp),Int.toNat_natCast,hx]
  refine wpAny_pure ?_
  refine wpAny_bind (wpAny_setField ho hd (by simp) ?_)
  refine wpAny_pure ⟨_,rfl,h _ ⟨_,rD s.heap ho hd,(Obj.cls_mapFields ..).trans hc,?_⟩ (Heap.SameBut.update ..)⟩
  rw [Obj.data_mapFields hd]
  simp [rawInt]
theorem EU {tp:Addr}{places:List Nat}{Q:Option Value->Shared->Prop} (hh:A.handled=none) (hi:iX s.heap it (.ref tp) i a es.size ep) (ha:s.heap.get? a=some (bM es ep t)) (hf:t.fits es.size=true)
    (ht:∃ o k,s.heap.get? tp=some o/\o.data=.seq (places.map fun j=>rawInt (j:Nat)).toArray k) (hp:places[i]?=none)
    (h:∀ h',Heap.ExtBut it s.heap h'->Q none { s with heap:=h' }):wpAny (model prog w) A (pyNext (.ref it)) Q E s:=by
  refine mI hi.typeIs (mH hi ha hf ?_)
  obtain ⟨o,ho,hc,hd⟩:=hi
  obtain ⟨ot,kt,h1,h2⟩:=ht
  show wpAny (model prog w) A.in1 (do
        let some places ← seqItems? (.ref tp)|unsupported "internal:set_iterator"
        match places[i]? with
       |some (.int place _) =>
          let x ← setNextDrawn a place.toNat ep
          setField (.ref it) 1 (rawInt ((i:Int)+1))
          ret x
       |some _=>unsupported "internal:set_iterator"
        | none=>setField (.ref it) 0 (rawInt 0); setField (.ref it) 2 .none; raiseNew (← newExc (.type "StopIteration") [])) _ _ s
  unfold seqItems?
  refine wpAny_bind (wpAny_bind (wpAny_load h1 ?_))
  rw [h2]
  refine wpAny_pure ?_
  have e1:(places.map fun j=>rawInt (j:Nat)).toArray[i]?=none:=by simpa using hp
  dsimp only
  rw [e1]
  refine wpAny_bind (wpAny_setField ho hd (by simp) ?_)
  have g1:=rD (k:=0) (v:=rawInt 0) s.heap ho hd
  refine wpAny_bind (wpAny_setField g1 (Obj.data_mapFields hd _) (by simp) ?_)
  refine uL (by simpa using hh) fun e h' k hT=>?_
  refine zL hT (h h' fun b o' hb e'=>k b o' ?_)
  exact (get?_update_other _ _ (Ne.symm hb)).trans ((get?_update_other _ _ (Ne.symm hb)).trans e')
theorem pW {slot next:Nat}{x:Value}{Q:Option Value->Shared->Prop} (hi:iX s.heap it (.int slot 0) i a es.size ep) (ha:s.heap.get? a=some (bM es ep t)) (hf:t.fits es.size=true)
    (hn:∀ (A:Around) (E:Value->Shared->Prop) (Q:Option (Value×Nat)->Shared->Prop),Q (some (x,next)) s->wpAny (model prog w) A (setNext a slot i ep) Q E s)
    (h:∀ h',iX h' it (.int next 0) (i+1) a es.size ep->Heap.SameBut it s.heap h'->Q (some x) { s with heap:=h' }):wpAny (model prog w) A (pyNext (.ref it)) Q E s:=by
  refine mI hi.typeIs (mH hi ha hf ?_)
  obtain ⟨o,ho,hc,hd⟩:=hi
  show wpAny (model prog w) A.in1 (do
        match ← setNext a ((slot:Int)).toNat i ep with
       |some (x,next) =>
          setField (.ref it) 0 (rawInt next)
          setField (.ref it) 1 (rawInt ((i:Int)+1))
          ret x
        | none=>setField (.ref it) 2 .none; raiseNew (← newExc (.type "StopIteration") [])) _ _ s
  rw [Int.toNat_natCast]
  refine wpAny_bind (hn _ _ _ ?_)
  refine wpAny_bind (wpAny_setField ho hd (by simp) ?_)
  have g1:=rD (k:=0) (v:=rawInt next) s.heap ho hd
  refine wpAny_bind (wpAny_setField g1 (Obj.data_mapFields hd _) (by simp) ?_)
  refine wpAny_pure ⟨_,rfl,h _ ⟨_,rD _ g1 (Obj.data_mapFields hd _),(Obj.cls_mapFields ..).trans ((Obj.cls_mapFields ..).trans hc),?_⟩ ((Heap.SameBut.update ..).trans (Heap.SameBut.update ..))⟩
  rw [Obj.data_mapFields (Obj.data_mapFields hd _)]
  simp [rawInt]
theorem uM {slot:Nat}{Q:Option Value->Shared->Prop} (hh:A.handled=none) (hi:iX s.heap it (.int slot 0) i a es.size ep) (ha:s.heap.get? a=some (bM es ep t)) (hf:t.fits es.size=true)
    (hn:∀ (A:Around) (E:Value->Shared->Prop) (Q:Option (Value×Nat)->Shared->Prop),Q none s->wpAny (model prog w) A (setNext a slot i ep) Q E s)
    (h:∀ h',Heap.ExtBut it s.heap h'->Q none { s with heap:=h' }):wpAny (model prog w) A (pyNext (.ref it)) Q E s:=by
  refine mI hi.typeIs (mH hi ha hf ?_)
  obtain ⟨o,ho,hc,hd⟩:=hi
  show wpAny (model prog w) A.in1 (do
        match ← setNext a ((slot:Int)).toNat i ep with
       |some (x,next) =>
          setField (.ref it) 0 (rawInt next)
          setField (.ref it) 1 (rawInt ((i:Int)+1))
          ret x
        | none=>setField (.ref it) 2 .none; raiseNew (← newExc (.type "StopIteration") [])) _ _ s
  rw [Int.toNat_natCast]
  refine wpAny_bind (hn _ _ _ ?_)
  refine wpAny_bind (wpAny_setField ho hd (by simp) ?_)
  refine uL (by simpa using hh) fun e h' k hT=>?_
  refine zL hT (h h' fun b o' hb e'=>k b o' ?_)
  exact (get?_update_other _ _ (Ne.symm hb)).trans e'
end
end L2
namespace L2
open PySem
section
variable {prog:Program} {w:World} {A:Around} {E:Value -> Shared -> Prop} {s:Shared} {a it:Addr} {es:Array (Int×Value)} {ep i n:Nat} {t:SetTable}
theorem iU {Q:Bool->Shared->Prop} (h:Q (w.params.followText "set-order") s):wpAny (model prog w) A setsByText Q E s:=by
 unfold setsByText
 exact wpAny_bind (wpAny_askSetting (wpAny_pure h))
theorem qE {slot:Nat} (ht:w.params.followText "set-order"=true) (ha:s.heap.get? a=some (bM es ep t)) (hf:t.fits es.size=true) {Q:Option (Value×Nat)->Shared->Prop}
  (h:Q (((pickOrder (w.params.setOrder a ep) es)[i]?).map fun e=>(e.2,slot)) s):wpAny (model prog w) A (setNext a slot i ep) Q E s:=by
 unfold setNext
 refine wpAny_bind (wpAny_setState_of ha rfl hf ?_)
 dsimp only
 refine wpAny_bind (iU ?_)
 rw [ht,if_pos rfl,if_neg (by simp)]
 unfold setWalk
 refine wpAny_bind (wpAny_bind (wpAny_setState_of ha rfl hf ?_))
 dsimp only
 refine wpAny_bind (iU ?_)
 rw [ht,if_pos rfl]
 exact wpAny_bind (wpAny_askSetting (wpAny_pure (wpAny_pure h)))
theorem vK {slot:Nat} (ht:w.params.followText "set-order"=false) (hl:t.led=true) (hd:(!t.plain&&decide (es.size > 1))=false) (ha:s.heap.get? a=some (bM es ep t)) (hf:t.fits es.size=true) {Q:Option (Value×Nat)->Shared->Prop}
  (h:Q (match es[SetTable.below t.place slot]?,t.place[SetTable.below t.place slot]? with|some (_,x),some j=>some (x,j+1)|_,_=>none) s):wpAny (model prog w) A (setNext a slot i ep) Q E s:=by
 unfold setNext
 refine wpAny_bind (wpAny_setState_of ha rfl hf ?_)
 dsimp only
 refine wpAny_bind (iU ?_)
 rw [ht,if_neg Bool.false_ne_true]
 show wpAny (model prog w) A (if (!t.plain&&decide (es.size > 1))=true then _ else _) Q E s
 rw [if_neg (by rw [hd]; exact Bool.false_ne_true)]
 refine wpAny_bind ?_
 show wpAny (model prog w) A (if (!t.led&&!es.isEmpty)=true then unsupported "set:maker-not-led" else pure ()) _ _ s
 rw [if_neg (by rw [hl]; simp)]
 exact wpAny_pure (wpAny_pure h)
structure nA (prog:Program) (w:World) (A:Around) (it:Addr) (fp:List Addr) (ord:List Value) (St:Nat->Heap->Prop):Prop where
 ws:Walks prog w A it fp [it] ord.length (fun i v=>ord[i]?=some v) St
 ty:∀ i (s:Shared),St i s.heap->s.TypeIs (.ref it) "set_iterator"
theorem rE {first:Value}{Q:Value->Shared->Prop} (hi:iX s.heap it first i a n ep) (h:Q (.ref it) s) (slot:Slot "set_iterator" "__iter__" "set_iterator.__iter__") (entry:entryFor table "set_iterator.__iter__"=some Builtin.«dict_keyiterator.__iter__»)
  (args:argsOk "set_iterator.__iter__" ⟨[.ref it],[]⟩):wpAny (model prog w) A (pyIter (.ref it)) Q E s:=by
 refine wpAny_pyIter_slot hi.typeIs slot (wpAny_call_entry slot hi.typeIs entry ?_ args)
 show wpAny _ _ (ret (.ref it)) _ _ s
 exact wpAny_pure ⟨_,rfl,"set_iterator",_,hi.typeIs,eQ.lookup,h⟩
end
theorem gI:Slot "set_iterator" "__iter__" "set_iterator.__iter__":=
 .of (owner:="set_iterator") (n:="__iter__") (by rw [typeLookup_type,builtinLookup_eq_fast]; kernel_rfl) (by decide +kernel) (by decide +kernel) (by decide +kernel) (by first|exact .inl (by decide +kernel)|exact .inr (by decide +kernel)) (by rw [isSubtype_type]; kernel_rfl)
theorem fY:entryFor table "set_iterator.__iter__"=some Builtin.«dict_keyiterator.__iter__»:=entryFor_alias (id':="dict_keyiterator.__iter__") (by kernel_rfl) rfl (by decide +kernel) (by kernel_rfl)
theorem hV (a:Value):argsOk "set_iterator.__iter__" ⟨[a],[]⟩:=by
 unfold argsOk
 kernel_rfl
section
variable {prog:Program} {w:World} {A:Around} {E:Value -> Shared -> Prop} {s:Shared} {a it:Addr} {es:Array (Int×Value)} {ep i n:Nat} {t:SetTable}
theorem iX.at {h h':Heap}{first:Value} (x:iX h it first i a n ep) (e:∀ o,h.get? it=some o->h'.get? it=some o):iX h' it first i a n ep:=let ⟨o,ho,r⟩:=x; ⟨o,e _ ho,r⟩
theorem BP (hh:A.handled=none) (hne:a≠it) (ht:w.params.followText "set-order"=true) (hf:t.fits es.size=true) :
  nA prog w A it [it,a] ((pickOrder (w.params.setOrder a ep) es).toList.map (·.2)) (fun i h=>iX h it (.int (0:Nat) 0) i a es.size ep/\h.get? a=some (bM es ep t)) where
 ws:={
  sub:=fun b hb=>by simp at hb; simp [hb]
  frame:=fun _ _ _ st hk=>⟨st.1.at fun o e=>hk it (by simp) o e,hk a (by simp) _ st.2⟩
  item:=fun i s Q E hi st hQ=>by
   have hlt:i < (pickOrder (w.params.setOrder a ep) es).size:=by simpa using hi
   refine pW (slot:=0) (next:=0) (x:=((pickOrder (w.params.setOrder a ep) es)[i]).2) st.1 st.2 hf (fun A E Q q=>qE ht st.2 hf (by simpa [hlt] using q)) fun h' hit sb=>?_
   exact hQ _ h' s.toks (by simp [hlt]) ⟨hit,(sb.2 a hne).trans st.2⟩ fun b o hb e=>(sb.2 b (by simpa using hb)).trans e
  done:=fun s Q E st hQ=>by
   refine uM (slot:=0) hh st.1 st.2 hf (fun A E Q q=>qE ht st.2 hf (by simpa using q)) fun h' eb=>?_
   exact hQ h' s.toks fun b o hb e=>eb b o (by simpa using hb) e
  self:=fun _ _ _ _ st hQ=>rE st.1 hQ gI fY (hV _) }
 ty:=fun _ _ st=>st.1.typeIs
theorem EF (hh:A.handled=none) (hne:a≠it) (ht:w.params.followText "set-order"=false) (hl:t.led=true) (hd:(!t.plain&&decide (es.size > 1))=false) (hr:qX t.place) (hf:t.fits es.size=true) :
  nA prog w A it [it,a] (es.toList.map (·.2)) (fun i h=>(∃ slot:Nat,iX h it (.int slot 0) i a es.size ep/\SetTable.below t.place slot=i)/\h.get? a=some (bM es ep t)) where
 ws:={
  sub:=fun b hb=>by simp at hb; simp [hb]
  frame:=fun _ _ _ ⟨⟨sl,st,r⟩,st2⟩ hk=>⟨⟨sl,st.at fun o e=>hk it (by simp) o e,r⟩,hk a (by simp) _ st2⟩
  item:=fun i s Q E hi st hQ=>by
   obtain ⟨⟨sl,st1,z1⟩,st2⟩:=st
   have hlt:i < es.size:=by simpa using hi
   have hps:i < t.place.size:=by
    have:=hf
    unfold SetTable.fits at this
    simp at this
    omega
   refine pW (slot:=sl) (next:=t.place[i]+1) (x:=es[i].2) st1 st2 hf (fun A E Q q=>vK ht hl hd st2 hf ?_) fun h' hit sb=>?_
   ·rw [z1,Array.getElem?_eq_getElem hlt,Array.getElem?_eq_getElem hps]
    exact q
   ·exact hQ _ h' s.toks (by simp [hlt]) ⟨⟨_,hit,yQ hr hps⟩,(sb.2 a hne).trans st2⟩ fun b o hb e=>(sb.2 b (by simpa using hb)).trans e
  done:=fun s Q E st hQ=>by
   obtain ⟨⟨sl,st1,z1⟩,st2⟩:=st
   rw [length_map,Array.length_toList] at st1 z1
   refine uM (slot:=sl) hh st1 st2 hf (fun A E Q q=>vK ht hl hd st2 hf ?_) fun h' eb=>?_
   ·rw [z1,Array.getElem?_eq_none (le_refl _)]
    exact q
   ·exact hQ h' s.toks fun b o hb e=>eb b o (by simpa using hb) e
  self:=fun _ _ _ _ ⟨⟨_,st,_⟩,_⟩ hQ=>rE st hQ gI fY (hV _) }
 ty:=fun _ _ ⟨⟨_,st,_⟩,_⟩=>st.typeIs
theorem wO {tp:Addr}{places:List Nat} (hh:A.handled=none) (hne:a≠it) (hnt:tp≠it) (hf:t.fits es.size=true) (hp:∀ p∈places,p < es.size) :
  nA prog w A it [it,a,tp] (places.map fun p=>((es[p]?).getD (0,.none)).2) (fun i h=>iX h it (.ref tp) i a es.size ep/\h.get? a=some (bM es ep t)/\∃ o k,h.get? tp=some o/\o.data=.seq (places.map fun j=>rawInt (j:Nat)).toArray k) where
 ws:={
  sub:=fun b hb=>by simp at hb; simp [hb]
  frame:=fun _ _ _ ⟨st,st2,o,k,e,d⟩ hk=>⟨st.at fun o e=>hk it (by simp) o e,hk a (by simp) _ st2,o,k,hk tp (by simp) _ e,d⟩
  item:=fun i s Q E hi st hQ=>by
   have hlt:i < places.length:=by simpa using hi
   have hps:=hp _ (List.getElem_mem hlt)
   obtain ⟨st1,st2,o,k,e,d⟩:=st
   refine BW (p:=places[i]) (x:=es[places[i]]) st1 st2 hf hne.symm hnt.symm ⟨o,k,e,d⟩ (by simp [hlt]) (by simp [hps]) fun h' hit sb=>?_
   exact hQ _ h' s.toks (by simp [hlt,hps]) ⟨hit,(sb.2 a hne).trans st2,o,k,(sb.2 tp hnt).trans e,d⟩ fun b o hb e=>(sb.2 b (by simpa using hb)).trans e
  done:=fun s Q E st hQ=>by
   obtain ⟨st1,st2,o,k,e,d⟩:=st
   rw [length_map] at st1
   refine EU hh st1 st2 hf ⟨o,k,e,d⟩ (by simp) fun h' eb=>?_
   exact hQ h' s.toks fun b o hb e=>eb b o (by simpa using hb) e
  self:=fun _ _ _ _ st hQ=>rE st.1 hQ gI fY (hV _) }
 ty:=fun _ _ st=>st.1.typeIs
end
end L2
namespace L2
open PySem
theorem pE {α:Type} (es:Array α) (d:α):(List.range es.size).map (fun p=>(es[p]?).getD d)=es.toList:=by
 apply ext_getElem
 ·simp
 ·intro i h1 h2
  simp at h1 h2 ⊢
  simp [h1]
section
variable {prog:Program} {w:World} {A A₂:Around} {E:Value -> Shared -> Prop} {s:Shared} {a it:Addr} {es:Array (Int×Value)} {ep i n:Nat} {t:SetTable}
theorem pY (ha:s.heap.get? a=some (bM es ep t)):s.TypeIs (.ref a) "set":=⟨_,ha,rfl⟩
theorem HV (hh:A₂.handled=none) (ha:s.heap.get? a=some (bM es ep t)) (hf:t.fits es.size=true) (ht:Tb w t es.size) (hb:es.size<=sizeLine) {Q:Value->Shared->Prop}
  (h:∀ it h' d fp ord St,nA prog w A₂ it fp ord St->ord.Perm (es.toList.map (·.2))->St 0 h'->(∀ b o,s.heap.get? b=some o->h'.get? b=some o)->(∀ b∈fp,(b=a∨s.heap.objs.size<=b)/\b < h'.objs.size)->it∈fp->it≠a ->
   Q (.ref it) { s with heap:=h',drawn:=d }):wpAny (model prog w) A (pyIter (.ref a)) Q E s:=by
 have hT:=pY ha
 have hlt:a < s.heap.objs.size:=lt_size ha
 refine wpAny_pyIter_slot hT F.slot_set_iter (wpAny_call_entry F.slot_set_iter hT sZ ?_ (F.args_set_iter_1 _))
 unfold Builtin.«frozenset.__iter__»
 refine wpAny_bind (m:=Builtin.Frozenset.slot0 _ _) (wpAny_pure ?_)
 refine wpAny_bind ?_
 show wpAny _ _ (do return (← setEntries a).size) _ _ s
 refine wpAny_bind (wpAny_setEntries_of ha rfl hf (wpAny_pure ?_))
 refine wpAny_bind ?_
 unfold setDrawn
 refine wpAny_bind (wpAny_setState_of ha rfl hf ?_)
 dsimp only
 refine wpAny_bind (iU (wpAny_pure ?_))
 have fin:∀ (first:Value) (s1:Shared),s1.heap.get? a=some (bM es ep t)->(∀ (h2:Q (.ref s1.heap.objs.size) { s1 with heap:=s1.heap.push { cls:=.type "set_iterator",data:=.fields #[first,.int (0:Nat) 0,.ref a,.int es.size 0,.int ep 0] } }),
   wpAny (model prog w) A.in1 (do ret (← newFields "set_iterator" [first,rawInt 0,.ref a,rawInt es.size,rawInt (← setEpoch a)])) (fun fin s'=>∃ v,fin=.done (.ret v)/\∃ T' r,s'.TypeIs v T'/\typeLookup (.type T') "__next__"=pure (some r)/\Q v s') E s1):=fun first s1 h1 h2=>by
  refine wpAny_bind (wpAny_setEpoch_of h1 rfl hf ?_)
  refine wpAny_bind (wpAny_newObj_type (wpAny_pure ⟨_,rfl,"set_iterator",_,⟨_,get?_push_size _ rfl,rfl⟩,eQ.lookup,?_⟩))
  exact h2
 by_cases hbt:w.params.followText "set-order"=true
 ·rw [hbt,if_neg (by simp)]
  refine wpAny_bind (wpAny_pure (fin _ s ha ?_))
  have W:=BP (prog:=prog) (w:=w) (A:=A₂) (a:=a) (it:=s.heap.objs.size) (es:=es) (ep:=ep) (t:=t) hh (ne_of_lt hlt) hbt hf
  refine h _ (s.heap.push _) s.drawn _ _ _ W ?_ ⟨⟨_,get?_push_size _ rfl,rfl,rfl⟩,get?_push_of_some _ ha⟩ (fun b o e=>get?_push_of_some _ e) (fun b hb=>?_) (by simp) (ne_of_gt hlt)
  ·exact (CB _ es).map _
  ·rw [size_push]
   simp at hb
   rcases hb with rfl|rfl
   ·exact ⟨.inr (le_refl _),lt_succ_self _⟩
   ·exact ⟨.inl rfl,lt_succ_of_lt hlt⟩
 ·have hbf:w.params.followText "set-order"=false:=by simpa using hbt
  rw [hbf]
  have hled:t.led=true:=by rw [ht.1,hbf]; rfl
  show wpAny _ _ (if (!false&&(!t.plain&&decide (es.size > 1)))=true then _ else _) _ _ s
  by_cases h1:(!t.plain&&decide (es.size > 1))=false
  ·have e0:(!false&&(!t.plain&&decide (es.size > 1)))=false:=by rw [h1]; rfl
   rw [if_neg (by rw [e0]; exact Bool.false_ne_true)]
   refine wpAny_bind (wpAny_pure (fin _ s ha ?_))
   have W:=EF (prog:=prog) (w:=w) (A:=A₂) (a:=a) (it:=s.heap.objs.size) (es:=es) (ep:=ep) (t:=t) hh (ne_of_lt hlt) hbf hled h1 ht.2.1 hf
   refine h _ (s.heap.push _) s.drawn _ _ _ W (.refl _) ⟨⟨0,⟨_,get?_push_size _ rfl,rfl,rfl⟩,yP ht.2.1⟩,get?_push_of_some _ ha⟩ (fun b o e=>get?_push_of_some _ e) (fun b hb=>?_) (by simp) (ne_of_gt hlt)
   rw [size_push]
   simp at hb
   rcases hb with rfl|rfl
   ·exact ⟨.inr (le_refl _),lt_succ_self _⟩
   ·exact ⟨.inl rfl,lt_succ_of_lt hlt⟩
  ·have e0:(!false&&(!t.plain&&decide (es.size > 1)))=true:=by rw [Bool.not_false,Bool.true_and]; simpa using h1
   rw [if_pos e0]
   refine wpAny_bind (qD es.size (List.range es.size) s _ (by simp) fun ys d hp=>?_)
   unfold newTuple
   refine wpAny_bind (wpAny_newObj_type ?_ ?hs)
   case hs =>
    show (List.map (fun (i:Nat)=>rawInt i) ys).toArray.size<=sizeLine
    have:=hp.length_eq
    simp at this ⊢
    omega
   refine fin (.ref s.heap.objs.size) _ (get?_push_of_some _ ha) ?_
   have hys:∀ p∈ys,p < es.size:=fun p hm=>by simpa using hp.mem_iff.mp hm
   have W:=wO (prog:=prog) (w:=w) (A:=A₂) (a:=a) (it:=(s.heap.push { cls:=.type "tuple",data:=.seq (List.map (fun (i:Nat)=>rawInt i) ys).toArray }).objs.size) (tp:=s.heap.objs.size) (es:=es) (ep:=ep) (t:=t) (places:=ys) hh
    (by rw [size_push]; exact ne_of_lt (lt_succ_of_lt hlt)) (by rw [size_push]; exact ne_of_lt (lt_succ_self _)) hf hys
   refine h _ _ d _ _ _ W ?_ ⟨⟨_,get?_push_size _ rfl,rfl,rfl⟩,get?_push_of_some _ (get?_push_of_some _ ha),_,0,get?_push_of_some _ (get?_push_size _ rfl),rfl⟩ (fun b o e=>get?_push_of_some _ (get?_push_of_some _ e)) (fun b hb=>?_) (by simp) (by rw [size_push]; exact ne_of_gt (lt_succ_of_lt hlt))
   ·have q:=hp.map (fun p=>((es[p]?).getD (0,.none)).2)
    have e1:(List.range es.size).map (fun p=>((es[p]?).getD (0,.none)).2)=es.toList.map (·.2):=by
     have:=congrArg (List.map (·.2)) (pE es (0,Value.none))
     rw [map_map] at this
     exact this
    rw [e1] at q
    exact q
   ·rw [size_push,size_push]
    simp at hb
    rcases hb with rfl|rfl|rfl
    ·exact ⟨.inr (le_succ _),lt_succ_self _⟩
    ·exact ⟨.inl rfl,lt_succ_of_lt (lt_succ_of_lt hlt)⟩
    ·exact ⟨.inr (le_refl _),lt_succ_of_lt (lt_succ_self _)⟩
end
end L2
namespace L2
open PySem
theorem uH:splitId "set.__len__"=some ("set","__len__"):=by kernel_rfl
theorem KB:isSubtype (.type "set") (.type "set")=pure true:=by rw [isSubtype_type]; kernel_rfl
section
variable {prog:Program} {w:World} {A A₂:Around} {E:Value -> Shared -> Prop} {s:Shared} {a it:Addr} {es:Array (Int×Value)} {ep i n:Nat} {t:SetTable}
theorem HZ {Q:Bool->Shared->Prop} (ha:s.heap.get? a=some (bM es ep t)) (h:Q false s):wpAny (model prog w) A (Builtin.List.listLengthHint (.ref a)) Q E s:=by
 unfold Builtin.List.listLengthHint
 have hT:=pY ha
 refine wpAny_bind (wpAny_specialOf hT F.slot_set_len.lookup ?_)
 dsimp only
 rw [uH]
 dsimp only
 refine wpAny_bind (wpAny_isInstance hT KB ?_)
 rw [if_neg (by simp)]
 show wpAny (model prog w) A (if true=true then _ else _) Q E s
 rw [if_pos rfl]
 refine wpAny_bind (wpAny_typeOf hT ?_)
 exact wpAny_pure h
theorem lP {Q:List Value->Shared->Prop} (hh:A.handled=none) (ha:s.heap.get? a=some (bM es ep t)) (hf:t.fits es.size=true) (ht:Tb w t es.size) (hb:es.size<=sizeLine)
  (h:∀ vs h' d tk,vs.Perm (es.toList.map (·.2))->(∀ b o,s.heap.get? b=some o->h'.get? b=some o)->s.heap.objs.size<=h'.objs.size->Q vs { s with heap:=h',drawn:=d,toks:=tk }):wpAny (model prog w) A (collect (.ref a)) Q E s:=by
 have hlt:a < s.heap.objs.size:=lt_size ha
 unfold collect
 refine wpAny_bind (wpAny_runValue (codeAny_builtin F.entry_proto_collect ?_))
 rw [Around.under_plainId F.plain_proto_collect _]
 show wpAny _ A.in1 (newList [] >>= fun l=>again (.builtin "list.__iadd__" ⟨[l,.ref a],[]⟩)) _ _ s
 refine wpAny_bind (wpAny_newObj_type ?_)
 refine wpAny_pure ⟨plainId_quiet F.plain_list_iadd _,codeAny_builtin F.entry_list_iadd ?_⟩
 rw [Around.under_plainId F.plain_list_iadd _]
 generalize hN:s.heap.objs.size=S at *
 have g0:(s.heap.push { cls:=.type "list",data:=.seq ([]:List Value).toArray }).get? S=some { cls:=.type "list",data:=.seq ([]:List Value).toArray }:=hN ▸ get?_push_size _ rfl
 have kp0:∀ b o,s.heap.get? b=some o->(s.heap.push { cls:=.type "list",data:=.seq ([]:List Value).toArray }).get? b=some o:=fun b o e=>get?_push_of_some _ e
 have z0:(s.heap.push { cls:=.type "list",data:=.seq ([]:List Value).toArray }).objs.size=S+1:=by rw [size_push,hN]
 generalize s.heap.push { cls:=.type "list",data:=.seq ([]:List Value).toArray }=h0 at g0 kp0 z0 ⊢
 show wpAny _ A.in1 (Builtin.List.listExtendWith (.ref S) (.ref a) (.ref S)) _ _ _
 unfold Builtin.List.listExtendWith
 have hT0:Shared.TypeIs { s with heap:=h0 } (.ref a) "set":=⟨_,kp0 _ _ ha,rfl⟩
 refine wpAny_bind (wpAny_typeOf hT0 ?_)
 have h1:Builtin.List.listSameRef (.ref S) (.ref a)=false:=by
  simp [Builtin.List.listSameRef]
  exact ne_of_gt hlt
 have h2:(Value.type "set"==Value.type "list")=false:=by decide
 have h3:(Value.type "set"==Value.type "tuple")=false:=by decide
 simp only [h1,h2,h3,Bool.or_false,Bool.false_eq_true,if_false]
 refine wpAny_bind (HV (A₂:=A.in1) (by simpa using hh) (show (Shared.heap { s with heap:=h0 }).get? a=_ from kp0 _ _ ha) hf ht hb fun it h' d fp ord St W hp st kp fpo hit hia=>?_)
 have hz:ord.length=es.size:=by
  have:=hp.length_eq
  simpa using this
 have ha':h'.get? a=some (bM es ep t):=kp _ _ (kp0 _ _ ha)
 have gS:h'.get? S=some { cls:=.type "list",data:=.seq ([]:List Value).toArray }:=kp _ _ g0
 have hSf:S∉fp:=fun hm=>by
  rcases (fpo S hm).1 with e|e
  ·exact ne_of_gt hlt e
  ·have e:S+1<=S:=z0 ▸ e
   exact Nat.not_succ_le_self _ e
 refine wpAny_bind (wpAny_holding (HZ ha' ?_))
 show wpAny _ A.in1 (if (false || _)=true then _ else _) _ _ _
 rw [if_pos (by first|rfl|decide)]
 refine wpAny_bind (wpAny_rule ?_)
 refine wpAny_bind ?_
 show wpAny _ A.in1 (updateSeq S (·.push .none) >>= fun _=>updateSeq S (·.pop)) _ _ _
 refine wpAny_bind (wpAny_updateSeq gS rfl ?_)
 have gS2:=get?_update_self (Obj.mapSeq (·.push Value.none)) gS rfl
 refine wpAny_updateSeq gS2 rfl ?_
 have gS3:=get?_update_self (Obj.mapSeq (·.pop)) gS2 rfl
 have oth:∀ b o,b≠S->h'.get? b=some o->((h'.update S (Obj.mapSeq (·.push Value.none))).update S (Obj.mapSeq (·.pop))).get? b=some o:=
  fun b o hb e=>(get?_update_other _ _ (Ne.symm hb)).trans ((get?_update_other _ _ (Ne.symm hb)).trans e)
 generalize (h'.update S (Obj.mapSeq (·.push Value.none))).update S (Obj.mapSeq (·.pop))=h3 at gS3 oth ⊢
 refine wpAny_pure ⟨plainId_quiet F.plain_extend_loop _,codeAny_extend_loopS W.ws.toS (by omega) S hSf _ ord.length 0 _ _ _ rfl (zero_le _)
  (W.ws.frame 0 h' h3 st fun b hb o e=>oth b o (fun z=>hSf (z ▸ hb)) e) gS3 (ItemsOf.nil _) fun s' acc' c' hm hS' hacc=>?_⟩
 show wpAny _ A (load S >>= _) _ _ s'
 refine wpAny_bind (wpAny_load hS' ?_)
 refine wpAny_pure ?_
 obtain ⟨h4,g4,d4,t4,o4⟩:=s'
 have eg:g4=s.gens:=hm.gens
 have ed:d4=d:=hm.drawn
 have eo:o4=s.os:=hm.os
 subst eg ed eo
 have ev:acc'.toList=ord:=by
  apply ext_getElem?
  intro j
  by_cases hj:j < acc'.size
  ·have:=hacc.2 j acc'[j] (by simp [hj])
   rw [this]
   simp [hj]
  ·have e1:acc'.toList[j]?=none:=by simp; omega
   have e2:ord[j]?=none:=by
    have:=hacc.1
    simp
    omega
   rw [e1,e2]
 rw [ev]
 refine h ord h4 d4 t4 hp (fun b o e=>?_) (le_of_lt (lt_size hS'))
 have hbS:b≠S:=ne_of_lt (hN ▸ lt_size e)
 have hbi:b≠it:=fun z=>by
  subst z
  rcases (fpo b hit).1 with e2|e2
  ·exact hia e2
  ·have e2:S+1<=b:=z0 ▸ e2
   have e3:b < S:=hN ▸ lt_size e
   exact lt_irrefl _ (lt_of_lt_of_le e3 (Nat.le_of_succ_le e2))
 exact hm.heap b o (by simp [hbS,hbi]) (oth b o hbS (kp _ _ (kp0 _ _ e)))
end
end L2
namespace L2
open PySem
section
variable {prog:Program} {w:World} {A:Around} {E:Value -> Shared -> Prop} {s:Shared} {a:Addr}
end
section
variable {prog:Program} {w:World} {A:Around} {R:Result -> Shared -> Prop} {I:Addr} {fp wr:List Addr} {G:Array GenState -> Array GenState -> Prop} {n:Nat} {P:Nat -> Value -> Prop} {St:Nat -> Shared -> Prop}
theorem eI:entryFor table "set.update.loop"=some Builtin.«set.update.loop»:=entryFor_of_tree (by kernel_rfl)
theorem bP:plainId "set.update.loop"=true:=by decide +kernel
end
end L2
namespace L2
open PySem
section
variable {prog:Program} {w:World} {A:Around} {E:Value -> Shared -> Prop} {s:Shared}
noncomputable abbrev aP (w:World):Obj:=bM #[] 0 (.fresh 0 0 (!(w.params.followText "set-order")))
theorem uN (a:Value) {Q₁:Value->Shared->Prop} (h:Q₁ (.ref s.heap.objs.size) { s with heap:=s.heap.push (aP w) }) :
  codeAny (model prog w) A (.call (.builtin "set.__new__") ⟨[.type "set",a],[]⟩) (wants Q₁ E) s:=by
 refine codeAny_of_tree ?_
 show wpAny _ A.in1 (checkBuiltinCall "set.__new__" ⟨[.type "set",a],[]⟩ >>= fun _=>again (.builtin "set.__new__" ⟨[.type "set",a],[]⟩)) _ _ s
 refine wpAny_bind (wpAny_of_eq (F.newCall_set_1 a) (wpAny_pure ⟨plainId_quiet F.plain_set_new _,codeAny_builtin F.entry_set_new ?_⟩))
 rw [Around.under_plainId F.plain_set_new _]
 unfold Builtin.«set.__new__» Builtin.Frozenset.newClass
 have hsub:=sub_set_self
 obtain ⟨hp,g,d,tk,os⟩:=s
 dsimp only
 wp_walk
 refine wpAny_askSetting (wpAny_pure ?_)
 dsimp only
 simp only [newObj]
 exact wpAny_bind (wpAny_alloc (wpAny_pure (wpAny_pure h)))
end
end L2
namespace L2
open PySem PyProof.Rows
section
variable {prog:Program} {w:World} {A:Around} {E:Value -> Shared -> Prop} {s:Shared}
end
end L2
namespace L2
open PySem PyProof.Rows
section
variable {prog:Program} {w:World} {K:Type} [DecidableEq K] {knd:KeyKind prog w K} {A A₂:Around} {E:Value -> Shared -> Prop} {s:Shared} {a it:Addr} {kvs:List (K×Value)} {ep:Nat}
end
end L2
namespace L2
open PySem PyProof.Rows
theorem sQ:typeLookup (.type "list") "keys"=pure none:=by rw [typeLookup_type,builtinLookup_eq_fast]; kernel_rfl
theorem jB:entryFor table "dict.update.loop"=some Builtin.«dict.update.loop»:=entryFor_of_tree (by kernel_rfl)
theorem eF:plainId "dict.update.loop"=true:=by decide +kernel
section
variable {prog:Program} {w:World} {A:Around} {E:Value -> Shared -> Prop} {s:Shared}
theorem CU {l:Addr}{xs:Array Value}{k:Nat}{Q:Option Value->Shared->Prop} (hx:s.heap.get? l=some { cls:=.type "list",data:=.seq xs k }) (hA:A.handled=none)
  (h:∀ h' tk,(∀ b o,s.heap.get? b=some o->h'.get? b=some o)->Q none { s with heap:=h',toks:=tk }):wpAny (model prog w) A (getAttr? (.ref l) "keys") Q E s:=by
 obtain ⟨hp,g,d,tk,os⟩:=s
 have hT:∀ tk',(⟨hp,g,d,tk',os⟩:Shared).TypeIs (.ref l) "list":=fun _=>⟨_,hx,rfl⟩
 have f1:=sub_AttributeError
 have f3:=F.slot_list_getattribute.lookup
 have f4:=F.slot_list_getattribute.bind (.ref l)
 have f5:=am_list_getattr_none
 unfold getAttr? getAttrBy? getAttrBy
 repeat (any_goals (first|assumption|exact hT _|((with_reducible show wpAny _ _ (call (Value.builtin "list.__getattribute__") _ _) _ _ _); refine call_meets F.slot_list_getattribute (hT _) am_entry_list_getattribute (F.args_list_getattribute_2 _ _) (meets_getattribute_miss_list l xs k #[] (Str.ofString "keys") _ sQ (by decide)) ⟨hx,by simpa using hA,fun h' tk' e hx'=>?_⟩)|wp_step))
 obtain ⟨t',u',he⟩:=hx'.there
 show wpAny _ _ (getattributeRaised _ _ _ _ _ _ _) _ _ _
 unfold getattributeRaised
 repeat (any_goals (first|assumption|wp_step))
 exact h h' tk' fun b o eb=>hx'.keeps b o eb
variable {K:Type} [DecidableEq K] {knd:KeyKind prog w K}
noncomputable def mS (kvs:List (K×Value)) (ps:List (K×Value)):List (K×Value):=ps.foldl (fun m p=>stored m p.1 p.2) kvs
theorem CF {R:Result->Shared->Prop}{I l D:Addr}{items:Array Value}{ps:List (K×Value)} (hh:A.handled=none) (hI:l≠I) (hDI:D≠I) (hDl:D≠l) (hlen:items.size=ps.length)
  (hps:∀ (h:Heap) (i:Nat) (v:Value),items[i]?=some v->(∀ b o,s.heap.get? b=some o->b≠I->b≠D->h.get? b=some o)->∃ a key k x,v=.ref a/\h.IsTuple a #[key,x]/\ps[i]?=some (k,x)/\knd.is k key=true) (hsz:ps.length<=1000) :
  ∀ (n i:Nat) (h:Heap) (tk:Nat) (kvs:List (K×Value)),items.size - i=n->i<=items.size->h.IsListIter I l i->h.IsList l items->h.DictOf knd D kvs->kvs.length<=i->(∀ b o,s.heap.get? b=some o->b≠I->b≠D->h.get? b=some o) ->
   (∀ h' tk',h'.DictOf knd D (mS kvs (ps.drop i))->(∀ b o,s.heap.get? b=some o->b≠I->b≠D->h'.get? b=some o)->R (.ok (.ret .none)) { s with heap:=h',toks:=tk' }) ->
   codeAny (model prog w) A (.builtin "dict.update.loop" ⟨[.ref D,.ref I,rawInt (i:Nat),.none],[]⟩) R { s with heap:=h,toks:=tk }:=by
 intro n
 induction n with
|zero =>
  intro i h tk kvs hn hi hit hl hD hk kp hR
  have:i=items.size:=by omega
  subst this
  refine codeAny_builtin jB ?_
  rw [Around.under_plainId eF _]
  show wpAny _ A.in1 (pyNext (.ref I) >>= _) _ _ _
  refine wpAny_bind (wpAny_pyNext_list_end (by simpa using hh) hit hl (by simp) fun h' eb=>?_)
  show wpAny _ A.in1 (Builtin.Dict.addKeywords D [] >>= _) _ _ _
  refine wpAny_bind (wpAny_pure (wpAny_pure (hR h' tk ?_ fun b o e h1 h2=>eb b o h1 (kp b o e h1 h2))))
  rw [hlen,List.drop_length]
  obtain ⟨o,es,ep,g,r⟩:=hD
  exact ⟨o,es,ep,eb _ _ hDI g,r⟩
|succ n ih =>
  intro i h tk kvs hn hi hit hl hD hk kp hR
  have hlt:i < items.size:=by omega
  refine codeAny_builtin jB ?_
  rw [Around.under_plainId eF _]
  show wpAny _ A.in1 (pyNext (.ref I) >>= _) _ _ _
  obtain ⟨v,hv⟩:∃ v,items[i]?=some v:=⟨_,Array.getElem?_eq_getElem hlt⟩
  refine wpAny_bind (wpAny_pyNext_list_item hit hl hv fun h' hit' sb=>?_)
  have kp':∀ b o,s.heap.get? b=some o->b≠I->b≠D->h'.get? b=some o:=fun b o e h1 h2=>(sb.2 b h1).trans (kp b o e h1 h2)
  obtain ⟨a,key,k,x,rfl,ht,hp,hkey⟩:=hps h' i v hv kp'
  have hD':h'.DictOf knd D kvs:=by
   obtain ⟨o,es,ep,g,r⟩:=hD
   exact ⟨o,es,ep,(sb.2 _ hDI).trans g,r⟩
  have hl':h'.IsList l items:=by
   obtain ⟨o,g,r⟩:=hl
   exact ⟨o,(sb.2 _ hI).trans g,r⟩
  refine wpAny_bind (wpAny_holding ?_)
  refine wpAny_bind (wpAny_tryCatch (wpAny_mono (Q:=fun r s'=>r=[key,x]/\s'={ s with heap:=h',toks:=tk }) (E:=fun _ _=>False) ?_ (fun r s' q=>?_) fun _ _ z=>z.elim))
  ·unfold Builtin.Dict.pairItems
   obtain ⟨ot,g,hc,nt,hd⟩:=ht
   refine wpAny_bind (wpAny_typeOf (T:="tuple") ⟨ot,g,hc⟩ ?_)
   rw [if_pos (by decide)]
   unfold seqItems?
   refine wpAny_bind (wpAny_bind (wpAny_load g ?_))
   rw [hd]
   exact wpAny_pure (wpAny_pure ⟨rfl,rfl⟩)
  ·obtain ⟨rfl,rfl⟩:=q
   show wpAny _ A.in1 (holding [key,x] (dictSet D key x)) _ _ _
   refine wpAny_holding (wpAny_dictSet_pairs hkey hD' (fun h2 hD2 sb2=>?_) (by rw [sizeLine_eq]; omega))
   have eD:ps.drop i=(k,x)::ps.drop (i+1):=by
    have hlt':i < ps.length:=by omega
    rw [drop_eq_getElem_cons hlt']
    have:ps[i]=(k,x):=by
     have:=hp
     rw [List.getElem?_eq_getElem hlt'] at this
     exact Option.some.inj this
    rw [this]
   refine wpAny_pure ⟨plainId_quiet eF _,?_⟩
   have:=ih (i+1) h2 (tk+1) (stored kvs k x) (by omega) (by omega) (by
     obtain ⟨o,g,r⟩:=hit'
     exact ⟨o,(sb2.2 _ hDI.symm).trans g,r⟩) (by
     obtain ⟨o,g,r⟩:=hl'
     exact ⟨o,(sb2.2 _ hDl.symm).trans g,r⟩) hD2 (by
     have:(stored kvs k x).length<=kvs.length+1:=by unfold stored; split <;> simp
     omega) (fun b o e h1 h2'=>(sb2.2 b h2').trans (kp' b o e h1 h2')) fun h3 Bg hD3 kp3=>hR h3 Bg (by rw [eD]; exact hD3) kp3
   exact this
theorem yJ {Q:Value->Shared->Prop}{l:Addr}{items:Array Value}{k:Nat}{ps:List (K×Value)} (hh:A.handled=none) (hl:s.heap.get? l=some { cls:=.type "list",data:=.seq items k }) (hlen:items.size=ps.length)
  (hps:∀ (h:Heap) (i:Nat) (v:Value),items[i]?=some v->(∀ b o,s.heap.get? b=some o->h.get? b=some o)->∃ a key k x,v=.ref a/\h.IsTuple a #[key,x]/\ps[i]?=some (k,x)/\knd.is k key=true) (hsz:ps.length<=1000)
  (h:∀ h' tk,h'.DictOf knd s.heap.objs.size (mS [] ps)->(∀ b o,s.heap.get? b=some o->h'.get? b=some o)->Q (.ref s.heap.objs.size) { s with heap:=h',toks:=tk }):wpAny (model prog w) A (call (.type "dict") [.ref l]) Q E s:=by
 refine callType_codes (Q₁:=fun obj s₁=>obj=.ref s.heap.objs.size/\s₁={ s with heap:=s.heap.push { cls:=.type "dict",data:=.dict #[] } }) F.kt_called_dict (F.kt_typeCall_dict_1 _) F.entry_dict_init (kt_code_dict_new _ ⟨rfl,rfl⟩) ?_
 rintro obj s₁ ⟨rfl,rfl⟩
 have hlt:l < s.heap.objs.size:=lt_size hl
 have z0:(s.heap.push { cls:=.type "dict",data:=.dict #[] }).objs.size=s.heap.objs.size+1:=size_push ..
 have hnew:(s.heap.push { cls:=.type "dict",data:=.dict #[] }).DictOf knd s.heap.objs.size []:=Heap.DictOf.new s.heap
 have hl0:(s.heap.push { cls:=.type "dict",data:=.dict #[] }).get? l=some { cls:=.type "list",data:=.seq items k }:=get?_push_of_some _ hl
 have kp0:∀ b o,s.heap.get? b=some o->(s.heap.push { cls:=.type "dict",data:=.dict #[] }).get? b=some o:=fun b o e=>get?_push_of_some _ e
 generalize s.heap.push { cls:=.type "dict",data:=.dict #[] }=h0 at z0 hnew hl0 kp0 ⊢
 refine ⟨hnew.typeIs,F.args_dict_init_2 _ _,?_⟩
 unfold Builtin.«dict.__init__»
 refine wpAny_bind ?_
 unfold Builtin.Dict.selfAndRest
 refine wpAny_bind (wpAny_notOrdered_dict hnew.typeIs ?_)
 show wpAny _ _ (pure (s.heap.objs.size,[Value.ref l])) _ _ _
 refine wpAny_pure ?_
 show wpAny _ _ (Builtin.Dict.updateFrom "dict.__init__" s.heap.objs.size (.ref l) [] .none) _ _ _
 unfold Builtin.Dict.updateFrom
 refine wpAny_bind (wpAny_typeOf (T:="list") ⟨_,hl0,rfl⟩ ?_)
 rw [if_pos (by decide)]
 refine wpAny_bind (CU hl0 (by simpa using hh) fun h1 tk1 kp1=>?_)
 rw [if_pos (by rfl)]
 refine wpAny_bind (wpAny_rule ?_)
 have hl1:h1.get? l=some { cls:=.type "list",data:=.seq items k }:=kp1 _ _ hl0
 have hD1:h1.DictOf knd s.heap.objs.size []:=by
  obtain ⟨o,es,ep,g,r⟩:=hnew
  exact ⟨o,es,ep,kp1 _ _ g,r⟩
 have hg1:s.heap.objs.size < h1.objs.size:=by
  obtain ⟨o,es,ep,g,r⟩:=hD1
  exact lt_size g
 refine wpAny_bind (wpAny_pyIter_list ⟨_,hl1,rfl,k,rfl⟩ ?_)
 refine wpAny_pure ⟨plainId_quiet eF _,?_⟩
 have key:=CF (A:=A.in1) (knd:=knd) (s:=s) (R:=wants (fun r s₂=>r=.none/\Q (.ref s.heap.objs.size) s₂) E) (I:=h1.objs.size) (l:=l) (D:=s.heap.objs.size) (items:=items) (ps:=ps) (by simpa using hh) (ne_of_lt (lt_trans hlt hg1)) (ne_of_lt hg1) (ne_of_gt hlt) hlen
  (fun h i v hv kp=>hps h i v hv fun b o e=>kp b o e (ne_of_lt (lt_trans (lt_size e) hg1)) (ne_of_lt (lt_size e))) hsz items.size 0 (h1.push { cls:=.type "list_iterator",data:=.fields #[.ref l,.int 0 0] }) tk1 [] rfl (zero_le _)
  ⟨_,get?_push_size _ rfl,rfl,rfl⟩ ⟨_,get?_push_of_some _ hl1,rfl,k,rfl⟩ (hD1.push _) (zero_le _) (fun b o e _ _=>get?_push_of_some _ (kp1 _ _ (kp0 _ _ e)))
  fun h' tk' hD' kp'=>⟨rfl,h h' tk' (by simpa using hD') fun b o e=>kp' b o e (ne_of_lt (lt_trans (lt_size e) hg1)) (ne_of_lt (lt_size e))⟩
 exact key
end
end L2
namespace L2
open PySem PyProof.Rows
section
variable {prog:Program} {w:World} {K:Type} [DecidableEq K] {knd:KeyKind prog w K} {A:Around} {E:Value -> Shared -> Prop} {s:Shared} {d:Addr} {kvs:List (K×Value)} {k:K} {key dflt:Value}
end
end L2
namespace L2
open PySem PyProof.Rows
end L2
namespace L2
open PySem PySem.Spec PyProof.Rows
section
noncomputable def melt (a:Addr) (H:Hp):Hp:=fun b=>if b=a then (match H a with|some (.frz _ u)=>some u|o=>o) else H b
theorem kA {a b:Addr}{H:Hp} (h:b≠a):melt a H b=H b:=by unfold melt; rw [if_neg h]
theorem mQ {a:Addr}{H:Hp}{o:Obj}{u:HO} (h:H a=some (.frz o u)):melt a H a=some u:=by unfold melt; rw [if_pos rfl,h]
theorem gE {a b:Addr}{H:Hp} (h:H b=none):melt a H b=none:=by
 unfold melt
 split
 ·rename_i e
  subst e
  rw [h]
 ·exact h
theorem cZ {a b:Addr}{H:Hp}{o:HO} (hn:∀ ob u,o≠.frz ob u) (h:H b=some o):melt a H b=some o:=by
 unfold melt
 split
 ·rename_i e
  subst e
  rw [h]
  cases o <;> first|rfl|exact absurd rfl (hn _ _)
 ·exact h
section
variable {X:Cx} {pins:List (Addr×Obj)} {σ:St} {H:Hp} {s:Shared} {a:Addr}
theorem aL.melt (I:aL X pins σ H s) (h0:∀ o u,X.H₀ a≠some (.frz o u)):aL X pins σ (L2.melt a H) s:=by
 refine ⟨I.ok,I.os,I.bare,⟨I.base.keep,I.base.slot,fun b o e n hx=>gE (I.base.free b o e n hx),I.base.there,fun b xs e=>cZ (fun _ _ z=>nomatch z) (I.base.tups b xs e),fun b o u e=>?_,fun b ps e=>?_⟩,
  I.loc,I.cell,gE I.free,fun x c e=>gE (I.freeC x c e),fun p hp=>?_,fun b u e=>?_,I.len⟩
 ·have hb:b≠a:=fun z=>by subst z; exact h0 _ _ e
  rw [kA hb]
  exact I.base.frzs b o u e
 ·obtain ⟨more,q⟩:=I.base.tbls b ps e
  exact ⟨more,cZ (fun _ _ z=>nomatch z) q⟩
 ·obtain ⟨e,n,r⟩:=I.pin p hp
  exact ⟨e,gE n,r⟩
 ·have st:∀ {v:HO},bC X.prog X.w H s.heap b v->bC X.prog X.w (L2.melt a H) s.heap b v:=fun {v} x =>
   x.stay (fun _ _ _ q=>q) (fun c q=>cZ (fun _ _ z=>nomatch z) q) fun c xs q=>cZ (fun _ _ z=>nomatch z) q
  by_cases hb:b=a
  ·subst hb
   cases q:H b with
  |none=>rw [gE q] at e; cases e
  |some z =>
    have hz:=I.hok b z q
    by_cases hf:∃ o v,z=.frz o v
    ·obtain ⟨o,v,rfl⟩:=hf
     rw [mQ q] at e
     cases e
     exact st hz.2
    ·rw [cZ (fun o v w=>hf ⟨o,v,w⟩) q] at e
     cases e
     exact st hz
  ·rw [kA hb] at e
   exact st (I.hok b u e)
theorem aL.freeze {kvs:List (aR×V)}{o:Obj} (I:aL X pins σ H s) (h:H a=some (.dK kvs)) (hg:s.heap.get? a=some o):aL X pins σ (upd H a (.frz o (.dK kvs))) s:=by
 have ne:∀ {b:Addr} {u:HO},H b=some u->u≠.dK kvs->b≠a:=fun {b u} e z w=>by subst w; rw [h] at e; exact z (Option.some.inj e).symm
 have nn:∀ {b:Addr},H b=none->upd H a (.frz o (.dK kvs)) b=none:=fun {b} e=>by rw [aI (fun w=>by subst w; rw [h] at e; cases e)]; exact e
 have old:∀ {b:Addr} {u:HO},H b=some u->u≠.dK kvs->upd H a (.frz o (.dK kvs)) b=some u:=fun {b u} e z=>by rw [aI (ne e z)]; exact e
 refine ⟨I.ok,I.os,I.bare,⟨I.base.keep,I.base.slot,fun b o e n hx=>nn (I.base.free b o e n hx),I.base.there,fun b xs e=>old (I.base.tups b xs e) (fun z=>nomatch z),fun b o u e=>old (I.base.frzs b o u e) (fun z=>nomatch z),fun b ps e=>?_⟩,
  I.loc,I.cell,nn I.free,fun x c e=>nn (I.freeC x c e),fun p hp=>?_,fun b u e=>?_,I.len⟩
 ·obtain ⟨more,q⟩:=I.base.tbls b ps e
  exact ⟨more,old q (fun z=>nomatch z)⟩
 ·obtain ⟨e,n,r⟩:=I.pin p hp
  exact ⟨e,nn n,r⟩
 ·have st:∀ {v:HO},bC X.prog X.w H s.heap b v->bC X.prog X.w (upd H a (.frz o (.dK kvs))) s.heap b v:=fun {v} x =>
   x.stay (fun _ _ _ q=>q) (fun c q=>old q (fun z=>nomatch z)) fun c xs q=>old q (fun z=>nomatch z)
  by_cases hb:b=a
  ·subst hb
   rw [aC] at e
   cases e
   exact ⟨hg,st (I.hok b _ h)⟩
  ·rw [aI hb] at e
   exact st (I.hok b u e)
end
noncomputable def VC (a:Addr) (o:Obj) (kvs:List (aR×V)):It:=
 ⟨fun i H=>H a=some (.frz o (.dK kvs))/\i < kvs.length,fun i H x H'=>H'=H/\∃ k v,kvs[i]?=some (k,v)/\x=kV k,fun i H=>H a=some (.frz o (.dK kvs))/\kvs.length<=i⟩
theorem PL {κ:Type}:∀ {kvs:List (κ×V)}{vs:List (κ×Value)}{i:Nat}{k:κ}{v:V},KV kvs vs->kvs[i]?=some (k,v)->∃ u,vs[i]?=some (k,u)
|_,_,_,_,_,.nil,e=>by simp at e
|_,_,0,k,v,.cons (b:=q) r _,e=>by
  simp at e
  subst e
  exact ⟨q.2,by simp; exact Prod.ext r.1.symm rfl⟩
|_,_,i+1,k,v,.cons _ t,e=>by
  obtain ⟨u,h⟩:=PL (i:=i) (k:=k) (v:=v) t (by simpa using e)
  exact ⟨u,by simpa using h⟩
theorem MR {P:Program}{w:World}{k:aR}{u:Value} (h:(aY P w).is k u=true):aV (kV k) u:=by
 rcases bR h with ⟨i,t,rfl,rfl⟩|⟨x,t,rfl,rfl⟩
 ·exact ⟨t,rfl⟩
 ·exact ⟨t,rfl⟩
section
variable {X:Cx} {tg:Expr}
theorem BF {pins:List (Addr×Obj)}{σ:St}{H:Hp}{s:Shared}{a:Addr}{kvs:List (aR×V)}{o:Obj} (I:aL X pins σ H s) (h:H a=some (.frz o (.dK kvs))) :
  (a==sysModules)=false/\∃ vs es ep,KV kvs vs/\o.data=.dict es ep/\s.heap.DictAt (aY X.prog X.w) a vs ep:=by
 obtain ⟨g,hz⟩:=I.hok a _ h
 obtain ⟨_,hd,vs,rel,o',es,ep,e,r⟩:=hz
 rw [g] at e
 cases e
 exact ⟨hd,vs,es,ep,rel,r.2.1,o,es,g,r⟩
theorem BS {P:Program}{w:World}{K:Frag} (a it:Addr) (o:Obj) (kvs:List (aR×V)):DS P w K tg (VC a o kvs) [it] it (fun i h=>∃ es ep,o.data=.dict es ep/\h.IsKeyIter it a i kvs.length ep) where
 mem:=by simp
 obj:=fun i h st b hb=>by
  have e:b=it:=by simpa using hb
  subst e
  obtain ⟨_,_,_,o,e,c,d⟩:=st
  exact ⟨o,e,fun v z=>by rw [d] at z; cases z⟩
 keep:=fun i h h' ⟨es,ep,q,st⟩ k=>⟨es,ep,q,st.at fun o e=>k it (by simp) o e⟩
 item:=by
  intro X hP hw hK hc i pins s σ H E I hf st hg
  subst hP hw hK
  obtain ⟨ha,hi⟩:=hg
  obtain ⟨hd,vs,es,ep,rel,ed,dd⟩:=BF I ha
  obtain ⟨es',ep',ed',st⟩:=st
  rw [ed] at ed'
  cases ed'
  obtain ⟨f0,f1,f2,f3,f4,f5⟩:=hf it (by simp)
  obtain ⟨⟨k,v⟩,hx⟩:∃ p,kvs[i]?=some p:=⟨_,List.getElem?_eq_getElem hi⟩
  obtain ⟨u,hu⟩:=PL rel hx
  rw [rel.length] at st
  refine wpAny_pyNext_dict_item st dd hu fun key h' hkey hit' sb=>?_
  rw [← rel.length] at hit'
  have I1:aL X pins σ H { s with heap:=h' }:=I.turned (t':=s.toks) (fun b o hb e=>(sb.2 b hb).trans e) f0 f1 f3 f4 f5
  obtain ⟨oi,e,c,d⟩:=id hit'
  exact ⟨key,rfl,AV (s:={ s with heap:=h' }) e c d (by decide) ⟨kV k,H,I1,MR hkey,⟨rfl,k,v,hx,rfl⟩,⟨es,ep,ed,hit'⟩,fun b hb=>(hf b hb).1⟩⟩
 done:=by
  intro X hP hw hK hc i pins s σ H E I hf st hg
  subst hP hw hK
  obtain ⟨ha,hi⟩:=hg
  obtain ⟨hd,vs,es,ep,rel,ed,dd⟩:=BF I ha
  obtain ⟨es',ep',ed',st⟩:=st
  rw [ed] at ed'
  cases ed'
  obtain ⟨f0,f1,f2,f3,f4,f5⟩:=hf it (by simp)
  rw [rel.length] at st hi
  exact wpAny_pyNext_dict_end (I.ok.hd hc) st dd (by simpa using hi) fun h' eb=>⟨rfl,I.turned (t':=s.toks) (fun b o hb e=>eb b o hb e) f0 f1 f3 f4 f5⟩
 self:=fun _ _ _ _ _ ⟨_,_,_,st⟩ h=>wpAny_pyIter_keyiter st h
noncomputable def HY (a:Addr) (tl:TE):TI:=fun σ H R=>tl σ H fun x H1=>x=.ref a/\∃ kvs,H1 a=some (.dK kvs)/\∀ o,R (VC a o kvs) (upd H1 a (.frz o (.dK kvs)))
theorem AE {l:Expr}{tl:TE} (a:Addr) (hl:PE X l tl):PI X tg l (HY a tl):=by
 intro pins s σ H R I h
 refine bZ (hl pins s σ H _ I h) fun v s1 ⟨x,H1,I1,r1,q1⟩=>?_
 obtain ⟨e,kvs,hk,q⟩:=q1
 subst e
 cases r1
 obtain ⟨_,hd,vs,rel,o,es,ep,g,r⟩:=I1.hok a _ hk
 have I2:=I1.freeze hk g
 refine wpAny_pyIter_dict hd ⟨o,es,g,r⟩ ?_
 refine ⟨s1.heap.objs.size,[s1.heap.objs.size],_,_,_,rfl,I2.kept (t':=s1.toks) fun b o e=>get?_push_of_some _ e,BS a _ o kvs,⟨es,ep,r.2.1,?_⟩,fun b hb=>?_,q o⟩
 ·rw [rel.length]
  exact ⟨_,get?_push_size _ rfl,rfl,rfl⟩
 ·have e:b=s1.heap.objs.size:=by simpa using hb
  subst e
  exact I2.fpOk (le_refl _) (I2.hok.fresh (le_refl _))
noncomputable def Dm (a:Addr) (D:cU):cU:=⟨fun σ H=>D.nx σ (melt a H),fun v H=>D.rt v (melt a H),fun σ H=>D.bk σ (melt a H),fun σ H=>D.ct σ (melt a H)⟩
noncomputable def jC (H:Hp) (a:Addr):Prop:=∀ o u,H a≠some (.frz o u)
noncomputable def OE (tl:TE) (g:TG) (tb:TS):TS:=fun D σ H=>∃ a,jC H a/\QM (HY a tl) g tb (Dm a D) σ H
theorem zZ {iter:Expr}{body:List Stmt}{tl:TE}{g:TG}{tb:TS}{pos:Pos} (hp:PassesOwn (model X.prog X.w) X.A X.env X.xe) (hc:X.calm=true) (hi:PE X iter tl) (hg:PG X tg g) (hb:tS X body tb)
  (hs:∀ x,foldedSetIterable iter X.env x=pure x:=by intro _; rfl):PS X (.For tg iter body [] pos) (OE tl g tb):=by
 intro pins s σ H D I h
 obtain ⟨a,nf,h⟩:=h
 have h0:∀ o u,X.H₀ a≠some (.frz o u):=fun o u e=>nf _ _ (I.base.frzs a o u e)
 refine bZ (cO hp hc (AE a hi) hg hb hs pins s σ H (Dm a D) I h) fun f s' q=>?_
 cases f with
|next=>obtain ⟨σ',H',I',q⟩:=q; exact ⟨σ',_,I'.melt h0,q⟩
|brk=>obtain ⟨σ',H',I',q⟩:=q; exact ⟨σ',_,I'.melt h0,q⟩
|cont=>obtain ⟨σ',H',I',q⟩:=q; exact ⟨σ',_,I'.melt h0,q⟩
|ret u=>obtain ⟨v,σ',H',I',r,q⟩:=q; exact ⟨v,σ',_,I'.melt h0,r,q⟩
variable {scope:Scope} {tn names:List Str} {is:List Nat} {elt iter:Expr} {ifs:List Expr} {pos:Pos} {tl te:TE} {tc:Option TT} {g:TG}
noncomputable def EM (tl:TE) (te:TE) (tc:Option TT) (g:TG) (k:Nat) (is:List Nat):TE:=fun σ H Q=>∃ a,jC H a/\zB (HY a tl) te tc g k is σ H fun v H'=>Q v (melt a H')
theorem vA (ck:lI X scope tn names is) (hc:X.calm=true) (hi:PE X iter tl)
  (hg:∀ C s0 H0 ex,PG (cC X scope (bD X.env names) (tn++names) C s0 H0 ex) tg g) (he:∀ C s0 H0 ex,PE (cC X scope (bD X.env names) (tn++names) C s0 H0 ex) elt te)
  (ht:∀ C s0 H0 ex,UP (cC X scope (bD X.env names) (tn++names) C s0 H0 ex) ifs tc) (hs:∀ x,foldedSetIterable iter X.env x=pure x:=by intro _; rfl) :
  PE X (.ListComp elt [⟨tg,iter,ifs,0⟩] scope pos) (EM tl te tc g tn.length is):=by
 intro pins s σ H Q I h
 obtain ⟨a,nf,h⟩:=h
 have h0:∀ o u,X.H₀ a≠some (.frz o u):=fun o u e=>nf _ _ (I.base.frzs a o u e)
 refine bZ (iR ck hc (AE a hi) hg he ht hs pins s σ H _ I h) fun u s' ⟨v,H',I',r,q⟩=>⟨v,_,I'.melt h0,r,q⟩
end
end
section
section
variable {X:Cx} {pins:List (Addr×Obj)} {σ:St} {H:Hp} {s:Shared} {tg:Expr}
theorem aL.dr (I:aL X pins σ H s) (d:Drawn):aL X pins σ H { s with drawn:=d }:=⟨I.ok,I.os,I.bare,I.base,I.loc,I.cell,I.free,I.freeC,I.pin,I.hok,I.len⟩
noncomputable def ZT (K:Frag) (a:Addr):It:=
 ⟨fun i H=>∃ xs x,bS K H a xs/\xs[i]?=some x,fun i H v H'=>∃ T x,v=.ref T/\H T=none/\H'=upd H T (.tup [.int i,x])/\∀ xs,bS K H a xs->xs[i]?=some x,fun i H=>∃ xs,bS K H a xs/\xs.length<=i⟩
theorem BR {P:Program}{w:World}{K:Frag}{elts:List Expr}{k1:Nat}{tpos:Pos} (a e it:Addr) (hei:e≠it) :
  DS P w K (.Tuple elts k1 tpos) (ZT K a) [e,it] e (fun i h=>(∃ old,IsEnum h e it i old)/\h.IsListIter it a i) where
 mem:=by simp
 obj:=fun i h st b hb=>by
  obtain ⟨⟨old,he⟩,o,e1,c,d⟩:=st
  rcases mem_cons.mp hb with rfl|hb
  ·exact ⟨_,he,fun v z=>nomatch z⟩
  ·have hb:b=it:=by simpa using hb
   subst hb
   exact ⟨o,e1,fun v z=>by rw [d] at z; cases z⟩
 keep:=fun i h h' ⟨⟨old,he⟩,st⟩ k=>⟨⟨old,k e (by simp) _ he⟩,st.at fun o q=>k it (by simp) o q⟩
 item:=by
  intro X hP hw hK hc i pins s σ H E I hf st hg
  subst hP hw hK
  obtain ⟨xs,x,hq,hx⟩:=hg
  obtain ⟨its,rv,p,hz⟩:=I.list hq
  obtain ⟨u,hu,ru⟩:=rv.get hx
  obtain ⟨⟨old,he⟩,hit⟩:=st
  obtain ⟨f0,f1,f2,f3,f4,f5⟩:=hf e (by simp)
  obtain ⟨g0,g1,g2,g3,g4,g5⟩:=hf it (by simp)
  refine wpAny_pyNext_enum_item he hit p.isList (by simpa using hu) hei fun h' ho hit' hT hsz hk=>?_
  refine ⟨_,rfl,wpAny_letOwnedTupleGo_enum (s:={ s with heap:=h',toks:=s.toks+1 }) ho fun h2 he2 sb=>?_⟩
  have hTn:H s.heap.objs.size=none:=I.hok.fresh (le_refl _)
  have hTe:s.heap.objs.size≠e:=ne_of_gt (lt_size he)
  have hTi:s.heap.objs.size≠it:=by obtain ⟨_,q,_⟩:=hit; exact ne_of_gt (lt_size q)
  have k2:∀ b o,b≠e->b≠it->s.heap.get? b=some o->h2.get? b=some o:=fun b o n1 n2 q=>(sb.2 b n1).trans (hk b o n1 n2 q)
  -- first the iterators turn,then the tuple is tracked
  have I1:aL X pins σ H { s with heap:=h2,toks:=s.toks+1 }:=by
   refine I.step (g':=s.gens) (d':=s.drawn) (t':=s.toks+1) (ch:=[e,it]) (fun b hb=>?_) (fun b o _ _ hb q _=>k2 b o (fun z=>hb (by simp [z])) (fun z=>hb (by simp [z])) q) (fun b o _ _ hb q _=>⟨o.slots,k2 b o (fun z=>hb (by simp [z])) (fun z=>hb (by simp [z])) q⟩)
    (fun b o _ _ q=>q) (fun b o hb q=>⟨o,k2 b o (fun z=>hb (by simp [z])) (fun z=>hb (by simp [z])) q⟩) (fun _ _ q=>q) (fun _ _ _ q=>q) (fun _ ps q=>⟨#[],by simpa using q⟩) (fun m hm=>?_) ?_ I.bare
   ·rcases mem_cons.mp hb with rfl|hb
    ·exact ⟨f3,f1,f4,f5⟩
    ·have hb:b=it:=by simpa using hb
     subst hb
     exact ⟨g3,g1,g4,g5⟩
   ·obtain ⟨o,es,ep,q,r⟩:=hm
    exact ⟨o,es,ep,k2 _ _ (Ne.symm f1) (Ne.symm g1) q,r⟩
   ·intro b u q
    refine (I.hok b u q).stay (fun c v hc r=>k2 c v ?_ ?_ r) (fun _ q=>q) fun _ _ q=>q
    ·rintro rfl
     rcases hc with rfl|hc
     ·rw [f0] at q; cases q
     ·rw [f0] at hc; cases hc
    ·rintro rfl
     rcases hc with rfl|hc
     ·rw [g0] at q; cases q
     ·rw [g0] at hc; cases hc
  have hT2:h2.get? s.heap.objs.size=some { cls:=.type "tuple",data:=.seq #[.int i s.toks,u] }:=(sb.2 _ hTe).trans hT
  have I2:aL X pins σ (upd H s.heap.objs.size (.tup [.int i,x])) { s with heap:=h2,toks:=s.toks+1 }:=by
   have nn:∀ {b:Addr},b < s.heap.objs.size->H b=none->upd H s.heap.objs.size (.tup [.int i,x]) b=none:=fun {b} hb e=>by rw [aI (ne_of_lt hb)]; exact e
   have old:∀ {b:Addr} {o:HO},H b=some o->upd H s.heap.objs.size (.tup [.int i,x]) b=some o:=fun {b o} e=>by rw [aI (aB e hTn)]; exact e
   refine ⟨I1.ok,I1.os,I1.bare,⟨I1.base.keep,I1.base.slot,fun b o q n hx=>nn ?_ (I1.base.free b o q n hx),I1.base.there,fun b ys q=>old (I1.base.tups b ys q),fun b o v q=>old (I1.base.frzs b o v q),fun b ps q=>?_⟩,I1.loc,I1.cell,nn I.lt I1.free,fun y c q=>nn ?_ (I1.freeC y c q),fun p hp=>?_,fun b o q=>?_,I1.len⟩
   ·exact lt_of_lt_of_le (lt_size q) I.sz
   ·obtain ⟨more,z⟩:=I1.base.tbls b ps q
    exact ⟨more,old z⟩
   ·obtain ⟨v,z⟩:=I.cell y c q
    exact z.lt
   ·obtain ⟨z1,z2,z3⟩:=I1.pin p hp
    exact ⟨z1,nn (lt_size (I.pin p hp).1) z2,z3⟩
   ·by_cases hb:b=s.heap.objs.size
    ·subst hb
     rw [aC] at q
     cases q
     exact ⟨⟨by rw [sizeLine_eq]; simp,_,hT2,rfl⟩,[.int i s.toks,u],.cons ⟨_,rfl⟩ (.cons ru .nil),_,hT2,rfl,_,rfl⟩
    ·rw [aI hb] at q
     exact (I1.hok b o q).stay (fun _ _ _ z=>z) (fun c z=>old z) fun c ys z=>old z
  exact ⟨.ref s.heap.objs.size,_,I2,rfl,⟨s.heap.objs.size,x,rfl,hTn,rfl,fun ys hy=>by rw [I.list_inj hy hq]; exact hx⟩,⟨⟨u,by simpa using he2⟩,hit'.at fun o q=>(sb.2 it (Ne.symm hei)).trans q⟩,fun b hb=>by
   rcases mem_cons.mp hb with rfl|hb
   ·rw [aI (Ne.symm hTe)]; exact f0
   ·have hb:b=it:=by simpa using hb
    subst hb
    rw [aI (Ne.symm hTi)]; exact g0⟩
 done:=by
  intro X hP hw hK hc i pins s σ H E I hf st hg
  subst hP hw hK
  obtain ⟨xs,hq,hx⟩:=hg
  obtain ⟨its,rv,p,hz⟩:=I.list hq
  obtain ⟨⟨old,he⟩,hit⟩:=st
  obtain ⟨g0,g1,g2,g3,g4,g5⟩:=hf it (by simp)
  have hl:=rv.length
  exact wpAny_pyNext_enum_end (I.ok.hd hc) he hit p.isList (by simp; omega) fun h' eb=>⟨rfl,I.turned (t':=s.toks) (fun b o hb e=>eb b o hb e) g0 g1 g3 g4 g5⟩
 self:=fun _ _ _ _ _ ⟨⟨_,he⟩,_⟩ h=>wpAny_pyIter_enum he h
noncomputable def PU (K:Frag) (tl:TA):TI:=fun σ H R=>tl σ H fun vs H1=>∃ a,vs=[.ref a]/\(∃ xs,bS K H1 a xs)/\R (ZT K a) H1
theorem AD {l:Expr}{tl:TA}{elts:List Expr}{k1:Nat}{tpos p pos:Pos} (hg:Gl X "enumerate") (hm:X.mg "enumerate"=none) (ha:PA X [l] tl) (hs:starEach [l] X.env=[(false,eval l X.env)]:=by rfl) :
  PI X (.Tuple elts k1 tpos) (.Call (.Name "enumerate" p) [l] [] pos) (PU X.K tl):=by
 intro pins s σ H R I h
 refine Call_ (fV I hg hm tK (PyProof.Rows.callWith_type1 (bZ (ha pos pins s σ H _ I h) fun us s1 ⟨vs,H1,I1,r1,q1⟩=>?_) hs rfl))
 obtain ⟨a,e,⟨xs,hq⟩,q⟩:=q1
 subst e
 cases r1 with
|cons r rr =>
  cases rr
  cases r
  obtain ⟨its,rv,p,hz⟩:=I1.list hq
  refine call_enumerate_list p.isList fun h' he hit hsz kp=>?_
  refine wpAny_pyIter_enum he ?_
  have I2:aL X pins σ H1 { s1 with heap:=h' }:=I1.kept (t':=s1.toks) kp
  refine ⟨_,[s1.heap.objs.size+1,s1.heap.objs.size],_,_,H1,rfl,I2,BR a _ _ (ne_of_gt (lt_succ_self _)),⟨⟨_,he⟩,hit⟩,fun b hb=>?_,q⟩
  rcases mem_cons.mp hb with rfl|hb
  ·exact I1.fpOk (le_succ _) (I1.hok.fresh (le_succ _))
  ·have hb:b=s1.heap.objs.size:=by simpa using hb
   subst hb
   exact I1.fpOk (le_refl _) (I1.hok.fresh (le_refl _))
noncomputable abbrev nB (H:Hp):List V->List (aR×V)->Prop:=Paired fun v kv=>∃ a,v=.ref a/\H a=some (.tup [kV kv.1,kv.2])
noncomputable def RX:List V->Hp->VK->Prop:=fun vs H Q=>∃ (p:Addr) (ts:List V) (kvs:List (aR×V)),vs=[.ref p]/\H p=some (.lst ts)/\nB H ts kvs/\ts.length<=1000/\∀ l:Addr,H l=none->Q (.ref l) (upd H l (.dK (dH [] kvs)))
theorem Paired.at {α β:Type}{F:α->β->Prop}:∀ {xs:List α}{ys:List β}{i:Nat}{x:α},Paired F xs ys->xs[i]?=some x->∃ y,ys[i]?=some y/\F x y
|_,_,_,_,.nil,e=>by simp at e
|_,_,0,_,.cons r _,e=>by simp at e; subst e; exact ⟨_,rfl,r⟩
|_,_,i+1,x,.cons _ t,e=>by
  obtain ⟨y,h1,h2⟩:=Paired.at (i:=i) (x:=x) t (by simpa using e)
  exact ⟨y,by simpa using h1,h2⟩
theorem nU {H:Hp}{h:Heap}{P:Program}{w:World} (ok:gG P w H h):∀ {ts:List V}{kvs:List (aR×V)}{its:List Value},nB H ts kvs->aM ts its ->
  ∃ ps:List (aR×Value),KV kvs ps/\Paired (fun v p=>∃ a key,v=Value.ref a/\h.IsTuple a #[key,p.2]/\(aY P w).is p.1 key=true) its ps
|_,_,_,.nil,.nil=>⟨[],.nil,.nil⟩
|_,_,_,.cons (b:=kv) ⟨a,e,g⟩ t,.cons r rt=>by
  obtain ⟨ps,h1,h2⟩:=nU ok t rt
  subst e
  cases r
  obtain ⟨_,its,rv,tp⟩:=ok a _ g
  cases rv with
 |cons r1 rv =>
   cases rv with
  |cons r2 rv =>
    cases rv
    rename_i k1 x1
    exact ⟨(kv.1,x1)::ps,.cons ⟨rfl,r2⟩ h1,.cons ⟨a,k1,rfl,tp,vT r1⟩ h2⟩
theorem oG:∀ {kvs:List (aR×V)}{ps:List (aR×Value)}{m:List (aR×V)}{n:List (aR×Value)},KV kvs ps->KV m n->KV (dH m kvs) (mS n ps)
|_,_,_,_,.nil,r=>r
|_,_,m,n,.cons (a:=p) (b:=q) ⟨e,rv⟩ t,r=>by
  show KV (dH (cV m p.1 p.2) _) (mS (stored n q.1 q.2) _)
  refine oG t ?_
  rw [← e]
  exact r.put p.1 rv
theorem yO (hc:X.calm=true):cK X (.type "dict") RX:=by
 intro pins s σ H vs us Q I r h
 obtain ⟨p,ts,kvs,rfl,hp,hpr,hl,q⟩:=h
 obtain ⟨u,rfl,ru⟩:=r.one
 cases ru
 obtain ⟨z,its,n,rv,hlen,e⟩:=I.lstM hp
 obtain ⟨ps,h1,h2⟩:=nU I.hok hpr rv
 have hps:its.length=ps.length:=h2.length
 refine yJ (knd:=aY X.prog X.w) (ps:=ps) (I.ok.hd hc) e (by rw [size_toArray]; exact hps) (fun h' i v hv kp=>?_) (by rw [← hps,← hlen]; exact hl) fun h' tk hd kp=>?_
 ·obtain ⟨y,e1,a,key,rfl,tp,hk⟩:=Paired.at h2 (show its[i]?=some v by simpa using hv)
  obtain ⟨o,g,r⟩:=tp
  exact ⟨a,key,y.1,y.2,rfl,⟨o,kp _ _ g,r⟩,e1,hk⟩
 ·have rel:=oG h1 (.nil:KV [] [])
  refine ⟨.ref s.heap.objs.size,_,I.laid (o:=.dK (dH [] kvs)) kp (le_refl _) (oQ ?_ (beq_eq_false_iff_ne.mpr (Ne.symm (ne_of_lt I.big))) rel hd),rfl,q _ (I.hok.fresh (le_refl _))⟩
  have h3:=fU kvs []
  have h4:ts.length=kvs.length:=hpr.length
  simp at h3
  rw [sizeLine_eq]
  omega
end
end
section
section
variable {X:Cx}
noncomputable def LP:V->List V->Hp->VK->Prop:=fun x vs H Q=>∃ (a:Addr) (kvs:List (aR×V)),x=.ref a/\vs=[]/\H a=some (.dK kvs)/\Q .non (upd H a (.dK []))
theorem CJ:ZB X "dict.clear" LP:=by
 intro pins s σ H x vs v us Q I rx rv h
 obtain ⟨a,kvs,rfl,rfl,ha,q⟩:=h
 cases rx
 cases rv
 exact NE I ha fun s' I'=>⟨.non,_,I',rfl,q⟩
noncomputable def Aj:V->Option Int->Option Int->Hp->VK->Prop:=fun x lo hi H Q=>∃ z:Str,x=.str z/\z.length<=sizeLine/\Q (.str (Txt.slice z lo hi)) H
theorem AM {v:Value}{lo:Option Int} (h:IsPart v lo):∃ l:Option (Int×Tok),l.map (·.1)=lo/\v=partValue l:=by
 cases h with
|none=>exact ⟨none,rfl,rfl⟩
|int i t=>exact ⟨some (i,t),rfl,rfl⟩
theorem QP:NU X Aj:=by
 intro pins s σ H x v vl vu lo hi sl Q I rx hs pl pu h
 obtain ⟨z,rfl,hz,q⟩:=h
 obtain ⟨t,rfl⟩:=rx
 obtain ⟨l,e1,rfl⟩:=AM pl
 obtain ⟨u,e2,rfl⟩:=AM pu
 subst e1 e2
 refine ⟨"str",_,F.slot_str_getitem.lookup,typeIs_str _ _ _,wpAny_getItem_str_slice (l:=l) (u:=u) (st:=none) ?_ rfl (post_val_or_str ?_)⟩
 ·obtain ⟨o,a,b,c⟩:=hs
  exact ⟨o,a,b,c⟩
 ·exact ⟨le_trans (Txt.slice_le z _ _) hz,fun t' k=>⟨.str _,H,I.tok _,⟨_,rfl⟩,q⟩⟩
end
end
end L2
namespace L2
section
variable {α:Type} [DecidableEq α]
noncomputable abbrev DU (α:Type):=α×α×Rat
noncomputable abbrev Bc (α:Type):=Rat×Option (Nat×α)
noncomputable abbrev AL (α β:Type):=List (α×β)
noncomputable def UL {β:Type} (l:AL α β) (k:α):Option β:=(l.find? fun kv=>decide (kv.1=k)).map (·.2)
noncomputable def YT {β:Type} (l:AL α β) (k:α) (v:β):AL α β:=if (l.any fun kv=>decide (kv.1=k)) then l.map (fun kv=>if kv.1=k then (kv.1,v) else kv) else l++[(k,v)]
noncomputable def Jn (r:DU α) (q p:α):Prop:=(r.1=q/\r.2.1=p)∨(r.2.1=q/\r.1=p)
noncomputable def UR (tk:Nat->Option Rat) (k:Nat) (t:Rat):Prop:=∀ u,tk k=some u->t<=u
variable (net:List (DU α)) (push:α -> Option Rat) (tk:Nat -> Option Rat)
inductive ZG:α->Rat->Prop
|push {p t}:push p=some t->ZG p t
|run {q s p k r}:ZG q s->net[k]?=some r->Jn r q p->UR tk k (s+r.2.2)->ZG p (s+r.2.2)
structure ZE (m:α->Option Rat):Prop where
 arr:∀ p t,m p=some t->ZG net push tk p t
 le:∀ p t,ZG net push tk p t->∃ u,m p=some u/\u<=t
variable {net push tk}
end
end L2
namespace L2
section
variable {α:Type} [DecidableEq α] {net:List (DU α)} {push:α -> Option Rat} {tk:Nat -> Option Rat} {F:AL α (Bc α)}
end
end L2
namespace L2
section
variable {κ:Type} [DecidableEq κ]
noncomputable def YC (m:AL κ Rat) (x:κ×Rat):AL κ Rat:=match UL m x.1 with
|none=>YT m x.1 x.2
|some r=>if x.2 < r then YT m x.1 x.2 else m
noncomputable def lst (l:List (κ×Rat)):AL κ Rat:=l.foldl YC []
end
end L2
namespace L2
end L2
namespace L2
open PySem PySem.Spec PyProof.Rows
section
section
variable {X:Cx} {a b:Expr} {ta tb td ty tv:TE} {pos:Pos} {dN:List Expr} {σ:St} {H H':Hp} {Q:VK} {D:cU} {K:Frag} {w:World} {v x:V}
noncomputable def VM (K:Frag) (ta:TE):TT:=fun σ H R=>ta σ H fun x H'=>∃ k,NS K x H' k/\R k H'
theorem GF (ha:PE X a ta) (he:∀ whole,isTrue a X.env whole=(do let v ← whole; standAt a.pos; holding [v] (truthy v)):=by intro _; rfl):PT X a (VM X.K ta):=GE ha he
theorem WE {R:Bool->Hp->Prop} (k:ta σ H fun x H'=>∃ k,NS K x H' k/\R k H'):VM K ta σ H R:=k
theorem xK (k:∀ p,H p=none->Q (.ref p) (upd H p (.dK []))):EL σ H Q:=k
noncomputable def dG (x y:V) (H:Hp) (Q:VK):Prop:=∃ a v,x=.ref a/\NY H a y (some v)/\Q v H
theorem RM (k:td σ H fun x H1=>ty σ H1 fun y H2=>dG x y H2 Q):OI td ty σ H Q:=k
theorem FU {p:Addr}{kvs:List (aR×V)}{s:Str} (h:Rd H p (.dK kvs)) (e:gC kvs (Sum.inr s)=some v) (k:Q v H):dG (.ref p) (.str s) H Q:=⟨p,v,rfl,.inl ⟨kvs,Sum.inr s,h,rfl,e.symm⟩,k⟩
theorem XD {p:Addr}{kvs:List (aR×V)}{i:Int} (h:Rd H p (.dK kvs)) (e:gC kvs (Sum.inl i)=some v) (k:Q v H):dG (.ref p) (.int i) H Q:=⟨p,v,rfl,.inl ⟨kvs,Sum.inl i,h,rfl,e.symm⟩,k⟩
theorem XC {p:Addr}{kvs:List (aR×V)}{c:aR} (h:Rd H p (.dK kvs)) (e:gC kvs c=some v) (k:Q v H):dG (.ref p) (kV c) H Q:=⟨p,v,rfl,.inl ⟨kvs,c,h,rfl,e.symm⟩,k⟩
noncomputable def dP (D:cU) (σ:St) (v x y:V) (H:Hp):Prop:=∃ a H4,x=.ref a/\tW H a y v H4/\D.nx σ H4
theorem RL (k:tv σ H fun v H1=>td σ H1 fun x H2=>ty σ H2 fun y H3=>dP D σ v x y H3):OJ td ty tv D σ H:=k
theorem FT {p:Addr}{kvs:List (aR×V)}{c:aR} (h:H p=some (.dK kvs)) (hl:kvs.length<=1000) (k:D.nx σ (upd H p (.dK (cV kvs c v)))):dP D σ v (.ref p) (kV c) H:=⟨p,_,rfl,tW.k h (dL hl),k⟩
theorem OO {p:Addr}{kvs:List (aR×V)}{s:Str} (h:H p=some (.dK kvs)) (hl:kvs.length<=1000) (k:D.nx σ (upd H p (.dK (cV kvs (Sum.inr s) v)))):dP D σ v (.ref p) (.str s) H:=FT (c:=Sum.inr s) h hl k
theorem FR {g:TG}{tl:TE}{tb:TS} (a:Addr) (nf:jC H a) (k:tl σ H fun x H1=>x=.ref a/\∃ kvs,H1 a=some (.dK kvs)/\∀ o,yE g tb (Dm a D) σ (VC a o kvs) (upd H1 a (.frz o (.dK kvs)))):OE tl g tb D σ H:=⟨a,nf,k⟩
theorem zS {a:Addr}{o:Obj}{kvs:List (aR×V)}{g:TG}{tb:TS}{D:cU} (Pv:Nat->St->Hp->Prop) (h0:Pv 0 σ H) (hl:∀ i σ H,i<=kvs.length->Pv i σ H->H a=some (.frz o (.dK kvs)))
  (hs:∀ i k v σ H,kvs[i]?=some (k,v)->Pv i σ H->g (kV k) σ H fun σ2 H2=>tb ⟨Pv (i+1),D.rt,D.nx,Pv (i+1)⟩ σ2 H2) (hd:∀ σ H,Pv kvs.length σ H->D.nx σ H):yE g tb D σ (VC a o kvs) H:=by
 refine ⟨fun i m σ H=>m=kvs.length - i/\i<=kvs.length/\Pv i σ H,⟨_,rfl,zero_le _,h0⟩,?_⟩
 rintro i m σ H ⟨rfl,hi,p⟩
 by_cases hlt:i < kvs.length
 ·refine .inr ⟨⟨hl i σ H hi p,hlt⟩,Pv (i+1),fun σ' H' q=>⟨kvs.length - (i+1),by omega,rfl,hlt,q⟩,fun x H' y=>?_⟩
  obtain ⟨rfl,k,v,e,rfl⟩:=y
  exact hs i k v σ _ e p
 ·have:i=kvs.length:=by omega
  subst this
  exact .inl ⟨⟨hl _ σ H (le_refl _) p,le_refl _⟩,hd σ H p⟩
theorem FQ {a:Addr}{xs:List V}{g:TG}{tb:TS} (Pv:Nat->St->Hp->Prop) (h0:Pv 0 σ H) (hl:∀ i σ H,i<=xs.length->Pv i σ H->bS K H a xs)
  (hs:∀ i x T σ H,xs[i]?=some x->H T=none->Pv i σ H->g (.ref T) σ (upd H T (.tup [.int i,x])) fun σ2 H2=>tb ⟨Pv (i+1),D.rt,D.nx,Pv (i+1)⟩ σ2 H2) (hd:∀ σ H,Pv xs.length σ H->D.nx σ H):yE g tb D σ (ZT K a) H:=by
 refine ⟨fun i m σ H=>m=xs.length - i/\i<=xs.length/\Pv i σ H,⟨_,rfl,zero_le _,h0⟩,?_⟩
 rintro i m σ H ⟨rfl,hi,p⟩
 have q:=hl i σ H hi p
 by_cases hlt:i < xs.length
 ·refine .inr ⟨⟨xs,xs[i],q,by simp [hlt]⟩,Pv (i+1),fun σ' H' q=>⟨xs.length - (i+1),by omega,rfl,hlt,q⟩,fun x H' y=>?_⟩
  obtain ⟨T,x',rfl,hT,rfl,e⟩:=y
  exact hs i x' T σ H (e xs q) hT p
 ·have:i=xs.length:=by omega
  subst this
  exact .inl ⟨⟨xs,q,le_refl _⟩,hd σ H p⟩
theorem LB {tl:TA}{R:It->Hp->Prop} (k:tl σ H fun vs H1=>∃ a,vs=[.ref a]/\(∃ xs,bS K H1 a xs)/\R (ZT K a) H1):PU K tl σ H R:=k
theorem LC {p:Addr}{x y:V}{t:NT}{R:St->Hp->Prop} (h:H p=some (.tup [x,y])) (k:t [x,y] σ H R):YI K 2 t (.ref p) σ H R:=⟨p,_,rfl,tX.of h,rfl,k⟩
theorem RJ {R:St->Hp->Prop} (k:R σ H):YJ [] σ H R:=⟨rfl,k⟩
theorem LE {t:TG}{u:NT}{r:List V}{R:St->Hp->Prop} (k:t v σ H fun σ' H'=>u r σ' H' R):PY t u (v::r) σ H R:=⟨v,r,rfl,k⟩
end
noncomputable def TK (H H':Hp):Prop:=∀ p xs,H p=some (.tup xs)->H' p=some (.tup xs)
theorem aJ.tk {H H':Hp} (s:aJ H H'):TK H H':=fun p xs h=>s _ _ h
theorem TK.new {H:Hp}{q:Addr}{o:HO} (h:H q=none):TK H (upd H q o):=(aJ.new h).tk
theorem TK.lst {H:Hp}{q:Addr}{o:HO}{ys:List V} (h:H q=some (.lst ys)):TK H (upd H q o):=fun p xs e=>by rw [aI (cD e h (by intro z; cases z))]; exact e
theorem TK.dic {H:Hp}{q:Addr}{o:HO}{ys:List (aR×V)} (h:H q=some (.dK ys)):TK H (upd H q o):=fun p xs e=>by rw [aI (cD e h (by intro z; cases z))]; exact e
theorem TK.melt {H:Hp}{a:Addr}:TK H (melt a H):=fun p xs e=>cZ (fun _ _ z=>nomatch z) e
noncomputable def EC (H:Hp) (v:V) (q:Rat):Prop:=∃ p,v=.ref p/\H p=some (.tup [.int q.num,.int q.den])
theorem EC.tk {H H':Hp}{v:V}{q:Rat} (h:EC H v q) (t:TK H H'):EC H' v q:=let ⟨p,e,h⟩:=h; ⟨p,e,t _ _ h⟩
section
variable {α β:Type} {F G:α -> β -> Prop}
theorem Pd.imp:∀ {l:List α}{m:List β},Paired F l m->(∀ a b,F a b->G a b)->Paired G l m
|_,_,.nil,_=>.nil
|_,_,.cons r t,f=>.cons (f _ _ r) (Pd.imp t f)
theorem Pd.snoc:∀ {l:List α}{m:List β}{a:α}{b:β},Paired F l m->F a b->Paired F (l++[a]) (m++[b])
|_,_,_,_,.nil,r=>.cons r .nil
|_,_,_,_,.cons q t,r=>.cons q (Pd.snoc t r)
theorem Pd.get:∀ {l:List α}{m:List β}{i:Nat}{b:β},Paired F l m->m[i]?=some b->∃ a,l[i]?=some a/\F a b
|_,_,_,_,.nil,e=>by simp at e
|_,_,0,_,.cons r _,e=>by simp at e; subst e; exact ⟨_,rfl,r⟩
|_,_,i+1,b,.cons _ t,e=>by
  obtain ⟨y,h1,h2⟩:=Pd.get (i:=i) (b:=b) t (by simpa using e)
  exact ⟨y,by simpa using h1,h2⟩
end
noncomputable def LQ {β:Type} (R:Hp->V->β->Prop) (H:Hp) (l:Addr) (ds:List β):Prop:=∃ vs,H l=some (.lst vs)/\Paired (R H) vs ds
section
variable {β:Type} {R:Hp -> V -> β -> Prop} {H H':Hp} {l d:Addr} {ds:List β} {m:List (aR×β)} {kvs:List (aR×V)}
end
theorem WJ {D:cU}{σ:St}{H:Hp} (k:D.nx σ H):D.nx σ H:=k
theorem WF {D:cU}{v:V}{H:Hp} (k:D.rt v H):D.rt v H:=k
theorem FS {a:Addr}{D:cU}{σ:St}{H:Hp} (k:D.nx σ (melt a H)):(Dm a D).nx σ H:=k
theorem dJ.u1 {k:Nat}{A:Around} (r:dJ k A):A.units+1 < cLine:=by have:=r.units; omega
section
variable {X:Cx} {σ:St} {H H':Hp} {Q:VK} {K:Frag} {v x y:V} {w:World}
noncomputable def RW:R2:=fun x y H Q=>y=.non/\Q (.bl (decide (x=.non))) H
noncomputable def FZ:R2:=fun x y H Q=>y=.non/\Q (.bl (!decide (x=.non))) H
theorem sO:gA X (compareOp .Is) RW:=SN
theorem nV:gA X (compareOp .IsNot) FZ:=LY
theorem rT (k:Q (.bl true) H):RW .non .non H Q:=⟨rfl,k⟩
theorem rV {i:Int} (k:Q (.bl false) H):RW (.int i) .non H Q:=⟨rfl,k⟩
theorem rR (k:Q (.bl false) H):FZ .non .non H Q:=⟨rfl,k⟩
noncomputable def Br (K:Frag) (T:String) (r:V->List V->Hp->VK->Prop) (t:TA) (σ:St) (Q:VK):VK:=fun x H1=>VF K T x H1/\t σ H1 fun xs H2=>r x xs H2 Q
theorem Ag {T:String}{r:V->List V->Hp->VK->Prop}{to:TE}{t:TA} (k:to σ H (Br K T r t σ Q)):Bm K T r to t σ H Q:=k
noncomputable def UI (K:Frag) (T:String) (r:V->List V->Hp->VK->Prop) (Q:VK):VK:=fun x H1=>VF K T x H1/\r x [] H1 Q
theorem XF {T:String}{r:V->List V->Hp->VK->Prop}{to:TE} (k:to σ H (UI K T r Q)):VU K T r to σ H Q:=k
theorem XE {r:V->List V->Hp->VK->Prop}{t:TA}{l:Addr}{xs:List V} (h:H l=some (.lst xs)) (k:t σ H fun vs H2=>r (.ref l) vs H2 Q):Br K "list" r t σ Q (.ref l) H:=⟨.inl ⟨rfl,xs,bS.of h⟩,k⟩
theorem RS {r:V->List V->Hp->VK->Prop}{l:Addr}{xs:List (aR×V)} (h:H l=some (.dK xs)) (k:r (.ref l) [] H Q):UI K "dict" r Q (.ref l) H:=⟨.inr (.inr (.inl ⟨rfl,.inl ⟨xs,h⟩⟩)),k⟩
theorem RQ {r:V->List V->Hp->VK->Prop}{l:Addr}{xs:List V} (h:H l=some (.lst xs)) (k:r (.ref l) [] H Q):UI K "list" r Q (.ref l) H:=⟨.inl ⟨rfl,xs,bS.of h⟩,k⟩
theorem jU {l:Addr}{xs:List V} (h:H l=some (.lst xs)) (hl:xs.length<=1000) (k:Q .non (upd H l (.lst (xs++[y])))):zY (.ref l) [y] H Q:=⟨l,xs,y,rfl,rfl,h,dL hl,k⟩
theorem ON {l b:Addr}{xs zs:List V} (h:H l=some (.lst xs)) (h2:H b=some (.lst zs)) (hl:xs.length+zs.length<=1000) (k:Q .non (upd H l (.lst (xs++zs)))):zX (.ref l) [.ref b] H Q:=⟨l,b,xs,zs,rfl,rfl,h,h2,kC hl,k⟩
theorem zU {tl te:TE}{o:Option TT}{g:TG}{k:Nat}{is:List Nat} (a:Addr) (nf:jC H a) (h:tl σ H fun x H1=>x=.ref a/\∃ kvs,H1 a=some (.dK kvs)/\∀ o',lO te o g (List.replicate k none) (jM σ is) (fun v H'=>Q v (melt a H')) (VC a o' kvs) (upd H1 a (.frz o' (.dK kvs)))):EM tl te o g k is σ H Q:=⟨a,nf,h⟩
theorem jC.dK {a:Addr}{kvs:List (aR×V)} (h:H a=some (.dK kvs)):jC H a:=fun o u e=>by rw [h] at e; cases e
end
end
section
theorem lF {α:Type} [DecidableEq α]:∀ {l m:List α},l.Nodup->(∀ x∈l,x∈m)->l.length<=m.length
|[],_,_,_=>zero_le _
|a::l,m,nd,h=>by
  rw [nodup_cons] at nd
  have ha:=h a (by simp)
  have:=lF (l:=l) (m:=m.erase a) nd.2 fun x hx=>by
   have hne:x≠a:=fun z=>nd.1 (by rw [← z]; exact hx)
   exact (List.mem_erase_of_ne hne).mpr (h x (by simp [hx]))
  have h2:=List.length_erase_of_mem ha
  have h3:0 < m.length:=List.length_pos_of_mem ha
  rw [length_cons]
  omega
theorem BZ {kvs:List (aR×V)}{k:aR}{v:V} (h:k∉kvs.map (·.1)):cV kvs k v=kvs++[(k,v)]:=by
 unfold cV
 rw [if_neg]
 intro z
 obtain ⟨x,hx,e⟩:=any_eq_true.mp z
 exact h (mem_map.mpr ⟨x,hx,of_decide_eq_true e⟩)
theorem qI:∀ {more kvs:List (aR×V)},((kvs++more).map (·.1)).Nodup->dH kvs more=kvs++more
|[],kvs,_=>by simp [dH]
|kv::r,kvs,nd=>by
  have h1:kv.1∉kvs.map (·.1):=by
   rw [map_append,nodup_append] at nd
   intro z
   exact nd.2.2 _ z kv.1 (by simp) rfl
  show dH (cV kvs kv.1 kv.2) r=_
  rw [BZ h1,qI (by simpa using nd)]
  simp
section
variable {te:TE} {Q:VK} {H:Hp} {caps:St}
theorem uT {a:Addr}{o:Obj}{kvs:List (aR×V)} (hn:kvs.length<=1000) (Pv:Addr->Nat->List V->Hp->Prop) (h0:∀ acc,H acc=none->Pv acc 0 [] (upd H acc (.lst []))) (hl':∀ acc i ys H1,H acc=none->i<=kvs.length->Pv acc i ys H1->H1 a=some (.frz o (.dK kvs)))
  (hs:∀ acc i ys H1 k v,H acc=none->kvs[i]?=some (k,v)->ys.length=i->H1 acc=some (.lst ys)->Pv acc i ys H1->te (some (kV k)::caps) H1 (BM kvs.length acc (Pv acc) ys i))
  (hd:∀ acc ys H1,H acc=none->H1 acc=some (.lst ys)->ys.length=kvs.length->Pv acc kvs.length ys H1->Q (.ref acc) H1):lO te none (kH 0) (List.replicate 1 none) caps Q (VC a o kvs) H:=by
 intro acc hacc
 refine ⟨cW kvs.length acc (Pv acc),⟨kvs.length,by simp,zero_le _,rfl,aC,h0 acc hacc⟩,?_⟩
 rintro i m ys H1 ⟨rfl,hi,hl,ha,p⟩
 have q:=hl' acc i ys H1 hacc hi p
 refine ⟨ha,?_⟩
 by_cases hlt:i < kvs.length
 ·refine .inr ⟨dL (by omega),⟨q,hlt⟩,fun us x H' hu y=>?_⟩
  obtain ⟨rfl,k,v,e,rfl⟩:=y
  obtain ⟨o,rfl⟩:=MP hu
  exact ⟨⟨[some (kV k)],rfl,rfl⟩,hs acc i ys _ k v hacc e hl ha p⟩
 ·have e:i=kvs.length:=by omega
  subst e
  exact .inl ⟨⟨q,le_refl _⟩,hd acc ys H1 hacc ha hl p⟩
end
section
variable {σ:St} {H:Hp} {Q:VK} {K:Frag}
end
theorem fX {X:Cx}{scope:Scope}{caps:List (Str×Addr)}{N:List Str}{C:Addr}{s0:Shared}{H0:Hp}{ex:List Addr}:JJ (cC X scope caps N C s0 H0 ex) (nO X.K):=cP
noncomputable abbrev tP:=Str×Str×Rat
noncomputable def kn (n:List tP):List (DU aR):=n.map fun r=>(Sum.inr r.1,Sum.inr r.2.1,r.2.2)
noncomputable def names (n:List tP):List Str:=n.map (·.1)++n.map (·.2.1)
theorem MM {t b:Int} (hb:b≠0):(Rat.divInt t b).num=dY t b/\((Rat.divInt t b).den:Int)=dO t b:=FK hb (oC hb) (AS hb) (qJ hb)
section
variable {σ:St} {H:Hp} {Q:VK} {K:Frag}
theorem OL {z:Str}{i:Int}{c:Nat} (hz:z.length<=100000) (e:kO z.cps.toList i=some c) (k:Q (.str ⟨#[c]⟩) H):nO K (.str z) (.int i) H Q:=.inr (.inr ⟨z,i,c,rfl,rfl,by rw [sizeLine_eq]; omega,e,k⟩)
end
noncomputable abbrev sA:Str:=Str.ofString "a"
noncomputable abbrev sB:Str:=Str.ofString "b"
noncomputable def n0:List tP:=[(sA,sB,Rat.divInt 1 2)]
noncomputable def ZJ:List (aR×Rat):=[(Sum.inr sB,Rat.divInt 1 3)]
theorem KU {H:Hp}{Q:VK} (k:Q (.int 1000000000000) H):rI UT (fun i j=>.int (i ^ j.toNat)) (.int 10) (.int 12) H Q:=UW ⟨by decide,by decide,by decide⟩ k
end
end L2
namespace L2
open PySem PySem.Spec PySem.W PySem.Calls PyProof.Rows PySem.Builtin PySem.Builtin.ObjectAttr PySem.Builtin.Getset_descriptor
structure mC (K:Frag) (C:Addr):Prop where
 ga:findIn K (.ref C) "__getattribute__"=some (some (.builtin "BaseException.__getattribute__"))
 gt:findIn K (.ref C) "__getattr__"=some none
 ca:findIn K (.ref C) "__class__"=some (some (.builtin "object.__class__"))
 ob:subIn K (.ref C) (.type "object")=some true
 be:subIn K (.ref C) (.type "BaseException")=some true
 ic:(clsIn K C).isSome=true
theorem mC.obj {K:Frag}{C:Addr} (Z:mC K C):∃ c d cd sl,K.lookup C=some ⟨c,d,.cls cd,sl⟩:=by
 have q:=Z.ic
 unfold clsIn at q
 split at q
 ·exact ⟨_,_,_,_,by assumption⟩
 ·cases q
noncomputable def pM (a C:Addr) (h:Heap):Prop:=∃ o,h.get? a=some o/\o.cls=.ref C
theorem pM.ty {a C:Addr}{h:Heap} (M:Model) (p:pM a C h):Looks M h (typeOf (.ref a)) (.ref C):=by
 obtain ⟨o,h1,h2⟩:=p
 have q:=(Looks.ld (M:=M) (part:=some headPart) h1).andThen (f:=fun o=>pure o.cls) .now
 rw [h2] at q; exact q
section
variable {prog:Program} {w:World} {A:Around} {E:Value -> Shared -> Prop} {s:Shared} {K:Frag} {x C:Addr}
theorem uA {R:Result->Shared->Prop}{tp:Value} (Z:mC K C) (X:K.In s.heap) (p:pM x C s.heap) (h:R (.ok (.ret (.ref C))) s) :
  codeAny (model prog w) A (.call (.builtin "getset_descriptor.__get__") ⟨[.builtin "object.__class__",.ref x,tp],[]⟩) R s:=by
 obtain ⟨h1,gs,dw,tn,so⟩:=s
 have L0:=p.ty (model prog w)
 have L1:=looks_subIn (M:=model prog w) X Z.ob
 refine codeAny_call_builtin (h:=KF.slot_gs.check _ _ _ _ _ _ _ _ KF.type_class (KF.args_gs _ _ _) ?_) KF.slot_gs.plain KF.entry_gs
 unfold Builtin.«getset_descriptor.__get__»; unfold descrGet; rw [dga_obj]; refine wpAny_bind (wpAny_pure ?_)
 unfold descrGetter descrCheckInstance; unfold descrNameAndClass isInstance; simp only [KF.owner_class]
 repeat lk
 refine ⟨Code.quiet_builtin _ (by decide +kernel),?_⟩; refine codeAny_builtin KF.entry_class ?_; unfold Builtin.«object.__class__»; unfold shownTypeOf
 repeat lk
 exact h
theorem JY {nameV:Value}{Q:Unit->Shared->Prop} (Z:mC K C) (X:K.In s.heap) (p:pM x C s.heap) (h:Q () s):wpAny (model prog w) A (checkBuiltinCall "BaseException.__getattribute__" ⟨[.ref x,nameV],[]⟩) Q E s:=by
 obtain ⟨h1,gs,dw,tn,so⟩:=s
 have q1:builtinKind "BaseException.__getattribute__"=some .slot:=by decide +kernel
 have q2:splitId "BaseException.__getattribute__"=some ("BaseException","__getattribute__"):=by decide +kernel
 have L0:=p.ty (model prog w)
 have L1:=looks_subIn (M:=model prog w) X Z.be
 have ha:=F.args_bexc_ga (.ref x) nameV
 simp only [checkBuiltinCall,q1,q2]
 refine wpAny_bind ?_
 ·unfold isInstance
  repeat (first|lk|wp_step)
  exact h
theorem JX {tk:Tok}{Q:Fin->Shared->Prop} (Z:mC K C) (X:K.In s.heap) (p:pM x C s.heap) (h:Q (.done (.ret (.ref C))) s) :
  wpAny (model prog w) A (Builtin.«object.__getattribute__» ⟨[.ref x,.str "__class__" tk],[]⟩) Q E s:=by
 obtain ⟨h1,gs,dw,tn,so⟩:=s
 have L0:=p.ty (model prog w)
 have L1:=looks_findIn (M:=model prog w) X Z.ca
 have q5:=F.typeOf_object_class; have q6:=F.slot_gs_get.lookup; have q7:=F.slot_gs_set.lookup
 obtain ⟨o,hx,hc⟩:=id p
 repeat (any_goals (first|assumption|(with_reducible refine wpAny_loadPart_at hx ?_; rw [hc])|with_reducible refine L1.here ?_|wp_step))
 refine uA Z X p ?_
 repeat any_goals (first|assumption|wp_step)
theorem QG {tk:Tok}{R:Result->Shared->Prop} (Z:mC K C) (X:K.In s.heap) (p:pM x C s.heap) (h:R (.ok (.ret (.ref C))) s) :
  codeAny (model prog w) A (.call (.builtin "BaseException.__getattribute__") ⟨[.ref x,.str "__class__" tk],[]⟩) R s:=
 codeAny_call_builtin F.attr_ValueError.ga.plain F.entry_bexc_ga (JY Z X p (JX Z X p h))
theorem ZX {tk:Tok}{Q:Value->Shared->Prop} (Z:mC K C) (X:K.In s.heap) (p:pM x C s.heap) (h:Q (.ref C) s) :
  wpAny (model prog w) A (getAttrBy (.ref x) (.str "__class__" tk) false) Q E s:=by
 obtain ⟨h1,gs,dw,tn,so⟩:=s
 have L0:=p.ty (model prog w)
 have L1:=looks_findIn (M:=model prog w) X Z.ga
 have L2:=looks_findIn (M:=model prog w) X Z.gt
 have f3:=F.attr_ValueError.ga.bind (.ref x)
 have n2:(Value.builtin "BaseException.__getattribute__"==Value.builtin "object.__getattribute__")=false:=by decide +kernel
 have n1:(onTheHeap (Value.ref C)&&Value.builtin "BaseException.__getattribute__"==Value.builtin "object.__getattribute__")=false:=by rw [n2]; rfl
 have n0:(false&&onTheHeap (Value.builtin "BaseException.__getattribute__"))=false:=rfl
 obtain ⟨o,hx,hc⟩:=id p
 repeat (any_goals (first|assumption|(with_reducible refine wpAny_loadPart_at hx ?_; rw [hc])|with_reducible refine L1.here ?_|with_reducible refine L2.here ?_|wp_step))
 refine QG Z X p ?_
 repeat any_goals (first|assumption|wp_step)
theorem VD {Q:Option Value->Shared->Prop} (Z:mC K C) (X:K.In s.heap) (p:pM x C s.heap) (h:Q (some (.ref C)) { s with toks:=s.toks+1 }):wpAny (model prog w) A (getAttr? (.ref x) "__class__") Q E s:=by
 obtain ⟨h1,gs,dw,tn,so⟩:=s
 unfold getAttr? getAttrBy?
 exact wpAny_bind (wpAny_mkText (wpAny_bind (wpAny_attempt (ZX (s:=⟨h1,gs,dw,tn+1,so⟩) Z X p (wpAny_pure h)))))
end
theorem HU {K:Frag}{a C:Addr} (Z:mC K C):KitX K (.ref a) (.ref C) (pM a C) where
 ty:=fun M h _ p=>p.ty M
 it:=fun M h X _=>by
  obtain ⟨c,d,cd,sl,ho⟩:=Z.obj
  intro A' Q' E' s' k q
  unfold isType loadHead
  exact wpAny_bind (wpAny_loadPart (k C _ (X C _ ho)) (wpAny_pure q))
 ne:=fun h b _ _ _ _ X hb=>by
  obtain ⟨c,d,cd,sl,ho⟩:=Z.obj
  refine Bool.eq_false_iff.mpr ?_
  intro q
  obtain rfl:C=b:=Value.ref.inj (beq_iff_eq.mp q)
  rw [X C _ ho] at hb; cases hb
 ca:=fun X p k=>VD Z X p k
end L2
namespace L2
open PySem PySem.Spec PyProof.Rows
section
structure iK (fs xs:List Addr) (h h':Heap):Prop where
 keep:∀ b o,h.get? b=some o->b∉fs->b∉xs->h'.get? b=some o
 slot:∀ b o,h.get? b=some o->b∈fs->b∉xs->∃ sl,h'.get? b=some { o with slots:=sl }
section
variable {fs fs' xs xs':List Addr} {h h0 h1 h2 h':Heap} {H H':Hp} {P:Program} {w:World}
theorem iK.there (k:iK fs xs h h') {b:Addr}{o:Obj} (e:h.get? b=some o) (n:b∉xs):∃ sl,h'.get? b=some { o with slots:=sl }:=by
 by_cases hb:b∈fs
 ·exact k.slot b o e hb n
 ·exact ⟨o.slots,k.keep b o e hb n⟩
theorem iK.mv {L:Addr} (k:iK (L::fs) xs h h'):iK fs (L::xs) h h' where
 keep:=fun b o e n m=>k.keep b o e (fun z=>(mem_cons.mp z).elim (fun q=>m (q ▸ mem_cons_self)) n) fun z=>m (mem_cons_of_mem _ z)
 slot:=fun b o e n m=>k.slot b o e (mem_cons_of_mem _ n) fun z=>m (mem_cons_of_mem _ z)
theorem bC.at {a:Addr}{o:HO} (x:bC P w H h a o):∃ ob,h.get? a=some ob:=by
 cases o with
|lst xs=>obtain ⟨_,_,_,_,e⟩:=x; exact ⟨_,e⟩
|tup xs=>obtain ⟨_,_,_,⟨o,e,_⟩⟩:=x; exact ⟨_,e⟩
|dK kvs=>obtain ⟨_,_,_,_,o,_,_,e,_⟩:=x; exact ⟨_,e⟩
|dT kvs=>obtain ⟨_,_,_,_,o,_,_,e,_⟩:=x; exact ⟨_,e⟩
|set S n=>obtain ⟨o,_,_,_,e,_⟩:=x; exact ⟨_,e⟩
|ins C dx fs=>obtain ⟨_,_,_,e,_⟩:=x; exact ⟨_,e⟩
|own y=>obtain ⟨_,e⟩:=x; exact ⟨_,e⟩
|xd fs=>obtain ⟨_,⟨_,_,_,e,_⟩,_⟩:=x; exact ⟨_,e⟩
|rng lo hi=>obtain ⟨_,_,_,e⟩:=x; exact ⟨_,e⟩
|frz ob u=>obtain ⟨e,_⟩:=x; exact ⟨_,e⟩
|tbl ps=>exact ⟨_,(show h.get? a=some _ from x)⟩
|met f y=>exact ⟨_,(show h.get? a=some _ from x)⟩
|ext φ=>obtain ⟨_,⟨_,e⟩,_⟩:=x; exact ⟨_,e⟩
theorem gG.none_of (x:gG P w H h) {a:Addr} (e:h.get? a=none):H a=none:=by
 cases q:H a with
|none=>rfl
|some o =>
  obtain ⟨ob,z⟩:=(x a o q).at
  rw [e] at z; cases z
theorem gG.kpt (ok:gG P w H h) (k:iK fs xs h h') (hf:∀ b∈fs,H b=none) (hx:∀ b∈xs,H b=none):gG P w H h':=fun a o e=>by
 have key:∀ b u,H b=some u->b∉fs/\b∉xs:=fun b u q=>⟨fun z=>(by rw [hf b z] at q; cases q),fun z=>(by rw [hx b z] at q; cases q)⟩
 refine (ok a o e).stay (fun b u hb q=>?_) (fun _ q=>q) fun _ _ q=>q
 rcases hb with rfl|hb
 ·exact k.keep b u q (key b o e).1 (key b o e).2
 ·exact k.keep b u q (key b _ hb).1 (key b _ hb).2
theorem gG.track (ok:gG P w H h) {a:Addr}{o:HO} (hn:H a=none) (new:bC P w (upd H a o) h a o):gG P w (upd H a o) h:=fun b u q=>by
 by_cases hb:b=a
 ·subst hb; rw [aC] at q; cases q; exact new
 ·rw [aI hb] at q
  exact (ok b u q).stay (fun _ _ _ z=>z) (fun c r=>by rw [aI (aB r hn)]; exact r) fun c xs r=>by rw [aI (aB r hn)]; exact r
theorem Un.kpt (u:Un fs [] H H' h0 h) (k:iK fs xs h h') (hx:∀ b∈xs,h0.get? b=none):Un fs [] H H' h0 h':=by
 have nx:∀ b o,h0.get? b=some o->b∉xs:=fun b o e z=>by rw [hx b z] at e; cases e
 refine ⟨fun b o e n hb he=>k.keep b o (u.keep b o e n hb he) hb (nx b o e),fun b o e n hb he=>?_,u.free,fun b o e he=>?_,u.tups,u.frzs,u.tbls⟩
 ·obtain ⟨sl,q⟩:=u.slot b o e n hb he
  obtain ⟨sl',q'⟩:=k.slot b _ q hb (nx b o e)
  exact ⟨sl',q'⟩
 ·obtain ⟨o',q⟩:=u.there b o e he
  obtain ⟨sl,q'⟩:=k.there q (nx b o e)
  exact ⟨_,q'⟩
theorem Un.track {ex:List Addr}{a:Addr}{o:HO} (u:Un fs ex H H' h h') (hn:H' a=none) (hh:h.get? a=none):Un fs ex H (upd H' a o) h h' where
 keep:=u.keep
 slot:=u.slot
 free:=fun b ob e n hx=>by rw [aI (fun z=>by rw [z,hh] at e; cases e)]; exact u.free b ob e n hx
 there:=u.there
 tups:=fun b xs q=>by rw [aI (aB (u.tups b xs q) hn)]; exact u.tups b xs q
 frzs:=fun b ob xs q=>by rw [aI (aB (u.frzs b ob xs q) hn)]; exact u.frzs b ob xs q
 tbls:=fun b ps q=>by
  obtain ⟨m,e⟩:=u.tbls b ps q
  exact ⟨m,by rw [aI (aB e hn)]; exact e⟩
theorem Un.was (u:Un fs [] H H' h h') {a:Addr} (e:h'.get? a=none):h.get? a=none:=by
 cases q:h.get? a with
|none=>rfl
|some o =>
  obtain ⟨o',z⟩:=u.there a o q (by simp)
  rw [e] at z; cases z
end
noncomputable def yW (x T C:Addr) (fl:Value) (h:Heap):Prop:=∃ oe vs oT ts,h.get? x=some oe/\oe.cls=.ref C/\oe.data=.fields vs/\vs[1]?=some (.ref T)/\vs[2]?=some .none/\T≠x/\h.get? T=some oT/\oT.data=.fields ts/\ts[3]?=some fl
noncomputable abbrev JK (x T C:Addr) (h:Heap):Prop:=yW x T C .none h
noncomputable def ZF (x C:Addr) (h:Heap):Prop:=∃ o vs,h.get? x=some o/\o.cls=.ref C/\o.data=.fields vs/\vs[2]?=some .none
theorem ZF.kitR {x C:Addr}{h:Heap} (f:ZF x C h):pM x C h:=by
 obtain ⟨oe,_,e,c,_⟩:=f
 exact ⟨oe,e,c⟩
theorem yW.exR {x T C:Addr}{fl:Value}{h:Heap} (f:yW x T C fl h):ZF x C h:=by
 obtain ⟨oe,vs,_,_,e,c,d,_,z,_⟩:=f
 exact ⟨oe,vs,e,c,d,z⟩
theorem iK.refl {fs xs:List Addr}{h:Heap}:iK fs xs h h:=⟨fun _ _ e _ _=>e,fun _ o e _ _=>⟨o.slots,e⟩⟩
theorem iK.upd {fs xs:List Addr}{h h1:Heap}{a:Addr} (k:iK fs xs h h1) (f:Obj->Obj) (ha:a∈xs∨h.get? a=none):iK fs xs h (h1.update a f):=by
 have na:∀ b o,h.get? b=some o->b∉xs->a≠b:=fun b o e n z=>by
  rcases ha with q|q
  ·exact n (z ▸ q)
  ·rw [z,e] at q; cases q
 exact ⟨fun b o e n m=>(get?_update_other _ _ (na b o e m)).trans (k.keep b o e n m),fun b o e n m=>(k.slot b o e n m).imp fun sl q=>(get?_update_other _ _ (na b o e m)).trans q⟩
theorem iK.push {fs xs:List Addr}{h h1:Heap} (k:iK fs xs h h1) (o:Obj):iK fs xs h (h1.push o):=
 ⟨fun b u e n m=>get?_push_of_some _ (k.keep b u e n m),fun b u e n m=>(k.slot b u e n m).imp fun sl q=>get?_push_of_some _ q⟩
section
variable {M:Model} {A:Around} {E:Value -> Shared -> Prop} {s:Shared} {base:Heap} {env:Env} {outer l:List Env} {L x T C:Addr} {Q:Unit -> Shared -> Prop}
noncomputable def MK (env:Env) (L x:Addr) (head:Value) (b:Bool):Sem Unit:=frameOf env >>= fun a=>entryPlaceOf L b >>= fun pl=>EntryCells.newEntry head a .none (rawInt L) .none pl >>= fun v=>setField (.ref x) 1 v
theorem vY {oe:Obj}{vs:Array Value}{head:Value}{b:Bool} (hfr:A.frames=some (env::outer)) (hf:env.frame=some L) (hl:s.heap.FunFrames base (env::outer)) (he:s.heap.get? x=some oe) (hc:oe.cls=.ref C) (hd:oe.data=.fields vs)
  (h1:1 < vs.size) (h2:vs[2]?=some .none) (k:∀ h' T',yW x T' C (rawInt L) h'->s.heap.get? T'=none->iK (jA (env::outer)) [x] s.heap h'->Q () { s with heap:=h' }):wpAny M A (MK env L x head b) Q E s:=by
 have nfr:x∉jA (env::outer):=fun hm=>by
  obtain ⟨_,o,ho,hn⟩:=hl.mem hm
  rw [he] at ho; cases ho
  exact hn vs hd
 refine wpAny_bind (wpAny_frameOf_fun hfr hl hf fun g hg=>wpAny_bind (wpAny_entryPlaceOf fun pl hpl=>wpAny_bind ?_))
 unfold EntryCells.newEntry newFields
 refine wpAny_newObj_type ?_ (hpl.sizeOk5 _ _ _ _ _)
 generalize hts:([head,Value.ref L,Value.none,rawInt L,Value.none]++(if pl.isEmpty then List.replicate 6 Value.none else pl)).toArray=ts
 have e1:g.get? x=some oe:=(hg.2.1 x nfr).trans he
 have nT:g.objs.size≠x:=ne_of_gt (lt_size e1)
 have e2:=get?_push_of_some (h:=g) { cls:=.type "traceback",dict:=none,data:=.fields ts } e1
 refine wpAny_setField e2 hd h1 (k _ g.objs.size ?_ ?_ ?_)
 ·have d3:=Obj.data_mapFields hd (·.setIfInBounds 1 (Value.ref g.objs.size))
  refine ⟨_,_,_,ts,get?_update_self _ e2 (Obj.isFreed_of_fields d3),(Obj.cls_mapFields _ _).trans hc,d3,by simp [h1],?_,nT,(get?_update_other _ _ (Ne.symm nT)).trans (get?_push_size g rfl),rfl,by rw [← hts]; simp⟩
  rw [Array.getElem?_setIfInBounds_ne (by decide)]; exact h2
 ·exact get?_none_of_le (le_of_eq hg.1.symm)
 ·refine iK.upd (iK.push ⟨fun b o e n m=>(hg.2.1 b n).trans e,fun b o e n m=>hg.2.2 b o e⟩ _) _ (.inl (by simp))
theorem mV {fl:Value}{h0:Heap}{fs:List Addr} (f:yW x T C fl s.heap) (k0:iK fs [x,T] h0 s.heap∨(iK fs [x] h0 s.heap/\h0.get? T=none))
  (k:∀ h',JK x T C h'->(iK fs [x,T] h0 h')->(h0.get? T=none->iK fs [x] h0 s.heap->iK fs [x] h0 h')->Q () { s with heap:=h' }):wpAny M A (setFlight (.ref x) none) Q E s:=by
 obtain ⟨oe,vs,oT,ts,e1,e2,e3,e4,e5,e6,e7,e8,e9⟩:=f
 have sz:3 < ts.size:=(Array.getElem?_eq_some_iff.mp e9).1
 unfold setFlight
 refine wpAny_bind (wpAny_field e1 e3 e4 ?_)
 rw [if_pos (by simp)]
 have d3:=Obj.data_mapFields e8 (·.setIfInBounds 3 ((none:Option Addr).elim Value.none fun f=>rawInt f))
 refine wpAny_setField e7 e8 sz (k _ ⟨oe,vs,_,_,(get?_update_other _ _ e6).trans e1,e2,e3,e4,e5,e6,get?_update_self _ e7 (Obj.isFreed_of_fields d3),d3,by simp [sz]⟩ ?_ fun q z=>z.upd _ (.inr q))
 rcases k0 with z|⟨z,q⟩
 ·exact z.upd _ (.inl (by simp))
 ·exact iK.upd ⟨fun b o e n m=>z.keep b o e n fun y=>m (by simp at y; simp [y]),fun b o e n m=>z.slot b o e n fun y=>m (by simp at y; simp [y])⟩ _ (.inl (by simp))
theorem IG {oe:Obj}{vs:Array Value} (hfr:A.frames=some (env::outer)) (hf:env.frame=some L) (hl:s.heap.FunFrames base (env::outer)) (he:s.heap.get? x=some oe) (hc:oe.cls=.ref C) (hd:oe.data=.fields vs)
  (h1:vs[1]?=some .none) (h2:vs[2]?=some .none) (k:∀ h' T',yW x T' C (rawInt L) h'->s.heap.get? T'=none->iK (jA (env::outer)) [x] s.heap h'->Q () { s with heap:=h' }):wpAny M A (noteFrame (.ref x) env) Q E s:=by
 unfold noteFrame
 simp only [hf]
 refine wpAny_bind (wpAny_field he hd h1 ?_)
 rw [if_neg (by decide)]
 exact vY hfr hf hl he hc hd (Array.getElem?_eq_some_iff.mp h1).1 h2 k
theorem vX (hfr:A.frames=some (env::outer)) (hf:env.frame=some L) (hl:s.heap.FunFrames base (env::outer)) (f:JK x T C s.heap)
  (k:∀ h' T',yW x T' C (rawInt L) h'->s.heap.get? T'=none->iK (jA (env::outer)) [x,T] s.heap h'->Q () { s with heap:=h' }):wpAny M A (noteFrame (.ref x) env) Q E s:=by
 obtain ⟨oe,vs,oT,ts,e1,e2,e3,e4,e5,e6,e7,e8,e9⟩:=f
 unfold noteFrame
 simp only [hf]
 refine wpAny_bind (wpAny_field e1 e3 e4 ?_)
 rw [if_pos (by simp)]
 refine wpAny_bind (wpAny_field e7 e8 e9 ?_)
 rw [if_neg (by simp [rawInt])]
 refine wpAny_bind (wpAny_setField e7 e8 (Array.getElem?_eq_some_iff.mp e9).1 ?_)
 have oth:∀ b,b≠T->(s.heap.update T (Obj.mapFields (·.setIfInBounds 3 Value.none))).get? b=s.heap.get? b:=fun b hb=>get?_update_other _ _ (Ne.symm hb)
 have hl':(s.heap.update T (Obj.mapFields (·.setIfInBounds 3 Value.none))).FunFrames base (env::outer):=hl.of_keeps fun b o hb hn=>⟨o,(oth b fun z=>by rw [z,e7] at hb; cases hb; exact hn ts e8).trans hb,rfl⟩
 refine vY (s:={ s with heap:=s.heap.update T (Obj.mapFields (·.setIfInBounds 3 Value.none)) }) hfr hf hl' ((oth x (Ne.symm e6)).trans e1) e2 e3 (Array.getElem?_eq_some_iff.mp e4).1 e5 fun h' T' f' n' k'=>k h' T' f' ?_ ?_
 ·cases z:s.heap.get? T' with
 |none=>rfl
 |some o =>
   exfalso
   by_cases q:T'=T
   ·have d3:=Obj.data_mapFields e8 (·.setIfInBounds 3 Value.none)
    have:=get?_update_self (Obj.mapFields (·.setIfInBounds 3 Value.none)) e7 (Obj.isFreed_of_fields d3)
    rw [← q,show Heap.get? (s.heap.update T' _) T'=none from q ▸ n'] at this; cases this
   ·have:=(oth T' q).trans z
    rw [show Heap.get? (s.heap.update T _) T'=none from n'] at this; cases this
 ·refine ⟨fun b o e n m=>k'.keep b o ((oth b fun z=>m (by simp [z])).trans e) n fun y=>m (by simp at y; simp [y]),fun b o e n m=>k'.slot b o ((oth b fun z=>m (by simp [z])).trans e) n fun y=>m (by simp at y; simp [y])⟩
theorem DF (hfr:A.frames=some (env::outer)) (hf:env.frame=some L) (hl:s.heap.FunFrames base (env::outer)) (f:JK x T C s.heap)
  (k:∀ h' T',JK x T' C h'->(T'=T∨s.heap.get? T'=none)->iK (jA (env::outer)) [x,T] s.heap h'->Q () { s with heap:=h' }):wpAny M A (leaving env (.ref x)) Q E s:=by
 unfold leaving
 refine wpAny_bind (vX hfr hf hl f fun h1 T1 f1 n1 k1=>?_)
 refine mV (s:={ s with heap:=h1 }) (h0:=h1) (fs:=[]) f1 (.inl .refl) fun h2 f2 k2 _=>k h2 T1 f2 (.inr n1) ?_
 have nT:∀ b o,s.heap.get? b=some o->b∉[x,T]->b∉[x,T1]:=fun b o e m z=>by
  rcases mem_cons.mp z with z|z
  ·exact m (by simp [z])
  ·rw [mem_singleton.mp z,n1] at e; cases e
 exact ⟨fun b o e n m=>k2.keep b o (k1.keep b o e n m) (by simp) (nT b o e m),fun b o e n m=>(k1.slot b o e n m).imp fun sl q=>k2.keep b _ q (by simp) (nT b o e m)⟩
theorem IF (hfr:A.frames=some (env::outer)) (hf:env.frame=some L) (hl:s.heap.FunFrames base (env::outer)) (f:JK x T C s.heap)
  (k:∀ h' T',JK x T' C h'->(T'=T∨s.heap.get? T'=none)->iK (jA (env::outer)) [x,T] s.heap h'->Q () { s with heap:=h' }) :
  wpAny M A (noteFrame (.ref x) env) (fun _ s₂=>wpAny M A (setFlight (.ref x) none) Q E s₂) E s:=by
 refine vX hfr hf hl f fun h1 T1 f1 n1 k1=>?_
 refine mV (s:={ s with heap:=h1 }) (h0:=h1) (fs:=[]) f1 (.inl .refl) fun h2 f2 k2 _=>k h2 T1 f2 (.inr n1) ?_
 have nT:∀ b o,s.heap.get? b=some o->b∉[x,T]->b∉[x,T1]:=fun b o e m z=>by
  rcases mem_cons.mp z with z|z
  ·exact m (by simp [z])
  ·rw [mem_singleton.mp z,n1] at e; cases e
 exact ⟨fun b o e n m=>k2.keep b o (k1.keep b o e n m) (by simp) (nT b o e m),fun b o e n m=>(k1.slot b o e n m).imp fun sl q=>k2.keep b _ q (by simp) (nT b o e m)⟩
theorem DH (f:JK x T C s.heap) (k:∀ h',JK x T C h'->iK (jA l) [x,T] s.heap h'->Q () { s with heap:=h' }):wpAny M A (setFlight (.ref x) none) Q E s:=
 mV f (.inl (iK.refl (fs:=jA l))) fun h' f' k' _=>k h' f' k'
theorem DG {oe:Obj}{vs:Array Value} (hfr:A.frames=some (env::outer)) (hf:env.frame=some L) (hl:s.heap.FunFrames base (env::outer)) (he:s.heap.get? x=some oe) (hc:oe.cls=.ref C) (hd:oe.data=.fields vs)
  (h1:vs[1]?=some .none) (h2:vs[2]?=some .none)
  (k:∀ h' T',JK x T' C h'->s.heap.get? T'=none->iK (jA (env::outer)) [x] s.heap h'->Q () { s with heap:=h' }):wpAny M A (leaving env (.ref x)) Q E s:=by
 unfold leaving
 refine wpAny_bind (IG hfr hf hl he hc hd h1 h2 fun g T1 f1 n1 k1=>?_)
 exact mV (s:={ s with heap:=g }) f1 (.inr ⟨k1,n1⟩) fun h2 f2 _ k2=>k h2 T1 f2 n1 (k2 n1 k1)
end
end
section
noncomputable def sY (x C:Addr):HO:=.ext (ZF x C)
theorem MZ {P:Program}{w:World}{H:Hp}{h:Heap}{x C:Addr} (k:ZF x C h):bC P w H h x (sY x C):=
 ⟨k,(let ⟨o,_,e,_⟩:=k; ⟨o,e⟩),fun _ _ ⟨o,vs,e,c⟩ kp=>⟨o,vs,kp o e,c⟩⟩
noncomputable def ED (P:Program) (w:World):DY:=fun outer H s E e s'=>∃ x T C H',e=Value.ref x/\s'.os=s.os/\AllBare s'.gens/\Un (jA outer) [] H H' s.heap s'.heap/\gG P w H' s'.heap /\
 s.heap.get? x=none/\s.heap.get? T=none/\H' x=none/\H' T=none/\JK x T C s'.heap/\E (.ref C) none H'
section
variable {P:Program} {w:World} {K:Frag} {mg:Str -> Option Value} {base:Heap} {N:List Str} {qual:Str} {scope:Scope} {f:Addr} {cd:Value} {A:Around} {outer:List Env} {s:Shared} {H:Hp} {E:XK}
theorem wN {pins:List (Addr×Obj)}{σ:St}{H1:Hp}{s1:Shared}{h':Heap}{x C:Addr}{args:List Value} (I:aL (lG (ED P w) P w K mg base N qual scope f cd A outer s H E) pins σ H1 s1)
  (m:Heap.MadeExcOf s1.heap h' x (.ref C) args) (q:E (.ref C) none H1):(lG (ED P w) P w K mg base N qual scope f cd A outer s H E).xe (.ref x) { s1 with heap:=h' }:=by
 obtain ⟨t,he,htn,ht⟩:=m.there
 have fr:=I.stack
 refine DG (s:={ s1 with heap:=h' }) I.ok.frames rfl (fr.of_keeps fun b o z _=>⟨o,m.keeps b o z,rfl⟩) he rfl rfl rfl rfl fun h2 T fl n k=>?_
 have k':iK (s.heap.objs.size::jA outer) [x] h' h2:=k
 have u:Un (jA outer) [] H H1 s.heap s1.heap:=I.base
 have hn:∀ b,s1.heap.get? b=none->s.heap.get? b=none:=fun b z=>u.was z
 have hT:s1.heap.get? T=none:=by
  cases z:s1.heap.get? T with
 |none=>rfl
 |some o =>
   have:=m.keeps T o z
   rw [show h'.get? T=none from n] at this; cases this
 refine ⟨x,T,C,H1,rfl,I.os,I.bare,((u.trans (Un.kept m.keeps)).kpt k'.mv fun b hb=>?_),(I.hok.kept m.keeps).kpt k' (fun b hb=>I.stkFree b hb) (fun b hb=>?_),hn x m.new,hn T hT,I.hok.none_of m.new,I.hok.none_of hT,fl,q⟩
 ·rcases mem_cons.mp hb with z|z
  ·rw [z]; exact get?_none_of_le (le_refl _)
  ·rw [mem_singleton.mp z]; exact hn x m.new
 ·rw [mem_singleton.mp hb]; exact I.hok.none_of m.new
theorem GQ:iI (ED P w) (lG (ED P w) P w K mg base N qual scope f cd A outer s H E) E:=by
 intro pins σ H1 s1 e s2 I hx
 obtain ⟨x,T,C,H',rfl,ho,hg,un,hok,nx,nT,hx,hT,fl,q⟩:=hx
 have I2:=I.call' (ch:=[]) ho un hok hg (fun b z=>absurd z (by simp))
 have u1:Un (jA outer) [] H H1 s.heap s1.heap:=I.base
 have u2:Un (jA outer) [] H H' s.heap s2.heap:=I2.base
 refine DF I2.ok.frames rfl I2.stack fl fun h2 T2 fl2 n2 k=>?_
 have k':iK (s.heap.objs.size::jA outer) [x,T] s2.heap h2:=k
 have hT2:s.heap.get? T2=none/\H' T2=none:=by
  rcases n2 with z|z
  ·rw [z]; exact ⟨u1.was nT,hT⟩
  ·exact ⟨u2.was z,hok.none_of z⟩
 refine ⟨x,T2,C,H',rfl,I2.os,I2.bare,u2.kpt k'.mv fun b hb=>?_,hok.kpt k' (fun b hb=>I2.stkFree b hb) (fun b hb=>?_),u1.was nx,hT2.1,hx,hT2.2,fl2,q⟩
 ·rcases mem_cons.mp hb with z|z
  ·rw [z]; exact get?_none_of_le (le_refl _)
  ·rcases mem_cons.mp z with z|z
   ·rw [z]; exact u1.was nx
   ·rw [mem_singleton.mp z]; exact u1.was nT
 ·rcases mem_cons.mp hb with z|z
  ·rw [z]; exact hx
  ·rw [mem_singleton.mp z]; exact hT
end
def wJ:List Value:=[.type "ValueError",.type "Exception",.type "BaseException",.type "object"]
theorem MY {K:Frag}{h:Heap}{C:Addr}{bmB:List Value}{newId:String} (X:K.In h) (q:excIn K C bmB newId=true) :
  ∃ nm qn N bs bm hdct sn sub ab col dd k0 k1 k2 k3 k5 mN,h.get? C=some (excClassObj nm qn C N bs bm hdct sn sub ab col dd k0 k1 k2 k3 k5 newId)/\h.Ns N mN/\mN "__init__"=none/\OwnTail h bmB bm:=by
 unfold excIn at q
 split at q
 case h_2=>cases q
 rename_i dd cd sl ho
 split at q
 case h_2=>cases q
 rename_i C' bm k0 k1 k2 k3 n k5 hm hs
 simp only [Bool.and_eq_true,beq_iff_eq,Bool.not_eq_true'] at q
 obtain ⟨⟨⟨⟨⟨q1,q2⟩,q3⟩,q4⟩,q5⟩,q6⟩:=q
 subst q1 q2
 obtain ⟨c1,c2,c3,c4,c5,c6,c7,c8,c9,c10,c11⟩:=cd
 dsimp only at hm q3 q5 q6
 subst hm q3
 obtain ⟨l⟩:=sl
 have e:l=[k0,k1,k2,k3,some (.builtin n),k5]:=hs
 subst e
 exact ⟨_,_,_,_,_,_,_,_,_,_,_,_,_,_,_,_,_,X C' _ ho,.of_isNs (PySem.W.isNs_of_in X q5),PySem.W.nsMap_none_of_in X q5 q6,PySem.W.tail_of_in X q4⟩
noncomputable def wU (C:Addr) (E:XK) (t:TA):TS:=fun _ σ H=>t σ H fun vs H1=>vs.length<=sizeLine/\E (.ref C) none H1
theorem KS {C:Addr}{E:XK}{t:TA}{D:cU}{σ:St}{H:Hp} (k:t σ H fun vs H1=>vs.length<=sizeLine/\E (.ref C) none H1):wU C E t D σ H:=k
noncomputable def JI (X:Cx) (E:XK):Prop:=∀ (pins:List (Addr×Obj)) (σ:St) (H1:Hp) (s1:Shared) (h':Heap) (x C:Addr) (args:List Value),aL X pins σ H1 s1->Heap.MadeExcOf s1.heap h' x (.ref C) args->E (.ref C) none H1->X.xe (.ref x) { s1 with heap:=h' }
theorem GG {X:Cx}{E:XK}{C:Addr}{n:Str}{newId Bn inN:String}{bmN:List Value}{e:Expr}{es:List Expr}{t:TA}{np cpos pos:Pos} (hr:JI X E) (hc:X.calm=true) (hg:Gl X n) (hm:X.mg n=some (.ref C))
  (hx:excIn X.K C wJ newId=true) (Fn:ExcBaseFacts Bn newId inN bmN) (hBn:wJ.contains (.type Bn)=true) (ha:PA X (e::es) t)
  (hd:(n==("__debug__":Str))=false:=by decide) (he:starEach (e::es) X.env=(false,eval e X.env)::starEach es X.env:=by rfl) (hpl:(backTo cpos (starEach es X.env)).any (·.1)=false:=by rfl) :
  PS X (.Raise (some (.Call (.Name n np) (e::es) [] cpos)) none pos) (wU C E t):=by
 intro pins s σ H D I h
 obtain ⟨nm,qn,N,bs,bm,hdct,sn,sub,ab,col,dd,k0,k1,k2,k3,k5,mN,hC,hN,hni,T0⟩:=MY I.mod.kin hx
 have hpl':(backTo cpos (starEach (e::es) X.env)).any (·.1)=false:=by rw [he]; exact hpl
 refine wpAny_Raise_call_subU (C:=C) (nm:=nm) (q:=qn) (N:=N) (bs:=bs) (hdct:=hdct) (sn:=sn) (sub:=sub) (ab:=ab) (col:=col) (dd:=dd) (k0:=k0) (k1:=k1) (k2:=k2) (k3:=k3) (k5:=k5)
  Fn hBn F.excBase_ValueError (T0.hasType (by decide)) (I.ok.hd hc) hpl' hni (mN:=mN) (iS I hg hm ⟨rfl,?_⟩ hd)
 have hs:=ha cpos pins s σ H _ I h
 rw [he] at hs ⊢
 refine Calls.evalArgs_plain (bZ hs fun us s1 ⟨vs,H1,I1,r,q1,q2⟩=>?_)
 exact ⟨rfl,by rw [← r.length]; exact q1,I1.bk C _ hC,hN.keeps I1.bk,T0.keeps I1.bk,fun h' x m=>hr pins σ H1 s1 h' x C us I1 m q2⟩
end
section
structure kR (P:Program) (w:World) (K:Frag) (mg:Str->Option Value) (base:Heap) (k:Nat) (x:Str) (ps:List Str) (dvs:List V) (sp:Sp):Prop where
 ex:∃ (f:Addr) (fd:FuncData),mg x=some (.ref f)/\keepIn K (.ref f)=true/\fN K fd ps []/\(∃ ds,aM dvs ds/\fN K fd ps ds)/\iB P w K mg base (ED P w) k f fd ps sp
section
variable {P:Program} {w:World} {K:Frag} {mg:Str -> Option Value} {base:Heap} {j k:Nat} {x:Str} {st:Stmt} {N ps:List Str} {dvs:List V} {sp:Sp}
theorem kR.mono (o:kR P w K mg base j x ps dvs sp) (h:j<=k):kR P w K mg base k x ps dvs sp:=
 let ⟨f,fd,a,b,c,e,d⟩:=o.ex; ⟨f,fd,a,b,c,e,d.mono h⟩
theorem kR.of (d:Df K mg x st ps) (S:aO N ps (aE st)) (len:∀ vs H Q E,sp vs H Q E->vs.length=ps.length)
  (hbody:∀ (f:Addr) (cdv:Value) (A:Around) (outer:List Env) (s:Shared) (H:Hp) (vs:List V) (Q:VK) (E:XK),dJ k (A.deeper (envOfC x (aE st) s.heap.objs.size f cdv))->sp vs H Q E ->
   ∃ t,tS (lG (ED P w) P w K mg base N x (aE st) f cdv A outer s H E) (aZ st) t/\t { nx:=fun _ H'=>Q .non H',rt:=Q } (hX N vs) H):kR P w K mg base (k+1) x ps [] sp:=by
 obtain ⟨f,fd,⟨oc,od,dV,kV,doc,pm,an,cdv,ct,osl,rfl,lk,hcd⟩,kp,a,b⟩:=d.ex
 exact ⟨f,_,a,kp,b,⟨[],.nil,b⟩,vW lk hcd S len fun A outer s H vs Q E hr hsp=>hbody f cdv A outer s H vs Q E hr hsp⟩
end
section
variable {X:Cx} {k:Nat} {x:Str} {ps:List Str} {dvs:List V} {sp:Sp} {p pos:Pos} {e:Expr} {es:List Expr} {t:TA} {E:XK}
theorem vB (o:kR X.prog X.w X.K X.mg X.base k x ps dvs sp) (hr:dJ k X.A) (hg:Gl X x) (hx:iI (ED X.prog X.w) X E) (ha:PA X (e::es) t) (hdb:(x==("__debug__":Str))=false:=by decide)
  (he:starEach (e::es) X.env=(false,eval e X.env)::starEach es X.env:=by rfl) (hpl:(backTo pos (starEach es X.env)).any (·.1)=false:=by rfl) :
  PE X (.Call (.Name x p) (e::es) [] pos) (zC sp [] E t):=by
 obtain ⟨f,fd,a,b,c,_,d⟩:=o.ex
 exact AH d hr hg a b c .nil hx ha hdb he hpl
end
theorem PS.nox {X:Cx}{st:Stmt}{t:TS} (h:PS X.nox st t):PS X st t:=fun pins s σ H D I hw =>
 wpAny_mono (h pins s σ H D (I.wish _) hw) (fun _ _ q=>q.unwish) fun _ _ z=>False.elim z
structure yV (X:Cx) (pins:List (Addr×Obj)) (H:Hp) (a:Addr):Prop where
 h:H a=none
 s:X.s₀.heap.get? a=none
 l:a≠X.env.locals
 c:∀ n c,X.env.cells.lookup n=some c->c≠a
 p:∀ p∈X.pn++pins,p.1≠a
theorem aL.kpt {X:Cx}{pins:List (Addr×Obj)}{σ:St}{H:Hp}{s:Shared}{xs:List Addr}{h':Heap} (I:aL X pins σ H s) (k:iK (jA X.stack) xs s.heap h') (hx:∀ b∈xs,yV X pins H b):aL X pins σ H { s with heap:=h' }:=by
 have neL:∀ b o,X.s₀.heap.get? b=some o->b≠X.env.locals:=fun b o e=>ne_of_lt (lt_of_lt_of_le (lt_size e) I.ok.above)
 have nX:∀ b o,X.s₀.heap.get? b=some o->b∉xs:=fun b o e z=>by rw [(hx b z).s] at e; cases e
 have nS:∀ b,b≠X.env.locals->b∉X.fs->b∉jA X.stack:=fun b h1 h2 z=>(mem_cons.mp (I.stkSub b z)).elim h1 h2
 have lX:X.env.locals∉xs:=fun z=>(hx _ z).l rfl
 have cX:∀ n c,X.env.cells.lookup n=some c->c∉xs:=fun n c e z=>(hx _ z).c n c e rfl
 have cellK:∀ x c,X.env.cells.lookup x=some c->∀ v,s.heap.IsCell c v->h'.IsCell c v:=fun x c e v ⟨o,ho,hd⟩=>by
  obtain ⟨sl,q⟩:=k.there ho (cX x c e)
  exact ⟨_,q,hd⟩
 refine ⟨I.ok,I.os,I.bare,⟨fun b o e n hb hx=>?_,fun b o e n hb hx=>?_,I.base.free,fun b o e hx=>?_,I.base.tups,I.base.frzs,I.base.tbls⟩,?_,fun x c e=>?_,I.free,I.freeC,fun p hp=>?_,I.hok.kpt k (fun b hb=>I.stkFree b hb) fun b hb=>(hx b hb).h,I.len⟩
 ·exact k.keep b o (I.base.keep b o e n hb hx) (nS b (neL b o e) hb) (nX b o e)
 ·obtain ⟨sl,q⟩:=I.base.slot b o e n hb hx
  obtain ⟨sl',q'⟩:=k.there q (nX b o e)
  exact ⟨sl',q'⟩
 ·obtain ⟨o',q⟩:=I.base.there b o e hx
  obtain ⟨sl',q'⟩:=k.there q (nX b o e)
  exact ⟨_,q'⟩
 ·obtain ⟨m,⟨o,es,ep,ho,r⟩,hl⟩:=I.loc
  obtain ⟨sl,q⟩:=k.there ho lX
  refine ⟨m,⟨_,es,ep,q,r⟩,fun i x v e1 e2 e3=>?_⟩
  obtain ⟨u,rv,l⟩:=hl i x v e1 e2 e3
  refine ⟨u,rv,?_⟩
  rcases l with l|⟨kk,c,e,z⟩
  ·exact .inl l
  ·exact .inr ⟨kk,c,e,cellK x c e _ z⟩
 ·obtain ⟨v,z⟩:=I.cell x c e
  exact ⟨v,cellK x c e v z⟩
 ·obtain ⟨e,n,ne,nf,d⟩:=I.pin p hp
  exact ⟨k.keep p.1 p.2 e (nS _ ne nf) (fun z=>(hx _ z).p p hp rfl),n,ne,nf,d⟩
theorem aL.frsh {X:Cx}{pins:List (Addr×Obj)}{σ:St}{H H':Hp}{s:Shared}{a:Addr} (I:aL X pins σ H s) (hex:X.ex=[]) (e:s.heap.get? a=none) (h:H' a=none):yV X pins H' a where
 h:=h
 s:=by
  have u:Un X.fs [] X.H₀ H X.s₀.heap s.heap:=hex ▸ I.base
  exact u.was e
 l:=fun z=>by
  obtain ⟨m,⟨o,es,ep,ho,r⟩,_⟩:=I.loc
  rw [← z,e] at ho; cases ho
 c:=fun n c q z=>by
  obtain ⟨v,o,ho,hd⟩:=I.cell n c q
  rw [z,e] at ho; cases ho
 p:=fun p hp z=>by
  obtain ⟨q,_⟩:=I.pin p hp
  rw [z,e] at q; cases q
noncomputable def yK (X:Cx) (pins:List (Addr×Obj)) (σ:St) (E:XK) (e:Value) (s':Shared):Prop:=∃ x T C H',e=.ref x/\aL X pins σ H' s'/\JK x T C s'.heap/\yV X pins H' x/\yV X pins H' T/\E (.ref C) none H'
theorem DL {X:Cx}{pins:List (Addr×Obj)}{σ:St}{H:Hp}{s s':Shared}{E:XK}{e:Value} (hex:X.ex=[]) (I:aL X pins σ H s) (h:ED X.prog X.w X.stack H s E e s'):yK X pins σ E e s':=by
 obtain ⟨x,T,C,H',rfl,ho,hg,un,hok,nx,nT,hx,hT,fl,q⟩:=h
 exact ⟨x,T,C,H',rfl,I.call' (ch:=[]) ho un hok hg (fun b z=>absurd z (by simp)),fl,I.frsh hex nx hx,I.frsh hex nT hT,q⟩
noncomputable abbrev VA:=St->Hp->VK->XK->Prop
noncomputable abbrev TX:=cU->XK->St->Hp->Prop
noncomputable def Ba (X:Cx) (e:Expr) (t:VA):Prop:=
 ∀ (pins:List (Addr×Obj)) (s:Shared) (σ:St) (H:Hp) (Q:VK) (E:XK),aL X pins σ H s->t σ H Q E->wpAny (model X.prog X.w) X.A (eval e X.env) (EP X pins σ Q) (yK X pins σ E) s
noncomputable def PX (X:Cx) (st:Stmt) (t:TX):Prop:=
 ∀ (pins:List (Addr×Obj)) (s:Shared) (σ:St) (H:Hp) (D:cU) (E:XK),aL X pins σ H s->t D E σ H->wpAny (model X.prog X.w) X.A (exec st X.env) (SP X pins D) (yK X pins σ E) s
noncomputable def wX (sp:Sp) (dvs:List V) (t:TA):VA:=fun σ H Q E=>t σ H fun vs H1=>sp (vs++dvs) H1 Q E
section
variable {X:Cx} {k:Nat} {f:Addr} {fd:FuncData} {x:Str} {ps:List Str} {dvs:List V} {ds:List Value} {sp:Sp} {p pos:Pos} {e:Expr} {es:List Expr} {t:TA} {E:XK}
theorem LV (F:iB X.prog X.w X.K X.mg X.base (ED X.prog X.w) k f fd ps sp) (hex:X.ex=[]) (hxe:∀ e s,X.xe e s->False) (hr:dJ k X.A) (hg:Gl X x) (hm:X.mg x=some (.ref f)) (hk:keepIn X.K (.ref f)=true) (hb:fN X.K fd ps ds) (hd:aM dvs ds)
  (ha:PA X (e::es) t) (hdb:(x==("__debug__":Str))=false) (he:starEach (e::es) X.env=(false,eval e X.env)::starEach es X.env) (hpl:(backTo pos (starEach es X.env)).any (·.1)=false) :
  Ba X (.Call (.Name x p) (e::es) [] pos) (wX sp dvs t):=by
 intro pins s σ H Q E I h
 refine wpAny_Call_Name_kw (iS I hg hm ?_ hdb)
 refine callWith_K (h₀:=X.base) I.ok.mod.kin hk (wpAny_mono (ha pos pins s σ H _ I h) (fun us s1 ⟨vs,H1,I1,r,q⟩=>⟨I1.kIn,?_⟩) fun e s z=>(hxe e s z).elim) he hpl
 have r2:aM (vs++dvs) (us++ds):=r.append hd
 have hl:(us++ds).length=ps.length:=by rw [← r2.length]; exact F.len _ _ _ _ q
 refine wpAny_call (codeAny_mono (F.run X.A X.stack s1 H1 ⟨us,[]⟩ (us++ds) (vs++dvs) Q E hr I1.env0 (hb s1 us I1.kIn hl) r2 q) fun r s' hq=>?_)
 cases r with
|error e=>exact DL hex I1 hq
|ok fl =>
  cases fl with
 |ret u=>exact I1.after hq
 |next=>exact False.elim hq
 |brk=>exact False.elim hq
 |cont=>exact False.elim hq
theorem GJ (o:kR X.prog X.w X.K X.mg X.base k x ps dvs sp) (hex:X.ex=[]) (hxe:∀ e s,X.xe e s->False) (hr:dJ k X.A) (hg:Gl X x) (ha:PA X (e::es) t) (hdb:(x==("__debug__":Str))=false:=by decide)
  (he:starEach (e::es) X.env=(false,eval e X.env)::starEach es X.env:=by rfl) (hpl:(backTo pos (starEach es X.env)).any (·.1)=false:=by rfl) :
  Ba X (.Call (.Name x p) (e::es) [] pos) (wX sp [] t):=by
 obtain ⟨f,fd,a,b,c,_,d⟩:=o.ex
 exact LV d hex hxe hr hg a b c .nil ha hdb he hpl
end
end
section
section
variable {X:Cx} {e:Expr} {te:VA} {pos:Pos}
end
noncomputable abbrev Cx.hld (X:Cx) (x:Addr):Cx:={ X with A:=X.A.mark (some (.ref x)),calm:=false,xe:=fun _ _=>False }
section
variable {X:Cx} {pins:List (Addr×Obj)} {σ:St} {H:Hp} {s:Shared} {x:Addr}
theorem aL.hld (I:aL X pins σ H s) (x:Addr):aL (X.hld x) pins σ H s:=
 ⟨⟨I.ok.mod,I.ok.kind,I.ok.glob,I.ok.blt,I.ok.above,I.ok.inj,I.ok.has,I.ok.cab,(fun z=>nomatch z),I.ok.frames,I.ok.stk,I.ok.exf,I.ok.bs,I.ok.bsz,I.ok.noex,I.ok.exfs,I.ok.funs,I.ok.frf⟩,I.os,I.bare,I.base,I.loc,I.cell,I.free,I.freeC,I.pin,I.hok,I.len⟩
theorem aL.unhld (hd:X.calm=true->X.A.handled=none) (I:aL (X.hld x) pins σ H s):aL X pins σ H s:=
 ⟨⟨I.ok.mod,I.ok.kind,I.ok.glob,I.ok.blt,I.ok.above,I.ok.inj,I.ok.has,I.ok.cab,hd,I.ok.frames,I.ok.stk,I.ok.exf,I.ok.bs,I.ok.bsz,I.ok.noex,I.ok.exfs,I.ok.funs,I.ok.frf⟩,I.os,I.bare,I.base,I.loc,I.cell,I.free,I.freeC,I.pin,I.hok,I.len⟩
theorem mU {M:Model}{A:Around}{E:Value->Shared->Prop}{i:Nat}{n:Str}{pos:Pos}{Q:Unit->Shared->Prop} (I:aL X pins σ H s) (hN:X.N.Nodup) (hi:X.N[i]?=some n) (hl:X.env.scope.names.lookup n=some .local)
  (h:∀ s',aL X pins (σ.set i none) H s'->Q () s'):wpAny M A (do bindName X.env n .none; unbindBehindTheSuite X.env n pos) Q E s:=by
 obtain ⟨m,hn,hv⟩:=id I.loc
 have hcls:(X.env.scope.kind==.class || (X.env.scope.kind==.module&&X.env.locals !=X.env.globals))=false:=by rw [I.ok.kind]; rfl
 refine wpAny_nameGoes_keeps hl hn hcls fun h' v hn' hs=>h _ ?_
 have old:∀ b o,X.s₀.heap.get? b=some o->b≠X.env.locals:=fun b o e=>ne_of_lt (lt_of_lt_of_le (lt_size e) I.ok.above)
 refine ⟨I.ok,I.os,I.bare,⟨fun b o e n hb hx=>(hs.2 b (old b o e)).trans (I.base.keep b o e n hb hx),fun b o e n hb hx=>?_,I.base.free,fun b o e hx=>?_,I.base.tups,I.base.frzs,I.base.tbls⟩,⟨_,hn',fun j y v' e1 e2 e3=>?_⟩,fun y c e=>?_,I.free,I.freeC,fun p hp=>?_,?_,by simpa using I.len⟩
 ·obtain ⟨sl,e1⟩:=I.base.slot b o e n hb hx
  exact ⟨sl,(hs.2 b (old b o e)).trans e1⟩
 ·obtain ⟨o',e1⟩:=I.base.there b o e hx
  exact ⟨o',(hs.2 b (old b o e)).trans e1⟩
 ·have hj:j≠i:=fun z=>by
   rw [z] at e2
   by_cases hi':i < σ.length
   ·rw [List.getElem?_set_self hi'] at e2; cases e2
   ·rw [List.getElem?_eq_none (by rw [List.length_set]; omega)] at e2; cases e2
  rw [List.getElem?_set_ne (Ne.symm hj)] at e2
  obtain ⟨u',r',q⟩:=hv j y v' e1 e2 e3
  refine ⟨u',r',?_⟩
  rcases q with ⟨k,e⟩|⟨k,c,e,z⟩
  ·refine .inl ⟨k,?_⟩
   have:y≠n:=fun e=>hj (nY hN e1 (e ▸ hi))
   show (if y=n then v else m y)=some u'
   rw [if_neg this]; exact e
  ·exact .inr ⟨k,c,e,z.sameBut hs (I.cne y c e)⟩
 ·obtain ⟨w',z⟩:=I.cell y c e
  exact ⟨w',z.sameBut hs (I.cne y c e)⟩
 ·obtain ⟨e,n,ne,nf,d⟩:=I.pin p hp
  exact ⟨(hs.2 p.1 ne).trans e,n,ne,nf,d⟩
 ·intro b ob e
  refine (I.hok b ob e).stay (fun c w' hc q=>(hs.2 c ?_).trans q) (fun _ q=>q) fun _ _ q=>q
  rintro rfl
  rcases hc with rfl|hc
  ·rw [I.free] at e; cases e
  ·rw [I.free] at hc; cases hc
theorem aL.track {a:Addr}{o:HO} (I:aL X pins σ H s) (fr:yV X pins H a) (new:bC X.prog X.w (upd H a o) s.heap a o):aL X pins σ (upd H a o) s:=by
 refine ⟨I.ok,I.os,I.bare,I.base.track fr.h fr.s,I.loc,I.cell,?_,fun x c e=>?_,fun p hp=>?_,I.hok.track fr.h new,I.len⟩
 ·rw [aI (Ne.symm fr.l)]; exact I.free
 ·rw [aI (fr.c x c e)]; exact I.freeC x c e
 ·obtain ⟨e,n,r⟩:=I.pin p hp
  exact ⟨e,by rw [aI (fr.p p hp)]; exact n,r⟩
end
noncomputable def VL (K:Frag) (CT:Addr) (i:Nat) (tb:TX) (ts:Addr->TS):TS:=fun D σ H=>tb D (fun cv _ H'=>∃ C,cv=.ref C/\exmOne K (.ref C) (.ref CT)=some true /\
 ∀ x,H' x=none->ts x ⟨fun σ' H2=>D.nx (σ'.set i none) H2,D.rt,fun σ' H2=>D.bk (σ'.set i none) H2,fun σ' H2=>D.ct (σ'.set i none) H2⟩ (σ.set i (some (.ref x))) (upd H' x (sY x C))) σ H
section
variable {X:Cx}
theorem SC {CT:Addr}{nc n:Str}{i:Nat}{st s0:Stmt}{suite:List Stmt}{tb:TX}{ts:Addr->TS}{np hp pos:Pos} (hex:X.ex=[]) (hst:X.stack=X.env::X.outer) (hfr:X.env.frame=some X.env.locals)
  (hg:Gl X nc) (hm:X.mg nc=some (.ref CT)) (hN:X.N.Nodup) (hi:X.N[i]?=some n) (hl:X.env.scope.names.lookup n=some .local) (hb:PX X st tb) (hs:∀ x,tS (X.hld x) (s0::suite) (ts x)) (hd:(nc==("__debug__":Str))=false:=by decide) :
  PS X (.Try [st] [.ExceptHandler (some (.Name nc np)) (some n) (s0::suite) hp] [] [] pos) (VL X.K CT i tb ts):=by
 intro pins s σ H D I h
 refine wpAny_Try_except (wpAny_execs_cons (wpAny_mono (hb pins s σ H D _ I h) (fun f s1 q=>?_) fun e s1 q=>?_))
 ·cases f with
 |next=>exact wpAny_execs_nil (wpAny_execs_nil q)
 |ret v=>exact q
 |brk=>exact q
 |cont=>exact q
 ·obtain ⟨x,T,C,H',rfl,I1,fl,fx,fT,C',hC,hm1,q⟩:=q
  cases hC
  have mov:∀ {s2:Shared} {h2:Heap} {T1 T2:Addr},aL X pins σ H' s2->yV X pins H' T1->(T2=T1∨s2.heap.get? T2=none)->iK (jA X.stack) [x,T1] s2.heap h2->aL X pins σ H' { s2 with heap:=h2 }/\yV X pins H' T2:=fun {s2 h2 T1 T2} J f1 z k=>by
   refine ⟨J.kpt k fun b hb=>?_,?_⟩
   ·rcases mem_cons.mp hb with e|e
    ·rw [e]; exact fx
    ·rw [mem_singleton.mp e]; exact f1
   ·rcases z with z|z
    ·rw [z]; exact f1
    ·exact J.frsh hex z (J.hok.none_of z)
  have hfr':X.A.frames=some (X.env::X.outer):=hst ▸ I1.ok.frames
  have hF1:s1.heap.FunFrames X.base (X.env::X.outer):=hst ▸ I1.stack
  refine IF hfr' hfr hF1 fl fun h2 T2 fl2 z2 k2=>?_
  obtain ⟨I2,fT2⟩:=mov I1 fT z2 (hst ▸ k2)
  refine wpAny_handleBy_cons (codeAny_handlers_test (iS (I2.hld x) hg hm ?_ hd)) (by intro q; cases q)
  refine (PySem.W.exm_one I2.kIn (fl2.exR.kitR.ty _) hm1).here ?_
  refine codeAny_handlers_suite_as ?_
  refine DH (l:=X.stack) fl2 fun h3 fl3 k3=>?_
  obtain ⟨I3,_⟩:=mov I2 fT2 (.inl rfl) k3
  have I4:=I3.track fx (MZ (C:=C) fl3.exR)
  refine eZ (v:=.ref x) I4 hN hi (.inl hl) rfl (fun s5 I5=>?_) (.inr hl)
  refine wpAny_mono (hs x pins s5 _ _ _ (I5.hld x) (q x fx.h)) (fun f s6 q6=>?_) fun _ _ z=>z.elim
  cases f with
 |next =>
   obtain ⟨σ',H2,I6,q6⟩:=q6
   exact mU (I6.unhld I.ok.hd) hN hi hl fun s7 I7=>⟨_,H2,I7,q6⟩
 |brk =>
   obtain ⟨σ',H2,I6,q6⟩:=q6
   exact mU (I6.unhld I.ok.hd) hN hi hl fun s7 I7=>⟨_,H2,I7,q6⟩
 |cont =>
   obtain ⟨σ',H2,I6,q6⟩:=q6
   exact mU (I6.unhld I.ok.hd) hN hi hl fun s7 I7=>⟨_,H2,I7,q6⟩
 |ret u =>
   obtain ⟨v,σ',H2,I6,r,q6⟩:=q6
   exact mU (I6.unhld I.ok.hd) hN hi hl fun s7 I7=>⟨v,_,H2,I7,r,q6⟩
end
end
section
section
variable {X:Cx} {e:Expr} {te:VA} {pos:Pos}
noncomputable def VE (te:VA) (i:Nat):TX:=fun D E σ H=>te σ H (fun v H1=>D.nx (σ.set i (some v)) H1) E
theorem SB {i:Nat}{x:Str}{pos':Pos} (hN:X.N.Nodup) (hi:X.N[i]?=some x) (hx:US X.env.scope x) (he:Ba X e te) (hs:swapsWith e (some (.Name x pos')) pos.line X.env=pure false:=by rfl)
  (hf:X.fn x=true∨X.env.scope.names.lookup x=some .local:=by first|exact .inl rfl|exact .inr rfl|assumption):PX X (.Assign [.Name x pos'] e pos) (VE te i):=by
 intro pins s σ H D E I h
 refine wpAny_Assign_Name (bZ (he pins s σ H _ E I h) fun v s1 ⟨y,H1,I1,r1,q1⟩=>?_) hs
 exact eZ I1 hN hi hx r1 (fun s2 I2=>⟨_,H1,I2,q1⟩) hf
end
section
variable {X:Cx}
end
end
section
section
variable {prog:Program} {w:World} {A:Around} {E:Value -> Shared -> Prop} {s:Shared}
end
section
variable {X:Cx} {tg:Expr} {y:Addr}
variable {scope:Scope} {tn names:List Str} {is:List Nat} {elt iter:Expr} {ifs:List Expr} {pos:Pos} {wi:TI} {te:TE} {tc:Option TT} {g:TG}
end
section
variable {te:TE} {Q:VK} {H:Hp} {caps:St} {y:Addr}
end
section
variable {X:Cx} {k:Nat} {x:Str} {ps:List Str} {sp:Addr -> Sp} {p pos:Pos} {e:Expr} {es:List Expr} {t:TA} {y:Addr}
end
end
section
noncomputable def ZO (K:Frag) (C:Addr):Prop:=∃ (newId Bn inN:String) (bmN:List Value),excIn K C wJ newId=true/\ExcBaseFacts Bn newId inN bmN/\wJ.contains (.type Bn)=true
theorem ZO.ve {K:Frag}{C:Addr} (h:excIn K C wJ "ValueError.__new__"=true):ZO K C:=⟨_,_,_,_,h,F.excBase_ValueError,by decide⟩
section
variable {X:Cx}
theorem lC {E:XK}{C:Addr}{n:Str}{e:Expr}{es:List Expr}{t:TA}{np cpos pos:Pos} (hr:JI X E) (hc:X.calm=true) (hg:Gl X n) (hm:X.mg n=some (.ref C)) (hx:ZO X.K C) (ha:PA X (e::es) t)
  (hd:(n==("__debug__":Str))=false:=by decide) (he:starEach (e::es) X.env=(false,eval e X.env)::starEach es X.env:=by rfl) (hpl:(backTo cpos (starEach es X.env)).any (·.1)=false:=by rfl) :
  PS X (.Raise (some (.Call (.Name n np) (e::es) [] cpos)) none pos) (wU C E t):=by
 obtain ⟨newId,Bn,inN,bmN,h1,h2,h3⟩:=hx
 exact GG hr hc hg hm h1 h2 h3 ha hd he hpl
noncomputable def XQ (K:Frag):List V->Hp->VK->Prop:=fun xs H Q=>∃ y C v c b,xs=[.ref y,v]/\H y=some (sY y C)/\mC K C/\aV v c/\kitOne K (.ref C) c=some b/\Q (.bl b) H
theorem oS:cK X (.builtin "isinstance") (XQ X.K):=by
 intro pins s σ H xs us Q I r h
 obtain ⟨y,C,v,c,b,rfl,hy,z,rc,e,q⟩:=h
 obtain ⟨u,u',rfl,ru,rv⟩:=aM.two r
 obtain rfl:u=Value.ref y:=ru
 have ec:u'=c:=by
  cases v with
 |ref a=>exact rv.trans rc.symm
 |ty n=>exact rv.trans rc.symm
 |non=>exact rv.trans rc.symm
 |bl a=>exact rv.trans rc.symm
 |int _=>obtain ⟨t,rfl⟩:=rc; simp [kitOne,kitCls] at e
 |str _=>obtain ⟨t,rfl⟩:=rc; simp [kitOne,kitCls] at e
 |byt _=>obtain ⟨t,rfl⟩:=rc; simp [kitOne,kitCls] at e
 |flt _=>obtain ⟨t,rfl⟩:=rc; simp [kitOne,kitCls] at e
 subst ec
 exact kia_one (HU z) I.kIn (I.hok y _ hy).1.kitR e (by intro q; cases q) fun tk=>⟨.bl b,H,I.tok tk,rfl,q⟩
end
section
variable {K:Frag} {σ:St} {H:Hp} {Q:VK} {D:cU} {E:XK}
theorem gP {y C c:Addr}{b:Bool} (hy:H y=some (sY y C)) (z:mC K C) (e:kitOne K (.ref C) (.ref c)=some b) (k:Q (.bl b) H):XQ K [.ref y,.ref c] H Q:=⟨y,C,_,_,b,rfl,hy,z,rfl,e,k⟩
noncomputable def VG (K:Frag) (CT:Addr) (i:Nat) (ts:Addr->TS) (D:cU) (σ:St):XK:=fun cv _ H'=>∃ C,cv=.ref C/\exmOne K (.ref C) (.ref CT)=some true /\
 ∀ x,H' x=none->ts x ⟨fun σ' H2=>D.nx (σ'.set i none) H2,D.rt,fun σ' H2=>D.bk (σ'.set i none) H2,fun σ' H2=>D.ct (σ'.set i none) H2⟩ (σ.set i (some (.ref x))) (upd H' x (sY x C))
theorem WD {CT:Addr}{i:Nat}{tb:TX}{ts:Addr->TS} (k:tb D (VG K CT i ts D σ) σ H):VL K CT i tb ts D σ H:=k
theorem xI {C CT:Addr}{i:Nat}{ts:Addr->TS}{o:Option Addr} (e:exmOne K (.ref C) (.ref CT)=some true)
  (k:∀ x,H x=none->ts x ⟨fun σ' H2=>D.nx (σ'.set i none) H2,D.rt,fun σ' H2=>D.bk (σ'.set i none) H2,fun σ' H2=>D.ct (σ'.set i none) H2⟩ (σ.set i (some (.ref x))) (upd H x (sY x C))):VG K CT i ts D σ (.ref C) o H:=⟨C,rfl,e,k⟩
theorem QU {te:VA}{i:Nat} (k:te σ H (fun v H1=>D.nx (σ.set i (some v)) H1) E):VE te i D E σ H:=k
theorem LI {sp:Sp}{t:TA} (k:t σ H fun vs H1=>sp vs H1 Q E):wX sp [] t σ H Q E:=by
 have e:(fun (vs:List V) H1=>sp (vs++[]) H1 Q E)=fun vs H1=>sp vs H1 Q E:=by
  funext vs H1
  rw [append_nil]
 show t σ H fun vs H1=>sp (vs++[]) H1 Q E
 rw [e]; exact k
end
end
section
section
variable {σ:St} {H:Hp} {Q:VK} {K:Frag}
noncomputable def Av (p:Addr) (Q:VK) (x1 y1:V) (H4:Hp):Prop:=H4 p=some (.dK [])/\∃ kvs:List (aR×V),[(x1,y1)]=kvs.map (fun kv=>(kV kv.1,kv.2))/\kvs.length<=15/\Q (.ref p) (upd H4 p (.dK (dH [] kvs)))
theorem zT {k1 v1:TE} (k:∀ p,H p=none->k1 σ (upd H p (.dK [])) fun x1 H1=>v1 σ H1 fun y1 H2=>Av p Q x1 y1 H2):OH [(k1,v1)] σ H Q:=k
end
noncomputable abbrev sC:Str:=Str.ofString "c"
noncomputable def n2:List tP:=[(sA,sB,Rat.divInt 1 2),(sB,sC,Rat.divInt 1 3)]
end
section
noncomputable def gK {α:Type} (n:Nat) (us ws:List α):List α:=if us.length=n/\ws.length=1 then us++ws else []
theorem TR {n:Nat}{vs zs:List V}{us ws:List Value} (h1:aM vs us) (h2:aM zs ws):aM (gK n vs zs) (gK n us ws):=by
 unfold gK
 rw [h1.length,h2.length]
 split
 ·exact h1.append h2
 ·exact .nil
structure ZV (K:Frag) (mg:Str->Option Value) (x:Str) (st:Stmt) (ps:List Str) (dvs:List V) (n:Nat) (ks:List Str):Prop where
 ex:∃ (f:Addr) (fd:FuncData),(∃ (oc:Value) (od:Option Addr) (dV kV doc pm:Value) (an:Option Addr) (cdv ct:Value) (osl:Array (Option Value)),
  fd=fnOf x x (bJ st) (aZ st) (aE st) dV kV doc pm an cdv ct/\K.lookup f=some ⟨oc,od,.func fd,osl⟩/\PySem.W.codeIn K cdv x=true)/\keepIn K (.ref f)=true/\mg x=some (.ref f)/\fN K fd ps []/\(∃ ds,aM dvs ds/\fN K fd ps ds)/\tV K fd ps ks (gK n) (gK n)
theorem TW {K:Frag}{mg:Str->Option Value}{h:Heap}{x:Str}{st:Stmt}{ps:List Str}{f T:Addr}{oc:Value}{od an:Option Addr}{osl:Array (Option Value)}{kV doc pm cdv ct:Value}{o:Obj}{items:Array Value}{n:Nat}{dvs:List V}{ds:List Value}{m:Nat}{ks:List Str} (X:K.In h) (G:h.Ns mainGlobals mg)
  (a:nsIn K mainGlobals x=some (some (.ref f))) (l:K.lookup f=some ⟨oc,od,.func (fnOf x x (bJ st) (aZ st) (aE st) (.ref T) kV doc pm an cdv ct),osl⟩)
  (c:PySem.W.codeIn K cdv x=true) (k:keepIn K (.ref f)=true) (t:K.lookup T=some o) (ho:o.data=.seq items n)
  (b:∀ (s:Shared) (us:List Value),s.heap.get? T=some o->us.length=ps.length->BindsTo s (fnOf x x (bJ st) (aZ st) (aE st) (.ref T) kV doc pm an cdv ct) ⟨us,[]⟩ (ps.zip us)) (hv:aM dvs ds)
  (b2:∀ (s:Shared) (us:List Value),s.heap.get? T=some o->(us++ds).length=ps.length->BindsTo s (fnOf x x (bJ st) (aZ st) (aE st) (.ref T) kV doc pm an cdv ct) ⟨us,[]⟩ (ps.zip (us++ds)))
  (hps:ps.length≠0) (b3:∀ (s:Shared) (us ws:List Value),s.heap.get? T=some o->us.length=m->ws.length=1->BindsTo s (fnOf x x (bJ st) (aZ st) (aE st) (.ref T) kV doc pm an cdv ct) ⟨us,ks.zip ws⟩ (ps.zip (us++ws))):ZV K mg x st ps dvs m ks:=
 ⟨f,_,⟨oc,od,.ref T,kV,doc,pm,an,cdv,ct,osl,rfl,l,c⟩,k,mg_of X G a,fun s us KI hl=>by rw [append_nil] at hl ⊢; exact b s us (KI T o t) hl,⟨ds,hv,fun s us KI hl=>b2 s us (KI T o t) hl⟩,fun s us ws KI hl=>by
  unfold gK at hl ⊢
  split
  ·next z=>exact b3 s us ws (KI T o t) z.1 z.2
  ·next z=>rw [if_neg z] at hl; exact absurd hl.symm hps,fun h1 h2=>TR h1 h2⟩
section
variable {X:Cx} {k n:Nat} {x:Str} {ps ks:List Str} {dvs:List V} {sp:Sp} {p pos:Pos} {e:Expr} {es:List Expr} {kws:List Keyword} {t tk:TA}
theorem LJ {σ:St}{H:Hp}{Q:VK}{E:XK}{gV:List V->List V->List V}{ta tb:TA} (k:ta σ H fun vs H1=>tb σ H1 fun zs H2=>sp (gV vs zs) H2 Q E):wY sp gV E ta tb σ H Q:=k
end
theorem FV {s:TS}{D:cU}{σ:St}{H:Hp} (J:St->Hp->Prop) (hJ:∀ σ H,J σ H->D.nx σ H) (k:∀ NX:St->Hp->Prop,(∀ σ H,J σ H->NX σ H)->s ⟨NX,D.rt,D.bk,D.ct⟩ σ H):s D σ H:=k D.nx hJ
section
variable {σ:St} {H:Hp} {Q:VK} {K:Frag}
end
noncomputable def n3:List tP:=[(sA,sB,Rat.divInt 1 2),(sB,sC,Rat.divInt 1 1)]
noncomputable def ts3:List (aR×Rat):=[(Sum.inl 0,Rat.divInt 1 2),(Sum.inl 1,Rat.divInt 1 1)]
noncomputable def Bg:Nat->Option Rat:=fun k=>UL (lst ts3) (Sum.inl (k:Int))
end
section
section
variable {X:Cx}
end
section
variable {H:Hp} {Q:VK} {u v:V} {a b:Option Rat}
end
section
variable {net:List (DU aR)} {a b:aR} {m:Rat} {tk:Nat -> Option Rat} {f:aR -> Option Rat}
end
open Classical in
noncomputable def dst (n:List tP) (a:aR) (m:Rat):aR->Option Rat:=if h:∃ f,ZE (kn n) (UL (lst [(a,m)])) (fun _=>none) f then Classical.choose h else fun _=>none
noncomputable def gd (n:List tP) (s z:Str):Option Rat:=if z∈names n then dst n (Sum.inr s) (Rat.divInt 0 1) (Sum.inr z) else none
noncomputable def ZK (ys:List Str):List (Str×Str):=ys.flatMap fun y=>ys.map fun z=>(y,z)
theorem Pd.app {β:Type}{R:V->β->Prop}:∀ {xs ys:List V}{ds es:List β},Paired R xs ds->Paired R ys es->Paired R (xs++ys) (ds++es)
|_,_,_,_,.nil,h=>h
|_,_,_,_,.cons r t,h=>.cons r (Pd.app t h)
end
section
noncomputable def fW (n:Nat) (acc:Addr) (Pv:Nat->List V->Hp->Prop):Nat->Nat->List V->Hp->Prop:=fun i m ys H1=>m=n - i/\i<=n/\ys.length<=i/\H1 acc=some (.lst ys)/\Pv i ys H1
noncomputable def PZ (n:Nat) (acc:Addr) (Pv:Nat->List V->Hp->Prop) (ys:List V) (i:Nat):VK:=fun y H3=>H3 acc=some (.lst ys)/\∃ m',m' < n - i/\fW n acc Pv (i+1) m' (ys++[y]) (upd H3 acc (.lst (ys++[y])))
noncomputable def AZ (n:Nat) (acc:Addr) (Pv:Nat->List V->Hp->Prop) (ys:List V) (i:Nat) (H3:Hp):Prop:=∃ m',m' < n - i/\fW n acc Pv (i+1) m' ys H3
theorem yG {n:Nat}{acc:Addr}{Pv:Nat->List V->Hp->Prop}{ys:List V}{i:Nat}{y:V}{H3:Hp} (hlt:i < n) (hl:ys.length<=i) (ha:H3 acc=some (.lst ys)) (p:Pv (i+1) (ys++[y]) (upd H3 acc (.lst (ys++[y])))):PZ n acc Pv ys i y H3:=
 ⟨ha,n - (i+1),by omega,rfl,hlt,by rw [length_append]; simp; exact hl,aC,p⟩
theorem yF {n:Nat}{acc:Addr}{Pv:Nat->List V->Hp->Prop}{ys:List V}{i:Nat}{H3:Hp} (hlt:i < n) (hl:ys.length<=i) (ha:H3 acc=some (.lst ys)) (p:Pv (i+1) ys H3):AZ n acc Pv ys i H3:=
 ⟨n - (i+1),by omega,rfl,hlt,by omega,ha,p⟩
section
variable {te:TE} {Q:VK} {H:Hp} {caps:St} {K:Frag}
theorem nN {c:TT}{a:Addr}{xs:List V} (hn:xs.length<=1000) (Pv:Addr->Nat->List V->Hp->Prop) (h0:∀ acc,H acc=none->Pv acc 0 [] (upd H acc (.lst []))) (hl':∀ acc i ys H1,H acc=none->i<=xs.length->Pv acc i ys H1->bS K H1 a xs)
  (hs:∀ acc i ys H1 x,H acc=none->xs[i]?=some x->ys.length<=i->H1 acc=some (.lst ys)->Pv acc i ys H1->c (some x::caps) H1 fun b H3=>if b=true then te (some x::caps) H3 (PZ xs.length acc (Pv acc) ys i) else AZ xs.length acc (Pv acc) ys i H3)
  (hd:∀ acc ys H1,H acc=none->H1 acc=some (.lst ys)->ys.length<=xs.length->Pv acc xs.length ys H1->Q (.ref acc) H1):lO te (some c) (kH 0) (List.replicate 1 none) caps Q (JT K a) H:=by
 intro acc hacc
 refine ⟨fW xs.length acc (Pv acc),⟨xs.length,by simp,zero_le _,le_refl _,aC,h0 acc hacc⟩,?_⟩
 rintro i m ys H1 ⟨rfl,hi,hl,ha,p⟩
 have q:=hl' acc i ys H1 hacc hi p
 refine ⟨ha,?_⟩
 by_cases hlt:i < xs.length
 ·refine .inr ⟨dL (by omega),⟨xs,xs[i],q,by simp [hlt]⟩,fun us x H' hu y=>?_⟩
  obtain ⟨e,y⟩:=y
  subst e
  obtain ⟨o,rfl⟩:=MP hu
  exact ⟨⟨[some x],rfl,rfl⟩,hs acc i ys _ x hacc (y xs q) hl ha p⟩
 ·have e:i=xs.length:=by omega
  subst e
  exact .inl ⟨⟨xs,q,le_refl _⟩,hd acc ys H1 hacc ha hl p⟩
end
section
variable {X:Cx} {tg:Expr}
end
section
variable {σ:St} {H:Hp} {D:cU} {K:Frag}
end
section
variable {X:Cx}
end
section
variable {H:Hp} {Q:VK}
end
end
section
section
variable {net:List (DU aR)} {push:aR -> Option Rat} {tk:Nat -> Option Rat}
end
noncomputable def n4:List tP:=[(sA,sB,Rat.divInt 1 1),(sB,sA,Rat.divInt 1 1)]
section
variable {X:Cx} {scope:Scope} {caps:List (Str×Addr)} {N:List Str} {C:Addr} {s0:Shared} {H0:Hp} {ex:List Addr}
end
section
variable {te:TE} {Q:VK} {H:Hp} {caps:St} {K:Frag} {σ:St}
end
theorem GW {X:Cx}{scope:Scope}{caps:List (Str×Addr)}{N:List Str}{C:Addr}{s0:Shared}{H0:Hp}{ex:List Addr}:gA (cC X scope caps N C s0 H0 ex) (binaryOp .Add) (uU X.K):=aW
noncomputable def n5:List tP:=[(sA,sB,Rat.divInt 1 1)]
end
section
section
variable {H:Hp} {Q:VK} {K:Frag} {σ:St} {D:cU} {v:V}
theorem XA {b t:Addr}{kvs:List (List aR×V)}{k:List aR} (h:H b=some (.dT kvs)) (ht:H t=some (.tup (k.map kV))) (hl:kvs.length<=1000) (q:D.nx σ (upd H b (.dT (cV kvs k v)))):dP D σ v (.ref b) (.ref t) H:=⟨b,_,rfl,tW.t h ht (dL hl),q⟩
theorem LG (k:∀ p,H p=none->Q (.ref p) (upd H p (.dT []))):EK σ H Q:=k
theorem XG {i:Nat}{te:TE}{ti:YX}{x:V} (h:σ[i]?=some (some x)) (k:te σ H fun y H1=>ti x y H1 fun z H2=>D.nx (σ.set i (some z)) H2):VW i te ti D σ H:=⟨x,h,k⟩
theorem WU {f:Int->Int->Int}{i j:Int} (k:Q (.int (f i j)) H):Bp f (.int i) (.int j) H Q:=⟨i,j,rfl,rfl,k⟩
end
end
section
section
variable {X:Cx} {a:Expr} {ta:TE}
noncomputable def VO (ta:TE):TE:=fun σ H Q=>ta σ H fun x H1=>∃ l xs,x=.ref l/\H1 l=some (.lst xs)/\∀ p,H1 p=none->Q (.ref p) (upd H1 p (.lst xs.reverse))
theorem WG {σ:St}{H:Hp}{Q:VK} (k:ta σ H fun x H1=>∃ l xs,x=.ref l/\H1 l=some (.lst xs)/\∀ p,H1 p=none->Q (.ref p) (upd H1 p (.lst xs.reverse))):VO ta σ H Q:=k
end
section
variable {te:TE} {Q:VK} {H:Hp} {caps:St}
end
noncomputable def Bf (Pv:St->Hp->Prop) (μ:St->Hp->Nat) (b:Nat):St->Hp->Prop:=fun σ' H'=>Pv σ' H'/\μ σ' H' < b
theorem JZ {Pv:St->Hp->Prop}{μ:St->Hp->Nat}{b:Nat}{tb:TS}{D:cU}{σ:St}{H1:Hp} (k:tb { D with nx:=Bf Pv μ b,ct:=Bf Pv μ b,bk:=D.nx } σ H1) :
  ∃ N:St->Hp->Prop,(∀ σ' H',N σ' H'->∃ m',m' < b/\m'=μ σ' H'/\Pv σ' H')/\tb { D with nx:=N,ct:=N,bk:=D.nx } σ H1:=⟨_,fun _ _ z=>⟨_,z.2,rfl,z.1⟩,k⟩
theorem mM {c:TT}{tb:TS}{D:cU}{σ:St}{H:Hp} (Pv:St->Hp->Prop) (μ:St->Hp->Nat) (h0:Pv σ H)
  (hs:∀ σ H,Pv σ H->c σ H fun b H1=>if b=true then ∃ N:St->Hp->Prop,(∀ σ' H',N σ' H'->∃ m',m' < μ σ H/\m'=μ σ' H'/\Pv σ' H')/\tb { D with nx:=N,ct:=N,bk:=D.nx } σ H1 else D.nx σ H1):qZ c tb D σ H:=by
 refine ⟨fun m σ H=>m=μ σ H/\Pv σ H,⟨_,rfl,h0⟩,?_⟩
 rintro m σ H ⟨rfl,p⟩
 exact hs σ H p
end
section
theorem eU:∀ {xs:List Int}{us:List Value},aM (xs.map V.int) us->IntsAre us xs
|[],_,.nil=>.nil
|x::xs,_,.cons ⟨t,e⟩ r=>by
  subst e
  exact .cons x t (eU r)
noncomputable def FX:List V->Hp->VK->Prop:=fun vs H Q=>∃ (p:Addr) (xs:List Int),vs=[.ref p]/\H p=some (.lst (xs.map V.int))/\xs.length < 64/\∀ (l:Addr) (ys:List Int),H l=none->ys.Perm xs->ys.Pairwise (·<=·)->Q (.ref l) (upd H l (.lst (ys.map V.int)))
theorem yM {X:Cx}:cK X (.builtin "sorted") FX:=by
 intro pins s σ H vs us Q I r h
 obtain ⟨p,xs,rfl,hp,hl,q⟩:=h
 obtain ⟨u,rfl,ru⟩:=r.one
 cases ru
 obtain ⟨z,its,n,rv,hlen,e⟩:=I.lstM hp
 rw [length_map] at hlen
 refine sorted_ints (vs:=its) ⟨_,e,rfl,n,rfl⟩ (eU rv) (by omega) fun out ys a1 a2 a3=>?_
 have hsz:((s.heap.push (seqObj "list" #[] 0)).update s.heap.objs.size (Obj.mapSeq (·++its.toArray))).objs.size=s.heap.objs.size+1:=by
  rw [size_update,size_push']
 have g0:(((s.heap.push (seqObj "list" #[] 0)).update s.heap.objs.size (Obj.mapSeq (·++its.toArray))).push (seqObj "list" its.toArray 0)).get? (s.heap.objs.size+1)=some (seqObj "list" its.toArray 0):=by
  rw [← hsz]; exact get?_push_size _ rfl
 obtain ⟨e',he⟩:=sortedHeap_at (vs:=its) (out:=out) g0
 have I1:=I.laid (h':=sortedAll s.heap its out) (a:=s.heap.objs.size+1) (o:=.lst (ys.map V.int)) (t':=s.toks) (fun b o eb=>by
  have hb:=lt_size eb
  unfold sortedAll
  rw [sortedHeap_old (ne_of_lt (lt_succ_of_lt hb)) (by rw [size_push',hsz]; exact lt_succ_of_lt (lt_succ_of_lt hb))]
  refine get?_push_of_some _ ?_
  exact (get?_update_other _ _ (Ne.symm (ne_of_lt hb))).trans (get?_push_of_some _ eb)) (le_succ _) ⟨by
  have:=a2.length_eq
  rw [length_map,sizeLine_eq]
  omega,out.toList,e',iL a1,by rw [Array.toArray_toList]; exact he⟩
 exact ⟨.ref (s.heap.objs.size+1),_,I1,rfl,q _ ys (I.hok.fresh (le_succ _)) a2 a3⟩
theorem KP {H:Hp}{Q:VK}{p:Addr}{xs:List Int} (hp:H p=some (.lst (xs.map V.int))) (hl:xs.length < 64) (k:∀ (l:Addr) (ys:List Int) (G:Hp),H l=none->aJ H G->G l=some (.lst (ys.map V.int))->ys.Perm xs->ys.Pairwise (·<=·)->Q (.ref l) G):FX [.ref p] H Q:=
 ⟨p,xs,rfl,hp,hl,fun l ys h1 h2 h3=>k l ys _ h1 (aJ.new h1) aC h2 h3⟩
end
section
theorem FH:typeLookup (.type "list_reverseiterator") "__len__"=pure none:=by rw [typeLookup_type,builtinLookup_eq_fast]; kernel_rfl
theorem KK:typeLookup (.type "list_reverseiterator") "__length_hint__"=pure (some (.builtin "list_reverseiterator.__length_hint__")):=by rw [typeLookup_type,builtinLookup_eq_fast]; kernel_rfl
theorem FG:splitId "list_reverseiterator.__length_hint__"=some ("list_reverseiterator","__length_hint__"):=by decide +kernel
theorem KH:isSubtype (.type "list_reverseiterator") (.type "list_reverseiterator")=pure true:=by rw [isSubtype_type]; kernel_rfl
section
variable {prog:Program} {w:World} {A:Around} {E:Value -> Shared -> Prop} {s:Shared} {r:Addr}
theorem KJ {Q:Bool->Shared->Prop} (hT:s.TypeIs (.ref r) "list_reverseiterator") (h:Q false s):wpAny (model prog w) A (Builtin.List.listLengthHint (.ref r)) Q E s:=by
 unfold Builtin.List.listLengthHint
 refine wpAny_bind (wpAny_specialOf hT FH ?_)
 dsimp only
 rw [if_neg (by decide),if_neg (by decide)]
 refine wpAny_bind (wpAny_specialOf hT KK ?_)
 dsimp only
 rw [FG]
 dsimp only
 refine wpAny_bind (wpAny_isInstance hT KH ?_)
 rw [if_neg (by simp)]
 rw [if_pos (by decide +kernel),if_neg (by decide)]
 exact wpAny_pure h
theorem KL {R:Result->Shared->Prop}{l S:Addr}{items:Array Value}{n:Nat} (hh:A.handled=none) (hit:s.heap.IsRevIter r l ((items.size:Int) - 1)) (hl:s.heap.IsList l items) (hne:l≠r) (hz:items.size<=sizeLine) (hr:S≠r) (hL:S≠l)
  (hS:s.heap.get? S=some { cls:=.type "list",data:=.seq #[] n })
  (k:∀ h' tk acc c,(∀ b o,b≠S->b≠r->s.heap.get? b=some o->h'.get? b=some o)->h'.get? S=some { cls:=.type "list",dict:=none,data:=.seq acc c,slots:=#[] }->ItemsOf (fun i v=>items[items.size - 1 - i]?=some v) acc items.size->R (.ok (.ret .none)) { s with heap:=h',toks:=tk }) :
  wpAny (model prog w) A.in1 (Builtin.List.listExtendWith (.ref S) (.ref r) .none)
   (fun fin s'=>match fin with|.done f=>R (.ok f) s'|.again c'=>c'.quiet=true/\codeAny (model prog w) A c' R s') (fun e s'=>R (.error e) s') s:=by
 have W:=(Walks.listRev (prog:=prog) (w:=w) (A:=A.in1) hh r l hne items).toS
 unfold Builtin.List.listExtendWith
 refine wpAny_bind (wpAny_typeOf hit.typeIs ?_)
 rw [if_neg (by simp [Builtin.List.listSameRef,hr])]
 refine wpAny_bind (wpAny_pyIter_revIter hit ?_)
 refine wpAny_bind (wpAny_holding (KJ hit.typeIs ?_))
 rw [if_neg (by decide +kernel)]
 refine wpAny_pure ⟨plainId_quiet F.plain_extend_loop _,codeAny_extend_loopS W hz S (by simp [hr,hL]) .none items.size 0 _ #[] n rfl (zero_le _) ⟨zero_le _,by simpa using hit,hl⟩ hS (ItemsOf.nil _) fun s' acc c hm hS' hacc=>?_⟩
 rw [Moved.eq_with hm]
 exact k s'.heap s'.toks acc c (fun b o b1 b2 e=>hm.heap b o (by simp [b1,b2]) e) hS' hacc
theorem tI {Q:Value->Shared->Prop}{l:Addr}{items:Array Value} (hh:A.handled=none) (hit:s.heap.IsRevIter r l ((items.size:Int) - 1)) (hl:s.heap.IsList l items) (hne:l≠r) (hz:items.size<=sizeLine)
  (k:∀ h' tk acc c,(∀ b o,b≠r->s.heap.get? b=some o->h'.get? b=some o)->h'.get? s.heap.objs.size=some { cls:=.type "list",dict:=none,data:=.seq acc c,slots:=#[] }->ItemsOf (fun i v=>items[items.size - 1 - i]?=some v) acc items.size->Q (.ref s.heap.objs.size) { s with heap:=h',toks:=tk }) :
  wpAny (model prog w) A (call (.type "list") [.ref r]) Q E s:=by
 obtain ⟨o1,g1,_⟩:=id hit
 obtain ⟨o2,g2,_⟩:=id hl
 have l1:=lt_size g1
 have l2:=lt_size g2
 refine callType_codes (Q₁:=fun obj s₁=>obj=.ref s.heap.objs.size/\s₁={ s with heap:=s.heap.push { cls:=.type "list",data:=.seq #[] } }) F.called_list (F.typeCall_list_1 _) F.entry_list_init (code_list_new _ ⟨rfl,rfl⟩) ?_
 rintro _ _ ⟨rfl,rfl⟩
 have g0:(s.heap.push { cls:=.type "list",data:=.seq #[] }).get? s.heap.objs.size=some { cls:=.type "list",data:=.seq #[] }:=get?_push_size _ rfl
 have kp:∀ b o,s.heap.get? b=some o->(s.heap.push { cls:=.type "list",data:=.seq #[] }).get? b=some o:=fun b o e=>get?_push_of_some _ e
 refine ⟨⟨_,g0,rfl⟩,F.args_list_init_2 _ _,?_⟩
 generalize s.heap.push { cls:=.type "list",data:=.seq #[] }=h0 at g0 kp ⊢
 show wpAny _ _ (Builtin.List.listItems (.ref s.heap.objs.size) >>= fun old=>Builtin.List.listUpdate (.ref s.heap.objs.size) (fun _=>#[]) >>= fun _=>letGo old.toList.reverse >>= fun _=>Builtin.List.listExtendWith (.ref s.heap.objs.size) (.ref r) .none) _ _ _
 refine wpAny_bind ?_
 unfold Builtin.List.listItems
 refine wpAny_bind (wpAny_seqItems g0 rfl (wpAny_pure (wpAny_bind (wpAny_updateSeq g0 rfl (wpAny_bind (wpAny_letGo ?_))))))
 have g1':=get?_update_self (Obj.mapSeq (fun _=>(#[]:Array Value))) g0 rfl
 have kp1:∀ b o,b≠s.heap.objs.size->s.heap.get? b=some o->(h0.update s.heap.objs.size (Obj.mapSeq (fun _=>(#[]:Array Value)))).get? b=some o:=fun b o hb e=>(get?_update_other _ _ (Ne.symm hb)).trans (kp b o e)
 generalize h0.update s.heap.objs.size (Obj.mapSeq (fun _=>(#[]:Array Value)))=h1 at g1' kp1 ⊢
 have n1:s.heap.objs.size≠r:=ne_of_gt l1
 have n2:s.heap.objs.size≠l:=ne_of_gt l2
 refine KL (A:=A.in1) hh (hit.at fun o e=>kp1 _ _ (Ne.symm n1) e) (hl.at fun o e=>kp1 _ _ (Ne.symm n2) e) hne hz n1 n2 g1' fun h' tk acc c hk hD hacc=>?_
 exact ⟨rfl,k h' tk acc c (fun b o hb e=>hk b o (ne_of_lt (lt_size e)) hb (kp1 b o (ne_of_lt (lt_size e)) e)) hD hacc⟩
end
theorem FI {vs:List V}{its:List Value}{acc:Array Value} (r:aM vs its) (h:ItemsOf (fun i v=>its.toArray[its.toArray.size - 1 - i]?=some v) acc its.toArray.size):aM vs.reverse acc.toList:=by
 have e:acc.toList=its.reverse:=by
  apply ext_getElem?
  intro j
  have hs:acc.size=its.length:=by
   have:=h.1
   simpa using this
  by_cases hj:j < acc.size
  ·have z:=h.2 j acc[j] (by simp [hj])
   rw [size_toArray,List.getElem?_toArray] at z
   rw [List.getElem?_reverse (by omega),z]
   simp [hj]
  ·rw [List.getElem?_eq_none (by simp; omega),List.getElem?_eq_none (by simp; omega)]
 rw [e]
 exact r.reverse
theorem LW {X:Cx}{a:Expr}{ta:TE}{p p2 pos pos2:Pos} (hc:X.calm=true) (hgl:Gl X "list") (hml:X.mg "list"=none) (hg:Gl X "reversed") (hm:X.mg "reversed"=none) (ha:PE X a ta)
  (he:starEach [.Call (.Name "reversed" p2) [a] [] pos2] X.env=[(false,eval (.Call (.Name "reversed" p2) [a] [] pos2) X.env)]:=by rfl) (hs:starEach [a] X.env=[(false,eval a X.env)]:=by rfl) :
  PE X (.Call (.Name "list" p) [.Call (.Name "reversed" p2) [a] [] pos2] [] pos) (VO ta):=by
 intro pins s σ H Q I h
 refine wpAny_Call_Name_kw (fV I hgl hml kN ?_ (by decide) (by decide))
 refine PyProof.Rows.callWith_type1 ?_ he rfl
 rw [he]
 show wpAny _ _ (spliced ((false,eval (.Call (.Name "reversed" p2) [a] [] pos2) X.env)::backTo pos [])) _ _ s
 refine Calls.spliced_cons ?_
 refine Call_ (fV I hg hm wI (PyProof.Rows.callWith_type1 ?_ hs rfl))
 rw [hs]
 show wpAny _ _ (spliced ((false,eval a X.env)::backTo pos2 [])) _ _ s
 refine Calls.spliced_cons (bZ (ha pins s σ H _ I h) fun v s1 ⟨x,H1,I1,r1,l,xs,e,hx,q⟩=>?_)
 subst e
 cases r1
 refine Calls.spliced_nil ?_
 obtain ⟨its,r,ht,hz⟩:=I1.list (bS.of hx)
 have hlen:=r.length
 refine call_reversed_list ht.isList ?_
 refine Calls.spliced_nil ?_
 have hll:l < s1.heap.objs.size:=by
  obtain ⟨o,g,_⟩:=ht.isList
  exact lt_size g
 refine tI (I.ok.hd hc) (l:=l) (items:=its.toArray) ⟨_,get?_push_size _ rfl,rfl,rfl⟩ (ht.isList.at fun o e=>get?_push_of_some _ e) (ne_of_lt hll) (by rw [size_toArray]; omega) fun h' tk acc c hk hD hacc=>?_
 have hv:=FI r hacc
 refine ⟨.ref _,_,I1.laid (t':=tk) (a:=(s1.heap.push (revObj l ((its.toArray.size:Int) - 1))).objs.size) (o:=.lst xs.reverse) (fun b o e=>hk b o (ne_of_lt (lt_size e)) (get?_push_of_some _ e)) (by rw [size_push]; exact le_succ _) ?_,rfl,q _ (I1.hok.fresh (by rw [size_push]; exact le_succ _))⟩
 exact ⟨by rw [length_reverse]; exact hz,_,c,hv,by rw [Array.toArray_toList]; exact hD⟩
end
section
noncomputable def eC (S:List Nat) (n k:Nat):Prop:=∃ L:List Nat,(∀ x∈L,x∈S)/\L.sum=n/\L.length=k
noncomputable def iW (S:List Nat) (n:Nat):Option Nat->Prop
|none=>∀ k,¬ eC S n k
|some k=>eC S n k/\∀ j,eC S n j->k<=j
theorem iW.uniq {S:List Nat}{n:Nat}{o p:Option Nat} (h:iW S n o) (g:iW S n p):o=p:=by
 cases o with
|none=>cases p with
 |none=>rfl
 |some k=>exact absurd g.1 (h k)
|some k=>cases p with
 |none=>exact absurd h.1 (g k)
 |some j=>exact congrArg some (Nat.le_antisymm (h.2 _ g.1) (g.2 _ h.1))
theorem oJ {S:List Nat}:iW S 0 (some 0):=⟨⟨[],fun x h=>absurd h (by simp),rfl,rfl⟩,fun _ _=>zero_le _⟩
theorem eC.cons {S:List Nat}{n k s:Nat} (hs:s∈S) (hn:s<=n) (h:eC S (n - s) k):eC S n (k+1):=by
 obtain ⟨L,h1,h2,h3⟩:=h
 refine ⟨s::L,fun x hx=>?_,by rw [sum_cons,h2]; omega,by rw [length_cons,h3]⟩
 rcases mem_cons.mp hx with e|e
 ·rw [e]; exact hs
 ·exact h1 x e
theorem eC.head {S:List Nat}{n k:Nat} (h:eC S n k) (hn:0 < n):∃ s j,s∈S/\s<=n/\k=j+1/\eC S (n - s) j:=by
 obtain ⟨L,h1,h2,h3⟩:=h
 cases L with
|nil=>rw [List.sum_nil] at h2; omega
|cons s L =>
  rw [sum_cons] at h2
  exact ⟨s,L.length,h1 s mem_cons_self,by omega,by rw [← h3]; rfl,L,fun x hx=>h1 x (mem_cons_of_mem _ hx),by omega,rfl⟩
theorem HW {S:List Nat}{n:Nat}{t:Nat->Option Nat} (hn:0 < n) (hS:∀ s∈S,0 < s) (ht:∀ m,m < n->iW S m (t m)) {o:Option Nat}
  (h0:o=none->∀ s∈S,s<=n->t (n - s)=none) (h1:∀ k,o=some k->∃ j,k=j+1/\(∃ s∈S,s<=n/\t (n - s)=some j)/\∀ s∈S,s<=n->∀ i,t (n - s)=some i->j<=i):iW S n o:=by
 cases o with
|none =>
  intro k hk
  obtain ⟨s,j,hs,hl,_,hj⟩:=hk.head hn
  have e:=h0 rfl s hs hl
  have:=ht (n - s) (by have:=hS s hs; omega)
  rw [e] at this
  exact this j hj
|some k =>
  obtain ⟨j,rfl,⟨s,hs,hl,e⟩,hm⟩:=h1 k rfl
  refine ⟨?_,fun i hi=>?_⟩
  ·have:=ht (n - s) (by have:=hS s hs; omega)
   rw [e] at this
   exact this.1.cons hs hl
  ·obtain ⟨s',i',hs',hl',rfl,hi'⟩:=hi.head hn
   have:=ht (n - s') (by have:=hS s' hs'; omega)
   cases e':t (n - s') with
  |none=>rw [e'] at this; exact absurd hi' (this i')
  |some q =>
    rw [e'] at this
    have h2:=hm s' hs' hl' q e'
    have h3:=this.2 i' hi'
    omega
inductive kS (S:List Nat):Nat->List Nat->Prop
|nil:kS S 0 []
|cons {n s k:Nat} {L:List Nat}:s∈S->s<=n->0 < s->iW S n (some (k+1))->iW S (n - s) (some k)->(∀ s'∈S,s'<=n->iW S (n - s') (some k)->s'<=s)->kS S (n - s) L->kS S n (s::L)
theorem kS.uniq {S:List Nat}{n:Nat}{L M:List Nat} (h:kS S n L):kS S n M->L=M:=by
 induction h generalizing M with
|nil =>
  intro g
  cases g with
 |nil=>rfl
 |cons a b c=>omega
|@cons n s k L a b c d e f _ ih =>
  intro g
  cases g with
 |nil=>omega
 |@cons _ s' k' L' a' b' c' d' e' f' g' =>
   have hk:k=k':=by have:=d.uniq d'; cases this; rfl
   subst hk
   have hs:s=s':=Nat.le_antisymm (f' s a b e) (f s' a' b' e')
   subst hs
   rw [ih g']
theorem kS.mem {S:List Nat}{n:Nat}{L:List Nat} (h:kS S n L):∀ x∈L,x∈S:=by
 induction h with
|nil=>intro x hx; nomatch hx
|cons a _ _ _ _ _ _ ih =>
  intro x hx
  rcases mem_cons.mp hx with e|e
  ·rw [e]; exact a
  ·exact ih x e
theorem kS.len {S:List Nat}{n:Nat}{L:List Nat} (h:kS S n L):L.length<=n:=by
 induction h with
|nil=>exact le_refl _
|cons _ b c _ _ _ _ ih=>rw [length_cons]; omega
theorem eC.scale {S:List Nat}{g n k:Nat} (hg:0 < g) (hS:∀ s∈S,g ∣ s):eC (S.map (· / g)) n k ↔ eC S (n * g) k:=by
 constructor
 ·rintro ⟨L,h1,h2,h3⟩
  refine ⟨L.map (· * g),fun x hx=>?_,?_,by rw [length_map,h3]⟩
  ·obtain ⟨y,hy,rfl⟩:=mem_map.mp hx
   obtain ⟨s,hs,rfl⟩:=mem_map.mp (h1 y hy)
   rw [div_mul_cancel (hS s hs)]; exact hs
  ·rw [← h2]
   clear h1 h2 h3
   induction L with
  |nil=>simp
  |cons a L ih=>rw [map_cons,sum_cons,sum_cons,ih,Nat.add_mul]
 ·rintro ⟨L,h1,h2,h3⟩
  have hd:∀ x∈L,g ∣ x:=fun x hx=>hS x (h1 x hx)
  refine ⟨L.map (· / g),fun x hx=>?_,?_,by rw [length_map,h3]⟩
  ·obtain ⟨y,hy,rfl⟩:=mem_map.mp hx
   exact mem_map.mpr ⟨y,h1 y hy,rfl⟩
  ·have:(L.map (· / g)).sum * g=L.sum:=by
    clear h1 h2 h3
    induction L with
   |nil=>simp
   |cons a L ih=>rw [map_cons,sum_cons,sum_cons,Nat.add_mul,ih fun x hx=>hd x (mem_cons_of_mem _ hx),div_mul_cancel (hd a mem_cons_self)]
   rw [h2] at this
   exact Nat.eq_of_mul_eq_mul_right hg this
theorem iW.scale {S:List Nat}{g n:Nat}{o:Option Nat} (hg:0 < g) (hS:∀ s∈S,g ∣ s):iW (S.map (· / g)) n o ↔ iW S (n * g) o:=by
 cases o with
|none=>exact ⟨fun h k hk=>h k ((eC.scale hg hS).mpr hk),fun h k hk=>h k ((eC.scale hg hS).mp hk)⟩
|some k=>exact ⟨fun h=>⟨(eC.scale hg hS).mp h.1,fun j hj=>h.2 j ((eC.scale hg hS).mpr hj)⟩,fun h=>⟨(eC.scale hg hS).mpr h.1,fun j hj=>h.2 j ((eC.scale hg hS).mp hj)⟩⟩
theorem kS.scale {S:List Nat}{g n:Nat}{L:List Nat} (hg:0 < g) (hS:∀ s∈S,g ∣ s) (h:kS (S.map (· / g)) n L):kS S (n * g) (L.map (· * g)):=by
 induction h with
|nil=>rw [zero_mul]; exact .nil
|@cons n s k L a b c d e f _ ih =>
  obtain ⟨s0,hs0,rfl⟩:=mem_map.mp a
  have e0:s0 / g * g=s0:=div_mul_cancel (hS s0 hs0)
  have e1:(n - s0 / g) * g=n * g - s0:=by rw [Nat.sub_mul,e0]
  show kS S (n * g) (s0 / g * g::L.map (· * g))
  refine .cons (k:=k) (by rw [e0]; exact hs0) (by exact Nat.mul_le_mul_right g b) (by exact mul_pos c hg) ((iW.scale hg hS).mp d) ?_ (fun s' hs' hl' h'=>?_) ?_
  ·have:=(iW.scale hg hS).mp e
   rw [e1] at this
   rw [e0]; exact this
  ·have e2:s' / g * g=s':=div_mul_cancel (hS s' hs')
   have h1:s' / g<=n:=by
    have:s' / g * g<=n * g:=by rw [e2]; exact hl'
    exact Nat.le_of_mul_le_mul_right this hg
   have:=f (s' / g) (mem_map.mpr ⟨s',hs',rfl⟩) h1 ((iW.scale hg hS).mpr (by rw [Nat.sub_mul,e2]; exact h'))
   have:=Nat.mul_le_mul_right g this
   rw [e2] at this
   exact this
  ·rw [e0,← e1]; exact ih
theorem iW.perm {S S':List Nat} (h:∀ x,x∈S ↔ x∈S') {n:Nat}{o:Option Nat} (q:iW S n o):iW S' n o:=by
 have e:∀ k,eC S n k ↔ eC S' n k:=fun k=>⟨fun ⟨L,a,b⟩=>⟨L,fun x hx=>(h x).mp (a x hx),b⟩,fun ⟨L,a,b⟩=>⟨L,fun x hx=>(h x).mpr (a x hx),b⟩⟩
 cases o with
|none=>exact fun k hk=>q k ((e k).mpr hk)
|some k=>exact ⟨(e k).mp q.1,fun j hj=>q.2 j ((e j).mpr hj)⟩
theorem kS.perm {S S':List Nat} (h:∀ x,x∈S ↔ x∈S') {n:Nat}{L:List Nat} (q:kS S n L):kS S' n L:=by
 induction q with
|nil=>exact .nil
|cons a b c d e f _ ih=>exact .cons ((h _).mp a) b c (d.perm h) (e.perm h) (fun s' hs' hl' h'=>f s' ((h _).mpr hs') hl' (h'.perm fun x=>(h x).symm)) ih
noncomputable def dI:List Nat->Nat
|[]=>0
|x::xs=>Nat.gcd x (dI xs)
theorem iG:∀ {L:List Nat}{x:Nat},x∈L->dI L ∣ x
|y::L,x,h=>by
  rcases mem_cons.mp h with e|e
  ·rw [e]; exact Nat.gcd_dvd_left ..
  ·exact Nat.dvd_trans (Nat.gcd_dvd_right ..) (iG e)
theorem kF:∀ {L:List Nat}{x:Nat},x∈L->0 < x->0 < dI L
|y::L,x,h,hx=>by
  rcases mem_cons.mp h with e|e
  ·exact Nat.gcd_pos_of_pos_left _ (e ▸ hx)
  ·exact Nat.gcd_pos_of_pos_right _ (kF e hx)
theorem oO (c:Nat):∀ L:List Nat,dI (L.map (· * c))=dI L * c
|[]=>by simp [dI]
|x::L=>by rw [map_cons]; show Nat.gcd (x * c) (dI (L.map (· * c)))=_; rw [oO c L,Nat.gcd_mul_right]; rfl
theorem qN:∀ (L:List Nat) (x:Nat),dI (L++[x])=Nat.gcd (dI L) x
|[],x=>by show Nat.gcd x 0=Nat.gcd 0 x; rw [Nat.gcd_comm]
|y::L,x=>by show Nat.gcd y (dI (L++[x]))=Nat.gcd (Nat.gcd y (dI L)) x; rw [qN L x,Nat.gcd_assoc]
theorem EG {ms ts:List Nat}{u W:Nat} (hu:0 < u) (hW:0 < W) (h:ts.map (· * u)=ms.map (· * W)) (hp:∃ m∈ms,0 < m):ts.map (· / dI ts)=ms.map (· / dI ms):=by
 obtain ⟨m0,hm0,hp⟩:=hp
 have hgm:0 < dI ms:=kF hm0 hp
 have eg:dI ts * u=dI ms * W:=by rw [← oO,← oO,h]
 have hgt:0 < dI ts:=by
  rcases eq_zero_or_pos (dI ts) with z|z
  ·rw [z,zero_mul] at eg
   have:=mul_pos hgm hW
   omega
  ·exact z
 have hl:ts.length=ms.length:=by have:=congrArg List.length h; simpa using this
 apply ext_getElem (by simp [hl])
 intro i h1 h2
 rw [List.getElem_map,List.getElem_map]
 have h1':i < ts.length:=by simpa using h1
 have h2':i < ms.length:=by simpa using h2
 have e:ts[i] * u=ms[i] * W:=by
  have:=congrArg (fun l=>l[i]?) h
  simp only [List.getElem?_map,List.getElem?_eq_getElem h1',List.getElem?_eq_getElem h2',Option.map_some] at this
  exact Option.some.inj this
 have d1:dI ts ∣ ts[i]:=iG (List.getElem_mem h1')
 have d2:dI ms ∣ ms[i]:=iG (List.getElem_mem h2')
 obtain ⟨a,ha⟩:=d1
 obtain ⟨b,hb⟩:=d2
 rw [ha,hb,Nat.mul_div_cancel_left _ hgt,Nat.mul_div_cancel_left _ hgm]
 rw [ha,hb] at e
 have:a * (dI ts * u)=b * (dI ms * W):=by
  rw [← Nat.mul_assoc,← Nat.mul_assoc,mul_comm a,mul_comm b]; exact e
 rw [eg] at this
 exact Nat.eq_of_mul_eq_mul_right (mul_pos hgm hW) this
theorem HQ {x b B:Int} (hx:0 < x) (hb:0 < b) (h1:x ∣ B) (h2:b ∣ B):0 < x.fdiv (Int.gcd x b) * b/\x.fdiv (Int.gcd x b) * b ∣ B/\x ∣ x.fdiv (Int.gcd x b) * b/\b ∣ x.fdiv (Int.gcd x b) * b:=by
 obtain ⟨n,rfl⟩:∃ n:Nat,x=n:=⟨x.toNat,by omega⟩
 obtain ⟨m,rfl⟩:∃ m:Nat,b=m:=⟨b.toNat,by omega⟩
 have hn:0 < n:=by omega
 have hm:0 < m:=by omega
 have e:((n:Int).fdiv (Int.gcd n m)) * (m:Int)=((n.lcm m:Nat):Int):=by
  rw [show Int.gcd (n:Int) (m:Int)=Nat.gcd n m from rfl,show (n:Int).fdiv (Nat.gcd n m:Int)=((n / Nat.gcd n m:Nat):Int) by rw [Int.fdiv_eq_ediv_of_nonneg _ (Int.natCast_nonneg _)]; rfl,← Int.natCast_mul]
  congr 1
  unfold Nat.lcm
  exact Nat.div_mul_right_comm (Nat.gcd_dvd_left n m) m
 rw [e]
 refine ⟨by exact_mod_cast Nat.lcm_pos hn hm,?_,by exact_mod_cast Nat.dvd_lcm_left n m,by exact_mod_cast Nat.dvd_lcm_right n m⟩
 rw [← Int.natAbs_dvd_natAbs] at h1 h2 ⊢
 rw [Int.natAbs_natCast] at h1 h2 ⊢
 exact Nat.lcm_dvd h1 h2
noncomputable def bN (u:Int×Int) (m:Nat):Int×Int:=(dY (u.1 * m) u.2,dO (u.1 * m) u.2)
structure lQ (u:Int×Int):Prop where
 p1:0 < u.1
 p2:0 < u.2
 s1:u.1 < 2 ^ 60
 s2:u.2 < 2 ^ 60
theorem lQ.tm {u:Int×Int} (h:lQ u) (m:Nat):0 < (bN u m).2/\(bN u m).2 ∣ u.2/\(bN u m).1 * u.2=u.1 * m * (bN u m).2/\0<=(bN u m).1/\(bN u m).1<=u.1 * m:=by
 have h2:=h.p2
 have h0:u.2≠0:=by omega
 have e1:=oB (t:=u.1 * m) h0
 have e2:=kB (t:=u.1 * m) h0
 have hb:0 < dO (u.1 * m) u.2:=oC h0
 have hs:0 < sg (u.1 * m) u.2:=by
  unfold sg
  rw [if_neg (by omega)]
  have:=kD (t:=u.1 * m) h0
  omega
 have ht:0<=u.1 * m:=Int.mul_nonneg (Int.le_of_lt h.p1) (Int.natCast_nonneg _)
 have h3:0<=dY (u.1 * m) u.2:=by
  rcases Int.lt_or_le (dY (u.1 * m) u.2) 0 with q|q
  ·have:=Int.mul_neg_of_neg_of_pos q hs
   omega
  ·exact q
 refine ⟨hb,⟨_,e2.symm⟩,?_,h3,?_⟩
 ·show dY (u.1 * m) u.2 * u.2=u.1 * m * dO (u.1 * m) u.2
  calc dY (u.1 * m) u.2 * u.2=dY (u.1 * m) u.2 * (dO (u.1 * m) u.2 * sg (u.1 * m) u.2):=by rw [e2]
   _=dY (u.1 * m) u.2 * sg (u.1 * m) u.2 * dO (u.1 * m) u.2:=by rw [Int.mul_comm (dO _ _),Int.mul_assoc]
   _=_:=by rw [e1]
 ·show dY (u.1 * m) u.2<=u.1 * m
  have:=Int.mul_le_mul_of_nonneg_left (show 1<=sg (u.1 * m) u.2 by omega) h3
  rw [e1] at this
  omega
noncomputable def BU (D:Int) (fs:List (Int×Int)):List Int:=fs.map fun f=>f.1 * D.fdiv f.2
theorem EI {u:Int×Int} (h:lQ u) {D:Int}{m:Nat} (hd:(bN u m).2 ∣ D):(bN u m).1 * D.fdiv (bN u m).2 * u.2=m * (u.1 * D):=by
 obtain ⟨h1,_,h3,_⟩:=h.tm m
 obtain ⟨d,rfl⟩:=hd
 rw [Int.mul_fdiv_cancel_left _ (by omega)]
 calc (bN u m).1 * d * u.2=(bN u m).1 * u.2 * d:=by rw [Int.mul_assoc,Int.mul_comm d,← Int.mul_assoc]
  _=u.1 * m * (bN u m).2 * d:=by rw [h3]
  _=_:=by rw [Int.mul_comm u.1,Int.mul_assoc,Int.mul_assoc]
theorem VI {u:Int×Int} (h:lQ u) {D:Int}{m m':Nat} (hD:0 < D) (hd:(bN u m).2 ∣ D) (hd':(bN u m').2 ∣ D) (hl:(bN u m).1 * D.fdiv (bN u m).2<=(bN u m').1 * D.fdiv (bN u m').2):m<=m':=by
 have e1:=EI h hd
 have e2:=EI h hd'
 have h3:=Int.mul_le_mul_of_nonneg_right hl (Int.le_of_lt h.p2)
 rw [e1,e2] at h3
 have h4:=Int.le_of_mul_le_mul_right h3 (Int.mul_pos h.p1 hD)
 omega
theorem VH {u:Int×Int} (h:lQ u) {D:Int}{m:Nat} (hD:0 < D) (hd:(bN u m).2 ∣ D):0<=(bN u m).1 * D.fdiv (bN u m).2:=by
 obtain ⟨h1,_,h3,h4,_⟩:=h.tm m
 obtain ⟨d,rfl⟩:=hd
 rw [Int.mul_fdiv_cancel_left _ (by omega)]
 have:0 < d:=by
  rcases Int.lt_or_le 0 d with q|q
  ·exact q
  ·have:=Int.mul_nonpos_of_nonneg_of_nonpos (Int.le_of_lt h1) q
   omega
 exact Int.mul_nonneg h4 (Int.le_of_lt this)
theorem EJ {u:Int×Int} (hu:lQ u) {m:Nat} (hm:m<=100000):Sm 100 (bN u m).1:=by
 obtain ⟨a1,a2,a3,a4,a5⟩:=hu.tm m
 refine Sm.of (by omega) ?_
 have h3:=hu.s1
 have h4:u.1 * m<=2 ^ 60 * 100000:=Int.mul_le_mul (Int.le_of_lt h3) (by omega) (by omega) (by decide)
 show (bN u m).1 < ((2 ^ 100:Nat):Int)
 omega
theorem KA {u:Int×Int} (hu:lQ u):bN u 0=(0,1):=by
 have h2:=hu.p2
 have e1:u.1 * ((0:Nat):Int)=0:=by simp
 unfold bN
 rw [e1]
 obtain ⟨a,b⟩:=SX (t:=0) (b:=u.2) (f:=0) (g:=1) (by omega) (by decide) rfl (by simp)
 rw [← a,← b]
end
section
noncomputable def OT:List V->Hp->VK->Prop:=fun vs H Q=>∃ (p:Addr) (xs:List Int),vs=[.ref p]/\H p=some (.lst (xs.map V.int))/\xs≠[]/\∀ m∈xs,(∀ y∈xs,m<=y)->Q (.int m) H
theorem UA {X:Cx} (hc:X.calm=true):cK X (.builtin "min") OT:=by
 intro pins s σ H vs us Q I r h
 obtain ⟨p,xs,rfl,hp,hne,q⟩:=h
 obtain ⟨u,rfl,rx⟩:=nC r
 cases rx
 obtain ⟨its,rl,pl,_⟩:=I.list (bS.of hp)
 have hI:=eU rl
 have hlen:its.length=xs.length:=by rw [← rl.length,length_map]
 have hL:s.heap.IsList p its.toArray:=pl.isList
 have hlt:p < s.heap.objs.size:=by obtain ⟨_,_,e,_⟩:=pl; exact lt_size e
 have hpos:0 < xs.length:=List.length_pos_iff.mpr hne
 have at':∀ i v,its.toArray[i]?=some v->∃ t,v=Value.int (xs.getD i 0) t:=fun i v e=>by
  have e':its[i]?=some v:=by simpa using e
  have hi:i < xs.length:=by rw [← hlen]; exact (List.getElem?_eq_some_iff.mp e').1
  obtain ⟨t,et⟩:=hI.get (i:=i) (n:=xs[i]) (List.getElem?_eq_getElem hi)
  rw [e'] at et
  exact ⟨t,by rw [getD_eq_getElem?_getD,List.getElem?_eq_getElem hi]; exact Option.some.inj et⟩
 refine call_min_walk (wpAny_pyIter_list hL ?_)
 refine ⟨_,[_,p],[_],_,_,_,_,rfl,Walks.list (A:=X.A.in1) (I.ok.hd hc) _ p (ne_of_lt hlt) its.toArray,⟨⟨_,get?_push_size _ rfl,rfl,rfl⟩,hL.push _⟩,fun c hc=>?_,by rw [size_toArray]; omega,CmpOf.ints_lt (fun i=>xs.getD i 0) at',fun v h' tk hP hk=>?_⟩
 ·show c < (s.heap.push _).objs.size
  rw [size_push]
  rcases mem_cons.mp hc with rfl|hc
  ·exact lt_succ_self _
  ·rcases mem_cons.mp hc with rfl|hc
   ·exact lt_succ_of_lt hlt
   ·cases hc
 ·have hold:∀ c o,s.heap.get? c=some o->h'.get? c=some o:=fun c o e=>by
   refine hk c o (fun hm=>?_) (get?_push_of_some _ e)
   rcases mem_cons.mp hm with e1|hm
   ·have:=lt_size e
    rw [e1] at this
    exact lt_irrefl _ this
   ·cases hm
  obtain ⟨t,rfl⟩:=at' _ _ hP
  obtain ⟨b1,b2⟩:=argBest_lt (fun i=>xs.getD i 0) (its.toArray.size - 1)
  rw [size_toArray,hlen] at b1 b2
  rw [size_toArray,hlen]
  have hk':argBest (fun i j=>decide (xs.getD i 0 < xs.getD j 0)) (xs.length - 1) < xs.length:=by omega
  refine ⟨.int _,H,I.kept hold,⟨_,rfl⟩,q _ ?_ fun y hy=>?_⟩
  ·rw [getD_eq_getElem?_getD,List.getElem?_eq_getElem hk']
   exact List.getElem_mem hk'
  ·obtain ⟨j,hj⟩:=List.getElem?_of_mem hy
   have hj':j < xs.length:=(List.getElem?_eq_some_iff.mp hj).1
   have:=b2 j (by omega)
   have ey:xs.getD j 0=y:=by rw [getD_eq_getElem?_getD,hj]; rfl
   rw [ey] at this
   exact this
theorem RF {H:Hp}{Q:VK}{p:Addr}{xs:List Int} (h:H p=some (.lst (xs.map V.int))) (hne:xs≠[]) (k:∀ m∈xs,(∀ y∈xs,m<=y)->Q (.int m) H):OT [.ref p] H Q:=⟨p,xs,rfl,h,hne,k⟩
noncomputable def oV:Option Nat->V
|none=>.non
|some k=>.int k
noncomputable def cE (H:Hp) (v:V) (f:Int×Int):Prop:=∃ q,v=.ref q/\H q=some (.tup [.int f.1,.int f.2])
theorem cE.same {H H':Hp}{v:V}{f:Int×Int} (h:cE H v f) (k:aJ H H'):cE H' v f:=let ⟨q,e,g⟩:=h; ⟨q,e,k _ _ g⟩
theorem xJ {H:Hp}{Q:VK}{i:Int} (k:Q (.bl true) H):FZ (.int i) .non H Q:=⟨rfl,k⟩
theorem YO {H:Hp}{Q:VK}{i:Int} (k:Q (.bl false) H):LO .non (.int i) H Q:=.inl ⟨rfl,by rw [show decide (V.non=V.int i)=false from decide_eq_false (by intro z; cases z)]; exact k⟩
theorem GN {α β:Type}{F:α->β->Prop}:∀ {l:List α}{m:List β},Paired F l m->Paired F l.reverse m.reverse
|_,_,.nil=>.nil
|_,_,.cons r t=>by rw [reverse_cons,reverse_cons]; exact Pd.snoc (GN t) r
noncomputable def UY (fs:List (Int×Int)):List Dt:=fs.map fun f=>.tup [.int f.1,.int f.2]
theorem BG {H:Hp}:∀ {vs:List V}{fs:List (Int×Int)},Paired (cE H) vs fs->iY H (UY fs) vs
|_,_,.nil=>rfl
|_,_,.cons ⟨q,e,h⟩ t=>by subst e; exact ⟨_,_,rfl,ND h,BG t⟩
theorem IS {H:Hp}{l:Addr}{fs:List (Int×Int)} (h:LQ cE H l fs):lH H (.lst (UY fs)) (.ref l):=let ⟨vs,a,b⟩:=h; ⟨l,vs,rfl,a,BG b⟩
theorem AW:∀ fs:List (Int×Int),fJ (UY fs)<=1
|[]=>by decide
|f::fs=>by
  show max (qR (.tup [.int f.1,.int f.2])) (fJ (UY fs))<=1
  have:=AW fs
  have e:qR (.tup [.int f.1,.int f.2])=1:=rfl
  omega
end
section
noncomputable abbrev SZ (q1 q2 q3:Pos):Expr:=.Subscript (.Name "pair" q1) (.Constant (.int 0) 0 q2) q3
noncomputable abbrev SY (q0:Pos):Arguments:={ posonlyargs:=[],args:=[{ arg:="pair",annotation:=none,pos:=q0 }],vararg:=none,kwonlyargs:=[],kw_defaults:=[],kwarg:=none,defaults:=[] }
noncomputable abbrev JO:Scope:={ kind:=.function,names:=[("pair",.local)],isGenerator:=false,isCoroutine:=false,more:=[] }
section
variable {prog:Program} {w:World} {A:Around} {s:Shared}
theorem HS {E:Value->Shared->Prop}{f c r:Addr}{name qual:Str}{pm ct:Value}{q0 q1 q2 q3:Pos}{x y:Value} (hroom:A.depth < recursionLimit) (lim:s.heap.NoLimit)
  (ho:s.heap.get? f=some (kla_obj name qual (SY q0) (SZ q1 q2 q3) JO [] pm c ct)) (hc:s.heap.CodeRec (.ref c) qual) (ht:IsTup s.heap r #[x,y]) :
  wpAny (model prog w) A (call (.ref f) [.ref r]) (fun v s'=>v=x/\∃ h' tk,s'={ s with heap:=h',toks:=tk }/\∀ b o,s.heap.get? b=some o->h'.get? b=some o) E s:=by
 refine wpAny_call (PySem.W.kla_callFunE hroom ho rfl rfl rfl rfl hc ?_)
 rw [show bindArgs (kla_fn name qual (SY q0) (SZ q1 q2 q3) JO [] pm (.ref c) ct) ⟨[.ref r],[]⟩=(pure [("pair",Value.ref r)]:Sem (List (Str×Value))) from rfl]
 refine wpAny_pure (wpAny_newFunctionEnv (show ∀ x∈JO.names,x.2≠NameKind.cell by decide) (fun x hx=>by rw [mem_singleton.mp hx]; rfl) (fun h₁ hns hsb=>?_) rfl)
 have hk:∀ b o,s.heap.get? b=some o->h₁.get? b=some o:=fun b o e=>hsb.extBut b o (ne_of_lt (lt_size e)) (get?_push_of_some _ e)
 refine ⟨lim.keeps hk,PySem.W.kla_codeExpr ?_⟩
 refine Subscript_ (wpAny_Name (wpAny_loadName_local rfl rfl hns rfl ?_) (by decide))
 refine wpAny_Constant_int ?_
 have ht':IsTup h₁ r #[x,y]:=let ⟨o,e,q⟩:=ht; ⟨o,hk _ _ e,q⟩
 refine subscriptTail_builtinR (x:=x) ht'.typeIs slot_tuple_getitem.lookup (getItem_tuple (j:=0) ht' (by decide) (by decide) rfl rfl ⟨rfl,rfl,h₁,_,rfl,hk⟩) rfl
end
noncomputable abbrev ZN (h:Heap) (z TI TO:Addr) (f0:Value) (b:Bool):Prop:=h.get? z=some { cls:=.type "zip",dict:=none,data:=.fields #[f0,.bool b,.bool false,.ref TI,.ref TO],slots:=#[] }
structure yT (h:Heap) (z TI TO i1 i2 l1 l2:Addr) (k:Nat) (xs ys:Array Value):Prop where
 zp:∃ f0 b,ZN h z TI TO f0 b/\((k=0/\f0=.none/\b=false)∨(1<=k/\∃ (T:Addr) (o:Obj),f0=rawInt T/\h.get? T=some o/\T≠z/\T≠TO/\T≠i1/\T≠i2))
 ti:IsPair h TI (.ref i1) (.ref i2)
 to:∃ a b,IsPair h TO a b
 p1:h.IsListIter i1 l1 k
 p2:h.IsListIter i2 l2 k
 q1:h.IsList l1 xs
 q2:h.IsList l2 ys
section
open Sem (wp)
variable {prog:Program} {w:World} {A:Around} {E:Value -> Shared -> Prop} {s:Shared} {z TI TO i1 i2 l1 l2:Addr} {k:Nat} {xs ys:Array Value}
theorem yT.keep {h h':Heap} (Z:yT h z TI TO i1 i2 l1 l2 k xs ys) (kp:∀ b o,h.get? b=some o->h'.get? b=some o):yT h' z TI TO i1 i2 l1 l2 k xs ys:=by
 obtain ⟨⟨f0,b0,gz,hf⟩,gTI,⟨a,b,gTO⟩,g1,g2,t1,t2⟩:=Z
 refine ⟨⟨f0,b0,kp _ _ gz,?_⟩,kp _ _ gTI,⟨a,b,kp _ _ gTO⟩,g1.at fun o e=>kp _ o e,g2.at fun o e=>kp _ o e,t1.at fun o e=>kp _ o e,t2.at fun o e=>kp _ o e⟩
 rcases hf with hf|⟨h1,T,oT,e1,gT,nT⟩
 ·exact .inl hf
 ·exact .inr ⟨h1,T,oT,e1,kp _ _ gT,nT⟩
theorem QF {a:Addr}{o:Obj}{Q:Option Obj->Shared->Prop} (ho:s.heap.get? a=some o) (h:Q (some o) s):wpAny (model prog w) A (loadIfAlive a) Q E s:=fun Γ p _=>by
 show wp _ _ (.loadIfAlive a .pure) _ _ _ _
 rw [Sem.wp_loadIfAlive,ho]
 exact h
theorem tZ {T:Addr}{o:Obj}{b:Bool}{Q:Bool->Shared->Prop} (gz:ZN s.heap z TI TO (rawInt T) b) (gT:s.heap.get? T=some o)
  (k:∀ h',h'.objs.size=s.heap.objs.size->(∀ c o,c≠z->s.heap.get? c=some o->h'.get? c=some o)->ZN h' z TI TO (rawInt T) true->Q false { s with heap:=h' }):wpAny (model prog w) A (Builtin.SmallTypes.ownedTupleIsFree (.ref z)) Q E s:=by
 unfold Builtin.SmallTypes.ownedTupleIsFree
 refine wpAny_bind (wpAny_field gz rfl (x:=rawInt T) rfl ?_)
 show wpAny _ _ (loadIfAlive ((T:Int).toNat) >>= _) _ _ _
 refine wpAny_bind (QF (o:=o) (by rw [Int.toNat_natCast]; exact gT) ?_)
 rw [if_neg (by simp)]
 refine wpAny_bind (wpAny_field gz rfl (x:=.bool b) rfl ?_)
 cases b with
|true =>
  rw [if_neg (by decide)]
  exact wpAny_pure (k _ rfl (fun _ _ _ e=>e) gz)
|false =>
  rw [if_pos (by decide)]
  exact wpAny_bind (wpAny_setField_rec gz (by simp) fun m1 gz1 c1=>wpAny_pure (k m1 c1.1 (fun c o n e=>c1.extBut _ _ n e) gz1))
theorem EE {x y:Value}{Q:Value->Shared->Prop} (D:ZipApart z TI TO i1 i2 l1 l2) (Z:yT s.heap z TI TO i1 i2 l1 l2 k xs ys) (hx:xs[k]?=some x) (hy:ys[k]?=some y)
  (hQ:∀ h',yT h' z TI TO i1 i2 l1 l2 (k+1) xs ys->IsPair h' s.heap.objs.size x y->h'.objs.size=s.heap.objs.size+1 ->
   (∀ c o,c≠z->c≠TO->c≠i1->c≠i2->s.heap.get? c=some o->h'.get? c=some o)->Q (.ref s.heap.objs.size) { s with heap:=h' }) :
  wpAny (model prog w) A (Builtin.«zip.__next__» ⟨[.ref z],[]⟩) (fun fin s'=>∃ v,fin=.done (.ret v)/\Q v s') E s:=by
 obtain ⟨⟨f0,b0,gz,hf⟩,gTI,⟨a,b,gTO⟩,g1,g2,t1,t2⟩:=Z
 have lz:=lt_size gz
 have lTO:=lt_size gTO
 have li1:i1 < s.heap.objs.size:=by obtain ⟨_,e,_⟩:=g1; exact lt_size e
 have li2:i2 < s.heap.objs.size:=by obtain ⟨_,e,_⟩:=g2; exact lt_size e
 have nw:∀ {c:Addr},c < s.heap.objs.size->s.heap.objs.size≠c:=fun h=>ne_of_gt h
 rcases hf with ⟨rfl,rfl,rfl⟩|⟨k1,T,oT,rfl,gT,nT⟩
 ·refine zip_next_item D gz gTI gTO g1 g2 t1 t2 hx hy fun h' a1 a2 a3 a4 a5 a6 a7=>?_
  exact hQ h' ⟨⟨_,_,a1,.inr ⟨le_refl _,_,_,rfl,a5,nw lz,nw lTO,nw li1,nw li2⟩⟩,a7 _ _ D.TIz D.TITO D.TIi1 D.TIi2 gTI,⟨_,_,a2⟩,a3,a4,t1.at fun o e=>a7 _ o D.l1z D.l1TO D.l1i1 D.l1i2 e,t2.at fun o e=>a7 _ o D.l2z D.l2TO D.l2i1 D.l2i2 e⟩ a5 a6 a7
 ·show wpAny _ _ (field (.ref z) 2 >>= _) _ _ _
  refine wpAny_bind (wpAny_field gz rfl (x:=.bool false) rfl ?_)
  show wpAny _ _ (field (.ref z) 3 >>= _) _ _ _
  refine wpAny_bind (wpAny_field gz rfl (x:=.ref TI) rfl ?_)
  refine wpAny_bind (wpAny_seqItems gTI rfl ?_)
  show wpAny _ _ (Builtin.SmallTypes.ownedTupleIsFree (.ref z) >>= _) _ _ _
  refine wpAny_bind (tZ gz gT fun m0 e0 kp0 gz0=>?_)
  rw [if_neg (by decide)]
  simp only [← Array.forIn_toList,forIn_cons,List.forIn_nil]
  refine wpAny_bind (wpAny_bind (wpAny_bind (wpAny_holding ?_)))
  show wpAny _ _ (Builtin.SmallTypes.nextOf (.ref i1) >>= _) _ _ _
  refine wpAny_bind (wpAny_nextOf_list_item (g1.at fun o e=>kp0 _ o D.i1z e) (t1.at fun o e=>kp0 _ o D.l1z e) hx fun m1 g11 c1=>wpAny_pure (wpAny_pure ?_))
  refine wpAny_bind (wpAny_bind (wpAny_holding ?_))
  show wpAny _ _ (Builtin.SmallTypes.nextOf (.ref i2) >>= _) _ _ _
  refine wpAny_bind (wpAny_nextOf_list_item (g2.at fun o e=>c1.extBut _ o D.i12.symm (kp0 _ o D.i2z e)) (t2.at fun o e=>c1.extBut _ o D.l2i1 (kp0 _ o D.l2z e)) hy fun m2 g22 c2=>wpAny_pure (wpAny_pure (wpAny_pure ?_)))
  refine wpAny_bind (wpAny_newTuple (wpAny_pure ⟨_,rfl,?_⟩) (by show 2<=sizeLine; decide))
  have e2:m2.objs.size=s.heap.objs.size:=by rw [c2.1,c1.1,e0]
  have up:∀ c o,c≠z->c≠i1->c≠i2->s.heap.get? c=some o->(m2.push { cls:=.type "tuple",data:=.seq #[x,y] }).get? c=some o:=fun c o n1 n2 n3 e=>get?_push_of_some _ (c2.extBut _ _ n3 (c1.extBut _ _ n2 (kp0 _ _ n1 e)))
  have gp:IsPair (m2.push { cls:=.type "tuple",data:=.seq #[x,y] }) m2.objs.size x y:=get?_push_size _ rfl
  have gz2:ZN (m2.push { cls:=.type "tuple",data:=.seq #[x,y] }) z TI TO (rawInt T) true:=get?_push_of_some _ (c2.extBut _ _ D.i2z.symm (c1.extBut _ _ D.i1z.symm gz0))
  have e3:(m2.push { cls:=.type "tuple",data:=.seq #[x,y] }).objs.size=m2.objs.size+1:=size_push ..
  show Q (.ref m2.objs.size) { s with heap:=m2.push { cls:=.type "tuple",data:=.seq #[x,y] } }
  have r1:(m2.push { cls:=.type "tuple",data:=.seq #[x,y] }).IsListIter i1 l1 (k+1):=g11.at fun o e=>get?_push_of_some _ (c2.extBut _ o D.i12 e)
  have r2:(m2.push { cls:=.type "tuple",data:=.seq #[x,y] }).IsListIter i2 l2 (k+1):=g22.at fun o e=>get?_push_of_some _ e
  generalize m2.push { cls:=.type "tuple",data:=.seq #[x,y] }=m3 at up gp gz2 e3 r1 r2 ⊢
  rw [e2] at gp e3 ⊢
  exact hQ m3 ⟨⟨_,_,gz2,.inr ⟨succ_pos _,T,oT,rfl,up _ _ nT.1 nT.2.2.1 nT.2.2.2 gT,nT⟩⟩,up _ _ D.TIz D.TIi1 D.TIi2 gTI,⟨_,_,up _ _ D.TOz D.TOi1 D.TOi2 gTO⟩,r1,r2,t1.at fun o e=>up _ o D.l1z D.l1i1 D.l1i2 e,t2.at fun o e=>up _ o D.l2z D.l2i1 D.l2i2 e⟩ gp e3 fun c o n1 _ n3 n4 e=>up c o n1 n3 n4 e
theorem JV {Q:PySem.Fin->Shared->Prop} (hh:A.handled=none) (D:ZipApart z TI TO i1 i2 l1 l2) (Z:yT s.heap z TI TO i1 i2 l1 l2 k xs ys) (hx:xs[k]?=none)
  (hE:∀ h' e,(∀ c o,c≠z->c≠TO->c≠i1->c≠i2->s.heap.get? c=some o->h'.get? c=some o)->(∃ o,h'.get? e=some o/\o.cls=.type "StopIteration")->E (.ref e) { s with heap:=h' }) :
  wpAny (model prog w) A (Builtin.«zip.__next__» ⟨[.ref z],[]⟩) Q E s:=by
 obtain ⟨⟨f0,b0,gz,hf⟩,gTI,⟨a,b,gTO⟩,g1,g2,t1,t2⟩:=Z
 rcases hf with ⟨rfl,rfl,rfl⟩|⟨_,T,oT,rfl,gT,nT⟩
 ·exact zip_next_end hh D gz gTI gTO g1 g2 t1 t2 (.inl hx) hE
 show wpAny _ _ (field (.ref z) 2 >>= _) _ _ _
 refine wpAny_bind (wpAny_field gz rfl (x:=.bool false) rfl ?_)
 show wpAny _ _ (field (.ref z) 3 >>= _) _ _ _
 refine wpAny_bind (wpAny_field gz rfl (x:=.ref TI) rfl (wpAny_bind (wpAny_seqItems gTI rfl ?_)))
 show wpAny _ _ (Builtin.SmallTypes.ownedTupleIsFree (.ref z) >>= _) _ _ _
 refine wpAny_bind (tZ gz gT fun m0 e0 kp0 gz0=>?_)
 rw [if_neg (by decide)]
 simp only [← Array.forIn_toList,forIn_cons,List.forIn_nil]
 refine wpAny_bind (wpAny_bind (wpAny_bind (wpAny_holding ?_)))
 show wpAny _ _ (Builtin.SmallTypes.nextOf (.ref i1) >>= _) _ _ _
 refine wpAny_bind (wpAny_nextOf_list_end hh (g1.at fun o e=>kp0 _ o D.i1z e) (t1.at fun o e=>kp0 _ o D.l1z e) hx fun m1 e c1 he=>?_)
 exact hE m1 e (fun c o n1 _ n3 _ x=>c1 _ _ n3 (kp0 _ _ n1 x)) he
theorem vL {x y:Value}{Q:Option Value->Shared->Prop} (D:ZipApart z TI TO i1 i2 l1 l2) (Z:yT s.heap z TI TO i1 i2 l1 l2 k xs ys) (hx:xs[k]?=some x) (hy:ys[k]?=some y)
  (hQ:∀ h',yT h' z TI TO i1 i2 l1 l2 (k+1) xs ys->IsPair h' s.heap.objs.size x y->h'.objs.size=s.heap.objs.size+1 ->
   (∀ c o,c≠z->c≠TO->c≠i1->c≠i2->s.heap.get? c=some o->h'.get? c=some o)->Q (some (.ref s.heap.objs.size)) { s with heap:=h' }) :
  wpAny (model prog w) A (pyNext (.ref z)) Q E s:=by
 have hT:s.TypeIs (.ref z) "zip":=by
  obtain ⟨⟨f0,b0,gz,hf⟩,_⟩:=Z
  exact ⟨_,gz,rfl⟩
 unfold pyNext
 refine wpAny_bind (wpAny_attempt (wpAny_callSpecial?_slot (name:=Str.ofString "__next__") hT F.slot_zip_next (wpAny_call_entry F.slot_zip_next hT F.entry_zip_next ?_ (F.args_zip_next_1 _))))
 exact EE D Z hx hy fun h' a1 a2 a3 a4=>wpAny_pure (hQ h' a1 a2 a3 a4)
theorem xU {Q:Option Value->Shared->Prop} (hh:A.handled=none) (D:ZipApart z TI TO i1 i2 l1 l2) (Z:yT s.heap z TI TO i1 i2 l1 l2 k xs ys) (hx:xs[k]?=none)
  (hQ:∀ h',(∀ c o,c≠z->c≠TO->c≠i1->c≠i2->s.heap.get? c=some o->h'.get? c=some o)->Q none { s with heap:=h' }):wpAny (model prog w) A (pyNext (.ref z)) Q E s:=by
 have hT:s.TypeIs (.ref z) "zip":=by
  obtain ⟨⟨f0,b0,gz,hf⟩,_⟩:=Z
  exact ⟨_,gz,rfl⟩
 unfold pyNext
 refine wpAny_bind (wpAny_attempt (wpAny_callSpecial?_slot (name:=Str.ofString "__next__") hT F.slot_zip_next (wpAny_call_entry F.slot_zip_next hT F.entry_zip_next ?_ (F.args_zip_next_1 _))))
 refine JV hh D Z hx fun h' e kp he=>?_
 obtain ⟨o,ho,hc⟩:=he
 exact wpAny_bind (wpAny_isInstance (T:="StopIteration") (b:=true) ⟨o,ho,hc⟩ isSubtype_stop (wpAny_pure (hQ _ kp)))
noncomputable def BO (xs ys:Array Value) (n0:Nat) (h:Heap) (ts:List Addr):Prop:=ts.Nodup/\∀ (j:Nat) (t:Addr),ts[j]?=some t->n0<=t/\∃ x y,xs[j]?=some x/\ys[j]?=some y/\IsPair h t x y
theorem JW {R:Result->Shared->Prop}{S:Addr}{n0:Nat}{res:Value} (hh:A.handled=none) (D:ZipApart z TI TO i1 i2 l1 l2) (nS:S≠z/\S≠TI/\S≠TO/\S≠i1/\S≠i2/\S≠l1/\S≠l2) (hl:xs.size=ys.size) (hz:xs.size<=1000) (hn0:z < n0/\TO < n0/\i1 < n0/\i2 < n0/\S < n0) :
  ∀ (n i:Nat) (h:Heap) (tk:Nat) (acc:Array Value) (c:Nat) (ts:List Addr),xs.size - i=n->i<=xs.size->n0<=h.objs.size->yT h z TI TO i1 i2 l1 l2 i xs ys->h.get? S=some { cls:=.type "list",dict:=none,data:=.seq acc c,slots:=#[] }->acc.toList=ts.map Value.ref->ts.length=i->BO xs ys n0 h ts ->
   (∀ b o,s.heap.get? b=some o->b≠z->b≠TO->b≠i1->b≠i2->b≠S->h.get? b=some o) ->
   (∀ h' tk' acc' c' ts',h'.get? S=some { cls:=.type "list",dict:=none,data:=.seq acc' c',slots:=#[] }->acc'.toList=ts'.map Value.ref->ts'.length=xs.size->BO xs ys n0 h' ts' ->
    (∀ b o,s.heap.get? b=some o->b≠z->b≠TO->b≠i1->b≠i2->b≠S->h'.get? b=some o)->R (.ok (.ret res)) { s with heap:=h',toks:=tk' }) ->
   codeAny (model prog w) A (.builtin "list.extend.loop" ⟨[.ref S,.ref z,res],[]⟩) R { s with heap:=h,toks:=tk }:=by
 intro n
 induction n with
|zero =>
  intro i h tk acc c ts hn hi hs0 Z hS ha ht hp kp hR
  have:i=xs.size:=by omega
  subst this
  refine codeAny_builtin F.entry_extend_loop ?_
  rw [Around.under_plainId F.plain_extend_loop _]
  show wpAny _ A.in1 (pyNext (.ref z) >>= _) _ _ _
  refine wpAny_bind (xU (by simpa using hh) D Z (by simp) fun h' eb=>?_)
  have up:∀ t,n0<=t->t≠z/\t≠TO/\t≠i1/\t≠i2:=fun t q=>⟨ne_of_gt (lt_of_lt_of_le hn0.1 q),ne_of_gt (lt_of_lt_of_le hn0.2.1 q),ne_of_gt (lt_of_lt_of_le hn0.2.2.1 q),ne_of_gt (lt_of_lt_of_le hn0.2.2.2.1 q)⟩
  refine wpAny_pure (hR h' tk acc c ts (eb _ _ nS.1 nS.2.2.1 nS.2.2.2.1 nS.2.2.2.2.1 hS) ha ht ⟨hp.1,fun j t e=>?_⟩ fun b o e n1 n2 n3 n4 n5=>eb b o n1 n2 n3 n4 (kp b o e n1 n2 n3 n4 n5))
  obtain ⟨q,x,y,e1,e2,e3⟩:=hp.2 j t e
  obtain ⟨u1,u2,u3,u4⟩:=up t q
  exact ⟨q,x,y,e1,e2,eb _ _ u1 u2 u3 u4 e3⟩
|succ n ih =>
  intro i h tk acc c ts hn hi hs0 Z hS ha ht hp kp hR
  have hlt:i < xs.size:=by omega
  refine codeAny_builtin F.entry_extend_loop ?_
  rw [Around.under_plainId F.plain_extend_loop _]
  show wpAny _ A.in1 (pyNext (.ref z) >>= _) _ _ _
  obtain ⟨x,hx⟩:∃ v,xs[i]?=some v:=⟨_,Array.getElem?_eq_getElem hlt⟩
  obtain ⟨y,hy⟩:∃ v,ys[i]?=some v:=⟨_,Array.getElem?_eq_getElem (show i < ys.size by omega)⟩
  refine wpAny_bind (vL D Z hx hy fun h' Z' gp sz' kz=>?_)
  dsimp only at Z' gp sz' kz
  have hS':h'.get? S=_:=kz _ _ nS.1 nS.2.2.1 nS.2.2.2.1 nS.2.2.2.2.1 hS
  have hacc:acc.size=i:=by rw [← Array.length_toList,ha,length_map,ht]
  show wpAny _ A.in1 (updateSeq S (·.push (.ref h.objs.size)) >>= _) _ _ _
  refine wpAny_bind ?_
  have up:∀ t,n0<=t->t≠z/\t≠TO/\t≠i1/\t≠i2/\S≠t:=fun t q=>⟨ne_of_gt (lt_of_lt_of_le hn0.1 q),ne_of_gt (lt_of_lt_of_le hn0.2.1 q),ne_of_gt (lt_of_lt_of_le hn0.2.2.1 q),ne_of_gt (lt_of_lt_of_le hn0.2.2.2.1 q),ne_of_lt (lt_of_lt_of_le hn0.2.2.2.2 q)⟩
  have ndp:(ts++[h.objs.size]).Nodup:=nodup_append.mpr ⟨hp.1,by simp,fun a ha b hb e=>by
   rw [mem_singleton.mp hb] at e
   obtain ⟨j,hj⟩:=List.getElem?_of_mem ha
   obtain ⟨_,_,_,_,_,e3⟩:=hp.2 j a hj
   exact ne_of_lt (lt_size e3) e⟩
  have o2:∀ b o,b≠S->h'.get? b=some o->(h'.update S (Obj.mapSeq (·.push (.ref h.objs.size)))).get? b=some o:=fun b o n e=>(get?_update_other _ _ (Ne.symm n)).trans e
  have Z2:yT (h'.update S (Obj.mapSeq (·.push (.ref h.objs.size)))) z TI TO i1 i2 l1 l2 (i+1) xs ys:=by
   obtain ⟨⟨f0,b0,gz,hf⟩,gTI,⟨a,b,gTO⟩,g1,g2,t1,t2⟩:=Z'
   refine ⟨⟨f0,b0,o2 _ _ nS.1.symm gz,?_⟩,o2 _ _ nS.2.1.symm gTI,⟨a,b,o2 _ _ nS.2.2.1.symm gTO⟩,g1.at fun o e=>o2 _ o nS.2.2.2.1.symm e,g2.at fun o e=>o2 _ o nS.2.2.2.2.1.symm e,t1.at fun o e=>o2 _ o nS.2.2.2.2.2.1.symm e,t2.at fun o e=>o2 _ o nS.2.2.2.2.2.2.symm e⟩
   rcases hf with ⟨h0,_⟩|⟨h1,T,oT,e1,gT,nT⟩
   ·exact absurd h0 (Nat.succ_ne_zero _)
   ·by_cases eT:T=S
    ·subst eT
     exact .inr ⟨h1,T,_,e1,get?_update_self _ hS' rfl,nT⟩
    ·exact .inr ⟨h1,T,oT,e1,o2 _ _ eT gT,nT⟩
  refine wpAny_updateSeq hS' rfl (wpAny_pure ⟨plainId_quiet F.plain_extend_loop _,ih (i+1) _ tk (acc.push (.ref h.objs.size)) _ (ts++[h.objs.size]) (by omega) hlt (by rw [size_update,sz']; omega) Z2 (get?_update_self _ hS' rfl) (by rw [Array.toList_push,ha,map_append]; rfl) (by simp [ht]) ⟨ndp,fun j t e=>?_⟩ (fun b o e n1 n2 n3 n4 n5=>o2 _ _ n5 (kz b o n1 n2 n3 n4 (kp b o e n1 n2 n3 n4 n5))) hR⟩)
   (by rw [hacc,sizeLine_eq]; omega) (by show (acc.push (.ref h.objs.size)).size<=sizeLine+1; rw [Array.size_push,hacc,sizeLine_eq]; omega)
  rcases lt_or_ge j ts.length with hj|hj
  ·rw [List.getElem?_append_left hj] at e
   obtain ⟨q,x',y',e1,e2,e3⟩:=hp.2 j t e
   obtain ⟨u1,u2,u3,u4,u5⟩:=up t q
   exact ⟨q,x',y',e1,e2,o2 _ _ u5.symm (kz _ _ u1 u2 u3 u4 e3)⟩
  ·rw [List.getElem?_append_right hj] at e
   have hj0:j - ts.length=0:=by
    rcases eq_zero_or_pos (j - ts.length) with z0|z0
    ·exact z0
    ·rw [List.getElem?_eq_none (by simp only [length_singleton]; exact z0)] at e; cases e
   rw [hj0] at e
   cases e
   have:j=i:=by omega
   subst this
   exact ⟨hs0,x,y,hx,hy,o2 _ _ (up _ hs0).2.2.2.2.symm gp⟩
theorem wM:typeLookup (.type "zip") "__len__"=pure none:=by rw [typeLookup_type,builtinLookup_eq_fast]; kernel_rfl
theorem tY:typeLookup (.type "zip") "__length_hint__"=pure none:=by rw [typeLookup_type,builtinLookup_eq_fast]; kernel_rfl
theorem wF {Q:List Value->Shared->Prop} (hh:A.handled=none) (D:ZipApart z TI TO i1 i2 l1 l2) (Z:yT s.heap z TI TO i1 i2 l1 l2 0 xs ys) (hl:xs.size=ys.size) (hz:xs.size<=1000)
  (h:∀ h' tk ts,s.heap.objs.size<=h'.objs.size->ts.length=xs.size->BO xs ys s.heap.objs.size h' ts->(∀ b o,s.heap.get? b=some o->b≠z->b≠TO->b≠i1->b≠i2->h'.get? b=some o)->Q (ts.map Value.ref) { s with heap:=h',toks:=tk }) :
  wpAny (model prog w) A (collect (.ref z)) Q E s:=by
 unfold collect
 refine wpAny_bind (wpAny_runValue (codeAny_builtin F.entry_proto_collect ?_))
 rw [Around.under_plainId F.plain_proto_collect _]
 show wpAny _ A.in1 (newList [] >>= fun l=>again (.builtin "list.__iadd__" ⟨[l,.ref z],[]⟩)) _ _ s
 refine wpAny_bind (wpAny_newObj_type ?_)
 refine wpAny_pure ⟨plainId_quiet F.plain_list_iadd _,codeAny_builtin F.entry_list_iadd ?_⟩
 rw [Around.under_plainId F.plain_list_iadd _]
 have kp0:∀ b o,s.heap.get? b=some o->(s.heap.push { cls:=.type "list",data:=.seq ([]:List Value).toArray }).get? b=some o:=fun b o e=>get?_push_of_some _ e
 have hS₁:(s.heap.push { cls:=.type "list",data:=.seq ([]:List Value).toArray }).get? s.heap.objs.size=some { cls:=.type "list",data:=.seq ([]:List Value).toArray }:=get?_push_size _ rfl
 have sz1:(s.heap.push { cls:=.type "list",data:=.seq ([]:List Value).toArray }).objs.size=s.heap.objs.size+1:=size_push ..
 have Z1:=Z.keep kp0
 have lt:∀ {c:Addr} {o:Obj},s.heap.get? c=some o->s.heap.objs.size≠c:=fun e=>ne_of_gt (lt_size e)
 obtain ⟨⟨f0,b0,gz,hf⟩,gTI,⟨a,b,gTO⟩,⟨o1,e1,r1⟩,⟨o2,e2,r2⟩,⟨o3,e3,r3⟩,⟨o4,e4,r4⟩⟩:=id Z
 have h1:Builtin.List.listSameRef (.ref s.heap.objs.size) (.ref z)=false:=by simp [Builtin.List.listSameRef,lt gz]
 have hT:Shared.TypeIs { s with heap:=s.heap.push { cls:=.type "list",data:=.seq ([]:List Value).toArray } } (.ref z) "zip":=⟨_,kp0 _ _ gz,rfl⟩
 show wpAny _ A.in1 (Builtin.List.listExtendWith (.ref s.heap.objs.size) (.ref z) (.ref s.heap.objs.size)) _ _ _
 unfold Builtin.List.listExtendWith
 refine wpAny_bind (wpAny_typeOf hT ?_)
 rw [if_neg (by rw [h1]; decide)]
 refine wpAny_bind (wpAny_pyIter_slot hT F.slot_zip_iter (wpAny_call_entry F.slot_zip_iter hT F.entry_zip_iter (show wpAny _ _ (ret (.ref z)) _ _ _ from wpAny_pure ⟨_,rfl,"zip",_,hT,F.slot_zip_next.lookup,?_⟩) (F.args_zip_iter_1 _)))
 refine wpAny_bind (wpAny_holding ?_)
 unfold Builtin.List.listLengthHint
 refine wpAny_bind (wpAny_specialOf hT wM ?_)
 show wpAny _ A.in1 (specialOf (Value.ref z) (Str.ofString "__length_hint__") >>= _) _ _ _
 refine wpAny_bind (wpAny_specialOf hT tY ?_)
 refine wpAny_pure ?_
 show wpAny _ A.in1 (rule "list.extend.makes-room" >>= fun _=>Builtin.List.listTouch (.ref s.heap.objs.size) >>= fun _ =>
  again (.builtin "list.extend.loop" ⟨[.ref s.heap.objs.size,.ref z,.ref s.heap.objs.size],[]⟩)) _ _ _
 refine wpAny_bind (wpAny_rule (wpAny_bind ?_))
 show wpAny _ A.in1 (updateSeq s.heap.objs.size (·.push .none) >>= fun _=>updateSeq s.heap.objs.size (·.pop)) _ _ _
 refine wpAny_bind (wpAny_updateSeq hS₁ rfl ?_)
 have hS₂:=get?_update_self (Obj.mapSeq (·.push Value.none)) hS₁ rfl
 refine wpAny_updateSeq hS₂ rfl ?_
 have hS₃:=get?_update_self (Obj.mapSeq (·.pop)) hS₂ rfl
 have oth:∀ b o,s.heap.get? b=some o ->
   (((s.heap.push { cls:=.type "list",data:=.seq ([]:List Value).toArray }).update s.heap.objs.size (Obj.mapSeq (·.push Value.none))).update s.heap.objs.size (Obj.mapSeq (·.pop))).get? b=some o:=
  fun b o e=>(get?_update_other _ _ (lt e)).trans ((get?_update_other _ _ (lt e)).trans (kp0 _ _ e))
 have sz3:(((s.heap.push { cls:=.type "list",data:=.seq ([]:List Value).toArray }).update s.heap.objs.size (Obj.mapSeq (·.push Value.none))).update s.heap.objs.size (Obj.mapSeq (·.pop))).objs.size=s.heap.objs.size+1:=by rw [size_update,size_update,sz1]
 refine wpAny_pure ⟨plainId_quiet F.plain_extend_loop _,?_⟩
 refine JW (A:=A) (s:=s) (S:=s.heap.objs.size) (n0:=s.heap.objs.size+1) (by simpa using hh) D ⟨lt gz,lt gTI,lt gTO,lt e1,lt e2,lt e3,lt e4⟩ hl hz ⟨lt_succ_of_lt (lt_size gz),lt_succ_of_lt (lt_size gTO),lt_succ_of_lt (lt_size e1),lt_succ_of_lt (lt_size e2),lt_succ_self _⟩ xs.size 0 _ s.toks #[] _ [] rfl (zero_le _) (by rw [sz3]; exact le_refl _) (Z.keep oth) hS₃ rfl rfl ⟨nodup_nil,fun j t e=>by simp at e⟩ (fun b o e _ _ _ _ _=>oth _ _ e) fun h' tk' acc' c' ts' g1 g2 g3 g4 g5=>?_
 show wpAny _ A (load s.heap.objs.size >>= _) _ _ _
 refine wpAny_bind (wpAny_load g1 ?_)
 refine wpAny_pure ?_
 rw [g2]
 exact h h' tk' ts' (le_of_lt (lt_size g1)) g3 ⟨g4.1,fun j t e=>let ⟨q,r⟩:=g4.2 j t e; ⟨Nat.le_of_succ_le q,r⟩⟩ fun b o e n1 n2 n3 n4=>g5 b o e n1 n2 n3 n4 (ne_of_lt (lt_size e))
end
section
variable {prog:Program} {w:World} {A:Around} {E:Value -> Shared -> Prop} {s:Shared} {z TI TO i1 i2 l1 l2:Addr} {xs ys:Array Value}
theorem xB {Q:Value->Shared->Prop}{f c L:Addr}{m:Str->Option Value}{name qual:Str}{pm ct:Value}{q0 q1 q2 q3:Pos}{kz:List Int} (hh:A.handled=none) (hroom:A.depth < recursionLimit)
  (lim:∀ h:Heap,(∀ b o,s.heap.get? b=some o->b≠L->b≠z->b≠TO->b≠i1->b≠i2->h.get? b=some o)->h.NoLimit) (hL:s.heap.Ns L m) (nL:L≠z/\L≠TO/\L≠i1/\L≠i2)
  (ho:s.heap.get? f=some (kla_obj name qual (SY q0) (SZ q1 q2 q3) JO [] pm c ct)) (hc:s.heap.CodeRec (.ref c) qual) (nf:f≠L/\f≠z/\f≠TO/\f≠i1/\f≠i2) (nc:c≠L/\c≠z/\c≠TO/\c≠i1/\c≠i2)
  (D:ZipApart z TI TO i1 i2 l1 l2) (Z:yT s.heap z TI TO i1 i2 l1 l2 0 xs ys) (hl:xs.size=ys.size) (h64:xs.size < 64) (hk:IntsAre xs.toList kz)
  (h:∀ R h' tk out c' ts ps,s.heap.objs.size<=R->h'.Ns L m->h'.get? R=some (seqObj "list" out c')->ts.length=xs.size->BO xs ys s.heap.objs.size h' ts->(ps:List (Int×Value)).Perm (kz.zip (ts.map Value.ref))->out.toList=ps.map Prod.snd->ps.Pairwise (fun p q=>p.1<=q.1)->(∀ t∈ts,t≠R) ->
   (∀ b o,s.heap.get? b=some o->b≠L->b≠z->b≠TO->b≠i1->b≠i2->h'.get? b=some o)->Q (.ref R) { s with heap:=h',toks:=tk }) :
  wpAny (model prog w) A (call (.builtin "sorted") [.ref z] [(Str.ofString "key",.ref f)]) Q E s:=by
 refine call_function_entry_kw kind_sorted plain_sorted entry_sorted (ksk_s1 _ _) ?_
 unfold Builtin.«sorted»
 refine wpAny_bind (m:=checkCount "sorted" 1 1 _) (wpAny_pure ?_)
 refine wpAny_bind (wF (by simpa using hh) D Z hl (by omega) fun h1 tk1 ts ge1 hts hp kp=>?_)
 have hsz:(ts.map Value.ref).length=xs.size:=by rw [length_map,hts]
 refine wpAny_bind (wpAny_newList ?_ (by rw [hsz,sizeLine_eq]; omega))
 have hoL:(h1.push (seqObj "list" (ts.map Value.ref).toArray 0)).get? h1.objs.size=some (seqObj "list" (ts.map Value.ref).toArray 0):=get?_push_size _ rfl
 have kp1:∀ b o,h1.get? b=some o->(h1.push (seqObj "list" (ts.map Value.ref).toArray 0)).get? b=some o:=fun b o e=>get?_push_of_some _ e
 have hL1:h1.Ns L m:=let ⟨o,es,ep,e,r⟩:=hL; ⟨o,es,ep,kp _ _ e nL.1 nL.2.1 nL.2.2.1 nL.2.2.2,r⟩
 have lt1:∀ {b:Addr} {o:Obj},h1.get? b=some o->b≠h1.objs.size:=fun e=>ne_of_lt (lt_size e)
 show wpAny _ _ _ _ _ { s with heap:=h1.push (seqObj "list" (ts.map Value.ref).toArray 0),toks:=tk1 }
 refine wpAny_bind (wpAny_holding (wpAny_call_entry_kw slot_list_sort ⟨_,hoL,rfl⟩ entry_list_sort ?body (ksk_l1 _ _)))
 case body =>
  show wpAny (model prog w) A.in1.in1 (Builtin.«list.sort» ⟨[.ref h1.objs.size],[(Str.ofString "key",.ref f)]⟩) _ _ _
  rw [ksk_t1]
  have N1:News (Att.noObjs s.heap) L (h1.push (seqObj "list" (ts.map Value.ref).toArray 0)) (Att.ledger h1 L L):=fun ⟨b,o⟩ hb=>by
   obtain ⟨n1,_,e⟩:=Att.mem_ledger.mp hb
   exact ⟨kp1 _ _ e,n1,Att.noObjs_get _ _⟩
  have F1:Fr (Att.noObjs s.heap) L (h1.push (seqObj "list" (ts.map Value.ref).toArray 0)) m:=⟨let ⟨o,es,ep,e,r⟩:=hL1; ⟨o,es,ep,kp1 _ _ e,r⟩,fun b o e=>(by rw [Att.noObjs_get] at e; cases e),zero_le _⟩
  have ofN:∀ {h:Heap} {own:List (Addr×Obj)},News (Att.noObjs s.heap) L h (Att.ledger h1 L L++own)->∀ b o,h1.get? b=some o->b≠L->h.get? b=some o:=fun N b o e n=>(N (b,o) (mem_append_left _ (Att.mem_ledger.mpr ⟨n,n,e⟩))).1
  refine ksk_sort (s:={ s with heap:=h1.push (seqObj "list" (ts.map Value.ref).toArray 0),toks:=tk1 }) (h₀:=Att.noObjs s.heap) (L:=L) (m:=m) (news:=Att.ledger h1 L L) (kz:=kz) (b:=false) F1 N1 hoL (Ne.symm (lt1 hL1.choose_spec.choose_spec.choose_spec.1)) (Att.noObjs_get _ _) (fun ⟨b,o⟩ hb=>lt1 (Att.mem_ledger.mp hb).2.2) (by rw [hsz,← hk.length,Array.length_toList]) (by rw [hsz]; exact h64) ?turn fun h' tk out c' F' N' k'=>⟨_,rfl,?_⟩
  case turn =>
   intro i v kk hv hkk g tk own Fg Ng
   have hg:=ofN Ng
   rw [List.getElem?_map] at hv
   obtain ⟨t,ht,rfl⟩:=Option.map_eq_some_iff.mp hv
   obtain ⟨gt,x,y,ex,ey,ep⟩:=hp.2 i t ht
   have tL:t≠L:=ne_of_gt (lt_of_lt_of_le hL.lt gt)
   obtain ⟨tt,rfl⟩:∃ tt,x=.int kk tt:=by
    have:=hk.get (i:=i) (n:=kk) hkk
    obtain ⟨tt,e⟩:=this
    rw [← Array.getElem?_toList] at ex
    rw [ex] at e
    exact ⟨tt,Option.some.inj e⟩
   have kpg:∀ b o,s.heap.get? b=some o->b≠L->b≠z->b≠TO->b≠i1->b≠i2->g.get? b=some o:=fun b o e n1 n2 n3 n4 n5=>hg _ _ (kp _ _ e n2 n3 n4 n5) n1
   have hc':g.CodeRec (.ref c) qual:=let ⟨c0,o,vs,tt,e0,e1,e2⟩:=hc; ⟨c0,o,vs,tt,e0,(by cases e0; exact kpg _ _ e1 nc.1 nc.2.1 nc.2.2.1 nc.2.2.2.1 nc.2.2.2.2),e2⟩
   refine wpAny_mono (HS (A:=A.in1.in1) (s:={ s with heap:=g,toks:=tk }) (E:=fun _ _=>False) hroom (lim g kpg) (kpg _ _ ho nf.1 nf.2.1 nf.2.2.1 nf.2.2.2.1 nf.2.2.2.2) hc' (⟨_,hg _ _ ep tL,rfl,_,rfl⟩:IsTup g t #[.int kk tt,y])) (fun v s' hq=>?_) fun _ _ q=>q
   obtain ⟨rfl,h',tk',rfl,kk'⟩:=hq
   exact ⟨h',tk',tt,rfl,rfl,Fg.kept kk',Ng.grown kk'⟩
  ·obtain ⟨ps,p1,p2,p3⟩:=k'
   have hg:∀ b o,h1.get? b=some o->b≠L->h'.get? b=some o:=fun b o e n=>(N' (b,o) (mem_cons_of_mem _ (Att.mem_ledger.mpr ⟨n,n,e⟩))).1
   refine wpAny_pure ⟨_,rfl,h _ h' tk out c' ts ps ge1 F'.ns (N' _ mem_cons_self).1 hts ⟨hp.1,fun j t e=>?_⟩ p1 p2 (by simpa using p3) (fun t ht=>?_) fun b o e n1 n2 n3 n4 n5=>hg _ _ (kp _ _ e n2 n3 n4 n5) n1⟩
   ·obtain ⟨gt,x,y,ex,ey,ep⟩:=hp.2 j t e
    exact ⟨gt,x,y,ex,ey,hg _ _ ep (ne_of_gt (lt_of_lt_of_le hL.lt gt))⟩
   ·obtain ⟨j,hj⟩:=List.getElem?_of_mem ht
    obtain ⟨gt,x,y,ex,ey,ep⟩:=hp.2 j t hj
    exact lt1 ep
end
noncomputable def yX (c:Addr) (qual:Str):HO:=.ext fun h=>h.CodeRec (.ref c) qual
theorem NK {P:Program}{w:World}{H:Hp}{h:Heap}{c:Addr}{qual:Str} (k:h.CodeRec (.ref c) qual):bC P w H h c (yX c qual):=
 ⟨k,(let ⟨_,o,_,_,e0,e1,_⟩:=k; ⟨o,by cases e0; exact e1⟩),fun _ _ ⟨c0,o,vs,t,e0,e1,e2⟩ kp=>⟨c0,o,vs,t,e0,by cases e0; exact kp _ e1,e2⟩⟩
noncomputable def JL (pos:Pos) (c:Addr):Array Value:=#[rawInt pos.line,rawInt pos.col,.ref c]
noncomputable def cQ (T:Addr) (pos:Pos) (qual:Str) (H:Hp):Prop:=H T=some (.tbl #[])∨∃ c,H T=some (.tbl (JL pos c))/\H c=some (yX c qual)
theorem cQ.same {T:Addr}{pos:Pos}{qual:Str}{H H':Hp} (t:cQ T pos qual H) (s:aJ H H'):cQ T pos qual H':=by
 rcases t with t|⟨c,t,u⟩
 ·exact .inl (s _ _ t)
 ·exact .inr ⟨c,s _ _ t,s _ _ u⟩
noncomputable def pN (mg:Str->Option Value) (h:Heap):Prop:=∃ bm o,mg "__builtins__"=some (.ref bm)/\bm≠builtinsNs/\bm≠mainGlobals/\h.get? bm=some o/\o.cls=.type "module"/\o.dict=some builtinsNs/\o.data=.plain
structure ZD (T:Addr) (lp q0 q1 q2 q3:Pos) (qual:Str) (H:Hp) (g h:Heap) (f c:Addr):Prop where
 kp:∀ b o,g.get? b=some o->b≠T->h.get? b=some o
 tb:h.get? T=some (tabObj (JL lp c))
 fn:∃ pm ct,h.get? f=some (kla_obj "<lambda>" qual (SY q0) (SZ q1 q2 q3) JO [] pm c ct)
 cd:h.CodeRec (.ref c) qual
 fge:g.objs.size<=f
 cs:(H T=some (.tbl #[])/\g.objs.size<=c)∨(H T=some (.tbl (JL lp c))/\H c=some (yX c qual))
theorem DP (lp:Pos) (c:Addr):codeAmong lp (JL lp c).toList=some (.ref c):=by
 show (if ((lp.line:Int)==lp.line&&(lp.col:Int)==lp.col)=true then some (Value.ref c) else _)=_
 rw [if_pos (by simp)]
theorem HR {X:Cx}{T c0:Addr}{lp q0 q1 q2 q3:Pos}{qual:Str}{pins:List (Addr×Obj)}{σ:St}{H:Hp}{s s2:Shared}{Q:Value->Shared->Prop}{E:Value->Shared->Prop} (I:aL X pins σ H s) (kp:∀ b o,s.heap.get? b=some o->s2.heap.get? b=some o)
  (hcd:X.env.code=.ref c0) (hK:codeHdIn X.K c0 T=true) (B:pN X.mg X.base) (hcl:closureFor JO X.env=pure []) (hq:X.env.qual++"<lambda>"=qual) (hT:cQ T lp qual H)
  (k:∀ f c h tk,ZD T lp q0 q1 q2 q3 qual H s2.heap h f c->Q (.ref f) { s2 with heap:=h,toks:=tk }) :
  wpAny (model X.prog X.w) X.A (eval (.Lambda (SY q0) (SZ q1 q2 q3) JO lp) X.env) Q E s2:=by
 subst hq
 have gg:∀ b o,X.base.get? b=some o->s2.heap.get? b=some o:=fun b o e=>kp _ _ (I.bk b o e)
 have ns:s2.heap.Ns mainGlobals X.mg:=I.mod.glob.keeps gg
 have C:CodeHd s2.heap c0 T:=(codeHd_of_K I.mod.kin hK).keeps gg
 have tH:∃ ps,H T=some (.tbl ps):=by
  rcases hT with t|⟨c,t,_⟩
  ·exact ⟨_,t⟩
  ·exact ⟨_,t⟩
 obtain ⟨ZJ,tH⟩:=tH
 have gP0:s2.heap.get? T=some (tabObj ZJ):=kp _ _ (show s.heap.get? T=some _ from I.hok T _ tH)
 have hb:s2.heap.BuiltinsAt X.mg T:=by
  obtain ⟨bm,o,b1,b2,b3,b4,b5⟩:=B
  exact ⟨bm,o,b1,b2,b3,fun e=>(by have:=(I.bs _ _ b4).2; rw [e,tH] at this; cases this),gg _ _ b4,b5⟩
 have hgP:mainGlobals≠T:=fun q=>by
  obtain ⟨o,es,ep,e,hd,_⟩:=ns
  rw [q,gP0] at e; cases e; cases hd
 refine PySem.W.kla_eval rfl ?_
 rcases hT with t|⟨c,t,u⟩
 ·have e0:ZJ=#[]:=by rw [t] at tH; cases tH; rfl
  subst e0
  refine PySem.W.kla_makeFunction (ps:=#[]) hcl I.ok.glob ns hcd C gP0 trivial rfl hgP hb fun c' ct h' tk hx hge hlt hrec htb=>?_
  refine k _ c' _ tk ⟨fun b o e n=>get?_push_of_some _ (hx b o n e),get?_push_of_some _ htb,⟨_,ct,get?_push_size _ rfl⟩,hrec.push _,?_,.inl ⟨t,hge⟩⟩
  exact le_trans hge (le_of_lt hlt)
 ·have e0:ZJ=JL lp c:=by rw [t] at tH; cases tH; rfl
  subst e0
  have hc:s2.heap.CodeRec (.ref c) (X.env.qual++"<lambda>"):=(show s.heap.CodeRec (.ref c) _ from (I.hok c _ u).1).keeps kp
  refine PySem.W.kla_makeFunctionHit hcl I.ok.glob ns hcd C gP0 trivial (DP lp c) hb fun ct h' tk hx hsz=>?_
  exact k _ c _ tk ⟨fun b o e n=>get?_push_of_some _ (hx b o e),get?_push_of_some _ (hx _ _ gP0),⟨_,ct,get?_push_size _ rfl⟩,(hc.keeps hx).push _,hsz,.inr ⟨t,u⟩⟩
theorem eS {α β:Type}{g:α->β}:∀ {l:List β}{m:List β},l.Perm m->∀ {xs:List α},m=xs.map g->∃ ys:List α,ys.Perm xs/\l=ys.map g:=by
 intro l m p
 induction p with
|nil=>intro xs e; exact ⟨xs,.refl _,e⟩
|cons x p ih =>
  intro xs e
  cases xs with
 |nil=>cases e
 |cons a xs =>
   obtain ⟨e1,e3⟩:=List.cons.inj e
   obtain ⟨ys,q,e2⟩:=ih e3
   exact ⟨a::ys,q.cons a,by rw [e2,e1]; rfl⟩
|swap x y l =>
  intro xs e
  cases xs with
 |nil=>cases e
 |cons a xs =>
   cases xs with
  |nil=>cases e
  |cons b xs =>
    obtain ⟨e1,e2⟩:=List.cons.inj e
    obtain ⟨e3,e4⟩:=List.cons.inj e2
    exact ⟨b::a::xs,List.Perm.swap _ _ _,by rw [e1,e3,e4]; rfl⟩
|trans p q ihp ihq =>
  intro xs e
  obtain ⟨ys,q1,e1⟩:=ihq e
  obtain ⟨zs,q2,e2⟩:=ihp e1
  exact ⟨zs,q2.trans q1,e2⟩
theorem qK {α β:Type} [BEq α] [LawfulBEq α]:∀ {l:List (α×β)}{a:α}{b:β},(l.map (·.1)).Nodup->(a,b)∈l->l.lookup a=some b
|[],_,_,_,h=>nomatch h
|(x,y)::l,a,b,nd,h=>by
  obtain ⟨n1,n2⟩:=nodup_cons.mp nd
  rcases mem_cons.mp h with e|h
  ·cases e; simp [List.lookup]
  ·have:a≠x:=fun e=>n1 (e ▸ mem_map.mpr ⟨_,h,rfl⟩)
   rw [lookup_cons,beq_eq_false_iff_ne.mpr this]
   exact qK n2 h
theorem fF {α β:Type} [BEq α] [LawfulBEq α]:∀ {l:List (α×β)}{a:α},a∉l.map (·.1)->l.lookup a=none
|[],_,_=>rfl
|(x,y)::l,a,h=>by
  have:a≠x:=fun e=>h (e ▸ mem_cons_self)
  rw [lookup_cons,beq_eq_false_iff_ne.mpr this]
  exact fF fun q=>h (mem_cons_of_mem _ q)
noncomputable def LK (K:Frag) (T:Addr) (lp:Pos) (qual:Str):List V->Hp->VK->Prop:=fun vs H Q=>∃ (p q:Addr) (ks:List Int) (xs:List V),vs=[.ref p,.ref q]/\bS K H p (ks.map V.int)/\bS K H q xs/\ks.length=xs.length/\ks.length < 64/\cQ T lp qual H /\
 ∀ (l:Addr) (G:Hp) (tr:List (Addr×(Int×V))),H l=none->Kp T H G->cQ T lp qual G->G l=some (.lst (tr.map fun p=>V.ref p.1))->(∀ p∈tr,G p.1=some (.tup [.int p.2.1,p.2.2]))->(tr.map (·.2)).Perm (ks.zip xs)->tr.Pairwise (fun p q=>p.2.1<=q.2.1)->Q (.ref l) G
theorem CD {X:Cx}{a b:Expr}{t:TA}{c0 T:Addr}{p p2 pos pos2 q0 q1 q2 q3 lp kpos:Pos}{qual:Str}{kk:Nat} (hr:dJ kk X.A) (hc:X.calm=true) (hgs:Gl X "sorted") (hms:X.mg "sorted"=none) (hg:Gl X "zip") (hm:X.mg "zip"=none)
    (hcd:X.env.code=.ref c0) (hK:codeHdIn X.K c0 T=true) (B:pN X.mg X.base) (hcl:closureFor JO X.env=pure []) (hq:X.env.qual++"<lambda>"=qual) (ha:PA X [a,b] t)
    (he:starEach [.Call (.Name "zip" p2) [a,b] [] pos2] X.env=[(false,eval (.Call (.Name "zip" p2) [a,b] [] pos2) X.env)]) (hs:starEach [a,b] X.env=(false,eval a X.env)::starEach [b] X.env) (hpl:(backTo pos2 (starEach [b] X.env)).any (·.1)=false) :
    PE X (.Call (.Name "sorted" p) [.Call (.Name "zip" p2) [a,b] [] pos2] [⟨some "key",.Lambda (SY q0) (SZ q1 q2 q3) JO lp,kpos⟩] pos) (ZI (LK X.K T lp qual) t):=by
  intro pins s σ H Q I h
  refine wpAny_Call_Name_kw (fV I hgs hms iV ?_ (by decide) (by decide))
  refine callWith_kw ?_
  show wpAny _ _ (spliced (backTo pos (starEach [.Call (.Name "zip" p2) [a,b] [] pos2] X.env))) _ _ s
  rw [he]
  show wpAny _ _ (spliced ((false,eval (.Call (.Name "zip" p2) [a,b] [] pos2) X.env)::backTo pos [])) _ _ s
  refine Calls.spliced_cons ?_
  refine Call_ (fV I hg hm UE (PyProof.Rows.callWith_type1 (bZ (ha pos2 pins s σ H _ I h) fun us s1 z=>?_) hs hpl))
  obtain ⟨vs,H1,I1,r1,p1,p2',ks,xs,e,ga,gb,hl,hn,hT,q⟩:=z
  subst e
  obtain ⟨u1,u2,rfl,ra,rb⟩:=r1.two
  cases ra
  cases rb
  obtain ⟨its,rv1,pl1,_⟩:=I1.list ga
  obtain ⟨jts,rv2,pl2,_⟩:=I1.list gb
  refine call_zip_2 pl1.isList pl2.isList fun m1 z1 z2 z3 z4 z5 e5 kp=>?_
  refine Calls.spliced_nil ?_
  have la:p1 < s1.heap.objs.size:=by obtain ⟨o,n,g,_⟩:=pl1; exact lt_size g
  have lb:p2' < s1.heap.objs.size:=by obtain ⟨o,n,g,_⟩:=pl2; exact lt_size g
  have Z0:yT m1 (s1.heap.objs.size+4) (s1.heap.objs.size+2) (s1.heap.objs.size+3) s1.heap.objs.size (s1.heap.objs.size+1) p1 p2' 0 its.toArray jts.toArray:=
    ⟨⟨_,_,z1,.inl ⟨rfl,rfl,rfl⟩⟩,z2,⟨_,_,z3⟩,z4,z5,pl1.isList.at fun o e=>kp _ o e,pl2.isList.at fun o e=>kp _ o e⟩
  have lL:=I1.lt
  have nT1:p1≠T/\p2'≠T:=by
    have tH:∃ ps,s1.heap.get? T=some (tabObj ps):=by
      rcases hT with t|⟨c,t,_⟩
      . exact ⟨_,I1.hok T _ t⟩
      . exact ⟨_,I1.hok T _ t⟩
    obtain ⟨ps,tH⟩:=tH
    constructor
    . rintro rfl
      obtain ⟨o,n,g,gc,_⟩:=pl1
      rw [tH] at g; cases g; cases gc
    . rintro rfl
      obtain ⟨o,n,g,gc,_⟩:=pl2
      rw [tH] at g; cases g; cases gc
  have lT:T < s1.heap.objs.size:=by
    rcases hT with t|⟨c,t,_⟩
    . exact I1.hok.lt t
    . exact I1.hok.lt t
  show wpAny _ _ (evalAll ((do let v ← eval (.Lambda (SY q0) (SZ q1 q2 q3) JO lp) X.env; standAt pos; pure v)::[])) _ _ _
  refine wpAny_evalAll_cons (wpAny_bind (HR (s2:={ s1 with heap:=m1 }) I1 kp hcd hK B hcl hq hT fun f c h3 tk LA=>wpAny_bind (wpAny_standAt (wpAny_pure ?_))))
  refine wpAny_evalAll_nil ?_
  have hN:∃ N,s1.heap.objs.size=N:=⟨_,rfl⟩
  obtain ⟨N,hN⟩:=hN
  have kp0:∀ b o,s1.heap.get? b=some o->b < N:=fun b o e=>hN ▸ lt_size e
  have fge:N+5<=f:=by have:=LA.fge; rw [e5,hN] at this; exact this
  have nn:∀ {c i:Nat},c < N->c≠N+i:=fun h=>ne_of_lt (lt_of_lt_of_le h (le_add_right _ _))
  have nf:∀ {d i:Nat},N+5<=d->i < 5->d≠N+i:=fun h1 h2 e=>absurd h1 (by rw [e]; omega)
  have ne:∀ {i j:Nat},i≠j->N+i≠N+j:=fun h z=>h (Nat.add_left_cancel z)
  have n0:∀ {i:Nat},0 < i->N+i≠N:=fun h=>ne_of_gt (Nat.lt_add_of_pos_right h)
  rw [hN] at Z0 la lb lL lT
  have D:ZipApart (N+4) (N+2) (N+3) N (N+1) p1 p2':=⟨ne (by decide),ne (by decide),(n0 (by decide)).symm,ne (by decide),ne (by decide),n0 (by decide),ne (by decide),n0 (by decide),ne (by decide),(n0 (by decide)).symm,nn la,nn la,ne_of_lt la,nn la,nn lb,nn lb,ne_of_lt lb,nn lb⟩
  have kpM:∀ b o,m1.get? b=some o->b≠T->h3.get? b=some o:=LA.kp
  have Z:yT h3 (N+4) (N+2) (N+3) N (N+1) p1 p2' 0 its.toArray jts.toArray:=by
    obtain ⟨⟨f0,b0,gz,hf⟩,gTI,⟨a,b,gTO⟩,g1,g2,t1,t2⟩:=Z0
    refine ⟨⟨f0,b0,kpM _ _ gz (Ne.symm (nn lT)),?_⟩,kpM _ _ gTI (Ne.symm (nn lT)),⟨a,b,kpM _ _ gTO (Ne.symm (nn lT))⟩,g1.at fun o e=>kpM _ o e (ne_of_gt lT),g2.at fun o e=>kpM _ o e (Ne.symm (nn lT)),t1.at fun o e=>kpM _ o e nT1.1,t2.at fun o e=>kpM _ o e nT1.2⟩
    rcases hf with hf|⟨hk,_⟩
    . exact .inl hf
    . exact absurd hk (by decide)
  have cN:(N+5<=c)∨(c < N/\c≠X.env.locals/\H1 c=some (yX c qual)):=by
    rcases LA.cs with ⟨_,g⟩|⟨_,g⟩
    . rw [e5,hN] at g; exact .inl g
    . exact .inr ⟨hN ▸ I1.hok.lt g,aB g I1.free,g⟩
  have cne:c≠X.env.locals/\c≠N+4/\c≠N+3/\c≠N/\c≠N+1:=by
    rcases cN with g|⟨g,g2,_⟩
    . exact ⟨ne_of_gt (lt_of_lt_of_le lL (le_trans (le_add_right _ _) g)),nf g (by decide),nf g (by decide),nf (i:=0) g (by decide),nf g (by decide)⟩
    . exact ⟨g2,nn g,nn g,ne_of_lt g,nn g⟩
  have fne:f≠X.env.locals/\f≠N+4/\f≠N+3/\f≠N/\f≠N+1:=
    ⟨ne_of_gt (lt_of_lt_of_le lL (le_trans (le_add_right _ _) fge)),nf fge (by decide),nf fge (by decide),nf (i:=0) fge (by decide),nf fge (by decide)⟩
  obtain ⟨pm,ct,gf⟩:=LA.fn
  obtain ⟨mL,hLn,hLl⟩:=id I1.loc
  have kp3:∀ b o,s1.heap.get? b=some o->b≠T->h3.get? b=some o:=fun b o e n=>kpM _ _ (kp _ _ e) n
  have LT:X.env.locals≠T:=by
    rcases hT with t|⟨c,t,_⟩
    . exact Ne.symm (aB t I1.free)
    . exact Ne.symm (aB t I1.free)
  have hL3:h3.Ns X.env.locals mL:=let ⟨o,es,ep,e,r⟩:=hLn; ⟨o,es,ep,kp3 _ _ e LT,r⟩
  have bT:∀ b o,X.base.get? b=some o->b≠T/\b≠X.env.locals/\b < N/\s1.heap.get? b=some o:=fun b o e=>by
    have e2:=(I1.bs b o e)
    refine ⟨?_,?_,kp0 _ _ e2.1,e2.1⟩
    . rintro rfl
      rcases hT with t|⟨c,t,_⟩
      . rw [t] at e2; cases e2.2
      . rw [t] at e2; cases e2.2
    . exact ne_of_lt (lt_of_lt_of_le (lt_size e) (le_trans I1.ok.bsz I1.ok.above))
  have le3:N+5<=h3.objs.size:=le_trans fge (le_of_lt (lt_size gf))
  have sz:∀ (l:List Value),l.toArray.size=l.length:=fun _=>rfl
  have lk:its.length=ks.length:=by rw [← rv1.length,length_map]
  have lx:jts.length=xs.length:=rv2.length.symm
  show wpAny _ _ (call (.builtin "sorted") [.ref (s1.heap.objs.size+4)] [(Str.ofString "key",.ref f)]) _ _ _
  rw [hN]
  refine xB (s:={ s1 with heap:=h3,toks:=tk }) (L:=X.env.locals) (m:=mL) (kz:=ks) (I.ok.hd hc) (by have:=hr.dp; omega) (fun g kg=>I1.mod.nolimit.keeps fun b o e=>?_) hL3 ⟨nn lL,nn lL,ne_of_lt lL,nn lL⟩ gf LA.cd fne cne D Z (by rw [sz,sz,lk,lx,hl]) (by rw [sz,lk]; exact hn) (show IntsAre its ks from eU rv1) fun R h4 tk4 out c' ts ps gR gL gRo UX ZK pp po psd tR kp4=>?_
  . obtain ⟨a1,a2,a3,a4⟩:=bT b o e
    exact kg b o (kp3 _ _ a4 a1) a2 (nn a3) (nn a3) (ne_of_lt a3) (nn a3)
  dsimp only at gR gL gRo ZK kp4
  have kpA:∀ b o,s1.heap.get? b=some o->b≠T->b≠X.env.locals->h4.get? b=some o:=fun b o e n1 n2=>kp4 _ _ (kp3 _ _ e n1) n2 (nn (kp0 _ _ e)) (nn (kp0 _ _ e)) (ne_of_lt (kp0 _ _ e)) (nn (kp0 _ _ e))
  -- the triples
  have lt3:ts.length=ks.length:=by rw [UX,sz,lk]
  have ez:ks.zip (ts.map Value.ref)=(ts.zip (ks.zip xs)).map fun p=>(p.2.1,Value.ref p.1):=by
    apply ext_getElem?
    intro i
    simp only [List.getElem?_zip_eq_some,List.getElem?_map,List.zip,List.getElem?_zipWith]
    rcases lt_or_ge i ks.length with hi|hi
    . rw [List.getElem?_eq_getElem hi,List.getElem?_eq_getElem (show i < ts.length by omega),List.getElem?_eq_getElem (show i < xs.length by omega)]
      rfl
    . rw [List.getElem?_eq_none hi,List.getElem?_eq_none (show ts.length<=i by omega)]
      rfl
  obtain ⟨tr,ptr,etr⟩:=eS pp ez
  have fst_tr:(tr.map (·.1)).Perm ts:=by
    have:=ptr.map (·.1)
    rwa [List.map_fst_zip (by rw [length_zip,lt3,← hl]; exact le_of_eq (min_self _).symm)] at this
  have ndt:(tr.map (·.1)).Nodup:=fst_tr.nodup_iff.mpr ZK.1
  have mem_tr:∀ p∈tr,N+5<=p.1/\p.1≠R/\p.1≠c/\∃ x y,IsPair h4 p.1 x y/\aV (V.int p.2.1) x/\aV p.2.2 y:=fun p hp=>by
    have hp':=ptr.mem_iff.mp hp
    obtain ⟨i,hi⟩:=List.getElem?_of_mem hp'
    rw [List.getElem?_zip_eq_some] at hi
    obtain ⟨h1,h2⟩:=hi
    rw [List.getElem?_zip_eq_some] at h2
    obtain ⟨ge,x,y,ex,ey,ep⟩:=ZK.2 i p.1 h1
    obtain ⟨x',ex',rx⟩:=rv1.get (i:=i) (by rw [List.getElem?_map,h2.1]; rfl)
    obtain ⟨y',ey',ry⟩:=rv2.get (i:=i) h2.2
    have a1:its[i]?=some x:=by simpa using ex
    have a2:jts[i]?=some y:=by simpa using ey
    rw [a1] at ex'; cases ex'
    rw [a2] at ey'; cases ey'
    have cl:c < h3.objs.size:=by
      obtain ⟨_,o,_,_,e0,e1,_⟩:=LA.cd
      cases e0
      exact lt_size e1
    exact ⟨le_trans le3 ge,tR _ (mem_of_getElem? h1),ne_of_gt (lt_of_lt_of_le cl ge),x,y,ep,rx,ry⟩
  have cR:c≠R:=by
    obtain ⟨_,o,_,_,e0,e1,_⟩:=LA.cd
    cases e0
    exact ne_of_lt (lt_of_lt_of_le (lt_size e1) gR)
  have NR:N<=R:=le_trans (le_trans (le_add_right _ _) le3) gR
  let G:Hp:=fun b=>if b=R then some (.lst (tr.map fun p=>V.ref p.1)) else match tr.lookup b with
   |some p=>some (.tup [.int p.1,p.2])
   |none=>if b=T then some (.tbl (JL lp c)) else if b=c then some (yX c qual) else H1 b
  have GR:G R=some (.lst (tr.map fun p=>V.ref p.1)):=if_pos rfl
  have Gt:∀ p∈tr,G p.1=some (.tup [.int p.2.1,p.2.2]):=fun p hp=>by
    show (if p.1=R then _ else _)=_
    rw [if_neg (mem_tr p hp).2.1]
    simp only [qK ndt hp]
  have outT:∀ b,b < N->b∉tr.map (·.1):=fun b hb hm=>by
    obtain ⟨p,hp,e⟩:=mem_map.mp hm
    have:=(mem_tr p hp).1
    rw [e] at this
    omega
  have GT:G T=some (.tbl (JL lp c)):=by
    show (if T=R then _ else _)=_
    rw [if_neg (ne_of_lt (lt_of_lt_of_le lT NR)),fF (outT T lT)]
    exact if_pos rfl
  have cT:c≠T:=by
    rintro rfl
    obtain ⟨_,o,vs,_,e0,e1,e2,e3⟩:=LA.cd
    cases e0
    have e4:=LA.tb
    rw [e1] at e4
    cases e4
    cases e2
    have:(#[rawInt lp.line,rawInt lp.col,Value.ref c]:Array Value)[1]?=some (rawInt lp.col):=rfl
    rw [show JL lp c=#[rawInt lp.line,rawInt lp.col,Value.ref c] from rfl,this] at e3
    cases e3
  have Gc:G c=some (yX c qual):=by
    show (if c=R then _ else _)=_
    rw [if_neg cR,fF (fun hm=>by obtain ⟨p,hp,e⟩:=mem_map.mp hm; exact (mem_tr p hp).2.2.1 e)]
    show (if c=T then _ else _)=_
    rw [if_neg cT]
    exact if_pos rfl
  have Gb:∀ b,b < N->b≠T->b≠c->G b=H1 b:=fun b h1 h2 h3=>by
    show (if b=R then _ else _)=_
    rw [if_neg (ne_of_lt (lt_of_lt_of_le h1 NR)),fF (outT b h1)]
    show (if b=T then _ else _)=_
    rw [if_neg h2]
    exact if_neg h3
  have Gk:Kp T H1 G:=fun b o n e=>by
    have hb:b < N:=hN ▸ I1.hok.lt e
    by_cases hbc:b=c
    . subst hbc
      rcases cN with g|⟨_,_,g⟩
      . exact absurd (lt_of_lt_of_le hb (le_add_right _ 5)) (not_lt.mpr g)
      . rw [e] at g; cases g; exact Gc
    . rw [Gb b hb n hbc]; exact e
  have Gn:∀ b o,s1.heap.get? b=some o->H1 b=none->G b=none:=fun b o e n=>by
    have hb:=kp0 _ _ e
    have h2:b≠T:=by
      rintro rfl
      rcases hT with t|⟨_,t,_⟩ <;> (rw [t] at n; cases n)
    have h3:b≠c:=by
      rintro rfl
      rcases cN with g|⟨_,_,g⟩
      . exact absurd (lt_of_lt_of_le hb (le_add_right _ 5)) (not_lt.mpr g)
      . rw [n] at g; cases g
    rw [Gb b hb h2 h3]; exact n
  have rout:∀ l:List (Addr×(Int×V)),aM (l.map fun p=>V.ref p.1) ((l.map fun p=>(p.2.1,Value.ref p.1)).map Prod.snd):=fun l=>by
    induction l with
   |nil=>exact .nil
   |cons p l ih=>exact .cons rfl ih
  have hok4:gG X.prog X.w G h4:=fun b u e=>by
    by_cases hbR:b=R
    . subst hbR
      rw [GR] at e; cases e
      refine ⟨?_,out.toList,c',?_,?_⟩
      . rw [length_map]
        have:tr.length=ts.length:=by rw [← length_map (f:=(·.1)) (as:=tr)]; exact fst_tr.length_eq
        rw [this,lt3,sizeLine_eq]; omega
      . rw [po,etr]; exact rout tr
      . rw [gRo]
    . by_cases hbt:b∈tr.map (·.1)
      . obtain ⟨p,hp,rfl⟩:=mem_map.mp hbt
        rw [Gt p hp] at e; cases e
        obtain ⟨_,_,_,x,y,ep,rx,ry⟩:=mem_tr p hp
        exact ⟨⟨by show 2<=sizeLine; decide,_,ep,rfl⟩,[x,y],.cons rx (.cons ry .nil),_,ep,rfl,_,rfl⟩
      . by_cases hbT:b=T
        . subst hbT
          rw [GT] at e; cases e
          exact kp4 _ _ LA.tb (Ne.symm LT) (nn lT) (nn lT) (ne_of_lt lT) (nn lT)
        . by_cases hbc:b=c
          . subst hbc
            rw [Gc] at e; cases e
            refine NK ?_
            obtain ⟨c1,o,vs,tt,e0,e1,e2⟩:=LA.cd
            cases e0
            exact ⟨_,o,vs,tt,rfl,kp4 _ _ e1 cne.1 cne.2.1 cne.2.2.1 cne.2.2.2.1 cne.2.2.2.2,e2⟩
          . have e1:H1 b=some u:=by
              have q:G b=if b=T then some (HO.tbl (JL lp c)) else if b=c then some (yX c qual) else H1 b:=by
                show (if b=R then _ else _)=_
                rw [if_neg hbR,fF hbt]
              rw [q,if_neg hbT,if_neg hbc] at e
              exact e
            refine (I1.hok b u e1).stay (fun d v hd r=>?_) (fun d r=>Gk d _ ?_ r) fun d xs' r=>Gk d _ ?_ r
            . have h1:H1 d≠none/\d≠T:=by
                rcases hd with rfl|hd
                . exact ⟨by rw [e1]; simp,hbT⟩
                . refine ⟨by rw [hd]; simp,?_⟩
                  rintro rfl
                  rcases hT with t|⟨_,t,_⟩ <;> (rw [t] at hd; cases hd)
              exact kpA d v r h1.2 fun z=>h1.1 (z ▸ I1.free)
            . rintro rfl
              rcases hT with t|⟨_,t,_⟩ <;> (rw [t] at r; cases r)
            . rintro rfl
              rcases hT with t|⟨_,t,_⟩ <;> (rw [t] at r; cases r)
  have nsu:∀ m,s1.heap.Ns X.env.locals m->h4.Ns X.env.locals m:=fun m hm=>by
    have:m=mL:=by
      obtain ⟨o,es,ep,e,d,_,r⟩:=hm
      obtain ⟨o2,es2,ep2,e2,d2,_,r2⟩:=hLn
      rw [e] at e2; cases e2
      rw [d] at d2; cases d2
      funext x
      rw [← r x,r2 x]
    rw [this]; exact gL
  have I4 : aL X pins σ G { s1 with heap := h4, toks := tk4 } := I1.step (g' := s1.gens) (d' := s1.drawn) (t' := tk4) (ch := []) (fun _ z => nomatch z) (fun b o n1 _ _ e n => kpA b o e (by
        rintro rfl
        rcases hT with t|⟨_,t,_⟩ <;> (rw [t] at n; cases n)) n1) (fun b o n1 _ _ e n=>⟨o.slots,kpA b o e (by
        rintro rfl
        rcases hT with t | ⟨_,t,_⟩ <;> (rw [t] at n; cases n)) n1⟩) (fun b o _ e n=>Gn b o e n) (fun b o _ e=>?_)
      (fun b xs' e=>Gk b _ (by
        rintro rfl
        rcases hT with t|⟨_,t,_⟩ <;> (rw [t] at e; cases e)) e) (fun b o u e=>Gk b _ (by
        rintro rfl
        rcases hT with t | ⟨_,t,_⟩ <;> (rw [t] at e; cases e)) e) (fun b ps' e=>?_) nsu hok4 I1.bare
  . exact ⟨.ref R,G,I4,rfl,q R G tr (by
      cases e:H1 R with
     |none=>rfl
     |some u=>exact absurd (hN ▸ I1.hok.lt e) (not_lt.mpr NR)) Gk (.inr ⟨c,GT,Gc⟩) GR Gt (by
        have:=ptr.map (·.2)
        rwa [List.map_snd_zip (by rw [length_zip,lt3,← hl]; exact le_of_eq (min_self _))] at this) (by
        rw [etr,pairwise_map] at psd
        exact psd)⟩
  . by_cases hb:b=X.env.locals
    . subst hb
      obtain ⟨o2,_,_,e2,_⟩:=gL
      exact ⟨o2,e2⟩
    . by_cases hbT:b=T
      . subst hbT
        exact ⟨_,kp4 _ _ LA.tb (Ne.symm LT) (nn lT) (nn lT) (ne_of_lt lT) (nn lT)⟩
      . exact ⟨o,kpA b o e hbT hb⟩
  . by_cases hbT:b=T
    . subst hbT
      rcases LA.cs with ⟨t,_⟩|⟨t,_⟩
      . rw [t] at e; cases e
        exact ⟨JL lp c,by rw [GT]; simp⟩
      . rw [t] at e; cases e
        exact ⟨#[],by rw [GT]; simp⟩
    . exact ⟨#[],by rw [Gk b _ hbT e]; simp⟩
end
section
theorem CS {P:Program}{w:World}{K:Frag}{mg mb:Str->Option Value}{CX:DY}{k:Nat}{fa a T c0:Addr}{fd:FuncData}{x:Str}{sp:Sp}{s₁:Shared}{vs:List Value}{ns:List Int}
  (KX:K.In s₁.heap) (hns:s₁.heap.Ns mainGlobals mg) (hb:s₁.heap.Ns builtinsNs mb) (hbb:∀ x:Str,x≠"__name__"->mb x=bootBuiltins x) (hlim:s₁.heap.NoLimit) (hg:s₁.gens=#[])
  (hT:s₁.heap.get? T=some (tabObj #[])) (hC:codeHdIn K c0 T=true) (hKT:K.lookup T=none) (hB:pN mg s₁.heap)
  (ha:s₁.heap.get? a=some { cls:=.type "list",data:=.seq vs.toArray }) (hi:IntsAre vs ns) (hl:ns.length<=sizeLine) (hr:dJ k callerA)
  (F:∀ base:Heap,K.In base->base.Ns mainGlobals mg->pN mg base->iB P w K mg base CX k fa fd [x] sp) (hbind:∀ (s:Shared) (u:Value),BindsTo s fd ⟨[u],[]⟩ [(x,u)])
  (hsp:∀ H:Hp,H T=some (.tbl #[])->bS K H a (ns.map V.int)->sp [.ref a] H (fun v _=>v=.bl true) fun _ _ _=>False)
  (hCX:∀ H e s',CX [] H s₁ (fun _ _ _=>False) e s'->False) :
  codeAny (model P w) callerA (.call (.ref fa) ⟨[.ref a],[]⟩) (fun r s'=>r=.ok (.ret (.bool true))/\OldK s₁.heap s'.heap/\s'.os=s₁.os/\AllBare s'.gens) s₁:=by
 have rv:=iL hi
 have lenV:=hi.length
 have aT:a≠T:=by rintro rfl; rw [ha] at hT; cases hT
 have core:∀ H:Hp,H T=some (.tbl #[])->bS K H a (ns.map V.int)->gG P w H s₁.heap->(∀ b,H b≠none->b=a∨b=T)->(H a≠none->K.lookup a=none/\∃ o xs,H a=some (.frz o (.lst xs))) ->
   codeAny (model P w) callerA (.call (.ref fa) ⟨[.ref a],[]⟩) (fun r s'=>r=.ok (.ret (.bool true))/\OldK s₁.heap s'.heap/\s'.os=s₁.os/\AllBare s'.gens) s₁:=by
  intro H hO hS hok hA hK
  have base_of:∀ {b:Addr} {o:Obj},s₁.heap.get? b=some o->H b=none->(pK s₁.heap H).get? b=some o:=fun e n=>IA e n
  have noA:∀ {b:Addr} {o:Obj},s₁.heap.get? b=some o->(∀ xs n,o.data≠.seq xs n)->(∀ xs,o.data≠.fields xs)->H b=none:=fun {b o} e d1 d2=>by
   cases q:H b with
  |none=>rfl
  |some u =>
    rcases hA b (by rw [q]; simp) with e'|e'
    ·subst e'; rw [ha] at e; cases e; exact absurd rfl (d1 _ _)
    ·subst e'; rw [hT] at e; cases e; exact absurd rfl (d2 _)
  have nsK:∀ {b:Addr} {m:Str->Option Value},s₁.heap.Ns b m->(pK s₁.heap H).Ns b m:=fun {b m} ⟨o,es,ep,e,d,r⟩=>⟨o,es,ep,base_of e (noA e (fun _ _ z=>by rw [d] at z; cases z) fun _ z=>by rw [d] at z; cases z),d,r⟩
  have hKb:K.In (pK s₁.heap H):=fun b o e=>base_of (KX b o e) (by
   cases q:H b with
  |none=>rfl
  |some u =>
    rcases hA b (by rw [q]; simp) with e'|e'
    ·subst e'; rw [(hK (by rw [q]; simp)).1] at e; cases e
    ·subst e'; rw [hKT] at e; cases e)
  have hM:Mod K mg (pK s₁.heap H):=⟨hKb,nsK hns,⟨mb,nsK hb,hbb⟩,let ⟨mc,h1,h2⟩:=hlim; ⟨mc,nsK h1,h2⟩⟩
  have hBb:pN mg (pK s₁.heap H):=let ⟨bm,o,b1,b2,b3,b4,b5,b6,b7⟩:=hB; ⟨bm,o,b1,b2,b3,base_of b4 (noA b4 (fun _ _ z=>by rw [b7] at z; cases z) fun _ z=>by rw [b7] at z; cases z),b5,b6,b7⟩
  have e0:NW P w K mg (pK s₁.heap H) callerA [] s₁ H:=⟨rfl,hM,fun b o e=>MJ e,le_of_eq (DC _ _),trivial,fun b hb=>absurd (show b∈([]:List Addr) from hb) (by simp),hok,.of_eq hg⟩
  refine codeAny_mono ((F _ hKb (nsK hns) hBb).run callerA [] s₁ H ⟨[.ref a],[]⟩ [.ref a] [.ref a] _ _ hr e0 (hbind s₁ (.ref a)) (.cons rfl .nil) (hsp H hO hS)) fun r s' h=>?_
  cases r with
 |error e=>exact (hCX H e s' h).elim
 |ok fl =>
   cases fl with
  |next=>exact False.elim h
  |brk=>exact False.elim h
  |cont=>exact False.elim h
  |ret u =>
    obtain ⟨v,H',os,bare,un,hok',r',q⟩:=h
    have q':v=.bl true:=q
    subst q'
    obtain rfl:u=Value.bool true:=r'
    have kb:∀ b o,s₁.heap.get? b=some o->b≠T->s'.heap.get? b=some o:=fun b o e n=>by
     cases q:H b with
    |none=>exact un.keep b o e q (by intro z; exact absurd (show b∈([]:List Addr) from z) (by simp)) (by simp)
    |some u =>
      rcases hA b (by rw [q]; simp) with e'|e'
      ·subst e'
       obtain ⟨ob,xs,z⟩:=(hK (by rw [q]; simp)).2
       have z2:=un.frzs b ob _ z
       obtain ⟨e1,_⟩:=hok b _ z
       obtain ⟨e2,_⟩:=hok' b _ z2
       rw [e] at e1; cases e1
       exact e2
      ·exact absurd e' n
    obtain ⟨more,hT2⟩:=un.tbls T _ hO
    have hT3:s'.heap.get? T=some (tabObj (#[]++more)):=hok' T _ hT2
    refine ⟨rfl,⟨fun b o e=>?_,fun b o e=>?_⟩,os,bare⟩
    ·by_cases hb:b=T
     ·subst hb
      rw [hT] at e; cases e
      exact .inr (.inl ⟨((codeHd_of_K KX hC).tab hT).isCodeTable,rfl,#[],more,rfl,hT3⟩)
     ·exact .inl (kb b o e hb)
    ·by_cases hb:b=T
     ·subst hb; exact ⟨_,hT3⟩
     ·exact ⟨o,kb b o e hb⟩
 cases hk:K.lookup a with
|some o =>
  have e:=KX a o hk
  rw [ha] at e
  cases e
  refine core (fun b=>if b=T then some (.tbl #[]) else none) (if_pos rfl) (.inr ⟨_,vs.toArray,_,hk,rfl,rfl,rfl,by rw [size_toArray,lenV]; exact hl,by simpa using rv⟩) (fun b u z=>?_) (fun b z=>?_) fun z=>absurd (if_neg aT) z
  ·by_cases hb:b=T
   ·have z':=(if_pos hb).symm.trans z
    cases z'
    subst hb
    exact hT
   ·have z':=(if_neg hb).symm.trans z
    cases z'
  ·by_cases hb:b=T
   ·exact .inr hb
   ·exact absurd (if_neg hb) z
|none =>
  refine core (fun b=>if b=T then some (.tbl #[]) else if b=a then some (.frz { cls:=.type "list",data:=.seq vs.toArray } (.lst (ns.map V.int))) else none) (if_pos rfl) (.inl (.inr ⟨{ cls:=.type "list",data:=.seq vs.toArray },(if_neg aT).trans (if_pos rfl)⟩)) (fun b u z=>?_) (fun b z=>?_) fun _=>⟨hk,_,_,(if_neg aT).trans (if_pos rfl)⟩
  ·by_cases hb:b=T
   ·have z':=(if_pos hb).symm.trans z
    cases z'
    subst hb
    exact hT
   ·have z1:=(if_neg hb).symm.trans z
    by_cases hb:b=a
    ·have z':=(if_pos hb).symm.trans z1
     cases z'
     subst hb
     exact ⟨ha,by rw [length_map]; exact hl,vs,_,rv,ha⟩
    ·have z':=(if_neg hb).symm.trans z1
     cases z'
  ·by_cases hb:b=T
   ·exact .inr hb
   ·by_cases hb2:b=a
    ·exact .inl hb2
    ·refine absurd ?_ z
     show (if b=T then _ else if b=a then _ else _)=_
     rw [if_neg hb,if_neg hb2]
theorem walk_ofT {l:PySem.W.OpenLaw}{n k:Nat}{q:Program}{loose:List Str}{XP:(Str->Option Value)->Heap->Prop}{YP:World->Heap->Prop}{d:DefRec}{K:Params->Frag}{CX:World->DY}{sp:World->Sp}{x:Str}{T c0:Addr}
  (hn:l.most=some n) (hn2:n<=sizeLine) (hdf:d.params.defaults=[]) (hr:dJ k callerA)
  (hY:∀ (w:World) (h:Heap),YP w h->(K w.params).In h/\h.get? T=some (tabObj #[])) (hC:∀ P,codeHdIn (K P) c0 T=true) (hKT:∀ P,(K P).lookup T=none)
  (F:∀ (w:World) (mg:Str->Option Value) (fa:Addr) (h:Heap),(K w.params).In h->h.Ns mainGlobals mg->mg d.name=some (.ref fa) ->
   ∃ fd:FuncData,(∀ (s:Shared) (u:Value),BindsTo s fd ⟨[u],[]⟩ [(x,u)]) /\
    ∀ base:Heap,(K w.params).In base->base.Ns mainGlobals mg->pN mg base->iB l.prog w (K w.params) mg base (CX w) k fa fd [x] (sp w))
  (hsp:∀ (w:World) (H:Hp) (a:Addr) (ns:List Int),ns.length<=n->H T=some (.tbl #[])->bS (K w.params) H a (ns.map V.int)->sp w [.ref a] H (fun v _=>v=.bl true) fun _ _ _=>False)
  (hCX:∀ (w:World) (H:Hp) (s:Shared) (e:Value) (s':Shared),CX w [] H s (fun _ _ _=>False) e s'->False) :
  PySem.W.WalkO q loose XP YP l.row.toRowW d [] (fun f vs=>PySem.call f vs):=by
 refine Att.attach_call hn hdf fun w s₀ s₁ mg mb fa o pm cd doc a vs ns G Y ho hd hcd hmg hobj hints hlen hg=>?_
 obtain ⟨KX,hT⟩:=hY w _ Y
 obtain ⟨fd,hb,hF⟩:=F w mg fa _ KX G.T.g hmg
 have hB:pN mg s₁.heap:=by
  obtain ⟨bm,ob,b1,b2,b3,b4,b5,b6⟩:=G.T.bmain
  refine ⟨bm,ob,b1,b2,fun q=>?_,b3,b4,b5,b6⟩
  obtain ⟨o,es,ep,e,hd,_⟩:=G.T.g
  rw [q,e] at b3; cases b3; rw [hd] at b6; cases b6
 exact CS KX G.T.g G.T.b G.T.builtins G.T.nolimit hg hT (hC _) (hKT _) hB hobj hints (le_trans hlen hn2) hr hF hb (fun H hO hS=>hsp w H a ns hlen hO hS) fun H e s'=>hCX w H s₁ e s'
structure ZW (K:Frag) (mg:Str->Option Value) (x:Str) (st:Stmt) (ps:List Str) (c T:Addr):Prop where
 ex:∃ (f:Addr) (fd:FuncData),(∃ (oc:Value) (od:Option Addr) (dV kV doc pm:Value) (an:Option Addr) (ct:Value) (osl:Array (Option Value)),
  fd=fnOf x x (bJ st) (aZ st) (aE st) dV kV doc pm an (.ref c) ct/\K.lookup f=some ⟨oc,od,.func fd,osl⟩/\PySem.W.codeIn K (.ref c) x=true)/\keepIn K (.ref f)=true/\mg x=some (.ref f)/\fN K fd ps []
 hd:codeHdIn K c T=true
theorem bV.ofC {P:Program}{w:World}{K:Frag}{mg:Str->Option Value}{base:Heap}{k:Nat}{x:Str}{st:Stmt}{N ps:List Str}{sp:Sp}{c T:Addr} (d:ZW K mg x st ps c T) (S:aO N ps (aE st)) (len:∀ vs H Q E,sp vs H Q E->vs.length=ps.length)
  (hbody:∀ (f:Addr) (A:Around) (outer:List Env) (s:Shared) (H:Hp) (vs:List V) (Q:VK) (E:XK),dJ k (A.deeper (envOfC x (aE st) s.heap.objs.size f (.ref c)))->sp vs H Q E ->
   ∃ t,tS (lG JU P w K mg base N x (aE st) f (.ref c) A outer s H E).nox (aZ st) t/\t { nx:=fun _ H'=>Q .non H',rt:=Q } (hX N vs) H):bV P w K mg base (k+1) x ps sp:=by
 obtain ⟨f,fd,⟨oc,od,dV,kV,doc,pm,an,ct,osl,rfl,lk,hcd⟩,kp,a,b⟩:=d.ex
 refine ⟨f,_,a,kp,b,vW lk hcd S len fun A outer s H vs Q E hr hsp=>?_⟩
 obtain ⟨t,h,q⟩:=hbody f A outer s H vs Q E hr hsp
 exact ⟨t,h.nox,q⟩
theorem TY {K:Frag}{mg:Str->Option Value}{h:Heap}{x:Str}{st:Stmt}{ps:List Str}{f c T:Addr}{oc:Value}{od an:Option Addr}{osl:Array (Option Value)}{dV kV doc pm ct:Value} (X:K.In h) (G:h.Ns mainGlobals mg)
  (a:nsIn K mainGlobals x=some (some (.ref f))) (l:K.lookup f=some ⟨oc,od,.func (fnOf x x (bJ st) (aZ st) (aE st) dV kV doc pm an (.ref c) ct),osl⟩)
  (cc:PySem.W.codeIn K (.ref c) x=true) (k:keepIn K (.ref f)=true) (t:codeHdIn K c T=true)
  (b:∀ us:List Value,us.length=ps.length->bindArgs (fnOf x x (bJ st) (aZ st) (aE st) dV kV doc pm an (.ref c) ct) ⟨us,[]⟩=pure (ps.zip us)):ZW K mg x st ps c T:=
 ⟨⟨f,_,⟨oc,od,dV,kV,doc,pm,an,ct,osl,rfl,l,cc⟩,k,mg_of X G a,.all b⟩,t⟩
end
section
structure iJ (P:Program) (w:World) (K:Frag) (mg:Str->Option Value) (base:Heap) (k:Nat) (x:Str) (ps:List Str) (dvs:List V) (n:Nat) (ks:List Str) (sp:Sp):Prop where
 ex:∃ (f:Addr) (fd:FuncData),mg x=some (.ref f)/\keepIn K (.ref f)=true/\fN K fd ps []/\(∃ ds,aM dvs ds/\fN K fd ps ds)/\tV K fd ps ks (gK n) (gK n)/\iB P w K mg base (ED P w) k f fd ps sp
section
variable {P:Program} {w:World} {K:Frag} {mg:Str -> Option Value} {base:Heap} {j k n:Nat} {x:Str} {st:Stmt} {N ps ks:List Str} {dvs:List V} {sp:Sp}
theorem iJ.mono (o:iJ P w K mg base j x ps dvs n ks sp) (h:j<=k):iJ P w K mg base k x ps dvs n ks sp:=
 let ⟨f,fd,a,b,c,e,z,d⟩:=o.ex; ⟨f,fd,a,b,c,e,z,d.mono h⟩
theorem iJ.toX (o:iJ P w K mg base k x ps dvs n ks sp):kR P w K mg base k x ps dvs sp:=
 let ⟨f,fd,a,b,c,e,_,d⟩:=o.ex; ⟨f,fd,a,b,c,e,d⟩
theorem iJ.of (d:ZV K mg x st ps dvs n ks) (S:aO N ps (aE st)) (len:∀ vs H Q E,sp vs H Q E->vs.length=ps.length)
  (hbody:∀ (f:Addr) (cdv:Value) (A:Around) (outer:List Env) (s:Shared) (H:Hp) (vs:List V) (Q:VK) (E:XK),dJ k (A.deeper (envOfC x (aE st) s.heap.objs.size f cdv))->sp vs H Q E ->
   ∃ t,tS (lG (ED P w) P w K mg base N x (aE st) f cdv A outer s H E) (aZ st) t/\t { nx:=fun _ H'=>Q .non H',rt:=Q } (hX N vs) H):iJ P w K mg base (k+1) x ps dvs n ks sp:=by
 obtain ⟨f,fd,⟨oc,od,dV,kV,doc,pm,an,cdv,ct,osl,rfl,lk,hcd⟩,kp,a,b,b2,b3⟩:=d.ex
 exact ⟨f,_,a,kp,b,b2,b3,vW lk hcd S len fun A outer s H vs Q E hr hsp=>hbody f cdv A outer s H vs Q E hr hsp⟩
end
section
variable {X:Cx} {k n:Nat} {x:Str} {ps:List Str} {dvs:List V} {sp:Sp} {p pos:Pos} {e:Expr} {es:List Expr} {t:TA} {E:XK}
theorem xO {nm:Str}{ek:Expr}{kpos:Pos}{te:TE} (o:iJ X.prog X.w X.K X.mg X.base k x ps dvs n [nm] sp) (hr:dJ k X.A) (hg:Gl X x) (hx:iI (ED X.prog X.w) X E) (ha:PA X (e::es) t) (hk:PE X ek te)
  (hdb:(x==("__debug__":Str))=false:=by decide) (he:starEach (e::es) X.env=(false,eval e X.env)::starEach es X.env:=by rfl) (hpl:(backTo pos (starEach es X.env)).any (·.1)=false:=by rfl) :
  PE X (.Call (.Name x p) (e::es) [⟨some nm,ek,kpos⟩] pos) (wY sp (gK n) E t (iZ te wW)):=by
 obtain ⟨f,fd,a,b,_,_,z,d⟩:=o.ex
 refine GM d hr hg a b z hx ha (LU hk SF) rfl rfl hdb he ?_
 rw [he]
 show ((false || (backTo pos (starEach es X.env)).any (·.1)) || (false || false))=false
 rw [hpl]
 rfl
end
end
section
section
variable {X:Cx}
end
end
section
noncomputable def VB (z:Str):It:=⟨fun i _=>i < z.cps.size,fun i H x H'=>H'=H/\∃ c,z.cps[i]?=some c/\x=.str ⟨#[c]⟩,fun i _=>z.cps.size<=i⟩
theorem wQ {P:Program}{w:World}{K:Frag}{tg:Expr} (it:Addr) (z:Str) (t:Tok) (n:String) (hn:n="str_ascii_iterator"∨n="str_iterator"):DS P w K tg (VB z) [it] it (fun i h=>h.IsStrIter it n z t i) where
 mem:=by simp
 obj:=fun i h st b hb=>by
  obtain rfl:b=it:=by simpa using hb
  obtain ⟨o,e,c,d⟩:=st
  exact ⟨o,e,fun v y=>by rw [d] at y; cases y⟩
 keep:=fun i h h' st k=>let ⟨o,e,r⟩:=st; ⟨o,k it (by simp) o e,r⟩
 item:=by
  intro X hP hw hK hc i pins s σ H E I hf st hg
  subst hP hw hK
  obtain ⟨f0,f1,f2,f3,f4,f5⟩:=hf it (by simp)
  have hg:i < z.cps.size:=hg
  have ec:z.cps[i]?=some z.cps[i]:=by simp [hg]
  have fin:∀ h',h'.IsStrIter it n z t (i+1)->Heap.SameBut it s.heap h'->∃ u,some (Value.str ⟨#[z.cps[i]]⟩ s.toks)=some u /\
    wpAny (model X.prog X.w) X.A (letOwnedTupleGo tg (.ref it) u) (fun _ s2=>∃ x H',aL X pins σ H' s2/\aV x u/\(VB z).yld i H x H'/\s2.heap.IsStrIter it n z t (i+1)/\∀ b∈[it],H' b=none) E { s with heap:=h',toks:=s.toks+1 }:=fun h' st' sb=>by
   have I1:aL X pins σ H { s with heap:=h',toks:=s.toks+1 }:=I.turned (fun b o hb e=>(sb.2 b hb).trans e) f0 f1 f3 f4 f5
   obtain ⟨o,e,c,d⟩:=id st'
   have hno:["enumerate","zip","dict_itemiterator","dict_reverseitemiterator","odict_iterator","itertools.zip_longest","itertools.pairwise"].contains n=false:=by
    rcases hn with rfl|rfl <;> decide
   exact ⟨_,rfl,AV (s:={ s with heap:=h',toks:=s.toks+1 }) e c d hno ⟨.str ⟨#[z.cps[i]]⟩,H,I1,⟨_,rfl⟩,⟨rfl,_,ec,rfl⟩,st',fun b hb=>(hf b hb).1⟩⟩
  rcases hn with rfl|rfl
  ·exact wpAny_pyNext_ascii_item st ec fin
  ·exact wpAny_pyNext_wide_item st ec fin
 done:=by
  intro X hP hw hK hc i pins s σ H E I hf st hg
  subst hP hw hK
  obtain ⟨f0,f1,f2,f3,f4,f5⟩:=hf it (by simp)
  have hg:z.cps.size<=i:=hg
  have ec:z.cps[i]?=none:=by simp [hg]
  rcases hn with rfl|rfl
  ·exact wpAny_pyNext_ascii_end (I.ok.hd hc) st ec fun h' eb=>⟨rfl,I.turned (t':=s.toks) (fun b o hb e=>eb b o hb e) f0 f1 f3 f4 f5⟩
  ·exact wpAny_pyNext_wide_end (I.ok.hd hc) st ec fun h' eb=>⟨rfl,I.turned (t':=s.toks) (fun b o hb e=>eb b o hb e) f0 f1 f3 f4 f5⟩
 self:=fun _ _ _ _ _ st h=>by
  rcases hn with rfl|rfl
  ·exact wpAny_pyIter_striter_ascii st h
  ·exact wpAny_pyIter_striter_wide st h
section
variable {X:Cx} {tg:Expr}
noncomputable def HX (tl:TE):TI:=fun σ H R=>tl σ H fun x H1=>∃ z,x=.str z/\R (VB z) H1
theorem uX {l:Expr}{tl:TE} (hl:PE X l tl):PI X tg l (HX tl):=by
 intro pins s σ H R I h
 refine bZ (hl pins s σ H _ I h) fun v s1 ⟨x,H1,I1,r1,z,e,q⟩=>?_
 subst e
 obtain ⟨t,rfl⟩:=r1
 refine wpAny_pyIter_strU ?_
 refine ⟨s1.heap.objs.size,[s1.heap.objs.size],_,_,H1,rfl,I1.kept (t':=s1.toks) fun b o e=>get?_push_of_some _ e,wQ _ z t (strIterType z) ?_,⟨_,get?_push_size _ rfl,rfl,rfl⟩,fun b hb=>?_,q⟩
 ·unfold strIterType
  split
  ·exact .inl rfl
  ·exact .inr rfl
 ·obtain rfl:b=s1.heap.objs.size:=by simpa using hb
  exact I1.fpOk (le_refl _) (I1.hok.fresh (le_refl _))
end
section
variable {te:TE} {Q:VK} {H:Hp} {σ caps:St} {wi:TI} {tc:TT} {K:Frag}
theorem uS {tl:TE}{R:It->Hp->Prop} (k:tl σ H fun x H1=>∃ z,x=.str z/\R (VB z) H1):HX tl σ H R:=k
theorem LH {z:Str} (hn:z.length<=1000) (Pv:Addr->Nat->List V->Hp->Prop) (h0:∀ acc,H acc=none->Pv acc 0 [] (upd H acc (.lst [])))
  (hs:∀ acc i ys H1 c,H acc=none->z.cps[i]?=some c->ys.length=i->H1 acc=some (.lst ys)->Pv acc i ys H1->te (some (.str ⟨#[c]⟩)::caps) H1 (BM z.length acc (Pv acc) ys i))
  (hd:∀ acc ys H1,H acc=none->H1 acc=some (.lst ys)->ys.length=z.length->Pv acc z.length ys H1->Q (.ref acc) H1):lO te none (kH 0) (List.replicate 1 none) caps Q (VB z) H:=by
 intro acc hacc
 refine ⟨cW z.length acc (Pv acc),⟨z.length,by simp,zero_le _,rfl,aC,h0 acc hacc⟩,?_⟩
 rintro i m ys H1 ⟨rfl,hi,hl,ha,p⟩
 refine ⟨ha,?_⟩
 by_cases hlt:i < z.length
 ·refine .inr ⟨dL (by omega),hlt,fun us x H' hu y=>?_⟩
  obtain ⟨e,c,ec,y⟩:=y
  subst e y
  obtain ⟨o,rfl⟩:=MP hu
  exact ⟨⟨[some (.str ⟨#[c]⟩)],rfl,rfl⟩,hs acc i ys _ c hacc ec hl ha p⟩
 ·have e:i=z.length:=by omega
  subst e
  exact .inl ⟨le_refl _,hd acc ys H1 hacc ha hl p⟩
end
section
variable {r r':R2} {ta tb tc:TE} {x y:V} {σ:St} {H:Hp} {Q:VK} {c:Bool}
end
section
variable {K:Frag} {H H':Hp}
end
theorem sR (z:Str):z.length=z.cps.toList.length:=by unfold Str.length; simp
theorem NI (a b:Str):(a++b).cps.toList=a.cps.toList++b.cps.toList:=by
 show (a.cps++b.cps).toList=_
 simp
theorem HP (a b:Str):(a++b).length=a.length+b.length:=by
 rw [sR,sR,sR,NI,length_append]
end
section
theorem NC:∀ i,i < 1000->(Str.ofString (toString ((i:Nat):Int))).length<=10:=by decide +kernel
section
variable {X:Cx}
noncomputable def OF (te:TE):TE:=fun σ H Q=>te σ H fun x H1=>∃ i:Nat,x=.int i/\i < 1000/\∀ z:Str,z.length<=10->Q (.str z) H1
theorem CM {i:Nat} (h:i < 1000):((i:Nat):Int).natAbs.log2 < 1920:=by
 rw [Int.natAbs_natCast]
 by_cases e:i=0
 ·subst e; decide
 ·have h1:i.log2 < 10:=(Nat.log2_lt e).mpr (by omega)
  omega
theorem SJ {e:Expr}{te:TE}{pos:Pos} (he:PE X e te):PE X (.FormattedValue e (-1) none pos) (OF te):=by
 intro pins s σ H Q I h
 refine wpAny_FormattedValue_plain (bZ (he pins s σ H _ I h) fun v s1 ⟨x,H1,I1,r1,i,e1,hi,q⟩=>?_)
 subst e1
 obtain ⟨t,rfl⟩:=r1
 exact wpAny_formatField_int (CM hi) ⟨.str _,H1,I1.tok _,⟨_,rfl⟩,q _ (NC i hi)⟩
noncomputable def QL:List TE->TE
|[],_,H,Q=>∀ z:Str,Q (.str z) H
|t::r,σ,H,Q=>t σ H fun x H1=>∃ y:Str,x=.str y/\y.length<=200000/\QL r σ H1 Q
inductive QE (X:Cx):List Expr->List TE->Prop
|nil:QE X [] []
|cons {v:Expr} {vs:List Expr} {t:TE} {ts:List TE} (h:PE X v t) (r:QE X vs ts):QE X (v::vs) (t::ts)
theorem SG:QE X [] []:=.nil
theorem sJ {v:Expr}{vs:List Expr}{t:TE}{ts:List TE} (h:PE X v t) (r:QE X vs ts):QE X (v::vs) (t::ts):=.cons h r
theorem vU {pins:List (Addr×Obj)}{σ:St}{Q:VK}:∀ {vs:List Expr}{ts:List TE} (_:QE X vs ts) (n:Nat) (acc:Str) (s:Shared) (H:Hp),acc.length<=200000 * n->ts.length+n<=60->aL X pins σ H s->QL ts σ H Q ->
  Joins (model X.prog X.w) X.A X.xe (evalEach vs X.env) acc (fun out s₁=>out.length<=sizeLine/\EP X pins σ Q (.str out s₁.toks) { s₁ with toks:=s₁.toks+1 }) s
|_,_,.nil,n,acc,s,H,ha,hn,I,h=>⟨by rw [sizeLine_eq]; omega,.str acc,H,I.tok _,⟨_,rfl⟩,h acc⟩
|v::vs,t::ts,.cons hp r,n,acc,s,H,ha,hn,I,h=>by
  show wpAny _ _ (eval v X.env) _ _ s
  rw [length_cons] at hn
  refine bZ (hp pins s σ H _ I h) fun u s1 ⟨x,H1,I1,r1,y,e1,hy,q⟩=>?_
  subst e1
  obtain ⟨tk,rfl⟩:=r1
  have hl:=HP acc y
  refine ⟨y,tk,rfl,by rw [hl,sizeLine_eq]; omega,vU r (n+1) (acc++y) s1 H1 (by omega) (by omega) I1 q⟩
theorem SI {v1 v2:Expr}{dN:List Expr}{ts:List TE}{pos:Pos} (h:QE X (v1::v2::dN) ts) (hn:ts.length<=50):PE X (.JoinedStr (v1::v2::dN) pos) (QL ts):=by
 intro pins s σ H Q I hq
 exact wpAny_JoinedStr (vU h 0 Str.empty s H (le_refl _) (by omega) I hq)
theorem WQ {σ:St}{H:Hp}{Q:VK} (k:∀ z:Str,Q (.str z) H):QL [] σ H Q:=k
noncomputable def Bo (r:List TE) (σ:St) (Q:VK):VK:=fun x H1=>∃ y:Str,x=.str y/\y.length<=200000/\QL r σ H1 Q
theorem Ae {t:TE}{r:List TE}{σ:St}{H:Hp}{Q:VK} (k:t σ H (Bo r σ Q)):QL (t::r) σ H Q:=k
theorem WP {r:List TE}{σ:St}{H:Hp}{Q:VK}{y:Str} (hy:y.length<=200000) (k:QL r σ H Q):Bo r σ Q (.str y) H:=⟨y,rfl,hy,k⟩
noncomputable def Bq (Q:VK):VK:=fun x H1=>∃ i:Nat,x=.int i/\i < 1000/\∀ z:Str,z.length<=10->Q (.str z) H1
theorem WX {te:TE}{σ:St}{H:Hp}{Q:VK} (k:te σ H (Bq Q)):OF te σ H Q:=k
theorem WY {i:Nat}{H:Hp}{Q:VK} (hi:i < 1000) (k:∀ z:Str,z.length<=10->Q (.str z) H):Bq Q (.int i) H:=⟨i,rfl,hi,k⟩
end
section
variable {σ:St} {H:Hp} {D:cU} {K:Frag}
end
end
section
noncomputable def YU (v a:Addr):HO:=.ext fun h=>h.IsValuesView v a
noncomputable def OP:V->List V->Hp->VK->Prop:=fun x vs H Q=>∃ (a:Addr) (kvs:List (aR×V)),x=.ref a/\vs=[]/\H a=some (.dK kvs)/\∀ v,H v=none->Q (.ref v) (upd H v (YU v a))
section
variable {X:Cx}
theorem qG:ZB X "dict.values" OP:=by
 intro pins s σ H x vs v us Q I rx rv h
 obtain ⟨a,kvs,rfl,rfl,ha,q⟩:=h
 cases rx
 cases rv
 obtain ⟨z,hd,vs',rel,dd⟩:=lM I.hok ha
 refine call_meetsIn slot_dict_values dd.typeIs PySem.F.entry_dict_values (PySem.F.args_dict_values_1 _) (meets_dict_values (aY X.prog X.w) a hd) ⟨⟨vs',dd⟩,?_⟩
 have g:(s.heap.push { cls:=.type "dict_values",data:=.fields #[.ref a] }).get? s.heap.objs.size=some { cls:=.type "dict_values",data:=.fields #[.ref a] }:=get?_push_size _ rfl
 refine ⟨.ref s.heap.objs.size,_,I.laid (h':=s.heap.push { cls:=.type "dict_values",data:=.fields #[.ref a] }) (t':=s.toks) (o:=YU s.heap.objs.size a) (fun b o e=>get?_push_of_some _ e) (le_refl _) ⟨⟨_,g,rfl,rfl⟩,⟨_,g⟩,fun h1 h2 ⟨o,x1,x2⟩ k=>⟨o,k _ x1,x2⟩⟩,rfl,q _ (I.hok.fresh (le_refl _))⟩
noncomputable def GB:List V->Hp->VK->Prop:=fun vs H Q=>∃ (v a:Addr) (kvs:List (aR×V)),vs=[.ref v]/\H v=some (YU v a)/\H a=some (.dK kvs)/\∀ l,H l=none->Q (.ref l) (upd H l (.lst (kvs.map (·.2))))
theorem AU:∀ {kvs:List (aR×V)}{vs:List (aR×Value)},KV kvs vs->aM (kvs.map (·.2)) (vs.map (·.2))
|_,_,.nil=>.nil
|_,_,.cons r t=>.cons r.2 (AU t)
theorem BL (hc:X.calm=true):cK X (.type "list") GB:=by
 intro pins s σ H vs us Q I r h
 obtain ⟨v,a,kvs,rfl,hv,ha,q⟩:=h
 obtain ⟨u,rfl,ru⟩:=r.one
 cases ru
 obtain ⟨z,hd,vs',rel,dd⟩:=lM I.hok ha
 obtain ⟨ep,dd⟩:=dd.dictAt
 have vw:s.heap.IsValuesView v a:=(I.hok v _ hv).1
 refine PySem.W.kdl_call (PySem.W.kdl_values (knd:=aY X.prog X.w) (kvs:=vs') (ep:=ep)) (I.ok.hd hc) ⟨vw,dd⟩ (by rw [← rel.length]; exact z) fun h' tk acc c kp g hacc=>?_
 have e2:acc.toList=vs'.map (·.2):=PySem.W.kdl_vals_eq acc.toList (by simpa using hacc.1) fun j v e=>hacc.2 j v (by simpa using e)
 refine ⟨.ref s.heap.objs.size,_,I.laid (h':=h') (a:=s.heap.objs.size) (o:=.lst (kvs.map (·.2))) (t':=tk) kp (le_refl _) ⟨by rw [length_map]; exact z,acc.toList,c,by rw [e2]; exact AU rel,by rw [Array.toArray_toList]; exact g⟩,rfl,q _ (I.hok.fresh (le_refl _))⟩
theorem FM {H:Hp}{Q:VK}{a:Addr}{kvs:List (aR×V)} (h:H a=some (.dK kvs)) (k:∀ v G,H v=none->aJ H G->G v=some (YU v a)->Q (.ref v) G):OP (.ref a) [] H Q:=⟨a,kvs,rfl,rfl,h,fun v hv=>k v _ hv (aJ.new hv) aC⟩
theorem zR {H:Hp}{Q:VK}{v a:Addr}{kvs:List (aR×V)} (h1:H v=some (YU v a)) (h2:H a=some (.dK kvs)) (k:∀ l G,H l=none->aJ H G->G l=some (.lst (kvs.map (·.2)))->Q (.ref l) G):GB [.ref v] H Q:=⟨v,a,kvs,rfl,h1,h2,fun l hl=>k l _ hl (aJ.new hl) aC⟩
noncomputable def RU:List V->Hp->VK->Prop:=fun vs H Q=>∃ z:Str,vs=[.str z]/\z.length<=100000/\∀ l,H l=none->Q (.ref l) (upd H l (.lst (z.cps.toList.map fun c=>V.str ⟨#[c]⟩)))
theorem nJ:∀ {cs:List Nat}{us:List Value},us.length=cs.length->(∀ (i:Nat) (v:Value),us[i]?=some v->∃ c t,cs[i]?=some c/\v=.str ⟨#[c]⟩ t)->aM (cs.map fun c=>V.str ⟨#[c]⟩) us
|[],[],_,_=>.nil
|c::cs,u::us,hl,h=>by
  obtain ⟨c',t,e1,rfl⟩:=h 0 u rfl
  cases e1
  exact .cons ⟨t,rfl⟩ (nJ (by simpa using hl) fun i v e=>h (i+1) v e)
theorem NL (hc:X.calm=true):cK X (.type "list") RU:=by
 intro pins s σ H vs us Q I r h
 obtain ⟨z,rfl,hz,q⟩:=h
 obtain ⟨u,rfl,ru⟩:=r.one
 obtain ⟨t,rfl⟩:=ru
 have hz':z.cps.size<=100000:=hz
 refine call_list_str (hn:=by rw [sizeLine_eq]; omega) (I.ok.hd hc) z t fun h' tk acc c kp g hacc=>?_
 have hv:aM (z.cps.toList.map fun c=>V.str ⟨#[c]⟩) acc.toList:=nJ (by rw [Array.length_toList,Array.length_toList]; exact hacc.1) fun i v e=>by
  obtain ⟨c,t,e1,e2⟩:=hacc.2 i v (by simpa using e)
  exact ⟨c,t,by simpa using e1,e2⟩
 refine ⟨.ref s.heap.objs.size,_,I.laid (h':=h') (a:=s.heap.objs.size) (o:=.lst (z.cps.toList.map fun c=>V.str ⟨#[c]⟩)) (t':=tk) kp (le_refl _) ⟨by rw [length_map,Array.length_toList,sizeLine_eq]; omega,acc.toList,c,hv,by rw [Array.toArray_toList]; exact g⟩,rfl,q _ (I.hok.fresh (le_refl _))⟩
end
end
section
noncomputable def RY:List V->Hp->VK->Prop:=fun vs H Q=>∃ (a:Addr) (kvs:List (aR×V)),vs=[.ref a]/\H a=some (.dK kvs)/\∀ p,H p=none->Q (.ref p) (upd H p (.dK kvs))
theorem NM {X:Cx}:cK X (.type "dict") RY:=by
 intro pins s σ H vs us Q I r h
 obtain ⟨a,kvs,rfl,ha,q⟩:=h
 obtain ⟨u,rfl,ru⟩:=r.one
 cases ru
 obtain ⟨z,hd,vs',rel,dd⟩:=lM I.hok ha
 refine kt_call_dict (knd:=aY X.prog X.w) hd dd (by rw [← rel.length]; exact z) fun h' dd' hs=>?_
 refine ⟨.ref s.heap.objs.size,_,I.laid (h':=h') (a:=s.heap.objs.size) (o:=.dK kvs) (t':=s.toks) (fun b u e=>?_) (le_refl _) (oQ z (beq_eq_false_iff_ne.mpr (Ne.symm (ne_of_lt I.big))) rel dd'),rfl,q _ (I.hok.fresh (le_refl _))⟩
 have hb:b≠s.heap.objs.size:=ne_of_lt (lt_size e)
 rw [hs.2 b hb]
 exact get?_push_of_some _ e
end
section
theorem vV {X:Cx}{pins:List (Addr×Obj)}{σ:St}{H:Hp}{s:Shared} (I:aL X pins σ H s) {A:Around} (hu:A.units+20 < cLine) {kws:List (aR×V)}{ws:List (aR×Value)} (rw':KV kws ws):∀ {kvs:List (aR×V)}{vs:List (aR×Value)},KV kvs vs->(∀ kv∈kvs,∃ d w,gC kws kv.1=some w/\lH H d kv.2/\lH H d w/\qR d<=20)->PySem.W.KeqHits A s ws vs true
|_,_,.nil,_=>.nil
|_,_,.cons (a:=p) (b:=q) r t,h=>by
  obtain ⟨d,w,e,h1,h2,hd⟩:=h p mem_cons_self
  have rv:=rw'.val p.1
  rw [e,r.1] at rv
  cases ev:valueAt ws q.1 with
 |none=>rw [ev] at rv; cases rv
 |some y =>
   rw [ev] at rv
   have e1:=yI I d d (A:=A) h1 h2 r.2 (show aV w y from rv) (by omega)
   rw [lH.same_eq d d h1 h1] at e1
   exact PySem.W.KeqHits.hit (e:=true) (b:=true) ev e1 (vV I hu rw' t fun kv hkv=>h kv (mem_cons_of_mem _ hkv))
end
section
section
open PySem.SeqAt PySem.MeetsSeq PySem.MeetsSeq2 PySem.MeetsSeq3
open PySem.AutoSeq1 (wpAny_loadPart')
variable {prog:Program} {w:World}
noncomputable def DX (prog:Program) (w:World) (A:Around) (s:Shared) (y x:Value):Prop:=∀ (E:Value->Shared->Prop) (Q:Bool->Shared->Prop),Q true s->wpAny (model prog w) A (eqBool y x) Q E s
theorem DX.of {A:Around}{s:Shared}{y x:Value} (h:EqAt A s y x true):DX prog w A s y x:=fun E Q q=>h prog w E Q q
theorem CI (l b:Addr) (items items2:Array Value) (n n2:Nat) (dd dd2:Option Addr) (sl sl2:Array (Option Value)) (hsz:items.size=items2.size) (k:Nat) :
  ∀ i:Nat,items.size - i=k->MeetsIn prog w (Builtin.«list.__eq__.loop» ⟨[.ref l,.ref b,rawInt i,rawInt 3],[]⟩)
   (fun A R s=>s.heap.get? l=some { cls:=.type "list",dict:=dd,data:=.seq items n,slots:=sl }/\s.heap.get? b=some { cls:=.type "list",dict:=dd2,data:=.seq items2 n2,slots:=sl2 } /\
    (∀ j (h1:j < items.size) (h2:j < items2.size),DX prog w A.in1 s items[j] items2[j])/\R (.ok (.ret (.bool false))) s):=by
 induction k with
|zero =>
  intro i hk A R s h
  obtain ⟨hp,g,d,tk,os⟩:=s; obtain ⟨hl,hb,he,h⟩:=h
  wp_walk using wpAny_loadPart' hl,wpAny_loadPart' hb
  have hi1:items[((i:Nat):Int).toNat]?=none:=by simp; omega
  have hi2:items2[((i:Nat):Int).toNat]?=none:=by simp; omega
  rw [hi1,hi2]
  wp_walk using wpAny_loadPart' hl,wpAny_loadPart' hb
  show R (.ok (.ret (.bool (items.size !=items2.size)))) _
  rw [hsz]
  simpa using h
|succ k ih =>
  intro i hk A R s h
  obtain ⟨hp,g,d,tk,os⟩:=s; obtain ⟨hl,hb,he,h⟩:=h
  wp_walk using wpAny_loadPart' hl,wpAny_loadPart' hb
  have hlt:i < items.size:=by omega
  have hlt2:i < items2.size:=by omega
  have hi1:items[((i:Nat):Int).toNat]?=some items[i]:=by simp [hlt]
  have hi2:items2[((i:Nat):Int).toNat]?=some items2[i]:=by simp [hlt2]
  have hc:((i:Int)+1)=((i+1:Nat):Int):=by push_cast; rfl
  rw [hi1,hi2]
  refine wpAny_bind (he i hlt hlt2 _ _ ?_)
  wp_walk
  rw [hc]
  exact ⟨plainId_quiet plain_eq_loop _,codeAny_builtin entry_eq_loop (by
   rw [Around.under_plainId plain_eq_loop _]
   exact ih (i+1) (by omega) A R _ ⟨hl,hb,he,h⟩)⟩
theorem CO (l b:Addr) (items items2:Array Value) (n n2:Nat) (dd dd2:Option Addr) (sl sl2:Array (Option Value)) (hsz:items.size=items2.size) :
  MeetsIn prog w (Builtin.«list.__ne__» ⟨[.ref l,.ref b],[]⟩)
   (fun A R s=>s.heap.get? l=some { cls:=.type "list",dict:=dd,data:=.seq items n,slots:=sl }/\s.heap.get? b=some { cls:=.type "list",dict:=dd2,data:=.seq items2 n2,slots:=sl2 } /\
    (∀ j (h1:j < items.size) (h2:j < items2.size),DX prog w A.in1 s items[j] items2[j])/\R (.ok (.ret (.bool false))) s):=by
 intro A R s h
 obtain ⟨hp,g,d,tk,os⟩:=s; obtain ⟨hl,hb,he,h⟩:=h
 have f3:=AutoSeq1.sub_list_list
 have hne:¬ (items.size !=items2.size)=true:=by simp [hsz]
 wp_walk using wpAny_loadPart' hl,wpAny_loadPart' hb
 exact ⟨plainId_quiet plain_eq_loop _,codeAny_builtin entry_eq_loop (by
  rw [Around.under_plainId plain_eq_loop _]
  exact CI l b items items2 n n2 dd dd2 sl sl2 hsz _ 0 rfl A R _ ⟨hl,hb,he,h⟩)⟩
end
noncomputable def wL (H:Hp) (x y:V):Prop:=(∃ d,lH H d x/\lH H d y/\qR d<=20)∨∃ p q kvs kws,x=.ref p/\y=.ref q/\H p=some (.dK kvs)/\H q=some (.dK kws)/\kvs.length=kws.length/\∀ kv∈kvs,∃ d w,gC kws kv.1=some w/\lH H d kv.2/\lH H d w/\qR d<=20
theorem BA {X:Cx}{pins:List (Addr×Obj)}{σ:St}{H:Hp}{s:Shared} (I:aL X pins σ H s) {A:Around} (hu:A.units+30 < cLine) {x y:V}{u v:Value} (h:wL H x y) (ru:aV x u) (rv:aV y v):DX X.prog X.w A s u v:=by
 rcases h with ⟨d,h1,h2,hd⟩|⟨p,q,kvs,kws,rfl,rfl,hp,hq,hl,hall⟩
 ·have e:=yI I d d (A:=A) h1 h2 ru rv (by omega)
  rw [lH.same_eq d d h1 h1] at e
  exact .of e
 ·cases ru
  cases rv
  by_cases e:p=q
  ·rw [e]
   exact .of (SeqAt.EqAt.same _)
  ·intro E Q hQ
   unfold eqBool
   refine wpAny_holding ?_
   refine wpAny_ite_split (fun hab=>absurd (by have:=eq_of_beq hab; injection this) e) (fun _=>?_)
   obtain ⟨z1,n1,vs,r1,d1⟩:=lM I.hok hp
   obtain ⟨z2,n2,ws,r2,d2⟩:=lM I.hok hq
   have el:vs.length=ws.length:=by rw [← r1.length,← r2.length,hl]
   refine wpAny_bind (keq_eq (r:=true) n1 n2 d1 d2 (by omega) (fun _=>vV I (A:=A.in1) (by show A.units+1+20 < cLine; omega) r2 r1 hall) (wpAny_truthy_bool ?_))
   rw [el]
   simpa using hQ
noncomputable def An:R2:=fun x y H Q=>∃ p q xs ys,x=.ref p/\y=.ref q/\H p=some (.lst xs)/\H q=some (.lst ys)/\xs.length=ys.length/\(∀ (i:Nat) (x y:V),xs[i]?=some x->ys[i]?=some y->wL H x y)/\Q (.bl false) H
theorem SL {X:Cx} (hu:X.A.units+64 < cLine):gA X (compareOp .NotEq) An:=by
 intro pins s σ H x y v u Q I rx ry h
 obtain ⟨p,q,xs,ys,rfl,rfl,hp,hq,hl,hall,k⟩:=h
 cases rx
 cases ry
 obtain ⟨z1,its,n1,rv1,l1,e1⟩:=I.lstM hp
 obtain ⟨z2,jts,n2,rv2,l2,e2⟩:=I.lstM hq
 refine wpAny_richCompare_same_room (op:=.NotEq) ⟨_,e1,rfl⟩ ⟨_,e2,rfl⟩ slot_list_ne (call_meetsIn slot_list_ne ⟨_,e1,rfl⟩ PySem.F.entry_list_ne (PySem.F.args_list_ne_2 _ _) (CO p q its.toArray jts.toArray n1 n2 none none #[] #[] (by rw [size_toArray,size_toArray]; omega)) ⟨e1,e2,fun j h1 h2=>?_,?_⟩) (by omega)
 ·have j1:j < its.length:=by simpa using h1
  have j2:j < jts.length:=by simpa using h2
  have k1:j < xs.length:=by omega
  have k2:j < ys.length:=by omega
  obtain ⟨a,ea,ra⟩:=rv1.get (i:=j) (List.getElem?_eq_getElem k1)
  obtain ⟨b,eb,rb⟩:=rv2.get (i:=j) (List.getElem?_eq_getElem k2)
  rw [List.getElem?_eq_getElem j1] at ea
  rw [List.getElem?_eq_getElem j2] at eb
  have h3:=BA I (A:=X.A.in1) (by show X.A.units+1+30 < cLine; omega) (hall j _ _ (List.getElem?_eq_getElem k1) (List.getElem?_eq_getElem k2)) ra rb
  cases ea
  cases eb
  simpa using h3
 ·exact ⟨(fun x=>nomatch x),.bl false,H,I,rfl,k⟩
end
section
section
open PySem.SeqAt PySem.MeetsSeq PySem.MeetsSeq2 PySem.MeetsSeq3
open PySem.AutoSeq1 (wpAny_loadPart')
variable {prog:Program} {w:World}
theorem wS (l b:Addr) (items items2:Array Value) (n n2:Nat) (dd dd2:Option Addr) (sl sl2:Array (Option Value)) (hsz:items.size=items2.size) :
  MeetsIn prog w (Builtin.«tuple.__ne__» ⟨[.ref l,.ref b],[]⟩)
   (fun A R s=>s.heap.get? l=some { cls:=.type "tuple",dict:=dd,data:=.seq items n,slots:=sl }/\s.heap.get? b=some { cls:=.type "tuple",dict:=dd2,data:=.seq items2 n2,slots:=sl2 } /\
    (∀ j (h1:j < items.size) (h2:j < items2.size),DX prog w A.in1 s items[j] items2[j])/\R (.ok (.ret (.bool false))) s) :=
 .of_wp fun A R s h=>by
  obtain ⟨hp,g,d,tk,os⟩:=s; obtain ⟨hl,hb,he,h⟩:=h
  have f2:=AutoSeq1.sub_tuple_tuple
  have hZ:(items.toList.zip items2.toList).length=min items.size items2.size:=by simp
  wp_walk using wpAny_loadPart' hl,wpAny_loadPart' hb,wpAny_forIn_list _ (fun dN b s'=>b.1=none/\s'=⟨hp,g,d,tk,os⟩/\∃ i,dN=(items.toList.zip items2.toList).drop i) _
  case turn =>
   rintro ⟨y,x⟩ dN b s' ⟨hb',rfl,i,hz⟩
   have hlt:i < (items.toList.zip items2.toList).length:=by
    rcases lt_or_ge i (items.toList.zip items2.toList).length with h'|h'
    ·exact h'
    ·rw [List.drop_of_length_le h'] at hz; cases hz
   have hm:i < min items.size items2.size:=hZ ▸ hlt
   have h1:i < items.size:=lt_of_lt_of_le hm (Nat.min_le_left _ _)
   have h2:i < items2.size:=lt_of_lt_of_le hm (Nat.min_le_right _ _)
   rw [drop_eq_getElem_cons hlt] at hz
   injection hz with hyx hrest
   have hy:y=items[i]:=by have:=congrArg Prod.fst hyx; simpa using this
   have hx:x=items2[i]:=by have:=congrArg Prod.snd hyx; simpa using this
   subst hy hx
   refine wpAny_bind (he i h1 h2 _ _ ?_)
   wp_walk
   exact ⟨rfl,rfl,i+1,hrest⟩
  case fin =>
   rintro ⟨b1,b2⟩ s' ⟨hb',rfl,i,hz⟩
   simp only at hb'
   subst hb'
   wp_walk
   exact ⟨_,rfl,by simpa [Builtin.Tuple.tupleCompareSizes,bne,hsz] using h⟩
  case h =>
   exact ⟨rfl,rfl,0,rfl⟩
end
noncomputable def OS:R2:=fun x y H Q=>∃ p q xs ys,x=.ref p/\y=.ref q/\H p=some (.tup xs)/\H q=some (.tup ys)/\xs.length=ys.length/\(∀ (i:Nat) (x y:V),xs[i]?=some x->ys[i]?=some y->wL H x y)/\Q (.bl false) H
theorem LZ {X:Cx} (hu:X.A.units+64 < cLine):gA X (compareOp .NotEq) OS:=by
 intro pins s σ H x y v u Q I rx ry h
 obtain ⟨p,q,xs,ys,rfl,rfl,hp,hq,hl,hall,k⟩:=h
 cases rx
 cases ry
 obtain ⟨_,its,rv1,o1,e1,c1,n1,d1⟩:=I.hok p _ hp
 obtain ⟨_,jts,rv2,o2,e2,c2,n2,d2⟩:=I.hok q _ hq
 obtain ⟨oc1,od1,oo1,os1⟩:=o1
 obtain ⟨oc2,od2,oo2,os2⟩:=o2
 simp only at c1 d1 c2 d2
 subst c1 d1 c2 d2
 have l1:=rv1.length
 have l2:=rv2.length
 refine wpAny_richCompare_same_room (op:=.NotEq) ⟨_,e1,rfl⟩ ⟨_,e2,rfl⟩ slot_tuple_ne (call_meetsIn slot_tuple_ne ⟨_,e1,rfl⟩ PySem.F.entry_tuple_ne (PySem.F.args_tuple_ne_2 _ _) (wS p q its.toArray jts.toArray n1 n2 od1 od2 os1 os2 (by rw [size_toArray,size_toArray]; omega)) ⟨e1,e2,fun j h1 h2=>?_,?_⟩) (by omega)
 ·have j1:j < its.length:=by simpa using h1
  have j2:j < jts.length:=by simpa using h2
  have k1:j < xs.length:=by omega
  have k2:j < ys.length:=by omega
  obtain ⟨a,ea,ra⟩:=rv1.get (i:=j) (List.getElem?_eq_getElem k1)
  obtain ⟨b,eb,rb⟩:=rv2.get (i:=j) (List.getElem?_eq_getElem k2)
  rw [List.getElem?_eq_getElem j1] at ea
  rw [List.getElem?_eq_getElem j2] at eb
  have h3:=BA I (A:=X.A.in1) (by show X.A.units+1+30 < cLine; omega) (hall j _ _ (List.getElem?_eq_getElem k1) (List.getElem?_eq_getElem k2)) ra rb
  cases ea
  cases eb
  simpa using h3
 ·exact ⟨(fun x=>nomatch x),.bl false,H,I,rfl,k⟩
noncomputable def XN:R2:=fun x y H Q=>GA x y H Q∨OS x y H Q
theorem GV {X:Cx} (hu:X.A.units+64 < cLine):gA X (compareOp .NotEq) XN:=(sN hu).or (LZ hu)
noncomputable def OU:List V->Hp->VK->Prop:=fun vs H Q=>∃ (p:Addr) (xs:List Int),vs=[.ref p]/\H p=some (.lst (xs.map V.int))/\xs≠[]/\∀ m∈xs,(∀ y∈xs,y<=m)->Q (.int m) H
theorem UB {X:Cx} (hc:X.calm=true):cK X (.builtin "max") OU:=by
 intro pins s σ H vs us Q I r h
 obtain ⟨p,xs,rfl,hp,hne,q⟩:=h
 obtain ⟨u,rfl,rx⟩:=nC r
 cases rx
 obtain ⟨its,rl,pl,_⟩:=I.list (bS.of hp)
 have hI:=eU rl
 have hlen:its.length=xs.length:=by rw [← rl.length,length_map]
 have hL:s.heap.IsList p its.toArray:=pl.isList
 have hlt:p < s.heap.objs.size:=by obtain ⟨_,_,e,_⟩:=pl; exact lt_size e
 have hpos:0 < xs.length:=List.length_pos_iff.mpr hne
 have at':∀ i v,its.toArray[i]?=some v->∃ t,v=Value.int (xs.getD i 0) t:=fun i v e=>by
  have e':its[i]?=some v:=by simpa using e
  have hi:i < xs.length:=by rw [← hlen]; exact (List.getElem?_eq_some_iff.mp e').1
  obtain ⟨t,et⟩:=hI.get (i:=i) (n:=xs[i]) (List.getElem?_eq_getElem hi)
  rw [e'] at et
  exact ⟨t,by rw [getD_eq_getElem?_getD,List.getElem?_eq_getElem hi]; exact Option.some.inj et⟩
 refine call_max_walk (wpAny_pyIter_list hL ?_)
 refine ⟨_,[_,p],[_],_,_,_,_,rfl,Walks.list (A:=X.A.in1) (I.ok.hd hc) _ p (ne_of_lt hlt) its.toArray,⟨⟨_,get?_push_size _ rfl,rfl,rfl⟩,hL.push _⟩,fun c hc=>?_,by rw [size_toArray]; omega,CmpOf.ints_gt (fun i=>xs.getD i 0) at',fun v h' tk hP hk=>?_⟩
 ·show c < (s.heap.push _).objs.size
  rw [size_push]
  rcases mem_cons.mp hc with rfl|hc
  ·exact lt_succ_self _
  ·rcases mem_cons.mp hc with rfl|hc
   ·exact lt_succ_of_lt hlt
   ·cases hc
 ·have hold:∀ c o,s.heap.get? c=some o->h'.get? c=some o:=fun c o e=>by
   refine hk c o (fun hm=>?_) (get?_push_of_some _ e)
   rcases mem_cons.mp hm with e1|hm
   ·have:=lt_size e
    rw [e1] at this
    exact lt_irrefl _ this
   ·cases hm
  obtain ⟨t,rfl⟩:=at' _ _ hP
  obtain ⟨b1,b2⟩:=argBest_gt (fun i=>xs.getD i 0) (its.toArray.size - 1)
  rw [size_toArray,hlen] at b1 b2
  rw [size_toArray,hlen]
  have hk':argBest (fun i j=>decide (xs.getD i 0 > xs.getD j 0)) (xs.length - 1) < xs.length:=by omega
  refine ⟨.int _,H,I.kept hold,⟨_,rfl⟩,q _ ?_ fun y hy=>?_⟩
  ·rw [getD_eq_getElem?_getD,List.getElem?_eq_getElem hk']
   exact List.getElem_mem hk'
  ·obtain ⟨j,hj⟩:=List.getElem?_of_mem hy
   have hj':j < xs.length:=(List.getElem?_eq_some_iff.mp hj).1
   have:=b2 j (by omega)
   have ey:xs.getD j 0=y:=by rw [getD_eq_getElem?_getD,hj]; rfl
   rw [ey] at this
   exact this
theorem RG {H:Hp}{Q:VK}{p:Addr}{xs:List Int} (h:H p=some (.lst (xs.map V.int))) (hne:xs≠[]) (k:∀ m∈xs,(∀ y∈xs,y<=m)->Q (.int m) H):OU [.ref p] H Q:=⟨p,xs,rfl,h,hne,k⟩
end
end L2
namespace L2
open PySem
noncomputable def pJ:Value->Int
|.int x _=>x
|_=>0
noncomputable def fI (w:World) (h:Heap) (a:Addr) (xs:List Int):Prop:=
 ∃ es ep t,h.get? a=some (bM es ep t)/\(∀ e∈es.toList,∃ y u,e=(hashInt y,Value.int y u))/\es.toList.map (fun e=>pJ e.2)=xs/\xs.Nodup/\es.size < scanBound/\t.fits es.size=true/\Tb w t es.size
theorem fI.at {w:World}{h h':Heap}{a:Addr}{xs:List Int} (x:fI w h a xs) (e:∀ o,h.get? a=some o->h'.get? a=some o):fI w h' a xs:=
 let ⟨es,ep,t,g,r⟩:=x; ⟨es,ep,t,e _ g,r⟩
section
variable {prog:Program} {w:World} {A:Around} {E:Value -> Shared -> Prop} {s:Shared} {a:Addr}
theorem UN {xs:List Int}{y:Int}{tk:Tok}{Q:Bool->Shared->Prop} (hx:fI w s.heap a xs) (hb:xs.length+1 < scanBound)
  (h1:y∈xs->Q false s) (h2:y∉xs->∀ h' xs',Heap.SameBut a s.heap h'->xs'.Perm (xs++[y])->fI w h' a xs'->Q true { s with heap:=h' }):wpAny (model prog w) A (setAddHashed a (.int y tk) (hashInt y)) Q E s:=by
 obtain ⟨es,ep,t,g,hel,hxs,hnd,hsz,hf,ht⟩:=hx
 have hl:xs.length=es.size:=by rw [← hxs]; simp
 have hE:ElemsOf (intKind prog w) es.toList:=fun e he=>by
  obtain ⟨z,u,rfl⟩:=hel e he
  exact ⟨⟨z,by show Value.isInt z (.int z u)=true; simp [Value.isInt],rfl⟩,rfl⟩
 have his:∀ e∈es.toList,((intKind prog w).is y e.2=true ↔ pJ e.2=y):=fun e he=>by
  obtain ⟨z,u,rfl⟩:=hel e he
  constructor
  ·intro q
   obtain ⟨u',q'⟩:=Value.isInt_shape (show Value.isInt y (.int z u)=true from q)
   cases q'
   rfl
  ·intro q
   have q:z=y:=q
   subst q
   show Value.isInt z (.int z u)=true
   simp [Value.isInt]
 refine JC (knd:=intKind prog w) (k:=y) rfl (by show Value.isInt y (.int y tk)=true; simp [Value.isInt]) g ⟨rfl,rfl,rfl⟩ rfl hE (by omega) hf ht (fun ⟨e,he,q⟩=>h1 ?_) fun hno h' es' t' ep' sb g' hp hf' ht'=>h2 ?_ h' (es'.toList.map fun e=>pJ e.2) sb ?_ ⟨es',ep',t',g',?_,rfl,?_,?_,hf',ht'⟩
 ·rw [← hxs]
  exact mem_map.mpr ⟨e,he,(his e he).mp q⟩
 ·intro hm
  rw [← hxs] at hm
  obtain ⟨e,he,q⟩:=mem_map.mp hm
  have:=hno e he
  rw [(his e he).mpr q] at this
  cases this
 ·have q:=hp.map fun e=>pJ e.2
  rw [map_append,hxs] at q
  exact q
 ·intro e he
  rcases mem_append.mp (hp.mem_iff.mp he) with q|q
  ·exact hel e q
  ·rw [mem_singleton] at q
   exact ⟨y,tk,q⟩
 ·have q:=hp.map fun e=>pJ e.2
  rw [map_append,hxs] at q
  refine q.nodup_iff.mpr (nodup_append.mpr ⟨hnd,by simp,fun z hz z' hz'=>?_⟩)
  have hz':z'=y:=by simpa [pJ] using hz'
  subst hz'
  rintro rfl
  rw [← hxs] at hz
  obtain ⟨e,he,q⟩:=mem_map.mp hz
  have:=hno e he
  rw [(his e he).mpr q] at this
  cases this
 ·have:=hp.length_eq
  simp at this
  omega
end
section
variable {prog:Program} {w:World} {A:Around} {R:Result -> Shared -> Prop} {I:Addr} {fp wr:List Addr} {G:Array GenState -> Array GenState -> Prop} {n:Nat} {P:Nat -> Value -> Prop} {St:Nat -> Shared -> Prop}
theorem MX (W:WalksS prog w A.in1 I fp wr G n P St) (S:Addr) (hSf:S∉fp) (val:Nat->Int) (hval:∀ i v,P i v->∃ t,v=.int (val i) t) (hb:n+1 < scanBound) :
  ∀ (k i:Nat) (s:Shared) (xs:List Int),n - i=k->i<=n->St i s->fI w s.heap S xs->xs.length<=i->(∀ z,z∈xs ↔ ∃ j,j < i/\val j=z) ->
   (∀ s' xs',Moved (S::wr) G s s'->fI w s'.heap S xs'->(∀ z,z∈xs' ↔ ∃ j,j < n/\val j=z)->R (.ok (.ret .none)) s') ->
   codeAny (model prog w) A (.builtin "set.update.loop" ⟨[.ref S,.ref I],[]⟩) R s:=by
 have hSw:S∉wr:=fun h=>hSf (W.sub _ h)
 have sub:∀ b∈wr,b∈S::wr:=fun b hb=>mem_cons_of_mem _ hb
 intro k
 induction k with
|zero =>
  intro i s xs hk hi hst hS hl hm hR
  have:i=n:=by omega
  subst this
  refine codeAny_builtin eI ?_
  rw [Around.under_plainId bP _]
  show wpAny _ A.in1 (pyNext (.ref I) >>= _) _ _ s
  refine wpAny_bind (W.done s _ _ hst fun s' mv=>wpAny_pure (hR s' xs (mv.mono sub) (hS.at fun o e=>mv.heap S _ hSw e) hm))
|succ k ih =>
  intro i s xs hk hi hst hS hl hm hR
  have hlt:i < n:=by omega
  refine codeAny_builtin eI ?_
  rw [Around.under_plainId bP _]
  show wpAny _ A.in1 (pyNext (.ref I) >>= _) _ _ s
  refine wpAny_bind (W.item i s _ _ hlt hst fun v s' hP hst' mv=>?_)
  obtain ⟨tk,rfl⟩:=hval i v hP
  have hS':fI w s'.heap S xs:=hS.at fun o e=>mv.heap S _ hSw e
  show wpAny _ A.in1 (holding [Value.int (val i) tk] (setAdd S (.int (val i) tk)) >>= _) _ _ s'
  refine wpAny_bind (wpAny_holding ?_)
  unfold setAdd
  refine wpAny_holding (wpAny_bind (wpAny_pyHash_int ?_))
  have go:∀ (s2:Shared) (xs2:List Int),Moved (S::wr) G s s2->St (i+1) s2->fI w s2.heap S xs2->xs2.length<=i+1->(∀ z,z∈xs2 ↔ z∈xs∨z=val i)->codeAny (model prog w) A (.builtin "set.update.loop" ⟨[.ref S,.ref I],[]⟩) R s2:=fun s2 xs2 mv2 st2 t2 l2 m2=>by
   refine ih (i+1) s2 xs2 (by omega) (by omega) st2 t2 l2 (fun z=>?_) fun s3 xs3 mv3 t3 m3=>hR s3 xs3 (Moved.trans W.gtrans mv2 mv3) t3 m3
   rw [m2,hm]
   constructor
   ·rintro (⟨j,hj,e⟩|rfl)
    ·exact ⟨j,by omega,e⟩
    ·exact ⟨i,by omega,rfl⟩
   ·rintro ⟨j,hj,e⟩
    by_cases q:j < i
    ·exact .inl ⟨j,q,e⟩
    ·have:j=i:=by omega
     subst this
     exact .inr e.symm
  refine UN (s:={ s' with toks:=s'.toks+1 }) hS' (by omega) (fun hin=>?_) fun hout h' xs' sb hp ht=>?_
  ·refine wpAny_pure ⟨plainId_quiet bP _,go _ xs ((mv.mono sub).then_heap (le_succ _) fun b o _ e=>e) ?_ hS' (by omega) fun z=>⟨.inl,fun q=>q.elim id fun e=>e ▸ hin⟩⟩
   exact W.frame _ s' _ _ hst' (le_succ _) fun b _ o e=>e
  ·refine wpAny_pure ⟨plainId_quiet bP _,go _ xs' ((mv.mono sub).then_heap (le_succ _) fun b o hb e=>?_) ?_ ht ?_ fun z=>?_⟩
   ·rw [sb.2 b (fun q:b=S=>hb (by rw [q]; exact mem_cons_self))]; exact e
   ·exact W.frame _ s' _ _ hst' (le_succ _) fun b hb o e=>by rw [sb.2 b (fun q:b=S=>hSf (by rw [← q]; exact hb))]; exact e
   ·have:=hp.length_eq
    simp at this
    omega
   ·rw [hp.mem_iff]
    simp
end
section
variable {prog:Program} {w:World} {A:Around} {E:Value -> Shared -> Prop} {s:Shared}
theorem CY {h:Heap}{a:Addr} (g:h.get? a=some (aP w)):fI w h a []:=
 ⟨#[],0,_,g,fun e he=>by simp at he,rfl,nodup_nil,by decide,rfl,rfl,List.Pairwise.nil,rfl⟩
set_option maxRecDepth 100000 in
set_option maxHeartbeats 3200000 in
theorem FA {l:Addr}{items:Array Value}{xs:List Int}{Q:Value->Shared->Prop} (hh:A.handled=none) (hl:s.heap.IsList l items) (hi:∀ (i:Nat) (v:Value),items[i]?=some v->∃ t,v=.int (xs.getD i 0) t) (hlen:items.size=xs.length) (hb:xs.length+1 < scanBound)
  (h:∀ h' tk ys,fI w h' s.heap.objs.size ys->(∀ z,z∈ys ↔ z∈xs)->(∀ b o,b < s.heap.objs.size->s.heap.get? b=some o->h'.get? b=some o)->Q (.ref s.heap.objs.size) { s with heap:=h',toks:=tk }) :
  wpAny (model prog w) A (call (.type "set") [.ref l]) Q E s:=by
 obtain ⟨c,tl,hmro⟩:=F.called_set.mro
 have hmade:=F.called_set.made
 have hsub:=F.called_set.sub
 refine wpAny_call (codeAny_of_tree ?_)
 show wpAny _ _ (callAny (.type "set") _) _ _ _
 refine wpAny_pure ⟨Code.quiet_builtin _ (by decide +kernel),codeAny_builtin F.entry_type_call ?_⟩
 rw [Around.under_plain (weight_type_call_type "set" [.ref l] []) rfl]
 have h1:=F.called_set.notType
 have h2:=F.called_set.canCreate
 have hct:=F.typeCall_set_1 (.ref l)
 repeat (any_goals (first|assumption|wp_step))
 refine codeAny_mono (uN (.ref l) (E:=E) (Q₁:=fun obj s₁=>obj=.ref s.heap.objs.size/\s₁={ s with heap:=s.heap.push (aP w) }) ⟨rfl,rfl⟩) fun r s₁ hr=>?_
 cases r with
|error e=>exact hr
|ok fl =>
  cases fl with
 |ret obj =>
   obtain ⟨rfl,rfl⟩:=hr
   have hS:(s.heap.push (aP w)).get? s.heap.objs.size=some (aP w):=get?_push_size _ rfl
   have hT:Shared.TypeIs { s with heap:=s.heap.push (aP w) } (.ref s.heap.objs.size) "set":=⟨_,hS,rfl⟩
   have hli:=F.called_set.init.lookup
   have hbi:=F.called_set.init.bind (.ref s.heap.objs.size)
   repeat (any_goals (first|assumption|wp_step))
   refine codeAny_mono (codeAny_call_builtin (R:=wants (fun r s₂=>r=.none/\∃ h' tk ys,s₂={ s with heap:=h',toks:=tk }/\fI w h' s.heap.objs.size ys/\(∀ z,z∈ys ↔ z∈xs) /\
     (∀ b o,b < s.heap.objs.size->s.heap.get? b=some o->h'.get? b=some o)) E) F.called_set.init.plain F.entry_set_init (check_set_init_1 hT ?_)) fun r₂ s₂ hr₂=>?_
   ·obtain ⟨ol,hol,hcl,nl,hdl⟩:=hl
    obtain ⟨ocls,odict,odata,oslots⟩:=ol
    simp only at hcl hdl
    subst hcl; subst hdl
    have hol':(s.heap.push (aP w)).get? l=some { cls:=.type "list",dict:=odict,data:=.seq items nl,slots:=oslots }:=get?_push_of_some _ hol
    have hsls:=F.sub_list_set
    have hslf:=F.sub_list_frozenset
    have hne:(Value.type "list"==Value.type "dict")=false:=by decide
    have hl1:(s.heap.push (aP w)).IsList l items:=⟨_,hol',rfl,nl,rfl⟩
    unfold Builtin.«set.__init__» noKeywords Builtin.Frozenset.updateFrom
    generalize hPI:pyIter=PI
    wp_walk
    subst hPI
    refine wpAny_pyIter_list hl1 ?_
    refine wpAny_bind (wpAny_runValue ?_)
    have hlS:l < s.heap.objs.size:=lt_size hol
    have hh3:A.in1.in1.in1.handled=none:=by simp [hh]
    have zP:(s.heap.push (aP w)).objs.size=s.heap.objs.size+1:=size_push ..
    have hneI:l≠(s.heap.push (aP w)).objs.size:=by rw [zP]; exact ne_of_lt (lt_succ_of_lt hlS)
    have hSf:s.heap.objs.size∉[(s.heap.push (aP w)).objs.size,l]:=by
     rw [zP]
     simp only [mem_cons,not_mem_nil,or_false,not_or]
     exact ⟨ne_of_lt (lt_succ_self _),ne_of_gt hlS⟩
    refine MX ((Walks.list hh3 _ l hneI items).toS) s.heap.objs.size hSf (fun i=>xs.getD i 0) hi (by rw [hlen]; exact hb) (items.size - 0) 0 _ [] (by omega) (zero_le _)
     ⟨⟨_,get?_push_size _ rfl,rfl,rfl⟩,(hl1.push _)⟩ (CY (get?_push_of_some _ hS)) (le_refl _) (fun z=>by simp) fun s' ys hm hS' hmem=>?_
    obtain ⟨h',g',d',tk',os'⟩:=s'
    have eg:g'=s.gens:=hm.gens
    have ed:d'=s.drawn:=hm.drawn
    have eo:os'=s.os:=hm.os
    subst eg ed eo
    refine wpAny_pure ?_
    refine wpAny_pure ⟨rfl,h',tk',ys,rfl,hS',fun z=>?_,fun b o hb e=>?_⟩
    ·rw [hmem,hlen]
     constructor
     ·rintro ⟨j,hj,rfl⟩
      have:xs.getD j 0=xs[j]:=by simp [List.getD,hj]
      rw [this]
      exact List.getElem_mem hj
     ·intro hz
      obtain ⟨j,hj,e⟩:=List.getElem_of_mem hz
      exact ⟨j,hj,by simp [List.getD,hj,e]⟩
    ·have hb1:b≠s.heap.objs.size:=ne_of_lt hb
     have hb2:b≠(s.heap.push (aP w)).objs.size:=by rw [zP]; exact ne_of_lt (lt_succ_of_lt hb)
     exact hm.heap b o (by simp only [mem_cons,not_mem_nil,or_false,not_or]; exact ⟨hb1,hb2⟩) (get?_push_of_some _ (get?_push_of_some _ e))
   ·cases r₂ with
   |error e=>exact hr₂
   |ok fl₂ =>
     cases fl₂ with
    |ret r =>
      obtain ⟨rfl,h',tk,ys,rfl,q1,q2,q3⟩:=hr₂
      repeat (any_goals (first|assumption|wp_step))
      exact h _ _ _ q1 q2 q3
    |_=>exact hr₂.elim
 |_=>exact hr.elim
end
end L2
namespace L2
open PySem PySem.Spec PyProof.Rows
theorem oK:∀ {vs:List Value} ,(∀ v∈vs,∃ y u,v=.int y u)->IntsAre vs (vs.map pJ)
|[],_=>.nil
|v::vs,h=>by
  obtain ⟨y,u,rfl⟩:=h v (mem_cons_self ..)
  exact .cons y u (oK fun x hx=>h x (mem_cons_of_mem _ hx))
section
variable {prog:Program} {w:World} {A:Around} {E:Value -> Shared -> Prop} {s:Shared}
theorem BV {a:Addr}{xs:List Int}{Q:Value->Shared->Prop} (hh:A.handled=none) (hx:fI w s.heap a xs) (h64:xs.length < 64)
  (h:∀ h' d tk L its ys n,s.heap.objs.size<=L->IntsAre its ys->ys.Perm xs->ys.Pairwise (·<=·)->h'.get? L=some (seqObj "list" its.toArray n)->(∀ b o,s.heap.get? b=some o->h'.get? b=some o)->Q (.ref L) { s with heap:=h',drawn:=d,toks:=tk }) :
  wpAny (model prog w) A (call (.builtin "sorted") [.ref a]) Q E s:=by
 obtain ⟨es,ep,t,g,hel,hxs,hnd,hsz,hf,ht⟩:=hx
 have hl:xs.length=es.size:=by rw [← hxs]; simp
 refine Calls.call_function_entry kind_sorted plain_sorted entry_sorted (args_sorted1 _) ?_
 unfold Builtin.«sorted»
 refine wpAny_bind (m:=checkCount "sorted" 1 1 _) (wpAny_pure ?_)
 refine wpAny_bind (lP (by simpa using hh) g hf ht (fits_of_scanBound hsz) fun vs h1 d tk hp kp hge=>?_)
 have hv:vs.length=es.size:=by
  have:=hp.length_eq
  simpa using this
 have hI:IntsAre vs (vs.map pJ):=oK fun v hv=>by
  obtain ⟨e,he,rfl⟩:=mem_map.mp (hp.mem_iff.mp hv)
  obtain ⟨y,u,rfl⟩:=hel e he
  exact ⟨y,u,rfl⟩
 have hq:(vs.map pJ).Perm xs:=by
  have:=hp.map pJ
  rw [map_map] at this
  rw [← hxs]
  exact this
 refine wpAny_bind (wpAny_newList ?_ (by rw [sizeLine_eq]; omega))
 have g0:(h1.push (seqObj "list" vs.toArray 0)).get? h1.objs.size=some (seqObj "list" vs.toArray 0):=get?_push_size _ rfl
 show wpAny _ _ _ _ _ { s with heap:=h1.push (seqObj "list" vs.toArray 0),drawn:=d,toks:=tk }
 refine wpAny_bind (wpAny_holding (wpAny_call_entry slot_list_sort ⟨_,g0,rfl⟩ entry_list_sort (list_sort_tree g0 hI (by omega) fun out ns' a1 a2 a3=>⟨_,rfl,?_⟩) (args_list_sort _)))
 refine wpAny_pure ⟨_,rfl,?_⟩
 obtain ⟨e,he⟩:=sortedHeap_at (vs:=vs) (out:=out) g0
 refine h _ d tk h1.objs.size _ ns' e hge a1 (a2.trans hq) a3 (by rw [Array.toArray_toList]; exact he) fun b o eb=>?_
 have hb1:=lt_size (kp b o eb)
 rw [sortedHeap_old (ne_of_lt hb1) (by rw [size_push']; exact lt_succ_of_lt hb1)]
 exact get?_push_of_some _ (kp b o eb)
end
section
variable {X:Cx}
noncomputable def JH (w:World) (a:Addr) (xs:List Int):HO:=.ext fun h=>fI w h a xs
noncomputable def OR (w:World):List V->Hp->VK->Prop:=fun vs H Q=>∃ (p:Addr) (xs:List Int),vs=[.ref p]/\H p=some (.lst (xs.map V.int))/\xs.length<=4000/\∀ (l:Addr) (ys:List Int),H l=none->ys.Nodup->(∀ z,z∈ys ↔ z∈xs)->Q (.ref l) (upd H l (JH w l ys))
theorem DN (hc:X.calm=true):cK X (.type "set") (OR X.w):=by
 intro pins s σ H vs us Q I r h
 obtain ⟨p,xs,rfl,hp,hl,q⟩:=h
 obtain ⟨u,rfl,ru⟩:=r.one
 cases ru
 obtain ⟨z,its,n,rv,hlen,e⟩:=I.lstM hp
 refine FA (items:=its.toArray) (xs:=xs) (I.ok.hd hc) ⟨_,e,rfl,n,rfl⟩ (fun i v hv=>?_) (by rw [size_toArray,← hlen,length_map]) (by unfold scanBound; omega) fun h' tk ys ht hm kp=>?_
 ·have hv:its[i]?=some v:=by simpa using hv
  have hi:i < xs.length:=by
   have:=(List.getElem?_eq_some_iff.mp hv).1
   rw [← hlen,length_map] at this
   exact this
  obtain ⟨u,e1,r1⟩:=rv.get (i:=i) (x:=.int xs[i]) (by simp [hi])
  rw [hv] at e1
  cases e1
  obtain ⟨t,rfl⟩:=r1
  exact ⟨t,by simp [List.getD,hi]⟩
 ·have hnd:ys.Nodup:=by obtain ⟨_,_,_,_,_,_,nd,_⟩:=ht; exact nd
  have hex:∃ o,h'.get? s.heap.objs.size=some o:=by obtain ⟨es,ep,t,g,_⟩:=ht; exact ⟨_,g⟩
  refine ⟨.ref s.heap.objs.size,_,I.laid (o:=JH X.w s.heap.objs.size ys) (fun b o e=>kp b o (lt_size e) e) (le_refl _) ⟨ht,hex,fun h1 h2 x k=>x.at k⟩,rfl,q _ ys (I.hok.fresh (le_refl _)) hnd hm⟩
noncomputable def FY (w:World):List V->Hp->VK->Prop:=fun vs H Q=>∃ (p:Addr) (xs:List Int),vs=[.ref p]/\H p=some (JH w p xs)/\xs.length < 64/\∀ (l:Addr) (ys:List Int),H l=none->ys.Perm xs->ys.Pairwise (·<=·)->Q (.ref l) (upd H l (.lst (ys.map V.int)))
theorem yN (hc:X.calm=true):cK X (.builtin "sorted") (FY X.w):=by
 intro pins s σ H vs us Q I r h
 obtain ⟨p,xs,rfl,hp,hl,q⟩:=h
 obtain ⟨u,rfl,ru⟩:=r.one
 cases ru
 refine BV (I.ok.hd hc) (show fI X.w s.heap p xs from (I.hok p _ hp).1) hl fun h' d tk L its ys n hL hS hP hO g kp=>?_
 have I1:=(I.dr d).laid (h':=h') (a:=L) (o:=.lst (ys.map V.int)) (t':=tk) kp hL ⟨by
  have:=hP.length_eq
  rw [length_map,sizeLine_eq]
  omega,its,n,iL hS,g⟩
 exact ⟨.ref L,_,I1,rfl,q L ys (I.hok.fresh hL) hP hO⟩
end
theorem QW {w:World}{H:Hp}{Q:VK}{p:Addr}{xs:List Int} (hp:H p=some (.lst (xs.map V.int))) (hl:xs.length<=4000) (k:∀ (l:Addr) (ys:List Int) (G:Hp),H l=none->aJ H G->G l=some (JH w l ys)->ys.Nodup->(∀ z,z∈ys ↔ z∈xs)->Q (.ref l) G):OR w [.ref p] H Q:=
 ⟨p,xs,rfl,hp,hl,fun l ys h1 h2 h3=>k l ys _ h1 (aJ.new h1) aC h2 h3⟩
theorem KQ {w:World}{H:Hp}{Q:VK}{p:Addr}{xs:List Int} (hp:H p=some (JH w p xs)) (hl:xs.length < 64) (k:∀ (l:Addr) (ys:List Int) (G:Hp),H l=none->aJ H G->G l=some (.lst (ys.map V.int))->ys.Perm xs->ys.Pairwise (·<=·)->Q (.ref l) G):FY w [.ref p] H Q:=
 ⟨p,xs,rfl,hp,hl,fun l ys h1 h2 h3=>k l ys _ h1 (aJ.new h1) aC h2 h3⟩
end L2
namespace L2
open PySem
noncomputable def pr (t:SetTable) (h:Int):Nat->SetTable.Probe
|0=>t.probeStart h
|n+1=>t.advance (pr t h n)
theorem DQ (t:SetTable) (p:SetTable.Probe):(t.advance p).dummy=p.dummy:=by
 unfold SetTable.advance
 split <;> rfl
theorem uV (t:SetTable) (h:Int):∀ n,(pr t h n).dummy=none
|0=>rfl
|n+1=>(DQ t _).trans (uV t h n)
theorem sH {t t':SetTable} (e:t'.mask=t.mask) (h:Int):∀ n,pr t' h n=pr t h n
|0=>by
  show SetTable.probeStart t' h=SetTable.probeStart t h
  unfold SetTable.probeStart
  rw [e]
|n+1=>by
  show SetTable.advance t' _=SetTable.advance t _
  rw [sH e h n]
  unfold SetTable.advance
  rw [e]
section
variable {t:SetTable} {f:Nat -> Int} {h:Int}
theorem nH (ht:t.dummies=#[]) (j:Nat):t.slot j≠.dummy:=fun hs=>by
 unfold SetTable.slot at hs
 dsimp only at hs
 rw [ht,mT,if_neg Bool.false_ne_true] at hs
 split at hs <;> cases hs
theorem pU {i j:Nat} (e:t.slot j=.live i):t.place[i]?=some j:=by
 unfold SetTable.slot at e
 dsimp only at e
 split at e
 ·rename_i c
  cases e
  simpa using c
 ·split at e <;> cases e
theorem zK (hr:qX t.place) {i j:Nat} (e:t.place[i]?=some j):t.slot j=.live i:=by
 have hi:i < t.place.size:=(Array.getElem?_eq_some_iff.mp e).1
 have ej:t.place[i]=j:=(Array.getElem?_eq_some_iff.mp e).2
 have sb:SetTable.below t.place j=i:=by
  refine kX (eM j hr) ⟨le_of_lt hi,fun k hk hki=>?_,fun k hk hki=>?_⟩
  ·rw [← ej]
   exact hr.lt hki hi
  ·rw [← ej]
   exact hr.le hki hk
 unfold SetTable.slot
 dsimp only
 rw [sb,e,if_pos (by simp)]
theorem jP (hr:qX t.place) (hd:t.dummies=#[]) (j:Nat):t.slot j≠.empty ↔ j∈t.place.toList:=by
 constructor
 ·intro hn
  cases e:t.slot j with
 |empty=>exact absurd e hn
 |dummy=>exact absurd e (nH hd j)
 |live i =>
   have:=pU e
   rw [← Array.getElem?_toList] at this
   exact mem_of_getElem? this
 ·intro hm e
  obtain ⟨i,hi⟩:=List.getElem?_of_mem hm
  rw [Array.getElem?_toList] at hi
  rw [zK hr hi] at e
  cases e
noncomputable def JF (t:SetTable) (f:Nat->Int) (h:Int) (n:Nat):Prop:=t.slot (pr t h n).j=.empty∨∃ i,t.slot (pr t h n).j=.live i/\f i=h
theorem PV (hd:t.dummies=#[]):∀ (fuel n m:Nat),n<=m->m < n+fuel->JF t f h m->∃ m',n<=m'/\m'<=m/\(∀ k,n<=k->k < m'->¬ JF t f h k) /\
  ((t.slot (pr t h m').j=.empty/\SetTable.probe.go t f h fuel (pr t h n)=some (.empty (pr t h m').j none))∨∃ i,t.slot (pr t h m').j=.live i/\f i=h/\SetTable.probe.go t f h fuel (pr t h n)=some (.candidate (pr t h m').j i (pr t h (m'+1))))
|0,n,m,h1,h2,_=>by omega
|fuel+1,n,m,h1,h2,hs=>by
  unfold SetTable.probe.go
  cases e:t.slot (pr t h n).j with
 |empty =>
   refine ⟨n,le_refl _,h1,fun k k1 k2=>by omega,.inl ⟨e,?_⟩⟩
   rw [uV]
 |dummy=>exact absurd e (nH hd _)
 |live i =>
   dsimp only
   by_cases c:f i=h
   ·refine ⟨n,le_refl _,h1,fun k k1 k2=>by omega,.inr ⟨i,e,c,?_⟩⟩
    rw [if_pos (by simpa using c)]
    rfl
   ·rw [if_neg (by simpa using c)]
    have hn:¬ JF t f h n:=by
     rintro (z|⟨i',z,z2⟩)
     ·rw [e] at z; cases z
     ·rw [e] at z; cases z; exact c z2
    have hne:m≠n:=fun z=>hn (z ▸ hs)
    obtain ⟨m',a1,a2,a3,a4⟩:=PV hd fuel (n+1) m (by omega) (by omega) hs
    refine ⟨m',by omega,a2,fun k k1 k2=>?_,a4⟩
    by_cases z:k=n
    ·rw [z]
     exact hn
    ·exact a3 k (by omega) k2
end
noncomputable def eL (mask:Nat) (h:Int):Nat->Nat×Nat
|0=>(SetTable.bits h % (mask+1),SetTable.bits h)
|n+1=>SetTable.leap mask (eL mask h n).1 (eL mask h n).2
theorem pZ (mask i:Nat):i<=SetTable.runEnd mask i/\SetTable.runEnd mask i<=i+9:=by
 unfold SetTable.runEnd
 split <;> omega
theorem sE {t:SetTable}{h:Int}:∀ (m n:Nat),m<=(pr t h n).more->(pr t h (n+m)).more=(pr t h n).more - m/\(pr t h (n+m)).i=(pr t h n).i/\(pr t h (n+m)).perturb=(pr t h n).perturb
|0,n,_=>⟨rfl,rfl,rfl⟩
|m+1,n,hm=>by
  obtain ⟨a,b,c⟩:=sE (t:=t) (h:=h) m n (by omega)
  have e:pr t h (n+(m+1))=t.advance (pr t h (n+m)):=rfl
  have hp:(pr t h (n+m)).more > 0:=by omega
  rw [e]
  unfold SetTable.advance
  rw [if_pos hp]
  exact ⟨by show (pr t h (n+m)).more - 1=_; omega,b,c⟩
theorem AA (t:SetTable) (h:Int):∀ k,∃ n,n<=10 * k/\(pr t h n).j=(eL t.mask h k).1/\(pr t h n).i=(eL t.mask h k).1/\(pr t h n).perturb=(eL t.mask h k).2/\(pr t h n).more=SetTable.runEnd t.mask (eL t.mask h k).1 - (eL t.mask h k).1
|0=>⟨0,le_refl _,rfl,rfl,rfl,rfl⟩
|k+1=>by
  obtain ⟨n,h1,h2,h3,h4,h5⟩:=AA t h k
  obtain ⟨a,b,c⟩:=sE (t:=t) (h:=h) (pr t h n).more n (le_refl _)
  have hr:=pZ t.mask (eL t.mask h k).1
  refine ⟨n+(pr t h n).more+1,by omega,?_⟩
  have e:pr t h (n+(pr t h n).more+1)=t.advance (pr t h (n+(pr t h n).more)):=rfl
  have hp:¬ (pr t h (n+(pr t h n).more)).more > 0:=by omega
  have el:eL t.mask h (k+1)=SetTable.leap t.mask (eL t.mask h k).1 (eL t.mask h k).2:=rfl
  rw [e,el]
  unfold SetTable.advance
  rw [if_neg hp,b,c,h3,h4]
  exact ⟨rfl,rfl,rfl,rfl⟩
theorem HJ (mask:Nat) (h:Int):∀ n,(eL mask h n).2=SetTable.bits h / 32 ^ n
|0=>by simp [eL]
|n+1=>by
  show (eL mask h n).2 / 32=_
  rw [HJ mask h n,Nat.div_div_eq_div_mul,← Nat.pow_succ]
theorem NO (h:Int):SetTable.bits h < 2 ^ 64:=by
 unfold SetTable.bits
 have:=Int.emod_lt_of_pos h (show (0:Int) < 2 ^ 64 by decide)
 have:=Int.emod_nonneg h (show (2:Int) ^ 64≠0 by decide)
 omega
theorem ML (mask:Nat) (h:Int) {n:Nat} (hn:13<=n):(eL mask h n).2=0:=by
 rw [HJ]
 refine Nat.div_eq_of_lt (lt_of_lt_of_le (NO h) (le_trans ?_ (Nat.pow_le_pow_right (by decide) hn)))
 decide
noncomputable def ZL (m i:Nat):Nat->Nat
|0=>i
|k+1=>(ZL m i k * 5+1) % (m+1)
theorem xV (mask:Nat) (h:Int):∀ k,(eL mask h (13+k)).1=ZL mask (eL mask h 13).1 k
|0=>rfl
|k+1=>by
  show (((eL mask h (13+k)).1 * 5+1+(eL mask h (13+k)).2 / 32) % (mask+1))=_
  rw [ML mask h (show 13<=13+k by omega),xV mask h k]
  rfl
theorem PF (mask:Nat) (h:Int):∀ n,(eL mask h n).1 < mask+1
|0=>mod_lt _ (succ_pos _)
|n+1=>mod_lt _ (succ_pos _)
theorem XV:∀ i < 8,∀ e < 8,∃ k < 8,ZL 7 i k=e:=by decide +kernel
theorem SK:∀ i < 32,∀ e < 32,∃ k < 32,ZL 31 i k=e:=by decide +kernel
theorem HK {mask:Nat} (hm:mask=7∨mask=31) (h:Int) {e:Nat} (he:e<=mask):∃ k,k<=13+mask/\(eL mask h k).1=e:=by
 have hl:=PF mask h 13
 rcases hm with rfl|rfl
 ·obtain ⟨k,hk,e1⟩:=XV _ hl e (by omega)
  exact ⟨13+k,by omega,by rw [xV]; exact e1⟩
 ·obtain ⟨k,hk,e1⟩:=SK _ hl e (by omega)
  exact ⟨13+k,by omega,by rw [xV]; exact e1⟩
theorem ID {t:SetTable} (hm:t.mask=7∨t.mask=31) (hr:qX t.place) (hd:t.dummies=#[]) (hs:t.place.size<=t.mask) (h:Int):∃ n,n < 10 * SetTable.turns t.mask/\t.slot (pr t h n).j=.empty:=by
 have hf:∃ e,e<=t.mask/\t.slot e=.empty:=by
  apply Classical.byContradiction
  intro hn
  have all:∀ e∈List.range (t.mask+1),e∈t.place.toList:=fun e he=>by
   rw [← jP hr hd]
   intro z
   exact hn ⟨e,by have:=mem_range.mp he; omega,z⟩
  have hl:(List.range (t.mask+1)).length<=t.place.toList.length:=by
   have nd:(List.range (t.mask+1)).Nodup:=nodup_range
   exact lF nd all
  rw [length_range,Array.length_toList] at hl
  omega
 obtain ⟨e,he,hse⟩:=hf
 obtain ⟨k,hk,ek⟩:=HK hm h he
 obtain ⟨n,hn,hj,_⟩:=AA t h k
 refine ⟨n,?_,by rw [hj,ek]; exact hse⟩
 unfold SetTable.turns
 omega
structure yU {prog:Program} {w:World} {K:Type} [DecidableEq K] (knd:KeyKind prog w K) (h:Heap) (es:Array (Int×Value)) (t:SetTable) (ks:List (List K)):Prop where
 sz:ks.length=es.size
 el:∀ (i:Nat) (k:List K),ks[i]?=some k->∃ a,es[i]?=some (tupleKeyHash knd k,.ref a)/\IsTupleKey knd h k a
 nd:ks.Nodup
 mask:(t.mask=7/\es.size<=5)∨(t.mask=31/\es.size<=18)
 fits:t.fits es.size=true
 tb:Tb w t es.size
 rch:∀ (i j:Nat) (k:List K),ks[i]?=some k->t.place[i]?=some j->∃ n,(pr t (tupleKeyHash knd k) n).j=j/\∀ m,m < n->(pr t (tupleKeyHash knd k) m).j∈t.place.toList
theorem iT {t:SetTable}{n:Nat} (h:t.fits n=true):t.place.size=n:=by
 unfold SetTable.fits at h
 simp only [Bool.and_eq_true,beq_iff_eq,decide_eq_true_eq] at h
 exact h.1
theorem IH {P:Nat->Prop} (h:∃ n,P n):∃ n,P n/\∀ m,m < n->¬ P m:=by
 obtain ⟨n,hn⟩:=h
 induction n using Nat.strongRecOn with
|_ n ih =>
  by_cases c:∃ m,m < n/\P m
  ·obtain ⟨m,hm,hp⟩:=c
   exact ih m hm hp
  ·exact ⟨n,hn,fun m hm hp=>c ⟨m,hm,hp⟩⟩
section
variable {prog:Program} {w:World} {K:Type} [DecidableEq K] {knd:KeyKind prog w K} {A:Around} {E:Value -> Shared -> Prop} {s:Shared}
theorem yU.free {h:Heap}{es:Array (Int×Value)}{t:SetTable}{ks:List (List K)} (T:yU knd h es t ks) (x:Int):∃ n,t.slot (pr t x n).j=.empty/\n < 10 * SetTable.turns t.mask/\∀ m,m < n->(pr t x m).j∈t.place.toList:=by
 have hz:=iT T.fits
 obtain ⟨n0,h1,h2⟩:=ID (t:=t) (by rcases T.mask with ⟨e,_⟩|⟨e,_⟩; exact .inl e; exact .inr e) T.tb.2.1 T.tb.2.2 (by rcases T.mask with ⟨e,e2⟩|⟨e,e2⟩ <;> omega) x
 obtain ⟨n,h3,h4⟩:=IH (P:=fun n=>t.slot (pr t x n).j=.empty) ⟨n0,h2⟩
 have hle:n<=n0:=by
  rcases lt_or_ge n0 n with c|c
  ·exact absurd h2 (h4 n0 c)
  ·exact c
 exact ⟨n,h3,by omega,fun m hm=>(jP T.tb.2.1 T.tb.2.2 _).mp (h4 m hm)⟩
theorem BJ {k:List K}{a:Addr}{Q:Bool->Shared->Prop} (hk:IsTupleKey knd s.heap k a) (h:Q false s):wpAny (model prog w) A (ofAClassStatement 8 (.ref a)) Q E s:=by
 have hT:=hk.typeIs
 obtain ⟨o,items,n,ho,hc,hd,hi⟩:=hk
 unfold ofAClassStatement
 refine wpAny_bind (wpAny_typeOf hT ?_)
 dsimp only
 rw [if_pos (by decide)]
 refine wpAny_bind (wpAny_pure ?_)
 simp only [Bool.not_true,Bool.false_eq_true,if_false]
 refine wpAny_bind (wpAny_seqItems ho hd ?_)
 dsimp only
 refine wpAny_bind ?_
 show wpAny _ _ (forIn items _ _) _ _ s
 rw [← Array.forIn_toList]
 refine wpAny_forIn_list _ (fun dN r s'=>r.1=none/\s'=s/\∀ v∈dN,carriedByValue v=true) _ ?_ ?_ _ _ ⟨rfl,rfl,hi.byValue⟩
 ·rintro v dN r s' ⟨hr,rfl,hall⟩
  have hv:=hall v mem_cons_self
  have e:ofAClassStatement 7 v=pure false:=by
   cases v with
  |ref a=>simp [carriedByValue] at hv
  |_=>unfold ofAClassStatement; rfl
  rw [e]
  refine wpAny_bind (wpAny_pure ?_)
  simp only [Bool.false_eq_true,if_false]
  exact wpAny_pure ⟨rfl,rfl,fun u hu'=>hall u (mem_cons_of_mem _ hu')⟩
 ·rintro ⟨r1,r2⟩ s' ⟨hr,rfl,_⟩
  simp only at hr
  subst hr
  exact wpAny_pure h
theorem FB {k:List K}{x:Addr}{vs:List Value}{Q:Bool->Shared->Prop} (hk:IsTupleKey knd s.heap k x) (hv:∀ v∈vs,∃ k' a,v=.ref a/\IsTupleKey knd s.heap k' a) (h:Q false s):wpAny (model prog w) A (searchCouldBeSeen (.ref x) vs) Q E s:=by
 unfold searchCouldBeSeen
 refine wpAny_bind ?_
 refine wpAny_forIn_list _ (fun dN r s'=>r.1=none/\s'=s/\∀ v∈dN,∃ k' a,v=.ref a/\IsTupleKey knd s.heap k' a) _ ?_ ?_ _ _ ⟨rfl,rfl,hv⟩
 ·rintro v dN r s' ⟨hr,rfl,hall⟩
  obtain ⟨k',a,rfl,ha⟩:=hall v mem_cons_self
  have tl:∀ u∈dN,∃ k' a,u=.ref a/\IsTupleKey knd s'.heap k' a:=fun u hu'=>hall u (mem_cons_of_mem _ hu')
  dsimp only
  split
  ·exact wpAny_pure ⟨rfl,rfl,tl⟩
  ·refine wpAny_bind (wpAny_eqIsQuiet_tuple hk ?_)
   simp only [Bool.not_true,Bool.false_eq_true,if_false]
   refine wpAny_bind (wpAny_eqIsQuiet_tuple ha ?_)
   simp only [Bool.not_true,Bool.false_eq_true,if_false]
   refine wpAny_bind (BJ hk ?_)
   simp only [Bool.false_eq_true,if_false]
   refine wpAny_bind (BJ ha ?_)
   simp only [Bool.false_eq_true,if_false]
   exact wpAny_pure ⟨rfl,rfl,tl⟩
 ·rintro ⟨r1,r2⟩ s' ⟨hr,rfl,_⟩
  simp only at hr
  subst hr
  exact wpAny_pure h
theorem yU.hash {h:Heap}{es:Array (Int×Value)}{t:SetTable}{ks:List (List K)} (T:yU knd h es t ks) {i:Nat}{k:List K} (e:ks[i]?=some k):((es[i]?).map (·.1)).getD 0=tupleKeyHash knd k:=by
 obtain ⟨a,e1,_⟩:=T.el i k e
 rw [e1]
 rfl
theorem BX {a x:Addr}{es:Array (Int×Value)}{ep:Nat}{t:SetTable}{ks:List (List K)}{k:List K}{Q:SetFound->Shared->Prop} (hu:A.units < cLine) (T:yU knd s.heap es t ks) (ho:s.heap.get? a=some (bM es ep t)) (hx:IsTupleKey knd s.heap k x)
  (h1:k∈ks->Q (.there none) s) (h2:k∉ks->∀ n,t.slot (pr t (tupleKeyHash knd k) n).j=.empty->(∀ m,m < n->(pr t (tupleKeyHash knd k) m).j∈t.place.toList)->Q (.free (pr t (tupleKeyHash knd k) n).j false) s):wpAny (model prog w) A (setSearch a (.ref x) (tupleKeyHash knd k) true) Q E s:=by
 obtain ⟨N,n1,n2,n3⟩:=T.free (tupleKeyHash knd k)
 have hr:=T.tb.2.1
 have hd:=T.tb.2.2
 have hz:=iT T.fits
 have live:∀ {j i:Nat},t.slot j=.live i->∃ kk,ks[i]?=some kk:=fun {j i} e=>by
  have hi:=(Array.getElem?_eq_some_iff.mp (pU e)).1
  exact ⟨_,List.getElem?_eq_getElem (by rw [T.sz]; omega)⟩
 have main:∀ (fuel n:Nat) (stand:Option SetTable.Probe),stand.getD (t.probeStart (tupleKeyHash knd k))=pr t (tupleKeyHash knd k) n->n<=N->N - n < fuel->(∀ m,m < n->∀ i kk,t.slot (pr t (tupleKeyHash knd k) m).j=.live i->ks[i]?=some kk->kk≠k)->wpAny (model prog w) A (setSearchFrom a (.ref x) (tupleKeyHash knd k) true fuel stand) Q E s:=by
  intro fuel
  induction fuel with
 |zero=>intro n stand _ _ hf _; omega
 |succ fuel ih =>
   intro n stand hst hn hf hno
   unfold setSearchFrom
   refine wpAny_bind (wpAny_setState_of ho rfl T.fits ?_)
   dsimp only
   have hg:t.gaveWay=false:=by
    unfold SetTable.gaveWay
    rcases T.mask with ⟨e,_⟩|⟨e,_⟩ <;> rw [e] <;> rfl
   rw [hg,if_neg Bool.false_ne_true]
   rw [hst]
   obtain ⟨m,a1,a2,a3,a4⟩:=PV (t:=t) (f:=fun i=>((es[i]?).map (·.1)).getD 0) (h:=tupleKeyHash knd k) hd (10 * SetTable.turns t.mask) n N hn (by omega) (.inl n1)
   have hN:∀ q,q < N->t.slot (pr t (tupleKeyHash knd k) q).j≠.empty:=fun q hq=>(jP hr hd _).mpr (n3 q hq)
   rcases a4 with ⟨b1,b2⟩|⟨i,b1,b3,b2⟩
   ·have em:m=N:=by
     rcases lt_or_ge m N with c|c
     ·exact absurd b1 (hN m c)
     ·omega
    subst em
    show wpAny _ _ (match SetTable.probe.go t (fun i=>((es[i]?).map (·.1)).getD 0) (tupleKeyHash knd k) (10 * SetTable.turns t.mask) (pr t (tupleKeyHash knd k) n) with|some met=>_|_=>_) _ _ _
    rw [b2]
    dsimp only
    refine wpAny_pure (h2 (fun hk=>?_) m b1 n3)
    obtain ⟨i,hi⟩:=List.getElem?_of_mem hk
    have hip:i < t.place.size:=by
     have:=(List.getElem?_eq_some_iff.mp hi).1
     rw [T.sz] at this
     omega
    obtain ⟨r,r1,r2⟩:=T.rch i _ k hi (Array.getElem?_eq_getElem hip)
    have hsl:t.slot (pr t (tupleKeyHash knd k) r).j=.live i:=by
     rw [r1]
     exact zK hr (Array.getElem?_eq_getElem hip)
    rcases lt_or_ge r m with c|c
    ·rcases lt_or_ge r n with c2|c2
     ·exact hno r c2 i k hsl hi rfl
     ·exact a3 r c2 c (.inr ⟨i,hsl,T.hash hi⟩)
    ·rcases Nat.eq_or_lt_of_le c with c2|c2
     ·rw [← c2,b1] at hsl
      cases hsl
     ·exact (jP hr hd _).mpr (r2 m c2) b1
   ·obtain ⟨kk,hkk⟩:=live b1
    obtain ⟨y,e1,hy⟩:=T.el i kk hkk
    have hmN:m < N:=by
     rcases Nat.eq_or_lt_of_le a2 with c|c
     ·rw [c,n1] at b1; cases b1
     ·exact c
    show wpAny _ _ (match SetTable.probe.go t (fun i=>((es[i]?).map (·.1)).getD 0) (tupleKeyHash knd k) (10 * SetTable.turns t.mask) (pr t (tupleKeyHash knd k) n) with|some met=>_|_=>_) _ _ _
    rw [b2]
    dsimp only
    have dN:wpAny (model prog w) A (do
      let some (_,y):=es[i]?|unsupported "internal:set-entry"
      let equal ← holding [y] (eqBool y (.ref x))
      let (es',_,t') ← setState a
      if true&&equal then return .there none
      let some same:=t'.sameMemory t.moves t.mask|unsupported "set.changed-during-lookup:is-the-new-block-at-the-old-address"
      let still ← match (if same then t'.slot (pr t (tupleKeyHash knd k) m).j else .empty) with
      |.live i'=>match es'[i']? with
       |some (_,y')=>do pure (if ← isSame y' y then some i' else none)
       |none=>pure none
      |_=>pure none
      match still with
     |none=>rule "set.search.anew"; setSearchFrom a (.ref x) (tupleKeyHash knd k) true fuel none
      | some i'=>if equal then return .there (some i') else setSearchFrom a (.ref x) (tupleKeyHash knd k) true fuel (some (pr t (tupleKeyHash knd k) (m+1)))) Q E s:=by
     rw [e1]
     dsimp only
     refine wpAny_bind (wpAny_holding (wpAny_eqBool_tuple hu hy hx ?_))
     refine wpAny_bind (wpAny_setState_of ho rfl T.fits ?_)
     dsimp only
     by_cases c:kk=k
     ·rw [decide_eq_true c]
      simp only [Bool.and_self,if_true]
      exact wpAny_pure (h1 (by rw [← c]; exact mem_of_getElem? hkk))
     ·rw [decide_eq_false c]
      simp only [Bool.and_false,Bool.false_eq_true,if_false]
      have es1:t.sameMemory t.moves t.mask=some true:=by
       unfold SetTable.sameMemory
       rw [if_pos (by simp)]
      rw [es1]
      simp only [if_true]
      rw [b1]
      dsimp only
      rw [e1]
      dsimp only
      refine wpAny_bind (wpAny_isSame_ref_self (wpAny_bind (wpAny_pure ?_)))
      rw [if_pos rfl]
      dsimp only
      refine ih (m+1) _ rfl (by omega) (by omega) fun q hq i' kk' hs hk'=>?_
      rcases lt_or_ge q n with c2|c2
      ·exact hno q c2 i' kk' hs hk'
      ·rcases lt_or_ge q m with c3|c3
       ·intro ek
        exact a3 q c2 c3 (.inr ⟨i',hs,by rw [← ek]; exact T.hash hk'⟩)
       ·have:q=m:=by omega
        subst this
        rw [b1] at hs
        cases hs
        rw [hkk] at hk'
        cases hk'
        exact c
    cases hl:t.led with
   |true =>
     simp only [Bool.not_true,Bool.false_eq_true,if_false]
     exact dN
   |false =>
     simp only [Bool.not_false,if_true]
     refine wpAny_bind (FB hx (fun v hv=>?_) ?_)
     ·obtain ⟨e,he,rfl⟩:=mem_map.mp hv
      have he2:e∈es.toList:=by
       rw [Array.toList_filter] at he
       exact (mem_filter.mp he).1
      obtain ⟨q,hq⟩:=List.getElem?_of_mem he2
      rw [Array.getElem?_toList] at hq
      have hqk:q < ks.length:=by rw [T.sz]; exact (Array.getElem?_eq_some_iff.mp hq).1
      obtain ⟨b,f1,f2⟩:=T.el q _ (List.getElem?_eq_getElem hqk)
      rw [hq] at f1
      cases f1
      exact ⟨_,b,rfl,f2⟩
     ·simp only [Bool.false_eq_true,if_false]
      exact dN
 unfold setSearch
 exact main 100000 0 none rfl (zero_le _) (by
  have:SetTable.turns t.mask<=46:=by
   unfold SetTable.turns
   rcases T.mask with ⟨e,_⟩|⟨e,_⟩ <;> omega
  omega) fun m hm=>absurd hm (not_lt_zero _)
theorem oM {α:Type} (xs:Array α) (p:Nat) (x:α):(SetTable.insertAt xs p x).toList=xs.toList.take p++x::xs.toList.drop p:=by
 unfold SetTable.insertAt
 rw [Array.toList_append,Array.toList_push,Array.toList_extract,Array.toList_extract]
 have e1:List.take (p - 0) (List.drop 0 xs.toList)=xs.toList.take p:=by rw [Nat.sub_zero,List.drop_zero]
 have e2:List.take (xs.size - p) (List.drop p xs.toList)=xs.toList.drop p:=take_of_length_le (by simp)
 rw [show (List.extract xs.toList 0 p)=xs.toList.take p from e1,show (List.extract xs.toList p xs.size)=xs.toList.drop p from e2,append_assoc]
 rfl
theorem yC {α:Type}{xs ys:List α}{p i:Nat}{x:α} (hp:p<=xs.length) (e:ys=xs.take p++x::xs.drop p):(i < p->ys[i]?=xs[i]?)/\(i=p->ys[i]?=some x)/\(p < i->ys[i]?=xs[i - 1]?):=by
 have hl:(xs.take p).length=p:=by rw [length_take]; omega
 subst e
 refine ⟨fun c=>?_,fun c=>?_,fun c=>?_⟩
 ·rw [List.getElem?_append_left (by omega),List.getElem?_take_of_lt c]
 ·rw [List.getElem?_append_right (by omega),hl,c,Nat.sub_self]
  rfl
 ·rw [List.getElem?_append_right (by omega),hl]
  obtain ⟨q,rfl⟩:∃ q,i=p+1+q:=⟨i - p - 1,by omega⟩
  rw [show p+1+q - p=q+1 by omega,List.getElem?_cons_succ,List.getElem?_drop]
  congr 1
  omega
theorem yU.put {h:Heap}{es:Array (Int×Value)}{t:SetTable}{ks:List (List K)} (T:yU knd h es t ks) {k:List K}{x:Addr} (hx:IsTupleKey knd h k x) (hk:k∉ks) {n:Nat} (n1:t.slot (pr t (tupleKeyHash knd k) n).j=.empty) (n2:∀ m,m < n->(pr t (tupleKeyHash knd k) m).j∈t.place.toList) (hm:(t.mask=7/\es.size<=4)∨(t.mask=31/\es.size<=17)) (b:Bool) :
  yU knd h (SetTable.insertAt es (t.put (pr t (tupleKeyHash knd k) n).j).2 (tupleKeyHash knd k,.ref x)) { (t.put (pr t (tupleKeyHash knd k) n).j).1 with plain:=b } (ks.take (t.put (pr t (tupleKeyHash knd k) n).j).2++k::ks.drop (t.put (pr t (tupleKeyHash knd k) n).j).2):=by
 have hz:=iT T.fits
 have hr:=T.tb.2.1
 have hd:=T.tb.2.2
 have hsz:=T.sz
 generalize hj:(pr t (tupleKeyHash knd k) n).j=j at n1
 have hst:=eM j hr
 have ep:(t.put j).2=SetTable.below t.place j:=rfl
 have e1:(t.put j).1.place=SetTable.insertAt t.place (SetTable.below t.place j) j:=rfl
 have e2:(t.put j).1.dummies=#[]:=by
  show (if SetTable.has t.dummies j then _ else t.dummies)=#[]
  rw [hd,mT,if_neg Bool.false_ne_true]
 have e3:(t.put j).1.mask=t.mask:=rfl
 have hn1:=pV n1
 rw [ep]
 obtain ⟨p,eb⟩:∃ p,SetTable.below t.place j=p:=⟨_,rfl⟩
 rw [eb]
 rw [eb] at hst e1 hn1
 have hp:p<=ks.length:=by have:=hst.1; omega
 have lp:=oM t.place p j
 have le:=oM es p (tupleKeyHash knd k,Value.ref x)
 have sp:(SetTable.insertAt t.place p j).size=t.place.size+1:=by
  rw [← Array.length_toList,lp]
  simp only [length_append,length_cons,length_take,length_drop,Array.length_toList]
  omega
 have se:(SetTable.insertAt es p (tupleKeyHash knd k,Value.ref x)).size=es.size+1:=by
  rw [← Array.length_toList,le]
  simp only [length_append,length_cons,length_take,length_drop,Array.length_toList]
  omega
 have ak:=fun i=>yC (i:=i) hp (rfl:ks.take p++k::ks.drop p=ks.take p++k::ks.drop p)
 have ae:=fun i=>yC (i:=i) (xs:=es.toList) (p:=p) (by rw [Array.length_toList]; omega) le
 have ap:=fun i=>yC (i:=i) (xs:=t.place.toList) (p:=p) (by rw [Array.length_toList]; omega) lp
 have mem:∀ z,z∈t.place.toList->z∈(SetTable.insertAt t.place p j).toList:=fun z hz=>by
  rw [lp]
  rw [← take_append_drop p t.place.toList] at hz
  rcases mem_append.mp hz with c|c
  ·exact mem_append_left _ c
  ·exact mem_append_right _ (mem_cons_of_mem _ c)
 refine ⟨?_,fun i k' hi=>?_,?_,?_,?_,?_,fun i j' k' hi hj'=>?_⟩
 ·rw [se]
  simp only [length_append,length_cons,length_take,length_drop]
  omega
 ·rw [← Array.getElem?_toList]
  rcases Nat.lt_trichotomy i p with c|c|c
  ·rw [(ak i).1 c] at hi
   rw [(ae i).1 c,Array.getElem?_toList]
   exact T.el i k' hi
  ·rw [(ak i).2.1 c] at hi
   cases hi
   exact ⟨x,(ae i).2.1 c,hx⟩
  ·rw [(ak i).2.2 c] at hi
   rw [(ae i).2.2 c,Array.getElem?_toList]
   exact T.el (i - 1) k' hi
 ·have:(ks.take p++k::ks.drop p).Perm (k::ks):=by
   refine List.perm_middle.trans ?_
   rw [take_append_drop]
  exact this.nodup_iff.mpr (nodup_cons.mpr ⟨hk,T.nd⟩)
 ·rw [se]
  show ((t.put j).1.mask=7/\_)∨((t.put j).1.mask=31/\_)
  rw [e3]
  omega
 ·rw [se]
  unfold SetTable.fits SetTable.fill
  show ((t.put j).1.place.size==es.size+1&&decide ((t.put j).1.place.size+(t.put j).1.dummies.size<=(t.put j).1.mask))=true
  rw [e1,e2,e3,sp]
  simp only [Bool.and_eq_true,beq_iff_eq,decide_eq_true_eq]
  refine ⟨by omega,?_⟩
  show t.place.size+1+0<=t.mask
  omega
 ·refine ⟨T.tb.1,?_,e2⟩
  show qX (t.put j).1.place
  rw [e1]
  have:=zN hr (j:=j) (by rw [eb]; exact hn1)
  rw [eb] at this
  exact this
 ·have epr:∀ (hh:Int) m,pr { (t.put j).1 with plain:=b } hh m=pr t hh m:=fun hh m=>sH (t:=t) (t':={ (t.put j).1 with plain:=b }) e3 hh m
  have hj'':(SetTable.insertAt t.place p j).toList[i]?=some j':=by
   rw [Array.getElem?_toList,← e1]
   exact hj'
  have memG:∀ z,z∈t.place.toList->z∈({ (t.put j).1 with plain:=b }:SetTable).place.toList:=fun z hz=>by
   show z∈(t.put j).1.place.toList
   rw [e1]
   exact mem z hz
  rcases Nat.lt_trichotomy i p with c|c|c
  ·rw [(ak i).1 c] at hi
   rw [(ap i).1 c,Array.getElem?_toList] at hj''
   obtain ⟨n',a1,a2⟩:=T.rch i j' k' hi hj''
   exact ⟨n',by rw [epr]; exact a1,fun m hm'=>by rw [epr]; exact memG _ (a2 m hm')⟩
  ·rw [(ak i).2.1 c] at hi
   cases hi
   rw [(ap i).2.1 c] at hj''
   cases hj''
   exact ⟨n,by rw [epr]; exact hj,fun m hm'=>by rw [epr]; exact memG _ (n2 m hm')⟩
  ·rw [(ak i).2.2 c] at hi
   rw [(ap i).2.2 c,Array.getElem?_toList] at hj''
   obtain ⟨n',a1,a2⟩:=T.rch (i - 1) j' k' hi hj''
   exact ⟨n',by rw [epr]; exact a1,fun m hm'=>by rw [epr]; exact memG _ (a2 m hm')⟩
end
end L2
namespace L2
open PySem
theorem mP {t:SetTable}{h:Int}:∀ (m n:Nat),m<=(pr t h n).more->(pr t h (n+m)).j=(pr t h n).j+m
|0,n,_=>rfl
|m+1,n,hm=>by
  have a:=mP (t:=t) (h:=h) m n (by omega)
  obtain ⟨b,_⟩:=sE (t:=t) (h:=h) m n (by omega)
  have e:pr t h (n+(m+1))=t.advance (pr t h (n+m)):=rfl
  have hp:(pr t h (n+m)).more > 0:=by omega
  rw [e]
  unfold SetTable.advance
  rw [if_pos hp]
  show (pr t h (n+m)).j+1=_
  omega
noncomputable def DW (o:Array (Option Nat)) (j:Nat):Prop:=∃ i,o[j]?=some (some i)
theorem sL {o:Array (Option Nat)}{j:Nat} (hj:j < o.size):(o.getD j (some 0)).isNone=false ↔ DW o j:=by
 unfold DW
 rw [Array.getD_eq_getD_getElem?]
 rw [Array.getElem?_eq_getElem hj]
 cases o[j] <;> simp
theorem IK {mask i:Nat} (h:i<=mask):SetTable.runEnd mask i<=mask:=by
 unfold SetTable.runEnd
 split <;> omega
theorem AX {t:SetTable}{h:Int}{o:Array (Option Nat)} (ho:o.size=t.mask+1):∀ (fuel r n:Nat),(pr t h n).j=(eL t.mask h r).1->(pr t h n).i=(eL t.mask h r).1->(pr t h n).perturb=(eL t.mask h r).2->(pr t h n).more=SetTable.runEnd t.mask (eL t.mask h r).1 - (eL t.mask h r).1 ->
  (∀ m,m < n->DW o (pr t h m).j)->(∃ k,r<=k/\k < r+fuel/\¬ DW o (eL t.mask h k).1) ->
  ∃ j n',SetTable.layClean.free t.mask o fuel (eL t.mask h r).1 (eL t.mask h r).2=some j/\(pr t h n').j=j/\j < o.size/\¬ DW o j/\∀ m,m < n'->DW o (pr t h m).j
|0,r,n,_,_,_,_,_,⟨k,k1,k2,_⟩=>by omega
|fuel+1,r,n,h1,h2,h3,h4,h5,⟨k,k1,k2,k3⟩=>by
  have hl:=PF t.mask h r
  have hle:=pZ t.mask (eL t.mask h r).1
  have hem:=IK (show (eL t.mask h r).1<=t.mask by omega)
  have eu:SetTable.layClean.free t.mask o (fuel+1) (eL t.mask h r).1 (eL t.mask h r).2=match (List.range (SetTable.runEnd t.mask (eL t.mask h r).1+1 - (eL t.mask h r).1)).find? fun k=>(o.getD ((eL t.mask h r).1+k) (some 0)).isNone with
  |some k=>some ((eL t.mask h r).1+k)
  |none=>SetTable.layClean.free t.mask o fuel (eL t.mask h (r+1)).1 (eL t.mask h (r+1)).2:=rfl
  rw [eu]
  cases hf:(List.range (SetTable.runEnd t.mask (eL t.mask h r).1+1 - (eL t.mask h r).1)).find? fun k=>(o.getD ((eL t.mask h r).1+k) (some 0)).isNone with
 |some q =>
   obtain ⟨q1,q2,q3⟩:=List.find?_range_eq_some.mp hf
   have q2:=mem_range.mp q2
   refine ⟨_,n+q,rfl,?_,by omega,fun z=>?_,fun m hm=>?_⟩
   ·rw [mP q n (by omega),h1]
   ·rw [(sL (by omega)).mpr z] at q1
    cases q1
   ·rcases lt_or_ge m n with c|c
    ·exact h5 m c
    ·obtain ⟨p,rfl⟩:∃ p,m=n+p:=⟨m - n,by omega⟩
     rw [mP p n (by omega),h1]
     refine (sL (by omega)).mp ?_
     have:=q3 p (by omega)
     simpa using this
 |none =>
   have hall:∀ p,p<=SetTable.runEnd t.mask (eL t.mask h r).1 - (eL t.mask h r).1->DW o ((eL t.mask h r).1+p):=fun p hp=>by
    refine (sL (by omega)).mp ?_
    have:=List.find?_eq_none.mp hf p (mem_range.mpr (by omega))
    exact Bool.eq_false_iff.mpr this
   dsimp only
   obtain ⟨a,b,c⟩:=sE (t:=t) (h:=h) (pr t h n).more n (le_refl _)
   have e:pr t h (n+(pr t h n).more+1)=t.advance (pr t h (n+(pr t h n).more)):=rfl
   have hp:¬ (pr t h (n+(pr t h n).more)).more > 0:=by omega
   have el:eL t.mask h (r+1)=SetTable.leap t.mask (eL t.mask h r).1 (eL t.mask h r).2:=rfl
   have ea:t.advance (pr t h (n+(pr t h n).more))={ pr t h (n+(pr t h n).more) with j:=(eL t.mask h (r+1)).1,more:=SetTable.runEnd t.mask (eL t.mask h (r+1)).1 - (eL t.mask h (r+1)).1,i:=(eL t.mask h (r+1)).1,perturb:=(eL t.mask h (r+1)).2 }:=by
    unfold SetTable.advance
    rw [if_neg hp,b,c,h2,h3,el]
   refine AX ho fuel (r+1) (n+(pr t h n).more+1) (by rw [e,ea]) (by rw [e,ea]) (by rw [e,ea]) (by rw [e,ea]) (fun m hm=>?_) ⟨k,?_,by omega,k3⟩
   ·rcases lt_or_ge m n with c|c
    ·exact h5 m c
    ·obtain ⟨p,rfl⟩:∃ p,m=n+p:=⟨m - n,by omega⟩
     rw [mP p n (by omega),h1]
     exact hall p (by omega)
   ·rcases Nat.eq_or_lt_of_le k1 with c|c
    ·subst c
     have:=hall 0 (zero_le _)
     rw [Nat.add_zero] at this
     exact absurd this k3
    ·exact c
structure JR (t:SetTable) (o:Array (Option Nat)) (hs:List Int):Prop where
 sz:o.size=t.mask+1
 pl:∀ (i:Nat) (h:Int),hs[i]?=some h->∃ n,o[(pr t h n).j]?=some (some i)/\∀ m,m < n->DW o (pr t h m).j
 lt:∀ (j i:Nat),o[j]?=some (some i)->i < hs.length
 one:∀ (j j' i:Nat),o[j]?=some (some i)->o[j']?=some (some i)->j=j'
theorem JR.free {t:SetTable}{o:Array (Option Nat)}{hs:List Int} (L:JR t o hs) (hl:hs.length<=t.mask):∃ e,e<=t.mask/\¬ DW o e:=by
 apply Classical.byContradiction
 intro hn
 have all:∀ e,e<=t.mask->∃ i,o[e]?=some (some i):=fun e he=>Classical.byContradiction fun c=>hn ⟨e,he,c⟩
 have nd:((List.range (t.mask+1)).map fun e=>((o[e]?).getD none).getD 0).Nodup:=by
  refine pairwise_map.mpr ?_
  refine List.Pairwise.imp_of_mem ?_ (nodup_range (n:=t.mask+1))
  intro a b ha hb hab e
  obtain ⟨i,hi⟩:=all a (by have:=mem_range.mp ha; omega)
  obtain ⟨i',hi'⟩:=all b (by have:=mem_range.mp hb; omega)
  rw [hi,hi'] at e
  have e:i=i':=e
  subst e
  exact hab (L.one _ _ _ hi hi')
 have hl2:=lF nd (m:=List.range hs.length) fun i hi=>by
  obtain ⟨e,he,rfl⟩:=mem_map.mp hi
  obtain ⟨i,hi⟩:=all e (by have:=mem_range.mp he; omega)
  rw [hi]
  exact mem_range.mpr (L.lt _ _ hi)
 simp only [length_map,length_range] at hl2
 omega
theorem JR.put {t:SetTable}{o:Array (Option Nat)}{hs:List Int} (L:JR t o hs) {h:Int}{n:Nat} (hj:(pr t h n).j < o.size) (hf:¬ DW o (pr t h n).j) (hn:∀ m,m < n->DW o (pr t h m).j):JR t (o.setIfInBounds (pr t h n).j (some hs.length)) (hs++[h]):=by
 generalize ej:(pr t h n).j=j at hj hf
 have g1:∀ j',j'≠j->(o.setIfInBounds j (some hs.length))[j']?=o[j']?:=fun j' c=>Array.getElem?_setIfInBounds_ne (Ne.symm c)
 have g2:(o.setIfInBounds j (some hs.length))[j]?=some (some hs.length):=by
  rw [Array.getElem?_setIfInBounds_self_of_lt hj]
 have ow:∀ j',DW o j'->DW (o.setIfInBounds j (some hs.length)) j':=fun j' ⟨i,hi⟩=>by
  have:j'≠j:=fun c=>hf ⟨i,by rw [← c]; exact hi⟩
  exact ⟨i,by rw [g1 j' this]; exact hi⟩
 refine ⟨by rw [Array.size_setIfInBounds]; exact L.sz,fun i h' hi=>?_,fun j' i hi=>?_,fun j' j'' i hi hi'=>?_⟩
 ·rcases lt_or_ge i hs.length with c|c
  ·rw [List.getElem?_append_left c] at hi
   obtain ⟨m,m1,m2⟩:=L.pl i h' hi
   have:(pr t h' m).j≠j:=fun c=>hf ⟨i,by rw [← c]; exact m1⟩
   exact ⟨m,by rw [g1 _ this]; exact m1,fun q hq=>ow _ (m2 q hq)⟩
  ·rw [List.getElem?_append_right c] at hi
   have hi0:i - hs.length=0:=by
    have:=(List.getElem?_eq_some_iff.mp hi).1
    simp at this
    omega
   rw [hi0] at hi
   cases hi
   have:i=hs.length:=by omega
   subst this
   exact ⟨n,by rw [ej]; exact g2,fun q hq=>ow _ (hn q hq)⟩
 ·rw [length_append]
  by_cases c:j'=j
  ·subst c
   rw [g2] at hi
   cases hi
   exact lt_succ_self _
  ·rw [g1 _ c] at hi
   have:=L.lt _ _ hi
   simp only [length_singleton]
   omega
 ·by_cases c:j'=j <;> by_cases d:j''=j
  ·rw [c,d]
  ·subst c
   rw [g2] at hi
   cases hi
   rw [g1 _ d] at hi'
   have:=L.lt _ _ hi'
   omega
  ·subst d
   rw [g2] at hi'
   cases hi'
   rw [g1 _ c] at hi
   have:=L.lt _ _ hi
   omega
  ·rw [g1 _ c] at hi
   rw [g1 _ d] at hi'
   exact L.one _ _ _ hi hi'
theorem vS {t:SetTable} (hm:t.mask=7∨t.mask=31):∀ (hs pre:List Int) (o:Array (Option Nat)),JR t o pre->pre.length+hs.length<=t.mask ->
  ∃ o',hs.foldl (fun acc h=>do
   let (owner,k) ← acc
   let j ← SetTable.layClean.free t.mask owner (SetTable.turns t.mask) (SetTable.bits h % (t.mask+1)) (SetTable.bits h)
   pure (owner.setIfInBounds j (some k),k+1)) (some (o,pre.length))=some (o',pre.length+hs.length)/\JR t o' (pre++hs)
|[],pre,o,L,_=>⟨o,rfl,by rw [append_nil]; exact L⟩
|h::hs,pre,o,L,hl=>by
  rw [length_cons] at hl
  obtain ⟨e,he,hf⟩:=L.free (by omega)
  obtain ⟨k,hk,ek⟩:=HK hm h he
  obtain ⟨j,n,f1,f2,f3,f4,f5⟩:=AX (h:=h) L.sz (SetTable.turns t.mask) 0 0 rfl rfl rfl rfl (fun m hm=>absurd hm (not_lt_zero _)) ⟨k,zero_le _,by unfold SetTable.turns; omega,by rw [ek]; exact hf⟩
  rw [List.foldl_cons]
  subst f2
  have L':=L.put f3 f4 f5
  obtain ⟨o',g1,g2⟩:=vS hm hs (pre++[h]) _ L' (by rw [length_append,length_singleton]; omega)
  refine ⟨o',?_,by rw [append_assoc] at g2; exact g2⟩
  have f1':SetTable.layClean.free t.mask o (SetTable.turns t.mask) (SetTable.bits h % (t.mask+1)) (SetTable.bits h)=some (pr t h n).j:=f1
  have:(do
   let (owner,k) ← some (o,pre.length)
   let j ← SetTable.layClean.free t.mask owner (SetTable.turns t.mask) (SetTable.bits h % (t.mask+1)) (SetTable.bits h)
   pure (owner.setIfInBounds j (some k),k+1):Option (Array (Option Nat)×Nat))=some (o.setIfInBounds (pr t h n).j (some pre.length),pre.length+1):=by
   show (SetTable.layClean.free t.mask o (SetTable.turns t.mask) (SetTable.bits h % (t.mask+1)) (SetTable.bits h) >>= _)=_
   rw [f1']
   rfl
  rw [this]
  rw [length_append,length_singleton] at g1
  rw [length_cons,show pre.length+(hs.length+1)=pre.length+1+hs.length by omega]
  exact g1
theorem MQ (t:SetTable):JR t (Array.replicate (t.mask+1) none) []:=by
 have no:∀ j i,(Array.replicate (t.mask+1) (none:Option Nat))[j]?≠some (some i):=fun j i e=>by
  rw [Array.getElem?_replicate] at e
  split at e <;> cases e
 exact ⟨Array.size_replicate,fun i h hi=>(by simp at hi),fun j i hi=>absurd hi (no j i),fun j j' i hi _=>absurd hi (no j i)⟩
theorem CP {t:SetTable} (hm:t.mask=7∨t.mask=31) (hs:Array Int) (hl:hs.size<=t.mask):∃ o,SetTable.layClean t.mask hs=some o/\JR t o hs.toList:=by
 obtain ⟨o,h1,h2⟩:=vS hm hs.toList [] _ (MQ t) (by simpa using hl)
 refine ⟨o,?_,h2⟩
 unfold SetTable.layClean
 rw [← Array.foldl_toList]
 have h1':=congrArg (Option.map Prod.fst) h1
 exact h1'
noncomputable def live (o:Array (Option Nat)) (n:Nat):List (Nat×Nat):=(List.range n).filterMap fun j=>(o.getD j none).map (j,·)
theorem gF {o:Array (Option Nat)}{n:Nat} (hn:o.size=n) {j i:Nat}:(j,i)∈live o n ↔ o[j]?=some (some i):=by
 unfold live
 rw [mem_filterMap]
 constructor
 ·rintro ⟨a,ha,e⟩
  rw [Array.getD_eq_getD_getElem?,Array.getElem?_eq_getElem (by have:=mem_range.mp ha; omega)] at e
  rw [Option.getD_some] at e
  cases hx:o[a]'(by have:=mem_range.mp ha; omega) with
 |none=>rw [hx] at e; cases e
 |some x =>
   rw [hx] at e
   cases e
   rw [Array.getElem?_eq_getElem (by have:=mem_range.mp ha; omega),hx]
 ·intro e
  have hj:=(Array.getElem?_eq_some_iff.mp e).1
  refine ⟨j,mem_range.mpr (by omega),?_⟩
  rw [Array.getD_eq_getD_getElem?,e]
  rfl
theorem vP (o:Array (Option Nat)) (n:Nat):(live o n).Pairwise fun a b=>a.1 < b.1:=by
 unfold live
 refine List.pairwise_filterMap.mpr ?_
 refine List.Pairwise.imp ?_ (List.pairwise_lt_range (n:=n))
 intro a b hab x hx y hy
 obtain ⟨i,_,rfl⟩:=Option.map_eq_some_iff.mp hx
 obtain ⟨i',_,rfl⟩:=Option.map_eq_some_iff.mp hy
 exact hab
theorem AY {α β:Type} (f:α->Option β):∀ (l:List α) (i:Nat),(∀ x∈l,∃ y,f x=some y)->(l.filterMap f)[i]?=(l[i]?).bind f
|[],i,_=>by simp
|x::l,i,h=>by
  obtain ⟨y,hy⟩:=h x mem_cons_self
  rw [filterMap_cons,hy]
  cases i with
 |zero=>exact hy.symm
 |succ i =>
   simp only [List.getElem?_cons_succ]
   exact AY f l i fun z hz=>h z (mem_cons_of_mem _ hz)
theorem uR {α:Type} (l:List α):(List.range l.length).filterMap (fun i=>l[i]?)=l:=by
 refine ext_getElem? fun i=>?_
 rw [AY _ _ _ fun x hx=>⟨l[x]'(mem_range.mp hx),List.getElem?_eq_getElem _⟩]
 rcases lt_or_ge i l.length with c|c
 ·rw [List.getElem?_range c]
  rfl
 ·rw [List.getElem?_eq_none (by simpa using c),List.getElem?_eq_none c]
  rfl
section
variable {prog:Program} {w:World} {K:Type} [DecidableEq K] {knd:KeyKind prog w K} {A:Around} {E:Value -> Shared -> Prop} {s:Shared}
theorem CN {t:SetTable}{o:Array (Option Nat)}{hs:List Int} (L:JR t o hs):((live o (t.mask+1)).map (·.2)).Perm (List.range hs.length):=by
 have nd:((live o (t.mask+1)).map (·.2)).Nodup:=by
  refine pairwise_map.mpr (List.Pairwise.imp_of_mem ?_ (vP o (t.mask+1)))
  rintro ⟨j,i⟩ ⟨j',i'⟩ ha hb hab (e:i=i')
  subst e
  have:=L.one _ _ _ ((gF L.sz).mp ha) ((gF L.sz).mp hb)
  dsimp only at hab
  omega
 refine (List.perm_ext_iff_of_nodup nd nodup_range).mpr fun i=>?_
 rw [mem_range]
 constructor
 ·intro hi
  obtain ⟨⟨j,i⟩,ha,rfl⟩:=mem_map.mp hi
  exact L.lt _ _ ((gF L.sz).mp ha)
 ·intro hi
  obtain ⟨n,h1,_⟩:=L.pl i _ (List.getElem?_eq_getElem hi)
  exact mem_map.mpr ⟨(_,i),(gF L.sz).mpr h1,rfl⟩
theorem yU.relaid {h:Heap}{es:Array (Int×Value)}{t:SetTable}{ks:List (List K)} (T:yU knd h es t ks) {wanted:Nat} (hw:SetTable.sizeAbove wanted=32) (hs:es.size<=18) :
  ∃ t' order,t.relaid (es.map (·.1)) wanted=some (t',order)/\(order.filterMap (es[·]?)).size=es.size/\t'.mask=31/\∃ ks',ks'.Perm ks/\yU knd h (order.filterMap (es[·]?)) t' ks':=by
 obtain ⟨o,o1,L⟩:=CP (t:={ t with mask:=31 }) (.inr rfl) (es.map (·.1)) (by rw [Array.size_map]; show es.size<=31; omega)
 have hlen:(es.map (·.1)).toList.length=es.size:=by rw [Array.length_toList,Array.size_map]
 have hp:=CN L
 rw [hlen] at hp
 have hp:((live o 32).map (·.2)).Perm (List.range es.size):=hp
 have hlv:∀ i∈(live o 32).map (·.2),i < es.size:=fun i hi=>mem_range.mp (hp.mem_iff.mp hi)
 have ll:(live o 32).length=es.size:=by
  have:=hp.length_eq
  simpa using this
 have e1:t.relaid (es.map (·.1)) wanted=some ({ mask:=31,place:=((live o 32).map (·.1)).toArray,dummies:=#[],finger:=t.finger,led:=t.led,moves:=t.movedTo 31,plain:=t.plain },((live o 32).map (·.2)).toArray):=by
  unfold SetTable.relaid
  rw [hw]
  unfold SetTable.laid
  have o1:SetTable.layClean 31 (es.map (·.1))=some o:=o1
  show (SetTable.layClean 31 (es.map (·.1)) >>= _)=_
  rw [o1]
  rfl
 have fe:(((live o 32).map (·.2)).toArray.filterMap (es[·]?)).toList=((live o 32).map (·.2)).filterMap (es[·]?):=by
  rw [Array.toList_filterMap]
 have ge:∀ i:Nat,(((live o 32).map (·.2)).filterMap (es[·]?))[i]?=(((live o 32).map (·.2))[i]?).bind (es[·]?):=fun i=>AY _ _ i fun x hx=>⟨es[x]'(hlv x hx),Array.getElem?_eq_getElem _⟩
 have gk:∀ i:Nat,(((live o 32).map (·.2)).filterMap (ks[·]?))[i]?=(((live o 32).map (·.2))[i]?).bind (ks[·]?):=fun i=>AY _ _ i fun x hx=>⟨ks[x]'(by rw [T.sz]; exact hlv x hx),List.getElem?_eq_getElem _⟩
 have pk:(((live o 32).map (·.2)).filterMap (ks[·]?)).Perm ks:=by
  have:=hp.filterMap (fun i=>ks[i]?)
  rw [← T.sz,uR] at this
  exact this
 have sz:(((live o 32).map (·.2)).toArray.filterMap (es[·]?)).size=es.size:=by
  rw [← Array.length_toList,fe]
  have:=hp.filterMap (fun i=>es.toList[i]?)
  rw [← Array.length_toList (xs:=es),uR] at this
  have:=this.length_eq
  simp only [Array.getElem?_toList] at this
  exact this
 refine ⟨_,_,e1,sz,rfl,_,pk,?_,fun i k hi=>?_,pk.nodup_iff.mpr T.nd,.inr ⟨rfl,by rw [sz]; exact hs⟩,?_,⟨T.tb.1,?_,rfl⟩,fun i j k hi hj=>?_⟩
 ·rw [sz,pk.length_eq]
  exact T.sz
 ·rw [gk] at hi
  obtain ⟨x,hx,hkx⟩:=Option.bind_eq_some_iff.mp hi
  obtain ⟨a,a1,a2⟩:=T.el x k hkx
  refine ⟨a,?_,a2⟩
  rw [← Array.getElem?_toList,fe,ge,hx]
  exact a1
 ·rw [sz]
  unfold SetTable.fits SetTable.fill
  simp only [Bool.and_eq_true,beq_iff_eq,decide_eq_true_eq,size_toArray,length_map]
  refine ⟨ll,?_⟩
  show (live o 32).length+0<=31
  omega
 ·show List.Pairwise _ _
  exact pairwise_map.mpr (vP o 32)
 ·have hj:(((live o 32).map (·.1)).toArray)[i]?=some j:=hj
  rw [List.getElem?_toArray,List.getElem?_map] at hj
  obtain ⟨⟨j0,x⟩,hx,ej⟩:=Option.map_eq_some_iff.mp hj
  have ej:j0=j:=ej
  subst ej
  rw [gk,List.getElem?_map,hx] at hi
  have hi:ks[x]?=some k:=hi
  obtain ⟨a,a1,_⟩:=T.el x k hi
  have hm:=(gF L.sz).mp (mem_of_getElem? hx)
  obtain ⟨n,n1,n2⟩:=L.pl x (tupleKeyHash knd k) (by rw [Array.getElem?_toList,Array.getElem?_map,a1]; rfl)
  have epr:∀ (hh:Int) m,pr { mask:=31,place:=((live o 32).map (·.1)).toArray,dummies:=#[],finger:=t.finger,led:=t.led,moves:=t.movedTo 31,plain:=t.plain } hh m=pr { t with mask:=31 } hh m:=fun hh m=>sH (t:={ t with mask:=31 }) (t':={ mask:=31,place:=((live o 32).map (·.1)).toArray,dummies:=#[],finger:=t.finger,led:=t.led,moves:=t.movedTo 31,plain:=t.plain }) rfl hh m
  refine ⟨n,by rw [epr]; exact L.one _ _ _ n1 hm,fun m hm'=>?_⟩
  rw [epr]
  obtain ⟨y,hy⟩:=n2 m hm'
  show _∈((live o 32).map (·.1)).toArray.toList
  exact mem_map.mpr ⟨(_,y),(gF L.sz).mpr hy,rfl⟩
theorem NN {k:List K}{a:Addr}{Q:Bool->Shared->Prop} (hk:IsTupleKey knd s.heap k a) (h:∀ b,Q b s):wpAny (model prog w) A (hashByValue 8 (.ref a)) Q E s:=by
 have hT:=hk.typeIs
 obtain ⟨o,items,n,ho,hc,hd,hi⟩:=hk
 unfold hashByValue
 refine wpAny_bind (wpAny_specialOf hT F.slot_tuple_hash.lookup ?_)
 show wpAny _ _ (seqItems? (.ref a) >>= _) _ _ s
 refine wpAny_bind (wpAny_seqItems ho hd ?_)
 dsimp only
 refine wpAny_bind ?_
 show wpAny _ _ (forIn items _ _) _ _ s
 rw [← Array.forIn_toList]
 refine wpAny_forIn_list _ (fun dN r s'=>s'=s/\∀ v∈dN,carriedByValue v=true) _ ?_ ?_ _ _ ⟨rfl,hi.byValue⟩
 ·rintro v dN r s' ⟨rfl,hall⟩
  have hv:=hall v mem_cons_self
  have e:∃ b,hashByValue 7 v=pure b:=by
   cases v with
  |ref a=>simp [carriedByValue] at hv
  |_=>exact ⟨_,by unfold hashByValue; rfl⟩
  obtain ⟨b,e⟩:=e
  rw [e]
  refine wpAny_bind (wpAny_pure ?_)
  cases b with
 |true =>
   simp only [Bool.not_true,Bool.false_eq_true,if_false]
   exact wpAny_pure ⟨rfl,fun u hu'=>hall u (mem_cons_of_mem _ hu')⟩
 |false =>
   simp only [Bool.not_false,if_true]
   exact wpAny_pure (wpAny_pure (h _))
 ·rintro ⟨r1,r2⟩ s' ⟨rfl,_⟩
  cases r1 with
 |none=>exact wpAny_pure (h _)
 |some b=>exact wpAny_pure (h _)
noncomputable def JE (knd:KeyKind prog w K) (B:Value->Prop) (h:Heap) (a:Addr) (ks:List (List K)):Prop:=∃ es ep t,h.get? a=some (bM es ep t)/\yU knd h es t ks/\(t.mask=7->es.size<=4)/\∀ e∈es.toList,B e.2
theorem nD {h h':Heap}{k:List K}{a x:Addr}{es ep t} (hk:IsTupleKey knd h k x) (g:h.get? a=some (bM es ep t)) (sb:Heap.SameBut a h h'):IsTupleKey knd h' k x:=by
 obtain ⟨o',items,n,ho',hc,hd',hi⟩:=hk
 have hne:x≠a:=by
  rintro rfl
  rw [g] at ho'
  cases ho'
  cases hd'
 exact ⟨o',items,n,(sb.2 x hne).trans ho',hc,hd',hi⟩
theorem yU.keep {h h':Heap}{es:Array (Int×Value)}{t:SetTable}{ks:List (List K)} (T:yU knd h es t ks) (hk:∀ k x,IsTupleKey knd h k x->IsTupleKey knd h' k x):yU knd h' es t ks:=
 ⟨T.sz,fun i k e=>let ⟨a,a1,a2⟩:=T.el i k e; ⟨a,a1,hk _ _ a2⟩,T.nd,T.mask,T.fits,T.tb,T.rch⟩
theorem UM {B:Value->Prop}{a x:Addr}{ks:List (List K)}{k:List K}{Q:Bool->Shared->Prop} (hu:A.units < cLine) (hS:JE knd B s.heap a ks) (hx:IsTupleKey knd s.heap k x) (hB:B (.ref x)) (hb:ks.length<=17)
  (h1:k∈ks->Q false s) (h2:k∉ks->∀ h' ks',Heap.SameBut a s.heap h'->ks'.Perm (k::ks)->JE knd B h' a ks'->(∀ k x,IsTupleKey knd s.heap k x->IsTupleKey knd h' k x)->Q true { s with heap:=h' }):wpAny (model prog w) A (setAddHashed a (.ref x) (tupleKeyHash knd k)) Q E s:=by
 obtain ⟨es,ep,t,ho,T,h4,hB0⟩:=hS
 have hz:=iT T.fits
 have hsz:=T.sz
 unfold setAddHashed setAddHashedIn
 refine wpAny_holding (wpAny_bind (wpAny_setState_of ho rfl T.fits ?_))
 dsimp only
 have hbs:byScan (.ref x) es=false:=rfl
 rw [hbs,if_neg Bool.false_ne_true]
 refine wpAny_bind (BX hu T ho hx (fun hk=>wpAny_pure (h1 hk)) fun hk n n1 n2=>?_)
 dsimp only
 refine wpAny_bind (wpAny_setState_of ho rfl T.fits ?_)
 dsimp only
 have hm:(t.mask=7/\es.size<=4)∨(t.mask=31/\es.size<=17):=by
  rcases T.mask with ⟨c,_⟩|⟨c,_⟩
  ·exact .inl ⟨c,h4 c⟩
  ·exact .inr ⟨c,by omega⟩
 have put:=T.put hx hk n1 n2 hm
 have ekp:(ks.take (t.put (pr t (tupleKeyHash knd k) n).j).2++k::ks.drop (t.put (pr t (tupleKeyHash knd k) n).j).2).Perm (k::ks):=by
  refine List.perm_middle.trans ?_
  rw [take_append_drop]
 have em:(t.put (pr t (tupleKeyHash knd k) n).j).1.mask=t.mask:=rfl
 generalize t.put (pr t (tupleKeyHash knd k) n).j=tp at put ekp em ⊢
 obtain ⟨t1,p⟩:=tp
 dsimp only at put ekp em ⊢
 generalize ks.take p++k::ks.drop p=ks1 at put ekp
 have hB1:∀ e∈(SetTable.insertAt es p (tupleKeyHash knd k,Value.ref x)).toList,B e.2:=fun e he=>by
  rw [oM] at he
  rcases mem_append.mp he with c|c
  ·exact hB0 e (List.mem_of_mem_take c)
  ·rcases mem_cons.mp c with rfl|c
   ·exact hB
   ·exact hB0 e (List.mem_of_mem_drop c)
 generalize SetTable.insertAt es p (tupleKeyHash knd k,Value.ref x)=es1 at put hB1 ⊢
 have fin:∀ b:Bool,wpAny (model prog w) A (do
   storeSet a es1 { t1 with plain:=b }
   if (!false&&SetTable.tooFull { t1 with plain:=b })=true then do
    setRelay a (SetTable.grown (es.size+1))
    pure true
   else pure true) Q E s:=fun b=>by
  have T1:=put b
  have hz1:es1.size=es.size+1:=by
   have:=ekp.length_eq
   have:=T1.sz
   rw [length_cons] at *
   omega
  have hf1:({ t1 with plain:=b }:SetTable).place.size=es1.size:=iT T1.fits
  have hd1:({ t1 with plain:=b }:SetTable).dummies=#[]:=T1.tb.2.2
  have em1:({ t1 with plain:=b }:SetTable).mask=t.mask:=em
  generalize ({ t1 with plain:=b }:SetTable)=t2 at T1 hf1 hd1 em1 ⊢
  refine wpAny_bind (wpAny_storeSet_of ho rfl ?_ (fits_of_scanBound (by unfold scanBound; omega)))
  have g1:(s.heap.update a (Obj.putSet es1 t2)).get? a=some (bM es1 (ep+1) t2):=by
   have z:=get?_update_self (Obj.putSet es1 t2) ho (by rw [putSet_of es1 t2 rfl]; rfl)
   rw [putSet_of es1 t2 rfl] at z
   exact z
  have sb1:=Heap.SameBut.update s.heap a (Obj.putSet es1 t2)
  have kp1:∀ k x,IsTupleKey knd s.heap k x->IsTupleKey knd (s.heap.update a (Obj.putSet es1 t2)) k x:=fun k x hk=>nD hk ho sb1
  have ef:t2.tooFull=decide ((es.size+1) * 5 ≥ t.mask * 3):=by
   unfold SetTable.tooFull SetTable.fill
   rw [hf1,hd1,em1,hz1]
   rfl
  rw [ef]
  by_cases c:(es.size+1) * 5 ≥ t.mask * 3
  ·rw [decide_eq_true c]
   simp only [Bool.not_false,Bool.and_self,if_true]
   have e5:es.size=4:=by omega
   have hw:SetTable.sizeAbove (SetTable.grown (es.size+1))=32:=by rw [e5]; decide
   have T1':=T1.keep kp1
   obtain ⟨t3,order,r1,r2,r3,ks3,r4,r5⟩:=T1'.relaid hw (by omega)
   refine wpAny_bind ?_
   unfold setRelay
   refine wpAny_bind (wpAny_setState_of g1 rfl T1.fits ?_)
   dsimp only
   rw [if_neg (by rw [hw]; decide),r1]
   refine wpAny_bind ?_
   show wpAny _ _ (if ((order.filterMap (es1[·]?)).size !=es1.size)=true then _ else pure (order.filterMap (es1[·]?),t3)) _ _ _
   rw [r2,if_neg (by simp)]
   refine wpAny_pure ?_
   dsimp only
   refine wpAny_storeSet_of g1 rfl ?_ (fits_of_scanBound (by rw [r2]; unfold scanBound; omega))
   have hB3:∀ e∈(order.filterMap (es1[·]?)).toList,B e.2:=fun e he=>by
    rw [Array.toList_filterMap] at he
    obtain ⟨i,_,hi⟩:=mem_filterMap.mp he
    exact hB1 e (Array.mem_toList_iff.mpr (Array.mem_of_getElem? hi))
   generalize order.filterMap (es1[·]?)=es3 at r2 r5 hB3 ⊢
   have g2:((s.heap.update a (Obj.putSet es1 t2)).update a (Obj.putSet es3 t3)).get? a=some (bM es3 (ep+1+1) t3):=by
    have z:=get?_update_self (Obj.putSet es3 t3) g1 (by rw [putSet_of es3 t3 rfl]; rfl)
    rw [putSet_of es3 t3 rfl] at z
    exact z
   have sb2:=Heap.SameBut.update (s.heap.update a (Obj.putSet es1 t2)) a (Obj.putSet es3 t3)
   refine wpAny_pure (h2 hk _ ks3 (sb1.trans sb2) (r4.trans ekp) ⟨es3,_,t3,g2,r5.keep fun k x hk=>nD hk g1 sb2,fun c7=>by omega,hB3⟩ fun k x hk=>nD (kp1 k x hk) g1 sb2)
  ·rw [decide_eq_false c]
   simp only [Bool.and_false,Bool.false_eq_true,if_false]
   exact wpAny_pure (h2 hk _ ks1 sb1 ekp ⟨es1,_,t2,g1,T1.keep kp1,fun c7=>by omega,hB1⟩ kp1)
 split
 ·refine wpAny_bind (NN hx fun b=>?_)
  cases b with
 |true =>
   rw [if_pos rfl]
   exact fin t1.plain
 |false =>
   rw [if_neg Bool.false_ne_true]
   exact fin false
 ·refine wpAny_bind (wpAny_pure ?_)
  rw [if_pos rfl]
  exact fin t1.plain
end
end L2
namespace L2
open PySem
section
variable {prog:Program} {w:World} {K:Type} [DecidableEq K] {knd:KeyKind prog w K}
theorem qY {h h':Heap}{k:List K}{x:Addr}{wr:List Addr} (hk:IsTupleKey knd h k x) (hx:x∉wr) (kp:∀ b o,b∉wr->h.get? b=some o->h'.get? b=some o):IsTupleKey knd h' k x:=by
 obtain ⟨o',items,n,ho',hc,hd',hi⟩:=hk
 exact ⟨o',items,n,kp _ _ hx ho',hc,hd',hi⟩
theorem JE.mv {h h':Heap}{B:Value->Prop}{a:Addr}{ks:List (List K)}{wr:List Addr} (T:JE knd B h a ks) (hB:∀ x,B (.ref x)->x∉wr) (ha:a∉wr) (kp:∀ b o,b∉wr->h.get? b=some o->h'.get? b=some o):JE knd B h' a ks:=by
 obtain ⟨es,ep,t,g,T,h4,h5⟩:=T
 refine ⟨es,ep,t,kp _ _ ha g,⟨T.sz,fun i k e=>?_,T.nd,T.mask,T.fits,T.tb,T.rch⟩,h4,h5⟩
 obtain ⟨x,x1,x2⟩:=T.el i k e
 exact ⟨x,x1,qY x2 (hB x (h5 _ (Array.mem_toList_iff.mpr (Array.mem_of_getElem? x1)))) kp⟩
variable {A:Around} {R:Result -> Shared -> Prop} {I:Addr} {fp wr:List Addr} {G:Array GenState -> Array GenState -> Prop} {n:Nat} {P:Nat -> Value -> Prop} {St:Nat -> Shared -> Prop}
theorem MW (hu:A.in1.units < cLine) (W:WalksS prog w A.in1 I fp wr G n P St) (S:Addr) (hSf:S∉fp) (val:Nat->Addr) (kv:Nat->List K) (hval:∀ i v,P i v->v=.ref (val i)) (hn:n<=18) (hv:∀ i,i < n->val i∉S::wr) :
  ∀ (m i:Nat) (s:Shared) (ks:List (List K)),n - i=m->i<=n->St i s->JE knd (fun v=>∃ j,j < n/\v=.ref (val j)) s.heap S ks->(∀ j,j < n->IsTupleKey knd s.heap (kv j) (val j))->ks.length<=i->(∀ z,z∈ks ↔ ∃ j,j < i/\kv j=z) ->
   (∀ s' ks',Moved (S::wr) G s s'->JE knd (fun v=>∃ j,j < n/\v=.ref (val j)) s'.heap S ks'->(∀ z,z∈ks' ↔ ∃ j,j < n/\kv j=z)->R (.ok (.ret .none)) s') ->
   codeAny (model prog w) A (.builtin "set.update.loop" ⟨[.ref S,.ref I],[]⟩) R s:=by
 have hSw:S∉wr:=fun h=>hSf (W.sub _ h)
 have sub:∀ b∈wr,b∈S::wr:=fun b hb=>mem_cons_of_mem _ hb
 have hB:∀ x,(∃ j,j < n/\Value.ref x=.ref (val j))->x∉wr:=fun x ⟨j,hj,e⟩ hx=>by
  cases e
  exact hv j hj (sub _ hx)
 intro m
 induction m with
|zero =>
  intro i s ks hk hi hst hS hK hl hm hR
  have:i=n:=by omega
  subst this
  refine codeAny_builtin eI ?_
  rw [Around.under_plainId bP _]
  show wpAny _ A.in1 (pyNext (.ref I) >>= _) _ _ s
  refine wpAny_bind (W.done s _ _ hst fun s' mv=>wpAny_pure (hR s' ks (mv.mono sub) (hS.mv hB hSw mv.heap) hm))
|succ m ih =>
  intro i s ks hk hi hst hS hK hl hm hR
  have hlt:i < n:=by omega
  refine codeAny_builtin eI ?_
  rw [Around.under_plainId bP _]
  show wpAny _ A.in1 (pyNext (.ref I) >>= _) _ _ s
  refine wpAny_bind (W.item i s _ _ hlt hst fun v s' hP hst' mv=>?_)
  cases hval i v hP
  have hS':=hS.mv hB hSw mv.heap
  have hK':∀ j,j < n->IsTupleKey knd s'.heap (kv j) (val j):=fun j hj=>qY (hK j hj) (fun z=>hv j hj (sub _ z)) mv.heap
  show wpAny _ A.in1 (holding [Value.ref (val i)] (setAdd S (.ref (val i))) >>= _) _ _ s'
  refine wpAny_bind (wpAny_holding ?_)
  unfold setAdd
  refine wpAny_holding (wpAny_bind (wpAny_pyHash_tuple hu (hK' i hlt) ?_))
  have go:∀ (s2:Shared) (ks2:List (List K)),Moved (S::wr) G s s2->St (i+1) s2->JE knd (fun v=>∃ j,j < n/\v=.ref (val j)) s2.heap S ks2->(∀ j,j < n->IsTupleKey knd s2.heap (kv j) (val j))->ks2.length<=i+1->(∀ z,z∈ks2 ↔ z∈ks∨z=kv i)->codeAny (model prog w) A (.builtin "set.update.loop" ⟨[.ref S,.ref I],[]⟩) R s2:=fun s2 ks2 mv2 st2 t2 k2 l2 m2=>by
   refine ih (i+1) s2 ks2 (by omega) (by omega) st2 t2 k2 l2 (fun z=>?_) fun s3 ks3 mv3 t3 m3=>hR s3 ks3 (Moved.trans W.gtrans mv2 mv3) t3 m3
   rw [m2,hm]
   constructor
   ·rintro (⟨j,hj,e⟩|rfl)
    ·exact ⟨j,by omega,e⟩
    ·exact ⟨i,by omega,rfl⟩
   ·rintro ⟨j,hj,e⟩
    by_cases q:j < i
    ·exact .inl ⟨j,q,e⟩
    ·have:j=i:=by omega
     subst this
     exact .inr e.symm
  refine UM (s:={ s' with toks:=s'.toks+((kv i).length+1) }) hu hS' (hK' i hlt) ⟨i,hlt,rfl⟩ (by omega) (fun hin=>?_) fun hout h' ks' sb hp ht kpt=>?_
  ·refine wpAny_pure ⟨plainId_quiet bP _,go _ ks ((mv.mono sub).then_heap (le_add_right _ _) fun b o _ e=>e) ?_ hS' hK' (by omega) fun z=>⟨.inl,fun q=>q.elim id fun e=>e ▸ hin⟩⟩
   exact W.frame _ s' _ _ hst' (le_add_right _ _) fun b _ o e=>e
  ·refine wpAny_pure ⟨plainId_quiet bP _,go _ ks' ((mv.mono sub).then_heap (le_add_right _ _) fun b o hb e=>?_) ?_ ht (fun j hj=>kpt _ _ (hK' j hj)) ?_ fun z=>?_⟩
   ·rw [sb.2 b (fun q:b=S=>hb (by rw [q]; exact mem_cons_self))]; exact e
   ·exact W.frame _ s' _ _ hst' (le_add_right _ _) fun b hb o e=>by rw [sb.2 b (fun q:b=S=>hSf (by rw [← q]; exact hb))]; exact e
   ·have:=hp.length_eq
    simp at this
    omega
   ·rw [hp.mem_iff]
    simp only [mem_cons]
    exact or_comm
end
section
variable {prog:Program} {w:World} {K:Type} [DecidableEq K] {knd:KeyKind prog w K} {A:Around} {E:Value -> Shared -> Prop} {s:Shared}
theorem BT {B:Value->Prop}{h:Heap}{a:Addr} (g:h.get? a=some (aP w)):JE knd B h a []:=
 ⟨#[],0,_,g,⟨rfl,fun i k e=>by simp at e,nodup_nil,.inl ⟨rfl,by decide⟩,rfl,⟨rfl,List.Pairwise.nil,rfl⟩,fun i j k e=>by simp at e⟩,fun _=>by decide,fun e he=>by simp at he⟩
set_option maxHeartbeats 3200000 in
theorem EZ {l:Addr}{ts:List Addr}{kv:Nat->List K}{Q:Value->Shared->Prop} (hh:A.handled=none) (hu:A.units+8 < cLine) (hl:s.heap.IsList l (ts.map Value.ref).toArray) (hk:∀ (i:Nat) (x:Addr),ts[i]?=some x->IsTupleKey knd s.heap (kv i) x) (hb:ts.length<=18)
  (h:∀ h' tk ks,JE knd (fun v=>∃ x∈ts,v=.ref x) h' s.heap.objs.size ks->(∀ z,z∈ks ↔ ∃ j,j < ts.length/\kv j=z)->(∀ b o,b < s.heap.objs.size->s.heap.get? b=some o->h'.get? b=some o)->Q (.ref s.heap.objs.size) { s with heap:=h',toks:=tk }) :
  wpAny (model prog w) A (call (.type "set") [.ref l]) Q E s:=by
 obtain ⟨c,tl,hmro⟩:=F.called_set.mro
 have hmade:=F.called_set.made
 have hsub:=F.called_set.sub
 have hlt:∀ (i:Nat) (x:Addr),ts[i]?=some x->x < s.heap.objs.size:=fun i x e=>by
  obtain ⟨o,_,_,ho,_⟩:=hk i x e
  exact lt_size ho
 have hlen:(ts.map Value.ref).toArray.size=ts.length:=by simp
 refine wpAny_call (codeAny_of_tree ?_)
 show wpAny _ _ (callAny (.type "set") _) _ _ _
 refine wpAny_pure ⟨Code.quiet_builtin _ (by decide +kernel),codeAny_builtin F.entry_type_call ?_⟩
 rw [Around.under_plain (weight_type_call_type "set" [.ref l] []) rfl]
 have h1:=F.called_set.notType
 have h2:=F.called_set.canCreate
 have hct:=F.typeCall_set_1 (.ref l)
 repeat (any_goals (first|assumption|wp_step))
 refine codeAny_mono (uN (.ref l) (E:=E) (Q₁:=fun obj s₁=>obj=.ref s.heap.objs.size/\s₁={ s with heap:=s.heap.push (aP w) }) ⟨rfl,rfl⟩) fun r s₁ hr=>?_
 cases r with
|error e=>exact hr
|ok fl =>
  cases fl with
 |ret obj =>
   obtain ⟨rfl,rfl⟩:=hr
   have hS:(s.heap.push (aP w)).get? s.heap.objs.size=some (aP w):=get?_push_size _ rfl
   have hT:Shared.TypeIs { s with heap:=s.heap.push (aP w) } (.ref s.heap.objs.size) "set":=⟨_,hS,rfl⟩
   have hli:=F.called_set.init.lookup
   have hbi:=F.called_set.init.bind (.ref s.heap.objs.size)
   repeat (any_goals (first|assumption|wp_step))
   refine codeAny_mono (codeAny_call_builtin (R:=wants (fun r s₂=>r=.none/\∃ h' tk ks,s₂={ s with heap:=h',toks:=tk }/\JE knd (fun v=>∃ x∈ts,v=.ref x) h' s.heap.objs.size ks/\(∀ z,z∈ks ↔ ∃ j,j < ts.length/\kv j=z) /\
     (∀ b o,b < s.heap.objs.size->s.heap.get? b=some o->h'.get? b=some o)) E) F.called_set.init.plain F.entry_set_init (check_set_init_1 hT ?_)) fun r₂ s₂ hr₂=>?_
   ·obtain ⟨ol,hol,hcl,nl,hdl⟩:=hl
    obtain ⟨ocls,odict,odata,oslots⟩:=ol
    simp only at hcl hdl
    subst hcl; subst hdl
    have hol':(s.heap.push (aP w)).get? l=some { cls:=.type "list",dict:=odict,data:=.seq (ts.map Value.ref).toArray nl,slots:=oslots }:=get?_push_of_some _ hol
    have hsls:=F.sub_list_set
    have hslf:=F.sub_list_frozenset
    have hne:(Value.type "list"==Value.type "dict")=false:=by decide
    have hl1:(s.heap.push (aP w)).IsList l (ts.map Value.ref).toArray:=⟨_,hol',rfl,nl,rfl⟩
    generalize hits:(ts.map Value.ref).toArray=items at *
    unfold Builtin.«set.__init__» noKeywords Builtin.Frozenset.updateFrom
    generalize hPI:pyIter=PI
    wp_walk
    subst hPI
    refine wpAny_pyIter_list hl1 ?_
    refine wpAny_bind (wpAny_runValue ?_)
    have hlS:l < s.heap.objs.size:=lt_size hol
    have hh3:A.in1.in1.in1.handled=none:=by simp [hh]
    have zP:(s.heap.push (aP w)).objs.size=s.heap.objs.size+1:=size_push ..
    have hneI:l≠(s.heap.push (aP w)).objs.size:=by rw [zP]; exact ne_of_lt (lt_succ_of_lt hlS)
    have hSf:s.heap.objs.size∉[(s.heap.push (aP w)).objs.size,l]:=by
     rw [zP]
     simp only [mem_cons,not_mem_nil,or_false,not_or]
     exact ⟨ne_of_lt (lt_succ_self _),ne_of_gt hlS⟩
    have vi:∀ i,i < items.size->ts[i]?=some (ts.getD i 0):=fun i hi=>by
     rw [hlen] at hi
     rw [getD_eq_getElem?_getD,List.getElem?_eq_getElem hi]
     rfl
    refine MW (knd:=knd) (by show A.units+1+1+1 < cLine; omega) ((Walks.list hh3 _ l hneI items).toS) s.heap.objs.size hSf (fun i=>ts.getD i 0) kv (fun i v hv=>?_) (by rw [hlen]; exact hb) (fun i hi=>?_) (items.size - 0) 0 _ [] (by omega) (zero_le _)
     ⟨⟨_,get?_push_size _ rfl,rfl,rfl⟩,(hl1.push _)⟩ (BT (get?_push_of_some _ hS)) (fun i hi=>?_) (le_refl _) (fun z=>by simp) fun s' ks hm hS' hmem=>?_
    ·have hv:items[i]?=some v:=hv
     have hi:i < items.size:=(Array.getElem?_eq_some_iff.mp hv).1
     rw [← hits,List.getElem?_toArray,List.getElem?_map,vi i hi] at hv
     exact (Option.some.inj hv).symm
    ·have:=hlt i _ (vi i hi)
     rw [zP]
     simp only [mem_cons,not_mem_nil,or_false,not_or]
     exact ⟨ne_of_lt this,ne_of_lt (lt_succ_of_lt this)⟩
    ·exact qY (wr:=[]) (hk i _ (vi i hi)) not_mem_nil fun b o _ e=>get?_push_of_some _ (get?_push_of_some _ e)
    obtain ⟨h',g',d',tk',os'⟩:=s'
    have eg:g'=s.gens:=hm.gens
    have ed:d'=s.drawn:=hm.drawn
    have eo:os'=s.os:=hm.os
    subst eg ed eo
    refine wpAny_pure ?_
    refine wpAny_pure ⟨rfl,h',tk',ks,rfl,?_,fun z=>?_,fun b o hb e=>?_⟩
    ·obtain ⟨es,ep,t,q1,q2,q3,q4⟩:=hS'
     refine ⟨es,ep,t,q1,q2,q3,fun e he=>?_⟩
     obtain ⟨j,hj,ej⟩:=q4 e he
     exact ⟨_,mem_of_getElem? (vi j hj),ej⟩
    ·rw [hmem,hlen]
    ·have hb1:b≠s.heap.objs.size:=ne_of_lt hb
     have hb2:b≠(s.heap.push (aP w)).objs.size:=by rw [zP]; exact ne_of_lt (lt_succ_of_lt hb)
     exact hm.heap b o (by simp only [mem_cons,not_mem_nil,or_false,not_or]; exact ⟨hb1,hb2⟩) (get?_push_of_some _ (get?_push_of_some _ e))
   ·cases r₂ with
   |error e=>exact hr₂
   |ok fl₂ =>
     cases fl₂ with
    |ret r =>
      obtain ⟨rfl,h',tk,ks,rfl,q1,q2,q3⟩:=hr₂
      repeat (any_goals (first|assumption|wp_step))
      exact h _ _ _ q1 q2 q3
    |_=>exact hr₂.elim
 |_=>exact hr.elim
end
end L2
namespace L2
open PySem PySem.W PyProof.Rows
noncomputable def oZ {α:Type} (n:Nat) (P:α->Prop):KasT α->Prop
|.ret a=>P a
|.ask i j k=>i < n/\j < n/\∀ b,oZ n P (k b)
theorem oZ.bind {α β:Type}{n:Nat}{P:α->Prop}{Q:β->Prop}{f:α->KasT β}:∀ {t:KasT α},oZ n P t->(∀ a,P a->oZ n Q (f a))->oZ n Q (t.bind f)
|.ret a,h,g=>g a h
|.ask i j k,⟨h1,h2,h3⟩,g=>⟨h1,h2,fun b=>oZ.bind (h3 b) g⟩
theorem oZ.wp {α:Type}{n:Nat}{P:α->Prop}{Q:α->Shared->Prop}{s:Shared}{cmp:Nat->Nat->(Bool->Shared->Prop)->Shared->Prop} (hc:∀ i j (C:Bool->Shared->Prop),i < n->j < n->(∀ b,C b s)->cmp i j C s) (hq:∀ a,P a->Q a s):∀ {t:KasT α},oZ n P t->t.kasWp cmp Q s
|.ret a,h=>hq a h
|.ask i j k,⟨h1,h2,h3⟩=>hc i j _ h1 h2 fun b=>oZ.wp hc hq (h3 b)
noncomputable def oY (n:Nat) (p:Array Nat):Prop:=p.Perm (List.range n).toArray
theorem oY.lt {n:Nat}{p:Array Nat} (h:oY n p) (h0:0 < n) (k:Nat):p.getD k 0 < n:=by
 rw [Array.getD_eq_getD_getElem?]
 rcases lt_or_ge k p.size with c|c
 ·rw [Array.getElem?_eq_getElem c,Option.getD_some]
  have:p[k]∈(List.range n).toArray:=h.mem_iff.mp (Array.getElem_mem c)
  simpa using this
 ·rw [Array.getElem?_eq_none c]
  exact h0
theorem oY.rev {n:Nat}{p:Array Nat} (h:oY n p) (i j:Nat):oY n (kas_rev p i j):=(mirror_perm _ _ _ _).trans h
theorem oY.bub {n:Nat}{p:Array Nat} (h:oY n p) (i j:Nat):oY n (bubble p i j):=(bubble_perm _ _ _).trans h
section
variable {n:Nat} (h0:0 < n)
include h0
theorem xW {p:Array Nat} (hp:oY n p):∀ f m,oZ n (fun _=>True) (kas_asc p f m)
|0,_=>trivial
|f+1,m=>⟨hp.lt h0 _,hp.lt h0 _,fun b=>by
  cases b
  ·exact xW hp f (m+1)
  ·exact trivial⟩
theorem mR:∀ f (p:Array Nat) m q,oY n p->oZ n (fun r=>oY n r.1) (kas_desc f p m q)
|0,p,_,_,hp=>hp
|f+1,p,m,q,hp=>⟨hp.lt h0 _,hp.lt h0 _,fun b=>by
  cases b
  ·refine ⟨hp.lt h0 _,hp.lt h0 _,fun d=>?_⟩
   cases d
   ·exact mR f p (m+1) (q+1) hp
   ·exact hp
  ·show oZ n _ (if q > 0 then _ else _)
   split
   ·exact mR f _ (m+1) 0 (hp.rev _ _)
   ·exact mR f p (m+1) 0 hp⟩
theorem AT {p:Array Nat} (hp:oY n p) (m k:Nat):oZ n (fun r=>oY n r.2) (kas_tail3 m k p):=(xW h0 (hp.rev _ _) _ _).bind fun a _=>hp.rev _ _
theorem PJ {p:Array Nat} (hp:oY n p) (m k:Nat):oZ n (fun r=>oY n r.2) (kas_descPart m k p):=(mR h0 _ p _ _ hp).bind fun r hr=>by
 show oZ n _ (if _ then _ else _)
 split
 ·exact AT h0 (oY.rev hr _ _) _ _
 ·exact AT h0 hr _ _
theorem HM {p:Array Nat} (hp:oY n p) (k:Nat):oZ n (fun r=>oY n r.2) (kas_count k p):=(xW h0 hp _ _).bind fun m _=>by
 show oZ n _ (if _ then _ else _)
 split
 ·exact hp
 ·split
  ·refine ⟨hp.lt h0 _,hp.lt h0 _,fun b=>?_⟩
   cases b
   ·exact PJ h0 (hp.rev _ _) _ _
   ·exact hp
  ·exact PJ h0 hp _ _
theorem oE {p:Array Nat} (hp:oY n p) (k:Nat):∀ f l r,oZ n (fun _=>True) (kas_place p k f l r)
|0,_,_=>trivial
|f+1,l,r=>by
  show oZ n _ (if _ then _ else _)
  split
  ·exact trivial
  ·refine ⟨hp.lt h0 _,hp.lt h0 _,fun b=>?_⟩
   cases b
   ·exact oE hp k f _ _
   ·exact oE hp k f _ _
theorem HN:∀ f (p:Array Nat) k,oY n p->oZ n (oY n) (kas_bin f p k)
|0,p,_,hp=>hp
|f+1,p,k,hp=>(oE h0 hp k _ _ _).bind fun l _=>HN f _ (k+1) (hp.bub _ _)
theorem MN:oZ n (oY n) (kas_sort n):=(HM h0 (Array.Perm.refl _) n).bind fun r hr=>by
 show oZ n _ (if _ then _ else _)
 split
 ·exact HN h0 _ _ _ hr
 ·exact hr
end
noncomputable def tQ (h:Heap) (v:Value):Prop:=∃ a o xs n ns,v=.ref a/\h.get? a=some o/\o.cls=.type "tuple"/\o.data=.seq xs n/\IntsAre xs.toList ns/\0 < ns.length
theorem tQ.at {h h':Heap}{v:Value} (t:tQ h v) (kp:∀ a o,h.get? a=some o->o.cls=.type "tuple"->h'.get? a=some o):tQ h' v:=by
 obtain ⟨a,o,xs,n,ns,e,g,c,r⟩:=t
 exact ⟨a,o,xs,n,ns,e,kp _ _ g c,c,r⟩
section
variable {prog:Program} {w:World} {A:Around} {E:Value -> Shared -> Prop} {s:Shared}
theorem vQ {b fin:Bool}{Q:Bool->Shared->Prop} (hq:∀ c,Q c s):∀ {us vs:List Value}{ns ms:List Int} (i:Nat),IntsAre us ns->IntsAre vs ms->KatLex prog w A b fin Q (us.zip vs) i s
|[],_,_,_,_,_,_=>by
  rw [List.zip_nil_left]
  exact hq _
|_::_,[],_,_,_,_,_=>hq _
|_::us,_::vs,_,_,i,.cons x t h1,.cons y u h2=>by
  refine kat_cons (wpAny_eqBool_int ?_)
  refine kat_go (fun _=>kat_yes (vQ hq (i+1) h1 h2)) fun _=>kat_no ?_
  cases hb:(b&&i==0) with
 |true=>exact oneLt_int (hq _)
 |false=>exact kat_one _ _ (lt_int (hq _))
theorem JB {b:Bool}{vs:List Value} (hv:∀ v∈vs,tQ s.heap v) {i j:Nat}{C:Bool->Shared->Prop} (hi:i < vs.length) (hj:j < vs.length) (hc:∀ b,C b s):kas_ask prog w A (tuples' b) vs i j C s:=by
 unfold kas_ask
 obtain ⟨x,ox,xs,n,ns,e1,g1,_,d1,i1,_⟩:=hv _ (List.getElem_mem hi)
 obtain ⟨y,oy,ys,m,ms,e2,g2,_,d2,i2,_⟩:=hv _ (List.getElem_mem hj)
 rw [getD_eq_getElem?_getD,List.getElem?_eq_getElem hi,getD_eq_getElem?_getD,List.getElem?_eq_getElem hj,Option.getD_some,Option.getD_some,e1,e2]
 exact kat_lt g1 d1 g2 d2 (vQ hc 0 i1 i2)
theorem yZ {h:Heap}:∀ {vs:List Value},(∀ v∈vs,tQ h v)->∃ fs:List Value,KatTups h vs fs/\fs.length=vs.length/\∀ f∈fs,∃ x t,f=.int x t
|[],_=>⟨[],trivial,rfl,fun f hf=>nomatch hf⟩
|v::vs,h=>by
  obtain ⟨fs,t,l,r⟩:=yZ fun v hv=>h v (mem_cons_of_mem _ hv)
  obtain ⟨x,ox,xs,n,ns,rfl,g1,c,d1,i1,l1⟩:=h v mem_cons_self
  obtain ⟨xl⟩:=xs
  cases i1 with
 |nil=>cases l1
 |cons y u i1 =>
   refine ⟨.int y u::fs,.cons g1 c d1 (by simp) t,by simp [l],fun f hf=>?_⟩
   rcases mem_cons.mp hf with rfl|hf
   ·exact ⟨y,u,rfl⟩
   ·exact r f hf
theorem pF {a:Addr}{vs:List Value}{n:Nat}{P:Fin->Shared->Prop} (ho:s.heap.get? a=some (seqObj "list" vs.toArray n)) (hv:∀ v∈vs,tQ s.heap v) (hl:vs.length < 64)
  (h:∀ out:Array Value,out.toList.Perm vs->P (.done (.ret .none)) { s with heap:=sortedHeap s.heap a vs out }) :
  wpAny (model prog w) A (Builtin.«list.sort» ⟨[.ref a],[]⟩) P E s:=by
 rw [list_sort_plain]
 have hz:vs.toArray.size=vs.length:=by simp
 have b1:vs.toArray.size<=sizeLine:=by rw [hz,sizeLine_eq]; omega
 have ha:a < s.heap.objs.size:=lt_size ho
 refine wpAny_bind (listItems_at ho rfl ?_)
 refine wpAny_bind (listUpdate_at ho rfl ?_ b1 (by simp))
 obtain ⟨e1,g1⟩:∃ e1,(s.heap.update a (Obj.mapSeq fun _=>#[])).get? a=some (seqObj "list" #[] e1):=⟨_,get?_update_seq ho (fun _=>#[])⟩
 refine wpAny_bind (seqEpoch_at g1 rfl ?_)
 refine wpAny_bind (wpAny_newTuple ?_ (by rw [sizeLine_eq]; simpa using (by omega:vs.length<=_)))
 refine wpAny_bind (wpAny_newList ?_)
 refine wpAny_holding ?_
 have g2:(((s.heap.update a (Obj.mapSeq fun _=>#[])).push (seqObj "tuple" vs.toArray 0)).push (seqObj "list" #[] 0)).get? a=some (seqObj "list" #[] e1):=
  get?_push_of_some _ (get?_push_of_some _ g1)
 have hv2:∀ v∈vs,tQ (((s.heap.update a (Obj.mapSeq fun _=>#[])).push (seqObj "tuple" vs.toArray 0)).push (seqObj "list" #[] 0)) v:=fun v hm=>(hv v hm).at fun b o e c=>by
  have hne:b≠a:=by
   rintro rfl
   rw [ho] at e
   cases e
   exact absurd (show Value.type "list"=Value.type "tuple" from c) (by decide)
  refine get?_push_of_some _ (get?_push_of_some _ ?_)
  rw [Heap.get?_update_ne _ _ _ _ hne]
  exact e
 show wpAny (model prog w) A _ P E { s with heap:=((s.heap.update a (Obj.mapSeq fun _=>#[])).push (seqObj "tuple" vs.toArray 0)).push (seqObj "list" #[] 0) }
 dsimp only
 by_cases h2:vs.toArray.size < 2
 ·rw [if_pos h2,if_pos h2]
  refine wpAny_bind (wpAny_pure ?_)
  rw [StateT.run_pure]
  refine wpAny_bind (wpAny_pure ?_)
  dsimp only
  refine wpAny_bind (seqEpoch_at g2 rfl ?_)
  refine wpAny_bind (listUpdate_at g2 rfl ?_ (hsz2:=by rw [Array.size_map]; show (pairsOf vs).size<=_; rw [pairsOf_size,sizeLine_eq]; omega))
  simp only [bne_self_eq_false,Bool.false_eq_true,if_false]
  refine wpAny_pure (h _ ?_)
  show ((pairsOf vs).map (·.2)).toList.Perm vs
  rw [Array.toList_map,pairsOf_toList,List.map_snd_zip (le_refl _)]
 ·rw [if_neg h2,if_neg h2]
  rw [hz] at h2
  obtain ⟨fs,t1,t2,t3⟩:=yZ hv2
  refine wpAny_bind (kat_kind (T:=.type "int") t1 (by omega) (fun f hf=>?_) rfl ?_)
  ·obtain ⟨x,u,rfl⟩:=t3 f hf
   exact .now
  refine wpAny_bind (wpAny_mono (kat_run (Q:=fun st' s'=>s'={ s with heap:=((s.heap.update a (Obj.mapSeq fun _=>#[])).push (seqObj "tuple" vs.toArray 0)).push (seqObj "list" #[] 0) }/\failedOf st'=none/\((arrOf st').map (·.2)).toList.Perm vs)
   (G:=fun p s'=>s'={ s with heap:=((s.heap.update a (Obj.mapSeq fun _=>#[])).push (seqObj "tuple" vs.toArray 0)).push (seqObj "list" #[] 0) }/\oY vs.length p) rfl (by omega) hl (fun p st' s' p1 p2 p3 ⟨p4,p5⟩=>⟨p4,p3,?_⟩) (oZ.wp (fun i j C hi hj hc=>JB hv2 hi hj hc) (fun p hp=>⟨rfl,hp⟩) (MN (by omega)))) ?_ fun _ _ e=>e)
  ·rw [kat_snds rfl p2]
   have q:=(Array.perm_iff_toList_perm.mp p5).map fun i=>vs.getD i Value.none
   refine q.trans (List.Perm.of_eq ?_)
   refine ext_getElem? fun i=>?_
   rw [List.getElem?_map]
   rcases lt_or_ge i vs.length with c|c
   ·rw [List.getElem?_range c]
    show some (vs.getD i Value.none)=_
    rw [getD_eq_getElem?_getD,List.getElem?_eq_getElem c]
    rfl
   ·rw [List.getElem?_eq_none (by simpa using c),List.getElem?_eq_none c]
    rfl
  rintro ⟨⟨⟩,st'⟩ s' ⟨rfl,hf,hp⟩
  dsimp only at hp hf ⊢
  refine wpAny_bind (seqEpoch_at g2 rfl ?_)
  refine wpAny_bind (listUpdate_at g2 rfl ?_ (hsz2:=by
   have:=hp.length_eq
   rw [Array.length_toList] at this
   rw [this,sizeLine_eq]
   omega))
  rw [hf]
  simp only [bne_self_eq_false,Bool.false_eq_true,if_false]
  exact wpAny_pure (h _ hp)
theorem xC {a:Addr}{P:List Value->Prop}{Q:Value->Shared->Prop} (hP:∀ vs,P vs->vs.length < 64/\∀ v∈vs,tQ s.heap v)
  (hc:∀ (A':Around) (Q':List Value->Shared->Prop),A'.handled=A.handled->(∀ vs h' d tk,P vs->(∀ b o,s.heap.get? b=some o->h'.get? b=some o)->s.heap.objs.size<=h'.objs.size->Q' vs { s with heap:=h',drawn:=d,toks:=tk })->wpAny (model prog w) A' (collect (.ref a)) Q' E s)
  (h:∀ h' d tk L vs (its:List Value) n,P vs->its.Perm vs->s.heap.objs.size<=L->h'.get? L=some (seqObj "list" its.toArray n)->(∀ b o,s.heap.get? b=some o->h'.get? b=some o)->Q (.ref L) { s with heap:=h',drawn:=d,toks:=tk }) :
  wpAny (model prog w) A (call (.builtin "sorted") [.ref a]) Q E s:=by
 refine Calls.call_function_entry kind_sorted plain_sorted entry_sorted (args_sorted1 _) ?_
 unfold Builtin.«sorted»
 refine wpAny_bind (m:=checkCount "sorted" 1 1 _) (wpAny_pure ?_)
 refine wpAny_bind (hc _ _ (by simp) fun vs h1 d tk pv kp hge=>?_)
 obtain ⟨p1,p2⟩:=hP vs pv
 refine wpAny_bind (wpAny_newList ?_ (by rw [sizeLine_eq]; omega))
 have g0:(h1.push (seqObj "list" vs.toArray 0)).get? h1.objs.size=some (seqObj "list" vs.toArray 0):=get?_push_size _ rfl
 show wpAny _ _ _ _ _ { s with heap:=h1.push (seqObj "list" vs.toArray 0),drawn:=d,toks:=tk }
 refine wpAny_bind (wpAny_holding (wpAny_call_entry slot_list_sort ⟨_,g0,rfl⟩ entry_list_sort (pF g0 (fun v hv=>(p2 v hv).at fun b o e _=>get?_push_of_some _ (kp b o e)) p1 fun out a1=>⟨_,rfl,?_⟩) (args_list_sort _)))
 refine wpAny_pure ⟨_,rfl,?_⟩
 obtain ⟨e,he⟩:=sortedHeap_at (vs:=vs) (out:=out) g0
 refine h _ d tk h1.objs.size vs out.toList e pv a1 hge (by rw [Array.toArray_toList]; exact he) fun b o eb=>?_
 have hb1:=lt_size (kp b o eb)
 rw [sortedHeap_old (ne_of_lt hb1) (by rw [size_push']; exact lt_succ_of_lt hb1)]
 exact get?_push_of_some _ (kp b o eb)
end
end L2
namespace L2
open PySem PySem.W PyProof.Rows
noncomputable def JG (w:World) (a:Addr) (ps:List Addr):HO:=.ext fun h=>∃ es ep t,h.get? a=some (bM es ep t)/\t.fits es.size=true/\Tb w t es.size/\es.size < scanBound/\es.toList.map (·.2)=ps.map Value.ref
section
variable {X:Cx}
noncomputable def OQ (w:World):List V->Hp->VK->Prop:=fun vs H Q=>∃ (p:Addr) (ts:List Addr) (kf:Addr->List aR),vs=[.ref p]/\H p=some (.lst (ts.map V.ref))/\(∀ t∈ts,H t=some (.tup ((kf t).map kV)))/\ts.length<=18 /\
 ∀ (l:Addr) (ps:List Addr),H l=none->(∀ q∈ps,q∈ts)->(ps.map kf).Nodup->(∀ t∈ts,kf t∈ps.map kf)->Q (.ref l) (upd H l (JG w l ps))
theorem pO:∀ {ts:List Addr}{us:List Value},aM (ts.map V.ref) us->us=ts.map Value.ref
|[],_,.nil=>rfl
|t::ts,_,.cons r h=>by
  cases r
  rw [pO h]
  rfl
theorem qA:∀ (ts:List Addr),aM (ts.map V.ref) (ts.map Value.ref)
|[]=>.nil
|t::ts=>.cons rfl (qA ts)
theorem DM (hc:X.calm=true) (hu:X.A.units+64 < cLine):cK X (.type "set") (OQ X.w):=by
 intro pins s σ H vs us Q I r h
 obtain ⟨p,ts,kf,rfl,hp,ht,hl,q⟩:=h
 obtain ⟨u,rfl,ru⟩:=r.one
 cases ru
 obtain ⟨z,its,n,rv,hlen,e⟩:=I.lstM hp
 cases pO rv
 refine EZ (knd:=aY X.prog X.w) (ts:=ts) (kv:=fun i=>kf (ts.getD i 0)) (I.ok.hd hc) (by omega) ⟨_,e,rfl,n,rfl⟩ (fun i x hx=>?_) hl fun h' tk ks T hm kp=>?_
 ·have:ts.getD i 0=x:=by rw [getD_eq_getElem?_getD,hx]; rfl
  show IsTupleKey _ _ (kf (ts.getD i 0)) x
  rw [this]
  exact oH I.hok (ht x (mem_of_getElem? hx))
 ·obtain ⟨es,ep,t,g,T,h4,hB⟩:=T
  have hz:=iT T.fits
  have hsz:es.size<=18:=by rcases T.mask with ⟨_,c⟩|⟨_,c⟩ <;> omega
  -- the addresses of what is in the set
  obtain ⟨ps,eps⟩:∃ ps:List Addr,es.toList.map (·.2)=ps.map Value.ref:=by
   clear T hz hsz g
   generalize es.toList=l at hB
   induction l with
  |nil=>exact ⟨[],rfl⟩
  |cons a l ih =>
    obtain ⟨ps,e⟩:=ih fun x hx=>hB x (mem_cons_of_mem _ hx)
    obtain ⟨x,_,ex⟩:=hB a mem_cons_self
    exact ⟨x::ps,by rw [map_cons,e,ex]; rfl⟩
  have hps:∀ q∈ps,q∈ts:=fun q hq=>by
   have:Value.ref q∈es.toList.map (·.2):=by rw [eps]; exact mem_map_of_mem hq
   obtain ⟨e,he,e2⟩:=mem_map.mp this
   obtain ⟨x,hx,ex⟩:=hB e he
   rw [e2] at ex
   cases ex
   exact hx
  have hlt:∀ x∈ts,IsTupleKey (aY X.prog X.w) s.heap (kf x) x:=fun x hx=>oH I.hok (ht x hx)
  have eks:ps.map kf=ks:=by
   have hlp:ps.length=es.size:=by
    have:=congrArg List.length eps
    simpa using this.symm
   refine ext_getElem? fun i=>?_
   rw [List.getElem?_map]
   rcases lt_or_ge i ps.length with c|c
   ·have hik:i < ks.length:=by rw [T.sz]; omega
    rw [List.getElem?_eq_getElem c,List.getElem?_eq_getElem hik]
    obtain ⟨a,a1,a2⟩:=T.el i _ (List.getElem?_eq_getElem hik)
    have e3:=congrArg (·[i]?) eps
    simp only [List.getElem?_map,Array.getElem?_toList,a1,List.getElem?_eq_getElem c] at e3
    have e4:Value.ref a=Value.ref ps[i]:=Option.some.inj e3
    cases e4
    have a3:=qY (wr:=[]) (h':=h') (hlt ps[i] (hps _ (List.getElem_mem c))) not_mem_nil fun b o _ eb=>kp b o (lt_size eb) eb
    exact congrArg some (a3.inj a2)
   ·rw [List.getElem?_eq_none c,List.getElem?_eq_none (by rw [T.sz]; omega)]
    rfl
  refine ⟨.ref s.heap.objs.size,_,I.laid (o:=JG X.w s.heap.objs.size ps) (fun b o e=>kp b o (lt_size e) e) (le_refl _) ⟨⟨es,ep,t,g,T.fits,T.tb,by unfold scanBound; omega,eps⟩,⟨_,g⟩,fun h1 h2 ⟨es,ep,t,x1,x2⟩ k=>⟨es,ep,t,k _ x1,x2⟩⟩,rfl,q _ ps (I.hok.fresh (le_refl _)) hps (by rw [eks]; exact T.nd) fun x hx=>?_⟩
  rw [eks,hm]
  obtain ⟨j,hj,ej⟩:=List.getElem_of_mem hx
  refine ⟨j,hj,?_⟩
  show kf (ts.getD j 0)=kf x
  rw [getD_eq_getElem?_getD,List.getElem?_eq_getElem hj,ej]
  rfl
noncomputable def FW (w:World):List V->Hp->VK->Prop:=fun vs H Q=>∃ (p:Addr) (ps:List Addr) (nf:Addr->List Int),vs=[.ref p]/\H p=some (JG w p ps)/\(∀ t∈ps,H t=some (.tup ((nf t).map V.int))/\0 < (nf t).length)/\ps.length < 64 /\
 ∀ (l:Addr) (qs:List Addr),H l=none->qs.Perm ps->Q (.ref l) (upd H l (.lst (qs.map V.ref)))
theorem yL (hc:X.calm=true):cK X (.builtin "sorted") (FW X.w):=by
 intro pins s σ H vs us Q I r h
 obtain ⟨p,ps,nf,rfl,hp,ht,hl,q⟩:=h
 obtain ⟨u,rfl,ru⟩:=r.one
 cases ru
 have hT:∀ t∈ps,tQ s.heap (.ref t):=fun t hx=>by
  obtain ⟨h1,h2⟩:=ht t hx
  obtain ⟨_,its,rv,o,g,c,n,d⟩:=I.hok t _ h1
  exact ⟨t,o,_,n,nf t,rfl,g,c,d,eU rv,h2⟩
 obtain ⟨es,ep,t,g,hf,htb,hsz,eps⟩:=(show ∃ es ep t,s.heap.get? p=some (bM es ep t)/\t.fits es.size=true/\Tb X.w t es.size/\es.size < scanBound/\es.toList.map (·.2)=ps.map Value.ref from (I.hok p _ hp).1)
 refine xC (P:=fun vs=>vs.Perm (ps.map Value.ref)) (fun vs hv=>⟨by rw [hv.length_eq,length_map]; exact hl,fun v hm=>?_⟩) (fun A' Q' hA k=>?_) fun h' d tk L vs its n hv hpm hL g kp=>?_
 ·obtain ⟨x,hx,rfl⟩:=mem_map.mp (hv.mem_iff.mp hm)
  exact hT x hx
 ·refine lP (hA.trans (I.ok.hd hc)) g hf htb (fits_of_scanBound hsz) fun vs h' d tk hp kp hge=>k vs h' d tk ?_ kp hge
  rw [← eps]
  exact hp
 ·obtain ⟨qs,q1,q2⟩:=eS (hpm.trans hv) rfl
  subst q2
  have I1:=(I.dr d).laid (h':=h') (a:=L) (o:=.lst (qs.map V.ref)) (t':=tk) kp hL ⟨by
   have:=q1.length_eq
   rw [length_map,sizeLine_eq]
   omega,_,n,qA qs,g⟩
  exact ⟨.ref L,_,I1,rfl,q L qs (I.hok.fresh hL) q1⟩
theorem KR {w:World}{H:Hp}{Q:VK}{p:Addr}{ts:List Addr}{kf:Addr->List aR} (hp:H p=some (.lst (ts.map V.ref))) (ht:∀ t∈ts,H t=some (.tup ((kf t).map kV))) (hl:ts.length<=18)
  (k:∀ (l:Addr) (ps:List Addr) (G:Hp),H l=none->aJ H G->G l=some (JG w l ps)->(∀ q∈ps,q∈ts)->(ps.map kf).Nodup->(∀ t∈ts,kf t∈ps.map kf)->Q (.ref l) G):OQ w [.ref p] H Q:=
 ⟨p,ts,kf,rfl,hp,ht,hl,fun l ps h0 h1 h2 h3=>k l ps _ h0 (aJ.new h0) aC h1 h2 h3⟩
theorem FN {w:World}{H:Hp}{Q:VK}{p:Addr}{ps:List Addr}{nf:Addr->List Int} (hp:H p=some (JG w p ps)) (ht:∀ t∈ps,H t=some (.tup ((nf t).map V.int))/\0 < (nf t).length) (hl:ps.length < 64)
  (k:∀ (l:Addr) (qs:List Addr) (G:Hp),H l=none->aJ H G->G l=some (.lst (qs.map V.ref))->qs.Perm ps->Q (.ref l) G):FW w [.ref p] H Q:=
 ⟨p,ps,nf,rfl,hp,ht,hl,fun l qs h0 h1=>k l qs _ h0 (aJ.new h0) aC h1⟩
end
end L2
namespace L2
open PySem
theorem vO {H G:Hp}{d:Addr}{kvs:List (aR×V)}{o:Obj} (hk:H d=some (.dK kvs)) (s:aJ (upd H d (.frz o (.dK kvs))) G):aJ H (melt d G):=fun b u hb=>by
 by_cases z:b=d
 ·subst z
  rw [hk] at hb
  cases hb
  exact mQ (s _ _ aC)
 ·rw [kA z]
  exact s _ _ (by rw [aI z]; exact hb)
theorem eX:∀ {kvs:List (aR×V)}{i:Nat}{k:aR}{v:V},(kvs.map (·.1)).Nodup->kvs[i]?=some (k,v)->gC kvs k=some v
|[],i,_,_,_,h=>by simp at h
|p::kvs,0,k,v,_,h=>by
  cases h
  exact eV rfl
|p::kvs,i+1,k,v,nd,h=>by
  rw [map_cons,nodup_cons] at nd
  rw [List.getElem?_cons_succ] at h
  rw [eW fun e=>nd.1 (mem_map.mpr ⟨(k,v),mem_of_getElem? h,e.symm⟩)]
  exact eX nd.2 h
noncomputable def qm (u:Int×Int) (m:Nat):Rat:=Rat.divInt (u.1 * m) u.2
theorem OA {u:Int×Int} (hu:lQ u) (m:Nat):(bN u m).1=(qm u m).num/\(bN u m).2=((qm u m).den:Int):=by
 have h2:=hu.p2
 obtain ⟨a,b⟩:=MM (t:=u.1 * m) (b:=u.2) (by omega)
 exact ⟨a.symm,b.symm⟩
theorem IC {u:Int×Int} (hu:lQ u) {H:Hp}{v:V}{m:Nat}:cE H v (bN u m) ↔ EC H v (qm u m):=by
 obtain ⟨a,b⟩:=OA hu m
 unfold cE EC
 rw [a,b]
theorem SA {u:Int×Int} (hu:lQ u) {m n:Nat} (h:n<=m):qm u m - qm u n=qm u (m - n):=by
 have h2:=hu.p2
 unfold qm
 rw [Rat.sub_eq_add_neg,Rat.neg_divInt,Rat.divInt_add_divInt _ _ (by omega) (by omega)]
 have e1:u.1 * (m:Int) * u.2+-(u.1 * (n:Int)) * u.2=u.1 * ((m - n:Nat):Int) * u.2:=by
  rw [Int.ofNat_sub h,Int.mul_sub,Int.sub_mul,Int.neg_mul]
  omega
 rw [e1]
 exact Rat.divInt_mul_right (by omega)
theorem wT {u:Int×Int} (hu:lQ u) {m n:Nat} (h:bN u m=bN u n):m=n:=by
 obtain ⟨a1,_,a3,_⟩:=hu.tm m
 obtain ⟨_,_,b3,_⟩:=hu.tm n
 rw [← h] at b3
 have e:=a3.symm.trans b3
 have e2:=Int.eq_of_mul_eq_mul_right (by omega) e
 have e3:=Int.eq_of_mul_eq_mul_left (show u.1≠0 by have:=hu.p1; omega) e2
 omega
theorem NZ {u:Int×Int} (hu:lQ u) {m:Nat} (hm:m<=100000):Sz 8000 (qm u m):=by
 obtain ⟨a,b⟩:=OA hu m
 obtain ⟨c1,c2,_⟩:=hu.tm m
 have h3:=hu.p2
 have h4:=hu.s2
 refine ⟨by rw [← a]; exact Sm.mono (EJ hu hm) (by decide),?_⟩
 show Sm 8000 ((qm u m).den:Int)
 rw [← b]
 refine Sm.mono (m:=100) (Sm.of (by omega) ?_) (by decide)
 have:=Int.le_of_dvd h3 c2
 show (bN u m).2 < ((2 ^ 100:Nat):Int)
 omega
noncomputable def DZ (f:Int×Int):List aR:=[Sum.inl f.1,Sum.inl f.2]
theorem sT {f g:Int×Int} (h:DZ f=DZ g):f=g:=by
 unfold DZ at h
 injection h with h1 h2
 injection h2 with h3 _
 injection h1 with h1
 injection h3 with h3
 exact Prod.ext h1 h3
noncomputable def DT (u:Int×Int) (H:Hp) (d:Addr) (sh:List (Str×Nat)):Prop:=∃ kvs:List (aR×V),H d=some (.dK kvs)/\Paired (fun (kv:aR×V) (x:Str×Nat)=>kv.1=Sum.inr x.1/\cE H kv.2 (bN u x.2)) kvs sh
theorem rF {u:Int×Int}{H:Hp}:∀ {kvs:List (aR×V)}{sh:List (Str×Nat)},Paired (fun (kv:aR×V) (x:Str×Nat)=>kv.1=Sum.inr x.1/\cE H kv.2 (bN u x.2)) kvs sh->kvs.map (·.1)=sh.map fun x=>Sum.inr x.1
|_,_,.nil=>rfl
|_,_,.cons r t=>by
  rw [map_cons,map_cons,rF t,r.1]
theorem EV {u:Int×Int}{H:Hp}{kvs:List (aR×V)}{sh:List (Str×Nat)} (p:Paired (fun (kv:aR×V) (x:Str×Nat)=>kv.1=Sum.inr x.1/\cE H kv.2 (bN u x.2)) kvs sh) (h:(sh.map (·.1)).Nodup):(kvs.map (·.1)).Nodup:=by
 rw [rF p]
 have:(sh.map fun x=>(Sum.inr x.1:aR))=(sh.map (·.1)).map Sum.inr:=by rw [map_map]; rfl
 rw [this]
 exact pairwise_map.mpr (h.imp fun hab e=>hab (Sum.inr.inj e))
noncomputable def JP (H:Hp) (t:Addr):List aR:=match H t with
|some (.tup [.int a,.int b])=>[Sum.inl a,Sum.inl b]
|_=>[]
theorem xZ {H:Hp}{t:Addr}{f:Int×Int} (h:H t=some (.tup [.int f.1,.int f.2])):JP H t=DZ f:=by
 unfold JP
 rw [h]
 rfl
noncomputable def As (H:Hp) (t:Addr):List Int:=match H t with
|some (.tup [.int a,.int b])=>[a,b]
|_=>[]
theorem TQ {H:Hp}{t:Addr}{f:Int×Int} (h:H t=some (.tup [.int f.1,.int f.2])):As H t=[f.1,f.2]:=by
 unfold As
 rw [h]
noncomputable abbrev UO (u:Int×Int) (H:Hp) (t:Addr) (m:Nat):Prop:=H t=some (.tup [.int (bN u m).1,.int (bN u m).2])
theorem zM {u:Int×Int}{H:Hp}:∀ {kvs:List (aR×V)}{sh:List (Str×Nat)},Paired (fun (kv:aR×V) (x:Str×Nat)=>kv.1=Sum.inr x.1/\cE H kv.2 (bN u x.2)) kvs sh->∃ ts:List Addr,kvs.map (·.2)=ts.map V.ref/\Paired (fun t (x:Str×Nat)=>UO u H t x.2) ts sh
|_,_,.nil=>⟨[],rfl,.nil⟩
|_,_,.cons ⟨_,q,e,g⟩ t=>by
  obtain ⟨ts,e1,p1⟩:=zM t
  exact ⟨q::ts,by rw [map_cons,map_cons,e1,e],.cons g p1⟩
theorem PC {α β:Type}{R:α->β->Prop}:∀ {l:List α},(∀ x∈l,∃ y,R x y)->∃ m,Paired R l m
|[],_=>⟨[],.nil⟩
|x::l,h=>by
  obtain ⟨y,hy⟩:=h x mem_cons_self
  obtain ⟨m,hm⟩:=PC fun z hz=>h z (mem_cons_of_mem _ hz)
  exact ⟨y::m,.cons hy hm⟩
theorem GP {α β γ:Type}{R:α->β->Prop}{f:α->γ}{g:β->γ} (h:∀ a b,R a b->f a=g b):∀ {l:List α}{m:List β},Paired R l m->l.map f=m.map g
|_,_,.nil=>rfl
|_,_,.cons r t=>by rw [map_cons,map_cons,h _ _ r,GP h t]
theorem AK {α β γ δ:Type}{R:α->β->Prop}{S:γ->δ->Prop}{f:α->γ}{g:β->δ} (h:∀ a b,R a b->S (f a) (g b)):∀ {l:List α}{m:List β},Paired R l m->Paired S (l.map f) (m.map g)
|_,_,.nil=>.nil
|_,_,.cons r t=>.cons (h _ _ r) (AK h t)
theorem GO {α β:Type}{R:α->β->Prop}{l:List α}{m:List β} (p:Paired R l m) {x:α} (hx:x∈l):∃ y∈m,R x y:=by
 obtain ⟨i,hi⟩:=List.getElem?_of_mem hx
 obtain ⟨y,h1,h2⟩:=Paired.at p hi
 exact ⟨y,mem_of_getElem? h1,h2⟩
theorem sK {α β:Type}{R:α->β->Prop}:∀ {l:List α}{m:List β},Paired R l m->∀ {y:β},y∈m->∃ x∈l,R x y
|_,_,.nil,_,h=>nomatch h
|_,_,.cons r t,y,h=>by
  rcases mem_cons.mp h with rfl|h
  ·exact ⟨_,mem_cons_self,r⟩
  ·obtain ⟨x,h1,h2⟩:=sK t h
   exact ⟨x,mem_cons_of_mem _ h1,h2⟩
theorem QR {u:Int×Int} (hu:lQ u) {H:Hp}{ts ps qs:List Addr}{sh:List (Str×Nat)} (pt:Paired (fun t (x:Str×Nat)=>UO u H t x.2) ts sh) (h1:∀ q∈ps,q∈ts) (h2:(ps.map (JP H)).Nodup) (h3:∀ t∈ts,JP H t∈ps.map (JP H)) (h4:qs.Perm ps) :
  ∃ ms:List Nat,Paired (UO u H) qs ms/\ms.Nodup/\∀ m,m∈ms ↔ ∃ x∈sh,x.2=m:=by
 obtain ⟨ms,hp⟩:=PC (R:=fun t m=>UO u H t m/\∃ x∈sh,x.2=m) (l:=qs) fun t ht=>by
  obtain ⟨x,hx,r⟩:=GO pt (h1 t (h4.mem_iff.mp ht))
  exact ⟨x.2,r,x,hx,rfl⟩
 have e:=GP (f:=JP H) (g:=fun m=>DZ (bN u m)) (fun a b r=>xZ r.1) hp
 have nd:=(h4.map (JP H)).nodup_iff.mpr h2
 rw [e] at nd
 refine ⟨ms,Pd.imp hp fun a b r=>r.1,(pairwise_map.mp nd).imp fun hab z=>hab (by rw [z]),fun m=>⟨fun hm=>?_,fun ⟨x,hx,ex⟩=>?_⟩⟩
 ·obtain ⟨_,_,r⟩:=sK hp hm
  exact r.2
 ·obtain ⟨t,ht,r⟩:=sK pt hx
  have:=(h4.map (JP H)).mem_iff.mpr (h3 t ht)
  rw [e,xZ r] at this
  obtain ⟨m',hm',e'⟩:=mem_map.mp this
  have:=wT hu (sT e')
  rw [← ex,← this]
  exact hm'
noncomputable def UX:Str:="abcdefghijklmnopqrstuvwxyz"
noncomputable def JN (n:Nat):Str:=⟨#[97+n]⟩
theorem HI:∀ n,n < 26->UX.cps.toList[n]?=some (97+n):=by decide +kernel
theorem AR:UX.length=26:=by decide +kernel
noncomputable def gW (n:Nat):Str:=if n < 26 then JN n else JN (n / 26)++JN (n % 26)
theorem NP {n:Nat} (h:n < 26):kO UX.cps.toList (n:Int)=some (97+n):=cJ (HI n h)
inductive fH (ms:List Nat):List Nat->Nat->List Nat->List (Nat×Nat)->Prop
|nil:fH ms [] 0 [] []
|snoc {ns T L:List Nat} {a n:Nat} {es:List (Nat×Nat)} (h:fH ms ns a T es) (ha:a<=n) (g:kS ms (n - a) L):fH ms (ns++[n]) n (T++L) (es++[(n,(T++L).length)])
noncomputable def fM (u:Int×Int) (es:List (Nat×Nat)):List (List aR×V):=es.map fun e=>(DZ (bN u e.1),V.int (e.2:Int))
theorem fH.keys {ms ns T:List Nat}{a:Nat}{es:List (Nat×Nat)} (h:fH ms ns a T es):es.map (·.1)=ns:=by
 induction h with
|nil=>rfl
|snoc h ha g ih=>rw [map_append,ih]; rfl
theorem fH.le {ms ns T:List Nat}{a:Nat}{es:List (Nat×Nat)} (h:fH ms ns a T es):∀ e∈es,e.2<=T.length:=by
 induction h with
|nil=>intro e he; cases he
|snoc h ha g ih =>
  intro e he
  rw [length_append]
  rcases mem_append.mp he with c|c
  ·have:=ih e c; omega
  ·rw [mem_singleton.mp c]
   exact le_of_eq length_append
theorem IJ {u:Int×Int} (hu:lQ u) {es:List (Nat×Nat)}{n c:Nat} (h:n∉es.map (·.1)):cV (fM u es) (DZ (bN u n)) (V.int (c:Int))=fM u (es++[(n,c)]):=by
 unfold cV
 rw [if_neg]
 ·unfold fM
  rw [map_append]
  rfl
 ·intro z
  rw [any_eq_true] at z
  obtain ⟨p,hp,e⟩:=z
  obtain ⟨q,hq,rfl⟩:=mem_map.mp hp
  have:=wT hu (sT (of_decide_eq_true e))
  exact h (mem_map.mpr ⟨q,hq,this⟩)
theorem fH.len {ms ns T:List Nat}{a:Nat}{es:List (Nat×Nat)} (h:fH ms ns a T es):T.length<=a:=by
 induction h with
|nil=>exact le_refl _
|snoc h ha g ih =>
  have:=g.len
  rw [length_append]
  omega
theorem fH.last {ms ns T:List Nat}{a:Nat}{es:List (Nat×Nat)} (h:fH ms ns a T es):(ns=[]/\a=0)∨a∈ns:=by
 cases h with
|nil=>exact .inl ⟨rfl,rfl⟩
|snoc h ha g=>exact .inr (mem_append_right _ (mem_singleton.mpr rfl))
theorem Kp.ou {t p:Addr}{H G:Hp}{o:HO} (k:Kp t H G) (h:H p=none):Kp t H (L2.upd G p o):=fun b v nb e=>by
 rw [aI (aB e h)]
 exact k _ _ nb e
theorem XB {H:Hp}{Q:VK}{v:V}{p t:Addr}{kvs:List (List aR×V)}{k:List aR} (h:Rd H p (.dT kvs)) (ht:H t=some (.tup (k.map kV))) (e:gC kvs k=some v) (q:Q v H):dG (.ref p) (.ref t) H Q:=⟨p,v,rfl,.inr ⟨kvs,k,t,h,rfl,ht,e.symm⟩,q⟩
noncomputable def DV (u:Int×Int) (H:Hp) (v:V) (x:Nat×Nat):Prop:=∃ t q,v=.ref t/\H t=some (.tup [.str (gW x.1),.str (gW (x.1+1)),.ref q])/\UO u H q x.2
theorem DV.tk {u:Int×Int}{H H':Hp}{v:V}{x:Nat×Nat} (h:DV u H v x) (k:TK H H'):DV u H' v x:=let ⟨t,q,e,a,b⟩:=h; ⟨t,q,e,k _ _ a,k _ _ b⟩
noncomputable def iA (T:List Nat) (k:Nat):List (Nat×Nat):=T.zipIdx.flatMap fun x=>List.replicate k (x.2,x.1)
theorem qF (T:List Nat) (m k:Nat):iA (T++[m]) k=iA T k++List.replicate k (T.length,m):=by
 unfold iA
 rw [List.zipIdx_append,List.flatMap_append]
 simp
theorem nZ (k:Nat):∀ T:List Nat,(iA T k).length=T.length * k:=fun T=>by
 unfold iA
 rw [List.length_flatMap]
 have:(T.zipIdx.map fun x=>(List.replicate k (x.2,x.1)).length)=List.replicate T.length k:=by
  refine ext_getElem (by simp) fun i h1 h2=>by simp
 rw [this]
 have h2:∀ n,(List.replicate n k).sum=n * k:=fun n=>by
  induction n with
 |zero=>simp
 |succ n ih=>rw [replicate_succ,sum_cons,ih,Nat.succ_mul,Nat.add_comm]
 exact h2 _
theorem xP {α β:Type}{R:α->β->Prop}{a:α}{b:β} (h:R a b):∀ k,Paired R (List.replicate k a) (List.replicate k b)
|0=>.nil
|k+1=>.cons h (xP h k)
theorem rQ {α:Type} (a:α):∀ k,(List.replicate k [a]).flatten=List.replicate k a
|0=>rfl
|k+1=>by rw [replicate_succ,flatten_cons,rQ a k]; rfl
theorem vZ {u:Int×Int} (hu:lQ u):∀ {es:List (Nat×Nat)}{m:Nat},m∈es.map (·.1)->∃ c,es.lookup m=some c/\(m,c)∈es/\gC (fM u es) (DZ (bN u m))=some (V.int (c:Int))
|[],_,h=>nomatch h
|e::es,m,h=>by
  by_cases z:m=e.1
  ·refine ⟨e.2,by rw [lookup_cons]; simp [z],by rw [z]; exact mem_cons_self,?_⟩
   exact eV (p:=(DZ (bN u e.1),V.int (e.2:Int))) (by rw [z])
  ·rcases mem_cons.mp h with c|c
   ·exact absurd c z
   ·obtain ⟨c',h1,h2,h3⟩:=vZ hu c
    refine ⟨c',by rw [lookup_cons,beq_eq_false_iff_ne.mpr z]; exact h1,mem_cons_of_mem _ h2,?_⟩
    exact (eW (p:=(DZ (bN u e.1),V.int (e.2:Int))) fun e2=>z (wT hu (sT e2)).symm).trans h3
noncomputable def cF (sh:List (Str×Nat)) (es:List (Nat×Nat)):List (aR×V):=sh.map fun x=>(Sum.inr x.1,V.str (gW ((es.lookup x.2).getD 0)))
theorem sX {sh:List (Str×Nat)}{es:List (Nat×Nat)} (h:(sh.map (·.1)).Nodup):((cF sh es).map (·.1)).Nodup:=by
 unfold cF
 rw [map_map]
 have:(sh.map ((fun p:aR×V=>p.1) ∘ fun x=>(Sum.inr x.1,V.str (gW ((es.lookup x.2).getD 0)))))=(sh.map (·.1)).map Sum.inr:=by rw [map_map]; rfl
 rw [this]
 exact pairwise_map.mpr (h.imp fun hab e=>hab (Sum.inr.inj e))
section
open PySem PySem.Spec PyProof.Rows
variable {X:Cx}
noncomputable def OV:List V->Hp->VK->Prop:=fun xs H Q=>∃ a kvs,xs=[.ref a]/\Rd H a (.dK kvs)/\Q (.int kvs.length) H
theorem UD:cK X (.builtin "len") OV:=by
 intro pins s σ H xs us Q I r h
 obtain ⟨a,kvs,rfl,ha,q⟩:=h
 obtain ⟨u,rfl,ru⟩:=r.one
 cases ru
 exact YS I ha fun t s' I'=>⟨.int _,H,I',⟨t,rfl⟩,q⟩
theorem KY {H:Hp}{Q:VK}{a:Addr}{kvs:List (aR×V)} (h:H a=some (.dK kvs)) (k:Q (.int kvs.length) H):OV [.ref a] H Q:=⟨a,kvs,rfl,.inl h,k⟩
end
noncomputable def gB (sh:List (Str×Nat)):List (aR×V):=sh.map fun x=>(Sum.inr x.1,V.int (x.2:Int))
theorem QH {sh:List (Str×Nat)} (hnd:(sh.map (·.1)).Nodup) (b:Str) (m:Nat):∃ sh',cV (gB sh) (Sum.inr b) (V.int (m:Int))=gB sh'/\(sh'.map (·.1)).Nodup/\sh'.length<=sh.length+1/\sh'≠[]/\∀ y∈sh',y∈sh∨y.2=m:=by
 unfold cV
 by_cases c:b∈sh.map (·.1)
 ·refine ⟨sh.map fun x=>if x.1=b then (x.1,m) else x,?_,?_,?_,?_,?_⟩
  ·rw [if_pos]
   ·unfold gB
    rw [map_map,map_map]
    refine map_congr_left fun x _=>?_
    show (if (Sum.inr x.1:aR)=Sum.inr b then _ else _)=(Sum.inr (if x.1=b then (x.1,m) else x).1,V.int ((if x.1=b then (x.1,m) else x).2:Int))
    by_cases z:x.1=b
    ·rw [if_pos (by rw [z]),if_pos z]
    ·rw [if_neg (fun e=>z (Sum.inr.inj e)),if_neg z]
   ·rw [any_eq_true]
    obtain ⟨x,hx,e⟩:=mem_map.mp c
    exact ⟨_,mem_map_of_mem hx,decide_eq_true (by rw [← e])⟩
  ·rw [map_map]
   have:(sh.map ((fun x:Str×Nat=>x.1) ∘ fun x=>if x.1=b then (x.1,m) else x))=sh.map (·.1):=map_congr_left fun x _=>by
    show (if x.1=b then (x.1,m) else x).1=x.1
    split <;> rfl
   rw [this]
   exact hnd
  ·rw [length_map]; omega
  ·intro z
   rw [List.map_eq_nil_iff] at z
   rw [z] at c
   cases c
  ·intro y hy
   obtain ⟨x,hx,rfl⟩:=mem_map.mp hy
   split
   ·exact .inr rfl
   ·exact .inl hx
 ·refine ⟨sh++[(b,m)],?_,?_,by simp,by simp,fun y hy=>?_⟩
  ·rw [if_neg]
   ·unfold gB
    rw [map_append]
    rfl
   ·intro z
    rw [any_eq_true] at z
    obtain ⟨p,hp,e⟩:=z
    obtain ⟨x,hx,rfl⟩:=mem_map.mp hp
    exact c (mem_map.mpr ⟨x,hx,Sum.inr.inj (of_decide_eq_true e)⟩)
  ·rw [map_append]
   exact nodup_append.mpr ⟨hnd,by simp,fun a ha b' hb' e=>by
    have e2:b'=b:=by simpa using hb'
    exact c (by rw [← e2,← e]; exact ha)⟩
  ·rcases mem_append.mp hy with h|h
   ·exact .inl h
   ·exact .inr (by rw [mem_singleton.mp h])
section
variable {Q:VK} {H:Hp} {σ:St} {D:cU}
theorem LF {z:Str}{g:TG}{tb:TS} (Pv:Nat->St->Hp->Prop) (h0:Pv 0 σ H)
  (hs:∀ i c σ H,z.cps.toList[i]?=some c->Pv i σ H->g (.str ⟨#[c]⟩) σ H fun σ2 H2=>tb ⟨Pv (i+1),D.rt,D.nx,Pv (i+1)⟩ σ2 H2) (hd:∀ σ H,Pv z.length σ H->D.nx σ H):yE g tb D σ (VB z) H:=by
 refine ⟨fun i m σ H=>m=z.length - i/\i<=z.length/\Pv i σ H,⟨z.length,by simp,zero_le _,h0⟩,?_⟩
 rintro i m σ H ⟨rfl,hi,p⟩
 by_cases hlt:i < z.length
 ·refine .inr ⟨hlt,Pv (i+1),fun σ' H' p'=>⟨z.length - (i+1),by omega,rfl,hlt,p'⟩,fun x H' y=>?_⟩
  obtain ⟨e,c,ec,y⟩:=y
  subst e y
  exact hs i c σ _ (by simpa using ec) p
 ·have e:i=z.length:=by omega
  subst e
  exact .inl ⟨le_refl _,hd σ H p⟩
end
theorem NF:Txt.slice UX (some 1) (some 9)=Str.ofString "bcdefghi":=by decide +kernel
theorem TZ:∀ i c,(Str.ofString "bcdefghi").cps.toList[i]?=some c->c=97+(i+1):=fun i c h=>by
 have hi:i < 8:=by
  have:=(List.getElem?_eq_some_iff.mp h).1
  exact this
 have e:∀ i,i < 8->(Str.ofString "bcdefghi").cps.toList[i]?=some (97+(i+1)):=by decide +kernel
 rw [e i hi] at h
 exact (Option.some.inj h).symm
theorem NG:(Str.ofString "bcdefghi").length=8:=by decide +kernel
theorem SU (i:Nat):(List.range (26 * (i+1))).map (fun n=>V.str (gW n))++(List.range 26).map (fun j=>V.str (JN (i+1)++JN j))=(List.range (26 * (i+1+1))).map fun n=>V.str (gW n):=by
 rw [show 26 * (i+1+1)=26 * (i+1)+26 by omega,List.range_add,map_append,map_map]
 congr 1
 refine map_congr_left fun j hj=>?_
 have hj:=mem_range.mp hj
 show V.str _=V.str (gW (26 * (i+1)+j))
 unfold gW
 rw [if_neg (by omega),show (26 * (i+1)+j) / 26=i+1 by omega,show (26 * (i+1)+j) % 26=j by omega]
theorem NH (xs:List V) (h:xs.length=234):tE xs none (some 234)=xs:=by
 unfold tE
 rw [h,show HT.sIx 234 0 none=0 by decide,show HT.sIx 234 234 (some 234)=234 by decide,List.drop_zero]
 exact take_of_length_le (by omega)
theorem fH.le1 {ms ns T:List Nat}{a:Nat}{es:List (Nat×Nat)} (h:fH ms ns a T es):∀ e∈es,e.2<=e.1:=by
 induction h with
|nil=>intro e he; cases he
|snoc h ha g ih =>
  intro e he
  rcases mem_append.mp he with c|c
  ·exact ih e c
  ·rw [mem_singleton.mp c]
   exact (fH.snoc h ha g).len
noncomputable def wA (es:List (Nat×Nat)):List (Nat×Nat):=(0,0)::es.filter fun e=>decide (0 < e.1)
noncomputable def fG (es:List (Nat×Nat)):List (aR×V):=(wA es).map fun e=>(Sum.inl (e.1:Int),V.int (e.2:Int))
theorem qQ (es:List (Nat×Nat)) (n c:Nat):wA (es++[(n,c)])=if 0 < n then wA es++[(n,c)] else wA es:=by
 unfold wA
 rw [filter_append]
 by_cases h:0 < n
 ·rw [if_pos h]
  simp [h]
 ·rw [if_neg h]
  simp [h]
theorem IM {es:List (Nat×Nat)}{n c:Nat} (hn:0 < n) (h:n∉es.map (·.1)):cV (fG es) (Sum.inl (n:Int)) (V.int (c:Int))=fG (es++[(n,c)]):=by
 unfold cV
 rw [if_neg]
 ·unfold fG
  rw [qQ,if_pos hn,map_append]
  rfl
 ·intro z
  rw [any_eq_true] at z
  obtain ⟨p,hp,e⟩:=z
  obtain ⟨q,hq,rfl⟩:=mem_map.mp hp
  have e2:(q.1:Int)=n:=Sum.inl.inj (of_decide_eq_true e)
  have e3:q.1=n:=by omega
  unfold wA at hq
  rcases mem_cons.mp hq with rfl|hq
  ·omega
  ·exact h (mem_map.mpr ⟨q,(mem_filter.mp hq).1,e3⟩)
theorem IL {ms ns T:List Nat}{a:Nat}{es:List (Nat×Nat)} (hM:fH ms ns a T es) {m:Nat} (hm:m∈es.map (·.1)):∃ c,es.lookup m=some c/\(m,c)∈es/\gC (fG es) (Sum.inl (m:Int))=some (V.int (c:Int)):=by
 have look:∀ (l:List (Nat×Nat)),m∈l.map (·.1)->∃ c,l.lookup m=some c/\(m,c)∈l/\(0 < m->gC ((l.filter fun e=>decide (0 < e.1)).map fun e=>((Sum.inl (e.1:Int):aR),V.int (e.2:Int))) (Sum.inl (m:Int))=some (V.int (c:Int))):=fun l=>by
  induction l with
 |nil=>intro h; cases h
 |cons e l ih =>
   intro h
   by_cases z:m=e.1
   ·refine ⟨e.2,by rw [lookup_cons]; simp [z],by rw [z]; exact mem_cons_self,fun h0=>?_⟩
    rw [filter_cons,if_pos (by rw [← z]; exact decide_eq_true h0),map_cons]
    exact eV (by rw [z])
   ·obtain ⟨c,h1,h2,h3⟩:=ih (by rcases mem_cons.mp h with c|c; exact absurd c z; exact c)
    refine ⟨c,by rw [lookup_cons,beq_eq_false_iff_ne.mpr z]; exact h1,mem_cons_of_mem _ h2,fun h0=>?_⟩
    rw [filter_cons]
    split
    ·rw [map_cons,eW fun e2=>z (by have:=Sum.inl.inj e2; omega)]
     exact h3 h0
    ·exact h3 h0
 obtain ⟨c,h1,h2,h3⟩:=look es hm
 refine ⟨c,h1,h2,?_⟩
 unfold fG wA
 rw [map_cons]
 by_cases h0:0 < m
 ·rw [eW fun e2=>by have:=Sum.inl.inj e2; omega]
  exact h3 h0
 ·have:=hM.le1 _ h2
  have e0:m=0:=by omega
  have ec:c=0:=by have:c<=m:=this; omega
  subst e0 ec
  exact eV rfl
theorem uF (xs:List Nat) (m:Nat):(xs++[m]).take 120=if xs.length < 120 then xs.take 120++[m] else xs.take 120:=by
 split
 ·rw [List.take_append,take_of_length_le (by omega),take_of_length_le (by simp; omega)]
 ·rw [List.take_append,show 120 - xs.length=0 by omega,List.take_zero,append_nil]
noncomputable def KO (u:Int×Int) (x:Nat×Nat):Dt:=.tup [.str (gW x.1),.str (gW (x.1+1)),.tup [.int (bN u x.2).1,.int (bN u x.2).2]]
theorem mW {u:Int×Int}{H:Hp}:∀ {rv:List V}{xs:List (Nat×Nat)},Paired (DV u H) rv xs->iY H (xs.map (KO u)) rv
|_,_,.nil=>rfl
|_,_,.cons ⟨t,q,e,g,k⟩ r=>by
  subst e
  exact ⟨_,_,rfl,⟨t,_,rfl,g,_,_,rfl,rfl,_,_,rfl,rfl,_,_,rfl,ND k,rfl⟩,mW r⟩
theorem rP (u:Int×Int):∀ xs:List (Nat×Nat),fJ (xs.map (KO u))<=2
|[]=>by show fJ []<=2; decide
|x::xs=>by
  show max (qR (KO u x)) (fJ (xs.map (KO u)))<=2
  have:=rP u xs
  have e:qR (KO u x)=2:=rfl
  omega
theorem KN (u:Int×Int) (xs:List (Nat×Nat)):iH (xs.map (KO u)) []=decide (xs=[]):=by
 cases xs with
|nil=>rfl
|cons x xs=>exact (decide_eq_false (cons_ne_nil _ _)).symm
theorem GD {l:List (aR×V)} (nd:(l.map (·.1)).Nodup) {i:Nat}{k:aR}{v:V} (h:l[i]?=some (k,v)):cV (l.take i) k v=l.take (i+1):=by
 unfold cV
 rw [if_neg,take_add_one,h]
 ·rfl
 ·intro z
  rw [any_eq_true] at z
  obtain ⟨p,hp,e⟩:=z
  have e:=of_decide_eq_true e
  have hi:=(List.getElem?_eq_some_iff.mp h).1
  have ens:l=l.take i++(k,v)::l.drop (i+1):=by
   have e2:(k,v)=l[i]:=by rw [List.getElem?_eq_getElem hi] at h; exact (Option.some.inj h).symm
   rw [e2,← drop_eq_getElem_cons hi,take_append_drop]
  rw [ens,map_append] at nd
  exact (nodup_append.mp nd).2.2 p.1 (mem_map_of_mem hp) k mem_cons_self e
noncomputable def mD (sh:List (Str×Nat)) (ns:List Nat):Prop:=ns.Pairwise (· < ·)/\∀ m,m∈ns ↔ ∃ x∈sh,x.2=m
noncomputable def dQ (b:Bool):Nat:=if b then 2 else 1
theorem pT:∀ {l m:List Nat},l.Pairwise (· < ·)->m.Pairwise (· < ·)->(∀ x,x∈l ↔ x∈m)->l=m
|[],[],_,_,_=>rfl
|[],y::m,_,_,h=>nomatch (h y).mpr mem_cons_self
|x::l,[],_,_,h=>nomatch (h x).mp mem_cons_self
|x::l,y::m,h1,h2,h=>by
  rw [List.pairwise_cons] at h1 h2
  have e:x=y:=by
   rcases mem_cons.mp ((h x).mp mem_cons_self) with e|e
   ·exact e
   ·rcases mem_cons.mp ((h y).mpr mem_cons_self) with e'|e'
    ·exact e'.symm
    ·have:=h2.1 x e
     have:=h1.1 y e'
     omega
  subst e
  rw [pT h1.2 h2.2 fun z=>?_]
  constructor
  ·intro hz
   rcases mem_cons.mp ((h z).mp (mem_cons_of_mem _ hz)) with e|e
   ·have:=h1.1 z hz
    omega
   ·exact e
  ·intro hz
   rcases mem_cons.mp ((h z).mpr (mem_cons_of_mem _ hz)) with e|e
   ·have:=h2.1 z hz
    omega
   ·exact e
theorem mD.eq {sh:List (Str×Nat)}{l m:List Nat} (h1:mD sh l) (h2:mD sh m):l=m:=pT h1.1 h2.1 fun x=>(h1.2 x).trans (h2.2 x).symm
theorem fH.inv {S ns T:List Nat}{a:Nat}{es:List (Nat×Nat)} (h:fH S ns a T es):(ns=[]/\a=0/\T=[]/\es=[])∨∃ ns0 n a0 T0 L es0,ns=ns0++[n]/\fH S ns0 a0 T0 es0/\kS S (n - a0) L/\a=n/\T=T0++L/\es=es0++[(n,(T0++L).length)]:=by
 cases h with
|nil=>exact .inl ⟨rfl,rfl,rfl,rfl⟩
|snoc h ha g=>exact .inr ⟨_,_,_,_,_,_,rfl,h,g,rfl,rfl,rfl⟩
theorem fH.uniq {S ns T:List Nat}{a:Nat}{es:List (Nat×Nat)} (h:fH S ns a T es):∀ {a':Nat}{T':List Nat}{es':List (Nat×Nat)},fH S ns a' T' es'->a=a'/\T=T'/\es=es':=by
 induction h with
|nil =>
  intro a' T' es' h'
  rcases h'.inv with ⟨_,rfl,rfl,rfl⟩|⟨_,_,_,_,_,_,e,_⟩
  ·exact ⟨rfl,rfl,rfl⟩
  ·exact absurd e (by simp)
|snoc h ha g ih =>
  intro a' T' es' h'
  rcases h'.inv with ⟨e,_⟩|⟨ns0,n0,a0,T0,L0,es0,e,h2,g2,rfl,rfl,rfl⟩
  ·exact absurd e (by simp)
  ·obtain ⟨e1,e2⟩:=append_inj' e rfl
   cases e2
   subst e1
   obtain ⟨rfl,rfl,rfl⟩:=ih h2
   rw [g.uniq g2]
   exact ⟨rfl,rfl,rfl⟩
theorem kS.sums {S L:List Nat}{n:Nat} (h:kS S n L):∃ k,eC S n k:=by
 cases h with
|nil=>exact ⟨0,oJ.1⟩
|cons _ _ _ d _ _ _=>exact ⟨_,d.1⟩
theorem fH.part {S ns T:List Nat}{a:Nat}{es:List (Nat×Nat)} (h:fH S ns a T es):∀ {ns1 ns2:List Nat}{n:Nat},ns=ns1++n::ns2->∃ a1 T1 es1 L,fH S ns1 a1 T1 es1/\kS S (n - a1) L:=by
 induction h with
|nil=>intro ns1 ns2 n e; exact absurd e (by simp)
|snoc h ha g ih =>
  intro ns1 ns2 n e
  rcases List.eq_nil_or_concat ns2 with rfl|⟨ns3,x,rfl⟩
  ·obtain ⟨e1,e2⟩:=append_inj' e rfl
   cases e2
   subst e1
   exact ⟨_,_,_,_,h,g⟩
  ·rw [List.concat_eq_append,← List.cons_append,← append_assoc] at e
   obtain ⟨e1,_⟩:=append_inj' e rfl
   exact ih e1
noncomputable def ZR (S:List Nat) (sh:List (Str×Nat)) (k c:Nat) (T:List Nat) (es:List (Nat×Nat)):Prop:=
 (c=1/\T=[]/\es=[]/\∃ ns1 n ns2 a T0 es0,mD sh (ns1++n::ns2)/\fH S ns1 a T0 es0/\∀ k,¬ eC S (n - a) k) ∨
 (c=2/\T=[]/\es=[]/\∃ ns a T0 es0,mD sh ns/\fH S ns a T0 es0/\120 < T0.length * k) ∨
 (c=3/\T=[]/\es=[]/\∃ ns a es0,mD sh ns/\fH S ns a [] es0) ∨
 (c=4/\T≠[]/\T.length * k<=120/\∃ ns a,mD sh ns/\fH S ns a T es)
theorem vD {S:List Nat}{sh:List (Str×Nat)}{k c c':Nat}{T T':List Nat}{es es':List (Nat×Nat)} (h:ZR S sh k c T es) (h':ZR S sh k c' T' es'):c=c'/\T=T'/\es=es':=by
 have no:∀ {ns1 n ns2 a T0 es0 ns a' T1 es1},mD sh (ns1++n::ns2)->fH S ns1 a T0 es0->(∀ k,¬ eC S (n - a) k)->mD sh ns->fH S ns a' T1 es1->False:=fun {ns1 n ns2 a T0 es0 ns a' T1 es1} m1 d1 n1 m2 d2=>by
  obtain ⟨a1,T1,es1,L,d3,g⟩:=d2.part (m2.eq m1)
  obtain ⟨rfl,_,_⟩:=d1.uniq d3
  obtain ⟨k,hk⟩:=g.sums
  exact n1 k hk
 have one:∀ {ns a T0 es0 ns' a' T1 es1},mD sh ns->fH S ns a T0 es0->mD sh ns'->fH S ns' a' T1 es1->T0=T1/\es0=es1:=fun m1 d1 m2 d2=>by
  cases m1.eq m2
  exact (d1.uniq d2).2
 rcases h with ⟨rfl,rfl,rfl,_,_,_,_,_,_,m1,d1,n1⟩|⟨rfl,rfl,rfl,_,_,_,_,m1,d1,l1⟩|⟨rfl,rfl,rfl,_,_,_,m1,d1⟩|⟨rfl,t1,l1,_,_,m1,d1⟩ <;>
  rcases h' with ⟨rfl,rfl,rfl,_,_,_,_,_,_,m2,d2,n2⟩|⟨rfl,rfl,rfl,_,_,_,_,m2,d2,l2⟩|⟨rfl,rfl,rfl,_,_,_,m2,d2⟩|⟨rfl,t2,l2,_,_,m2,d2⟩
 ·exact ⟨rfl,rfl,rfl⟩
 ·exact (no m1 d1 n1 m2 d2).elim
 ·exact (no m1 d1 n1 m2 d2).elim
 ·exact (no m1 d1 n1 m2 d2).elim
 ·exact (no m2 d2 n2 m1 d1).elim
 ·exact ⟨rfl,rfl,rfl⟩
 ·obtain ⟨e,_⟩:=one m1 d1 m2 d2
  rw [e] at l1
  simp at l1
 ·obtain ⟨e,_⟩:=one m1 d1 m2 d2
  rw [e] at l1
  omega
 ·exact (no m2 d2 n2 m1 d1).elim
 ·obtain ⟨e,_⟩:=one m1 d1 m2 d2
  rw [← e] at l2
  simp at l2
 ·exact ⟨rfl,rfl,rfl⟩
 ·obtain ⟨e,_⟩:=one m1 d1 m2 d2
  exact absurd e.symm t2
 ·exact (no m2 d2 n2 m1 d1).elim
 ·obtain ⟨e,_⟩:=one m1 d1 m2 d2
  rw [← e] at l2
  omega
 ·obtain ⟨e,_⟩:=one m1 d1 m2 d2
  exact absurd e t1
 ·obtain ⟨e1,e2⟩:=one m1 d1 m2 d2
  exact ⟨rfl,e1,e2⟩
noncomputable def EB (u:Int×Int) (sh:List (Str×Nat)) (k:Nat) (H:Hp) (c:Nat) (T:List Nat) (es:List (Nat×Nat)) (v:V):Prop:=
 (c=1/\v=.str "sum")∨(c=2/\v=.str "many")∨(c=3/\v=.str "net") ∨
 (c=4/\∃ p ln dh rv,v=.ref p/\H p=some (.tup [.ref ln,.ref dh])/\H ln=some (.lst rv)/\Paired (DV u H) rv (iA T k)/\H dh=some (.dK (cF sh es)))
end L2
namespace L2
open PySem PySem.Spec PyProof.Rows
theorem HD {H:Hp}{a:Addr} (h:H a=none) (o:HO):∃ G,upd H a o=G/\aJ H G/\G a=some o:=⟨_,rfl,aJ.new h,aC⟩
theorem eP {H:Hp}{Q:VK}{xs:List V} (k:∀ p G,H p=none->aJ H G->G p=some (.lst xs)->Q (.ref p) G) (h:xs.length<=1000 := by exact le_of_ble_eq_true rfl):SW Q xs H:=bU (fun p e=>k p _ e (aJ.new e) aC) h
theorem jF {H:Hp}{Q:VK}{xs:List V} (k:∀ p G,H p=none->aJ H G->G p=some (.tup xs)->Q (.ref p) G) (h:xs.length<=1000 := by exact le_of_ble_eq_true rfl):QI Q xs H:=gO (fun p e=>k p _ e (aJ.new e) aC) h
theorem dD {X:Cx}{e:Expr}{te:TE} (ha:PE X e te) (hs:starEach [e] X.env=(false,eval e X.env)::starEach [] X.env):PA X [e] (iZ te wW):=@bI _ _ _ _ _ ha (@fD _) hs
theorem dX {X:Cx}{e f:Expr}{te tf:TE} (ha:PE X e te) (hb:PE X f tf) (h1:starEach [f] X.env=(false,eval f X.env)::starEach [] X.env) (h2:starEach [e,f] X.env=(false,eval e X.env)::starEach [f] X.env):PA X [e,f] (iZ te (iZ tf wW)):=@bI _ _ _ _ _ ha (@dD _ _ _ hb h1) h2
theorem vC {X:Cx}{e f g:Expr}{te tf tg:TE} (ha:PE X e te) (hb:PE X f tf) (hc:PE X g tg) (h1:starEach [g] X.env=(false,eval g X.env)::starEach [] X.env) (h2:starEach [f,g] X.env=(false,eval f X.env)::starEach [g] X.env) (h3:starEach [e,f,g] X.env=(false,eval e X.env)::starEach [f,g] X.env):PA X [e,f,g] (iZ te (iZ tf (iZ tg wW))):=@bI _ _ _ _ _ ha (@dX _ _ _ _ _ hb hc h1 h2) h3
theorem qC {X:Cx}{a:Expr}{ta:TE}{i:Int}{j:Nat}{pos p2:Pos} (ha:PE X a ta):PE X (.Subscript a (.Constant (.int i) j pos) p2) (UV (nO X.K) ta (tC (.int i))):=@bQ _ _ _ _ _ _ _ cP ha (@aD _ _ _ _) (fun _ _=>rfl)
end L2
namespace Lw
open PySem L2
set_option maxHeartbeats 0
set_option compiler.extract_closed false
set_option hygiene false
local macro_rules | `(tactic| walk_at "st") => `(tactic| first
 |with_reducible assumption
  | ((with_reducible refine Bs.new ?_ ?hn); (case hn => with_reducible assumption); walk_at "st"))
local macro_rules | `(tactic| walk_at "kp") => `(tactic| first
 |with_reducible assumption
 |with_reducible exact Kp.refl _ _
  | ((with_reducible refine Kp.trans ?_ (Kp.new ?hn)); (case hn => with_reducible assumption); walk_at "kp"))
local macro_rules | `(tactic| walk_at "sm") => `(tactic| first
 |with_reducible assumption
 |with_reducible exact aJ.refl _
  | ((with_reducible refine aJ.trans ?_ (aJ.new ?hn)); (case hn => with_reducible assumption); walk_at "sm"))
local macro_rules | `(tactic| walk_at "hp") => `(tactic| first
 |with_reducible assumption
 |with_reducible exact aC
 |((with_reducible refine bB ?hn ?_); (case hn => with_reducible assumption); walk_at "hp")
 |((with_reducible refine aJ.app ?hn ?_); (case hn => with_reducible assumption); walk_at "hp")
  | ((with_reducible refine Kp.app ?hk ?hn ?_); (case hk => with_reducible assumption); (case hn => first | with_reducible assumption | (refine Ne.symm ?_; with_reducible assumption)); walk_at "hp"))
local macro_rules | `(tactic| walk_at "tk") => `(tactic| first
 |with_reducible exact TK.refl _
 |with_reducible assumption
 |((with_reducible refine TK.trans ?_ (TK.new ?hn)); (case hn => with_reducible assumption); walk_at "tk")
 |((with_reducible refine TK.trans ?_ (TK.lst ?hn)); (case hn => walk_at "hp"); walk_at "tk")
 |((with_reducible refine TK.trans ?_ (TK.dic ?hn)); (case hn => walk_at "hp"); walk_at "tk")
 |((with_reducible refine TK.trans ?_ (TK.frz ?hn)); (case hn => walk_at "hp"); walk_at "tk")
 |((with_reducible refine TK.trans ?_ TK.melt); walk_at "tk")
 |((with_reducible refine TK.trans ?_ (aJ.tk ?hn)); (case hn => with_reducible assumption); walk_at "tk")
  | ((with_reducible refine TK.trans ?_ (Bs.tk ?hs ?hn)); (case hn => with_reducible assumption); (case hs => with_reducible assumption); walk_at "tk"))
local macro_rules | `(tactic| walk_at "fq") => `(tactic| first
 |with_reducible assumption
  | ((with_reducible refine EC.tk ?fa ?ft); (case fa => with_reducible assumption); (case ft => walk_at "tk")))
local macro_rules | `(tactic| walk_at "go1") => `(tactic| first
 |with_reducible refine zQ ?_
 |((with_reducible refine WJ ?_); (with_reducible refine RC ?_))
 |((with_reducible refine WF ?_); (with_reducible refine Ab ?_))
 |with_reducible (first|refine XH ?_|refine LD ?_)
 |((with_reducible refine' WB ?rv ?_); case rv => exact rfl)
 |with_reducible (first|refine r_c ?_|refine Ad ?_|refine ZY ?_|refine RT ?_|refine r_U ?_|refine QD ?_|refine Aa ?_|refine RA ?_|refine KW ?_|refine FO ?_)
 |((with_reducible refine WN ?mc ?_); case mc => first|decide|omega)
 |((with_reducible refine RE ?mc ?_); case mc => first|decide|omega)
 |((with_reducible refine qB ?mc ?_); case mc => first|exact eO.r (by decide) (by decide)|exact eO.l (by decide) (by decide)|exact eO.l (by omega) (by omega)|exact eO.r (by omega) (by omega))
 |((with_reducible refine fQ ?mc ?_); case mc => first|exact jD.of (by decide) (by decide)|exact jD.of (by omega) (by omega))
 |with_reducible (first|refine QZ ?_|refine QV ?_|refine ZZ ?_|refine Ah ?_|refine WV ?_|refine Af ?_|refine XI ?_|refine Ac ?_|refine WK ?_|refine WH ?_|refine RD ?_|refine RK ?_|refine WL ?_|refine RN ?_|refine WC ?_|refine WO ?_|refine RP ?_|refine LJ ?_|refine Ai ?_|refine RM ?_|refine RL ?_|refine Ag ?_|refine XF ?_|refine LE ?_|refine RJ ?_|refine LB ?_|refine WE ?_|refine rT ?_|refine rV ?_|refine rR ?_)
 |((with_reducible refine' XE ?ih ?_); (case ih => walk_at "hp"))
 |((with_reducible refine' RS ?ih ?_); (case ih => walk_at "hp"))
 |((with_reducible refine' LC ?ih ?_); (case ih => walk_at "hp"))
 |with_reducible (first|refine WI ?_|refine RB ?_|refine IP ?_|refine YB ?_|refine AO ?_|refine XJ ?_|refine RI ?_|refine WW ?_|refine RO ?_|refine QY ?_|refine QX ?_|refine KZ ?_)
 |((with_reducible refine' RH ?ih ?_); (case ih => walk_at "hp"))
 |((with_reducible refine' WR ?ih ?ie ?_); (case ih => walk_at "hp"); (case ie => exact rfl))
 |((with_reducible refine' bY ?ih ?ie ?_); (case ih => walk_at "hp"); (case ie => exact rfl))
 |with_reducible (first|refine FS ?_|refine i_T ?_|refine i_F ?_|refine TN ?_)
 |((with_reducible refine YG ?dc ?_); case dc => omega)
  | ((with_reducible refine YH ?dc ?_); case dc => omega))
local macro_rules | `(tactic| walk_at "go") => `(tactic| repeat (walk_at "go1"))
local macro_rules | `(tactic| walk_at "gos") => `(tactic| repeat ((fail_if_success (with_reducible refine zQ ?_)); walk_at "go1"))
set_option hygiene true
local macro_rules | `(tactic| walk_at "go1") => `(tactic| first
 |with_reducible (first|refine WD ?_|refine QU ?_|refine LI ?_|refine KS ?_)
  | with_reducible refine r_rng1H ?_)
theorem IN {P:List Value->Prop} (h:P []):∀ us:List Value,us.length=0->P us:=fun us e=>(length_eq_zero_iff.mp e).symm ▸ h
theorem jJ {n:Nat}{P:List Value->Prop} (h:∀ a us,us.length=n->P (a::us)):∀ us:List Value,us.length=n+1->P us:=fun us=>List.casesOn (motive:=fun us=>us.length=n+1->P us) us (fun e=>absurd e (Nat.succ_ne_zero n).symm) fun a us e=>h a us (Nat.succ.inj e)
theorem YM {P:List Value->Prop} (h:∀ a0,P [a0]):∀ us:List Value,us.length=1->P us:=jJ fun a0=>IN (h a0)
theorem NB {P:List Value->Prop} (h:∀ a0 a1,P [a0,a1]):∀ us:List Value,us.length=2->P us:=jJ fun a0=>jJ fun a1=>IN (h a0 a1)
theorem YL {P:List Value->Prop} (h:∀ a0 a1 a2,P [a0,a1,a2]):∀ us:List Value,us.length=3->P us:=jJ fun a0=>jJ fun a1=>jJ fun a2=>IN (h a0 a1 a2)
theorem YK {P:List Value->Prop} (h:∀ a0 a1 a2 a3,P [a0,a1,a2,a3]):∀ us:List Value,us.length=4->P us:=jJ fun a0=>jJ fun a1=>jJ fun a2=>jJ fun a3=>IN (h a0 a1 a2 a3)
theorem Au {P:List Value->Prop} (h:∀ a0 a1 a2 a3 a4,P [a0,a1,a2,a3,a4]):∀ us:List Value,us.length=5->P us:=jJ fun a0=>jJ fun a1=>jJ fun a2=>jJ fun a3=>jJ fun a4=>IN (h a0 a1 a2 a3 a4)
local macro_rules | `(tactic| w_left) => `(tactic| first | exact Or.inl rfl | exact Or.inr rfl | exact fun _ _ _ _ _ _ => YM fun _ => rfl | exact fun _ _ _ _ _ _ => NB fun _ _ => rfl | exact fun _ _ _ _ _ _ => YL fun _ _ _ => rfl | exact ⟨rfl,rfl,rfl,by decide +kernel,rfl,by decide +kernel,by decide +kernel⟩)
local macro_rules | `(tactic| w_means) => `(tactic| first | exact .inl rfl | exact .inr rfl | assumption)
local macro_rules | `(tactic| w_fin) => `(tactic| walk_at "go")
noncomputable def kW (i:Nat):Stmt:=PySem.Challenge.pw_tilefall_k62_made_nets.main.body.getD i (.Pass ⟨0,0,0,0⟩)
noncomputable abbrev tT:Addr:=91
noncomputable abbrev LT (H:Hp):Prop:=cQ 91 ⟨31,59,31,79⟩ (("sorted_by"++".<locals>.":Str)++"<lambda>") H
theorem LT.ex {H:Hp} (h:LT H):∃ ps,H tT=some (.tbl ps):=by
 rcases h with h|⟨_,h,_⟩
 ·exact ⟨_,h⟩
 ·exact ⟨_,h⟩
theorem kT {H H':Hp}{a:Addr}{o:HO} (k:Kp tT H H') (t:LT H) (h:H a=some o) (ho:∀ ps,o≠.tbl ps):H' a=some o:=
 let ⟨ps,e⟩:=t.ex; k _ _ (cD h e (ho ps)) h
theorem PM {H H':Hp}{a:Addr} (k:Kp tT H H') (t':LT H') (h:H' a=none):H a=none:=by
 cases e:H a with
|none=>rfl
|some o =>
  obtain ⟨ps,e2⟩:=t'.ex
  rw [k _ _ (Ne.symm (aB e2 h)) e] at h; cases h
theorem LT.lst {H:Hp}{p:Addr}{xs ys:List V} (t:LT H) (h:H p=some (.lst xs)):LT (L2.upd H p (.lst ys)):=by
 rcases t with t|⟨c,t,u⟩
 ·exact .inl (by rw [aI (cD t h (by intro z; cases z))]; exact t)
 ·exact .inr ⟨c,by rw [aI (cD t h (by intro z; cases z))]; exact t,by rw [aI (cD u h (by intro z; cases z))]; exact u⟩
theorem cE.tk {H H':Hp}{v:V}{f:Int×Int} (h:cE H v f) (k:Kp tT H H') (t:LT H):cE H' v f:=
 let ⟨q,e,g⟩:=h; ⟨q,e,kT k t g (fun _ z=>by cases z)⟩
theorem LQ.tk {H H':Hp}{l:Addr}{fs:List (Int×Int)} (h:LQ cE H l fs) (k:Kp tT H H') (t:LT H):LQ cE H' l fs:=
 let ⟨vs,a,b⟩:=h; ⟨vs,kT k t a (fun _ z=>by cases z),Pd.imp b fun v f x=>cE.tk x k t⟩
theorem qP:∀ xs:List Int,(xs.map V.int).all kI=true
|[]=>rfl
|x::xs=>by rw [map_cons,all_cons,qP xs]; rfl
theorem LQ.sm {H H':Hp}{l:Addr}{fs:List (Int×Int)} (h:LQ cE H l fs) (k:aJ H H'):LQ cE H' l fs:=
 let ⟨vs,a,b⟩:=h; ⟨vs,k _ _ a,Pd.imp b fun v f x=>cE.same x k⟩
local macro_rules | `(tactic| walk_at "go1") => `(tactic| first
 |with_reducible (first|refine Ae ?_|refine WX ?_|refine WQ ?_)
  | ((with_reducible refine WP ?jy ?_); case jy => first | omega | decide +kernel))
theorem DT.tk {u:Int×Int}{H H':Hp}{d:Addr}{sh:List (Str×Nat)} (h:DT u H d sh) (k:Kp tT H H') (t:LT H):DT u H' d sh:=
 let ⟨kvs,a,b⟩:=h; ⟨kvs,kT k t a (fun _ z=>by cases z),Pd.imp b fun v f x=>⟨x.1,cE.tk x.2 k t⟩⟩
theorem DT.sm {u:Int×Int}{H H':Hp}{d:Addr}{sh:List (Str×Nat)} (h:DT u H d sh) (k:aJ H H'):DT u H' d sh:=
 let ⟨kvs,a,b⟩:=h; ⟨kvs,k _ _ a,Pd.imp b fun v f x=>⟨x.1,cE.same x.2 k⟩⟩
structure kP (mg:Str->Option Value) (xt x1 x3 x4:Addr):Prop where
 t:mg "TileError"=some (.ref xt)
 m_NoNet:mg "NoNet"=some (.ref x1)
 m_NoSum:mg "NoSum"=some (.ref x3)
 m_TooMany:mg "TooMany"=some (.ref x4)
 zV:mg "ValueError"=none
structure bX (K:Frag) (xt x1 x3 x4 C:Addr) (i:Nat):Prop where
 x:mC K C
 e:ZO K C
 v:kitOne K (.ref C) (.type "ValueError")=some true
 t:exmOne K (.ref C) (.ref xt)=some true
 k1:kitOne K (.ref C) (.ref x1)=some (Nat.beq 1 i)
 k3:kitOne K (.ref C) (.ref x3)=some (Nat.beq 3 i)
 k4:kitOne K (.ref C) (.ref x4)=some (Nat.beq 4 i)
noncomputable abbrev eA:Stmt:=kW 6
theorem cI:aO ["one","other","rest"] ["one","other"] (aE eA):=by w_left
noncomputable abbrev rO:Stmt:=kW 7
theorem iD:aO ["one","other","shared","part","top","divisor"] ["one","other"] (aE rO):=by w_left
noncomputable abbrev jE:Stmt:=kW 8
theorem uP:aO ["one","other"] ["one","other"] (aE jE):=by w_left
noncomputable abbrev eR:Stmt:=kW 9
theorem eE:aO ["fractions","bottom","each"] ["fractions"] (aE eR):=by w_left
noncomputable abbrev cM:Stmt:=kW 10
theorem jQ:aO ["fractions","things","pairs"] ["fractions","things"] (aE cM):=by w_left
noncomputable abbrev gJ:Stmt:=kW 12
theorem eK:aO ["times","tops","unit","top"] ["times"] (aE gJ):=by w_left
noncomputable abbrev dS:Stmt:=kW 13
theorem dC:aO ["parts","last","fewest","whole","counts"] ["parts","last"] (aE dS):=by w_left
noncomputable abbrev gN:Stmt:=kW 14
theorem fO:aO ["parts","fewest","left","place","part"] ["parts","fewest","left"] (aE gN):=by w_left
noncomputable abbrev lA:Stmt:=kW 15
theorem cL:aO ["box","time","falling","parts","left","fewest","made","place"] ["box","time"] (aE lA):=by w_left
noncomputable abbrev fP:Stmt:=kW 19
theorem dR:aO ["number","name"] ["number"] (aE fP):=by w_left
noncomputable abbrev cS:Stmt:=kW 20
theorem fK:aO ["show","moments"] ["show"] (aE cS):=by w_left
noncomputable abbrev dE:Stmt:=kW 21
theorem bL:aO ["box","show","double","times","ends","ahead","moment","times_over","net","number","time","hung"] ["box","show","double"] (aE dE):=by w_left
noncomputable abbrev lB:Stmt:=kW 23
theorem xE:aO ["_law_script","_law_k"] ["_law_script","_law_k"] (aE lB):=by w_left
noncomputable abbrev rJ:Stmt:=kW 24
theorem FC:aO ["_law_cell","_law_k"] ["_law_cell","_law_k"] (aE rJ):=by w_left
noncomputable abbrev rL:Stmt:=kW 25
theorem FD:aO ["_law_cell"] ["_law_cell"] (aE rL):=by w_left
noncomputable abbrev kZ:Stmt:=kW 26
theorem fA:aO ["_law_script","_law_first","_law_many","_law_size","_law_found","_law_cell","_law_k"] ["_law_script","_law_first","_law_many","_law_size"] (aE kZ):=by w_left
noncomputable abbrev nK:Stmt:=kW 27
theorem iN:aO ["_law_top","_law_bottom","_law_one","_law_other"] ["_law_top","_law_bottom"] (aE nK):=by w_left
noncomputable abbrev xF:Stmt:=kW 28
theorem KG:aO ["_law_number"] ["_law_number"] (aE xF):=by w_left
noncomputable abbrev rG:Stmt:=kW 29
theorem jR:aO ["_law_numbers_here","_law_sizes_here","_law_number","_law_size"] ["_law_numbers_here"] (aE rG):=by w_left
noncomputable abbrev gM:Stmt:=kW 30
theorem uO:aO ["_law_unit_here","_law_sizes_here"] ["_law_unit_here","_law_sizes_here"] (aE gM):=by w_left
noncomputable abbrev rM:Stmt:=kW 31
theorem fL:aO ["_law_sizes_here","_law_whole","_law_best_here","_law_number","_law_some","_law_least","_law_many"] ["_law_sizes_here","_law_whole"] (aE rM):=by w_left
noncomputable abbrev rK:Stmt:=kW 32
theorem mJ:aO ["_law_sizes_here","_law_best_here","_law_whole","_law_found","_law_some"] ["_law_sizes_here","_law_best_here","_law_whole"] (aE rK):=by w_left
noncomputable abbrev mK:Stmt:=kW 33
theorem iC:aO ["_law_many","_law_letters","_law_names_here","_law_one"] ["_law_many"] (aE mK):=by w_left
noncomputable abbrev xH:Stmt:=kW 34
theorem jS:aO ["_law_unit_here","_law_cell","_law_many","_law_far","_law_wholes","_law_bells","_law_k"] ["_law_unit_here","_law_cell","_law_many","_law_far"] (aE xH):=by w_left
noncomputable abbrev FF:Stmt:=kW 35
theorem dZ:aO ["_law_unit_here","_law_sizes_here","_law_best_here","_law_wholes","_law_twice","_law_net","_law_ends","_law_names_here","_law_ahead","_law_number","_law_whole","_law_time","_law_hung","_law_bell"] ["_law_unit_here","_law_sizes_here","_law_best_here","_law_wholes","_law_twice"] (aE FF):=by w_left
noncomputable abbrev rN:Stmt:=kW 36
theorem FE:aO ["_law_box","_law_show_here","_law_twice"] ["_law_box","_law_show_here","_law_twice"] (aE rN):=by w_left
noncomputable abbrev xG:Stmt:=kW 37
theorem iM:aO ["_law_box","_law_show_here","_law_twice","_law_found","_law_kinds","e"] ["_law_box","_law_show_here","_law_twice"] (aE xG):=by w_left
noncomputable abbrev jT:Stmt:=kW 38
theorem cG:aO ["_law_script","_law_number","_law_sizes_here","_law_unit_here","_law_box","_law_far","_law_cell","_law_wholes","_law_edge","_law_show_here","_law_bell","_law_best_here","_law_twice","_law_handed","_law_due_here","_law_found"] ["_law_script"] (aE jT):=by w_left
noncomputable def zI:Sp:=fun vs H Q _=>∃ (a b:Int),vs=[.int a,.int b]/\Q (.int (Int.gcd a b:Int)) H
noncomputable def ET:Sp:=fun vs H Q _=>∃ (x y:V) (q r:Rat),vs=[x,y]/\EC H x q/\EC H y r/\Sz 8000 q/\Sz 8000 r/\∀ v H',EC H' v (q+r)->aJ H H'->Q v H'
noncomputable def ER:Sp:=fun vs H Q _=>∃ (x y:V) (q r:Rat),vs=[x,y]/\EC H x q/\EC H y r/\Sz 8000 q/\Sz 8000 r/\∀ v H',EC H' v (q - r)->aJ H H'->Q v H'
noncomputable def wZ:Sp:=fun vs H Q _=>∃ (l:Addr) (fs:List (Int×Int)) (B:Int),vs=[.ref l]/\LQ cE H l fs/\fs.length<=500/\0 < B/\Sm 100 B/\(∀ f∈fs,0 < f.2/\f.2 ∣ B/\Sm 100 f.1) /\
 ∀ (p:Addr) (H':Hp) (D:Int),H p=none->aJ H H'->0 < D->Sm 100 D->(∀ f∈fs,f.2 ∣ D)->H' p=some (.lst ((BU D fs).map V.int))->Q (.ref p) H'
noncomputable def gH (K:Frag):Sp:=fun vs H Q _=>∃ (l:Addr) (ms:List Nat) (u:Int×Int),vs=[.ref l,.ref l]/\lQ u/\LQ cE H l (ms.map (bN u))/\(∀ m∈ms,m<=100000)/\ms.length < 64/\LT H /\
 ∀ (p:Addr) (H':Hp) (ns:List Nat),H p=none->Kp tT H H'->LT H'->ns.Perm ms->ns.Pairwise (·<=·)->LQ cE H' p (ns.map (bN u))->Q (.ref p) H'
noncomputable def zD:Sp:=fun vs H Q _=>∃ (l:Addr) (ms:List Nat) (u:Int×Int),vs=[.ref l]/\lQ u/\LQ cE H l (ms.map (bN u))/\(∀ m∈ms,m<=100000)/\ms.length<=200/\(∃ m∈ms,0 < m) /\
 ∀ (p:Addr) (H':Hp),H p=none->aJ H H'->H' p=some (.lst (((ms.map (· / dI ms)).map Int.ofNat).map V.int))->Q (.ref p) H'
noncomputable def lZ (F:List (Option Nat)) (w:Nat) (S:List Nat):List Nat:=S.filterMap fun s=>if s<=w then (F[w - s]?).join else none
theorem kK {F:List (Option Nat)}{w:Nat}{S:List Nat}{k:Nat}:k∈lZ F w S ↔ ∃ s∈S,s<=w/\F[w - s]?=some (some k):=by
 unfold lZ
 rw [mem_filterMap]
 constructor
 ·rintro ⟨s,hs,h⟩
  split at h
  ·rename_i hl
   refine ⟨s,hs,hl,?_⟩
   cases e:F[w - s]? with
  |none=>rw [e] at h; cases h
  |some o=>rw [e] at h; rw [show o=some k from h]
  ·cases h
 ·rintro ⟨s,hs,hl,h⟩
  exact ⟨s,hs,by rw [if_pos hl,h]; rfl⟩
theorem uE {S:List Nat}{F:List (Option Nat)}{i:Nat}{o:Option Nat} (hS:∀ s∈S,0 < s) (hF:F.length=i+1) (hB:∀ w o,F[w]?=some o->iW S w o)
  (h0:o=none->lZ F (i+1) S=[]) (h1:∀ k,o=some k->∃ j,k=j+1/\j∈lZ F (i+1) S/\∀ x∈lZ F (i+1) S,j<=x):iW S (i+1) o:=by
 refine HW (t:=fun m=>(F[m]?).join) (by omega) hS (fun m hm=>?_) (fun e s hs hl=>?_) fun k e=>?_
 ·rw [List.getElem?_eq_getElem (show m < F.length by omega)]
  exact hB m _ (List.getElem?_eq_getElem (by omega))
 ·have hm:i+1 - s < F.length:=by have:=hS s hs; omega
  cases e2:F[i+1 - s]? with
 |none=>rfl
 |some p =>
   cases p with
  |none=>rfl
  |some k =>
    have:=kK.mpr ⟨s,hs,hl,e2⟩
    rw [h0 e] at this
    cases this
 ·obtain ⟨j,e1,hj,hm⟩:=h1 k e
  obtain ⟨s,hs,hl,e2⟩:=kK.mp hj
  refine ⟨j,e1,⟨s,hs,hl,by show (F[i+1 - s]?).join=_; rw [e2]; rfl⟩,fun s' hs' hl' x hx=>hm x (kK.mpr ⟨s',hs',hl',?_⟩)⟩
  cases e3:F[i+1 - s']? with
 |none=>have:(F[i+1 - s']?).join=some x:=hx; rw [e3] at this; cases this
 |some p=>have:(F[i+1 - s']?).join=some x:=hx; rw [e3] at this; rw [show p=some x from this]
noncomputable def JQ (S:List Nat) (n:Nat) (F:List (Option Nat)):Prop:=F.length=n+1/\∀ w o,F[w]?=some o->iW S w o
noncomputable def uK:Sp:=fun vs H Q _=>∃ (p:Addr) (S:List Nat) (n:Nat),vs=[.ref p,.int n]/\H p=some (.lst ((S.map Int.ofNat).map V.int))/\(∀ s∈S,0 < s)/\S.length<=100/\n<=900 /\
 ∀ (l:Addr) (H':Hp) (F:List (Option Nat)),H l=none->aJ H H'->H' l=some (.lst (F.map oV))->JQ S n F->Q (.ref l) H'
noncomputable def zJ:Sp:=fun vs H Q _=>∃ (p:Addr) (S:List Nat) (f:Addr) (F:List (Option Nat)) (n k last:Nat),vs=[.ref p,.ref f,.int n]/\H p=some (.lst ((S.map Int.ofNat).map V.int))/\(∀ s∈S,0 < s)/\S.length<=100 /\
 H f=some (.lst (F.map oV))/\JQ S last F/\0 < n/\n<=last/\F[n]?=some (some (k+1)) /\
 ∀ (i s:Nat) (H':Hp),aJ H H'->S[i]?=some s->s<=n->iW S (n - s) (some k)->(∀ j s',j < i->S[j]?=some s'->s'<=n->¬ iW S (n - s') (some k))->Q (.int i) H'
noncomputable def EO (K:Frag) (x:Addr):Sp:=fun vs H Q E=>∃ (l:Addr) (ms:List Nat) (u:Int×Int) (n:Nat) (tq:Addr),vs=[.ref l,.ref tq]/\lQ u/\LQ cE H l (ms.map (bN u))/\cE H (.ref tq) (bN u n)/\(∀ m∈ms,0 < m)/\(∀ m∈ms,m<=100000)/\n<=900/\ms≠[]/\ms.length < 50/\LT H /\
 ((∀ k,¬ eC ms n k)->∀ H',Kp tT H H'->LT H'->E (.ref x) none H') /\
 ∀ (L:List Nat) (l':Addr) (H':Hp),kS ms n L->H l'=none->Kp tT H H'->LT H'->LQ cE H' l' (L.map (bN u))->Q (.ref l') H'
noncomputable def nG:Sp:=fun vs H Q _=>∃ (n:Nat),vs=[.int n]/\n < 676/\∀ H',aJ H H'->Q (.str (gW n)) H'
noncomputable def uJ:Sp:=fun vs H Q _=>∃ (d:Addr) (sh:List (Str×Nat)) (u:Int×Int),vs=[.ref d]/\lQ u/\DT u H d sh/\(sh.map (·.1)).Nodup/\(∀ x∈sh,x.2<=100000)/\sh.length<=18/\LT H /\
 ∀ (l:Addr) (H':Hp) (ns:List Nat),H l=none->Kp tT H H'->LT H'->ns.Pairwise (· < ·)->(∀ m,m∈ns ↔ ∃ x∈sh,x.2=m)->LQ cE H' l (ns.map (bN u))->Q (.ref l) H'
noncomputable def mE (K:Frag) (x1 x3 x4:Addr):Sp:=fun vs H Q E=>∃ (l:Addr) (ms:List Nat) (u:Int×Int) (d:Addr) (sh:List (Str×Nat)) (tw:Bool),vs=[.ref l,.ref d,.bl tw]/\lQ u/\LQ cE H l (ms.map (bN u))/\(∀ m∈ms,0 < m)/\(∀ m∈ms,m<=100000)/\ms≠[]/\ms.length < 50/\DT u H d sh/\(sh.map (·.1)).Nodup/\(∀ x∈sh,x.2<=900)/\sh.length<=18/\LT H /\
 (∀ ns1 n ns2 a T es H',mD sh (ns1++n::ns2)->fH ms ns1 a T es->(∀ k,¬ eC ms (n - a) k)->Kp tT H H'->LT H'->E (.ref x3) none H') /\
 (∀ ns a T es H',mD sh ns->fH ms ns a T es->120 < T.length * dQ tw->Kp tT H H'->LT H'->E (.ref x4) none H') /\
 (∀ ns a es H',mD sh ns->fH ms ns a [] es->Kp tT H H'->LT H'->E (.ref x1) none H') /\
 ∀ ns a T es (p ln dh:Addr) (rv:List V) (H':Hp),mD sh ns->fH ms ns a T es->T≠[]->T.length * dQ tw<=120->Kp tT H H'->LT H'->H' p=some (.tup [.ref ln,.ref dh])->H ln=none->H dh=none->H' ln=some (.lst rv)->Paired (DV u H') rv (iA T (dQ tw))->H' dh=some (.dK (cF sh es))->Q (.ref p) H'
theorem LT.dT {H:Hp}{p:Addr}{xs ys:List (List aR×V)} (t:LT H) (h:H p=some (.dT xs)):LT (L2.upd H p (.dT ys)):=by
 rcases t with t|⟨c,t,u⟩
 ·exact .inl (by rw [aI (cD t h (by intro z; cases z))]; exact t)
 ·exact .inr ⟨c,by rw [aI (cD t h (by intro z; cases z))]; exact t,by rw [aI (cD u h (by intro z; cases z))]; exact u⟩
noncomputable def xA (K:Frag):Sp:=fun vs H Q _=>∃ (a:Addr) (ns:List Int) (k:Int),vs=[.ref a,.int k]/\bS K H a (ns.map V.int)/\0<=k/\∀ r,Q (.int r) H
noncomputable def mF:Sp:=fun vs H Q _=>∃ (c k:Int),vs=[.int c,.int k]/\0<=k/\k<=1000/\∀ r,0<=r->r < 2147483647->Q (.int r) H
noncomputable def zH:Sp:=fun vs H Q _=>∃ (c:Int),vs=[.int c]/\∀ r,Q (.int r) H
noncomputable def pQ (K:Frag):Sp:=fun vs H Q _=>∃ (a:Addr) (ns:List Int) (f:Int) (m:Int) (z:Int),vs=[.ref a,.int f,.int m,.int z]/\bS K H a (ns.map V.int)/\0<=f/\f<=1000/\0<=m/\m<=500/\0 < z/\z < 2 ^ 64/\∀ p H' (xs:List Int),H p=none->aJ H H'->H' p=some (.lst (xs.map V.int))->xs.length=m.toNat->(∀ x∈xs,0<=x/\x < z)->Q (.ref p) H'
noncomputable def nF:Sp:=fun vs H Q _=>∃ (t b:Int),vs=[.int t,.int b]/\0 < b/\Sm 8000 t/\Sm 8000 b /\
 ∀ p,H p=none->Q (.ref p) (upd H p (.tup [.int (dY t b),.int (dO t b)]))
noncomputable def EN:Sp:=fun vs H Q _=>∃ (n:Int),vs=[.int n]/\∀ (p:Addr) (u:Int×Int) (H':Hp),lQ u->H p=none->aJ H H'->H' p=some (.tup [.int u.1,.int u.2])->Q (.ref p) H'
noncomputable def zF (K:Frag):Sp:=fun vs H Q _=>∃ (p:Addr) (xs:List Int),vs=[.ref p]/\H p=some (.lst (xs.map V.int))/\(∀ x∈xs,0<=x/\x < 80)/\xs.length<=6/\xs≠[] /\
 ∀ (l:Addr) (S:List Nat) (H':Hp),H l=none->aJ H H'->H' l=some (.lst ((S.map Int.ofNat).map V.int))->(∀ s∈S,0 < s/\s<=40)->S.length<=6->S≠[]->Q (.ref l) H'
noncomputable def rA:Sp:=fun vs H Q _=>∃ (a:Addr) (u:Int×Int) (p:Addr) (S:List Nat),vs=[.ref a,.ref p]/\lQ u/\H a=some (.tup [.int u.1,.int u.2])/\H p=some (.lst ((S.map Int.ofNat).map V.int))/\(∀ s∈S,s<=100000)/\S.length<=900 /\
 ∀ (l:Addr) (H':Hp),H l=none->aJ H H'->LQ cE H' l (S.map (bN u))->Q (.ref l) H'
noncomputable def gY:List (Option Nat)->Option Nat->Prop:=fun os o=>(o=none->∀ x∈os,x=none)/\∀ k,o=some k->some k∈os/\∀ j,some j∈os->k<=j
theorem xY:gY [] none:=⟨fun _ x h=>by simp at h,fun k e=>by cases e⟩
theorem vR {os:List (Option Nat)}{o:Option Nat} (h:gY os o):gY (os++[none]) o:=by
 refine ⟨fun e x hx=>?_,fun k e=>⟨mem_append_left _ (h.2 k e).1,fun j hj=>?_⟩⟩
 ·rcases mem_append.mp hx with h'|h'
  ·exact h.1 e x h'
  ·exact mem_singleton.mp h'
 ·rcases mem_append.mp hj with h'|h'
  ·exact (h.2 k e).2 j h'
  ·cases mem_singleton.mp h'
theorem oF {os:List (Option Nat)}{o:Option Nat}{k:Nat} (h:gY os o) (hk:∀ m,o=some m->k<=m):gY (os++[some k]) (some k):=by
 refine ⟨fun e=>(by cases e),fun k' e=>?_⟩
 cases e
 refine ⟨mem_append_right _ (by simp),fun j hj=>?_⟩
 rcases mem_append.mp hj with h'|h'
 ·cases o with
 |none=>have:=h.1 rfl _ h'; cases this
 |some m=>exact le_trans (hk m rfl) ((h.2 m rfl).2 j h')
 ·cases mem_singleton.mp h'; exact le_refl _
theorem xX {os:List (Option Nat)}{m k:Nat} (h:gY os (some m)) (hk:m<=k):gY (os++[some k]) (some m):=by
 refine ⟨fun e=>(by cases e),fun k' e=>?_⟩
 cases e
 refine ⟨mem_append_left _ (h.2 m rfl).1,fun j hj=>?_⟩
 rcases mem_append.mp hj with h'|h'
 ·exact (h.2 m rfl).2 j h'
 ·cases mem_singleton.mp h'; exact hk
noncomputable def wG (F:List (Option Nat)) (w:Nat) (S:List Nat):List (Option Nat):=S.filterMap fun s=>if s<=w then F[w - s]? else none
theorem IU {F:List (Option Nat)}{w:Nat}{S:List Nat}{o:Option Nat}:o∈wG F w S ↔ ∃ s∈S,s<=w/\F[w - s]?=some o:=by
 unfold wG
 rw [mem_filterMap]
 constructor
 ·rintro ⟨s,hs,h⟩
  split at h
  ·rename_i hl
   exact ⟨s,hs,hl,h⟩
  ·cases h
 ·rintro ⟨s,hs,hl,h⟩
  exact ⟨s,hs,by rw [if_pos hl,h]⟩
noncomputable def ES:Sp:=fun vs H Q _=>∃ (p:Addr) (S:List Nat) (n:Nat),vs=[.ref p,.int n]/\H p=some (.lst ((S.map Int.ofNat).map V.int))/\(∀ s∈S,0 < s)/\S.length<=100/\n<=900 /\
 ∀ (l:Addr) (H':Hp) (F:List (Option Nat)),H l=none->aJ H H'->H' l=some (.lst (F.map oV))->JQ S n F->Q (.ref l) H'
noncomputable def EQ:Sp:=fun vs H Q _=>∃ (p:Addr) (S:List Nat) (b:Addr) (F:List (Option Nat)) (n last kk:Nat),vs=[.ref p,.ref b,.int n]/\H p=some (.lst ((S.map Int.ofNat).map V.int))/\(∀ s∈S,0 < s)/\S.length < 64/\H b=some (.lst (F.map oV))/\JQ S last F/\n<=last/\last<=900/\F[n]?=some (some kk) /\
 ∀ (l:Addr) (L:List Nat) (H':Hp),H l=none->aJ H H'->H' l=some (.lst ((L.map Int.ofNat).map V.int))->kS S n L->Q (.ref l) H'
noncomputable def pR:Sp:=fun vs H Q _=>vs=[.int 234]/\∀ (l:Addr) (H':Hp),H l=none->aJ H H'->H' l=some (.lst ((List.range 234).map fun n=>V.str (gW n)))->Q (.ref l) H'
noncomputable abbrev UZ:List V:=[.str "ding",.str "a.b",.str "dong",.str "x",.str "bell",.str "a",.str "zz.zz",.str "tom"]
theorem UJ {i:Int} (h0:0<=i) (h1:i < 8):∃ z:Str,kO UZ i=some (.str z):=by
 rcases (show i=0∨i=1∨i=2∨i=3∨i=4∨i=5∨i=6∨i=7 by omega) with rfl|rfl|rfl|rfl|rfl|rfl|rfl|rfl <;> exact ⟨_,rfl⟩
noncomputable def uI:Sp:=fun vs H Q _=>∃ (x:V) (c m r:Int),vs=[x,.int c,.int m,.int r]/\1<=m/\m<=8/\0 < r/\r<=401 /\
 ∀ (d:Addr) (H':Hp) (sh:List (Str×Nat)),H d=none->aJ H H'->H' d=some (.dK (gB sh))->(sh.map (·.1)).Nodup->sh.length<=8->sh≠[]->(∀ y∈sh,y.2<=400)->Q (.ref d) H'
noncomputable def rB:Sp:=fun vs H Q _=>∃ (pu:Addr) (u:Int×Int) (p2:Addr) (S:List Nat) (pt:Addr) (F:List (Option Nat)) (last:Nat) (d:Addr) (sh:List (Str×Nat)) (tw:Bool),vs=[.ref pu,.ref p2,.ref pt,.ref d,.bl tw]/\lQ u/\H pu=some (.tup [.int u.1,.int u.2])/\H p2=some (.lst ((S.map Int.ofNat).map V.int))/\(∀ s∈S,0 < s)/\(∀ s∈S,s<=100000)/\S.length < 64/\H pt=some (.lst (F.map oV))/\JQ S last F/\last<=400/\H d=some (.dK (gB sh))/\(sh.map (·.1)).Nodup/\sh.length<=18/\(∀ y∈sh,y.2<=last) /\
 (∀ ns1 n ns2 a T es H',mD sh (ns1++n::ns2)->fH S ns1 a T es->(∀ k,¬ eC S (n - a) k)->aJ H H'->Q (.str "sum") H') /\
 (∀ ns a T es H',mD sh ns->fH S ns a T es->120 < T.length * dQ tw->aJ H H'->Q (.str "many") H') /\
 (∀ ns a es H',mD sh ns->fH S ns a [] es->aJ H H'->Q (.str "net") H') /\
 ∀ ns a T es (p ln dh:Addr) (rv:List V) (H':Hp),mD sh ns->fH S ns a T es->T≠[]->T.length * dQ tw<=120->aJ H H'->H' p=some (.tup [.ref ln,.ref dh])->H' ln=some (.lst rv)->Paired (DV u H') rv (iA T (dQ tw))->H' dh=some (.dK (cF sh es))->Q (.ref p) H'
theorem yB (b:Bool):1+(if b=true then (1:Int) else 0)=(dQ b:Int):=by cases b <;> rfl
noncomputable def nE (K:Frag):Sp:=fun vs H Q _=>∃ (l:Addr) (ms:List Nat) (u:Int×Int) (d:Addr) (sh:List (Str×Nat)) (tw:Bool),vs=[.ref l,.ref d,.bl tw]/\lQ u/\LQ cE H l (ms.map (bN u))/\(∀ m∈ms,0 < m)/\(∀ m∈ms,m<=100000)/\ms≠[]/\ms.length < 50/\DT u H d sh/\(sh.map (·.1)).Nodup/\(∀ x∈sh,x.2<=900)/\sh.length<=18/\LT H /\
 (∀ ns1 n ns2 a T es H',mD sh (ns1++n::ns2)->fH ms ns1 a T es->(∀ k,¬ eC ms (n - a) k)->Kp tT H H'->LT H'->Q (.str "sum") H') /\
 (∀ ns a T es H',mD sh ns->fH ms ns a T es->120 < T.length * dQ tw->Kp tT H H'->LT H'->Q (.str "many") H') /\
 (∀ ns a es H',mD sh ns->fH ms ns a [] es->Kp tT H H'->LT H'->Q (.str "net") H') /\
 ∀ ns a T es (p ln dh:Addr) (rv:List V) (H':Hp),mD sh ns->fH ms ns a T es->T≠[]->T.length * dQ tw<=120->Kp tT H H'->LT H'->H' p=some (.tup [.ref ln,.ref dh])->H ln=none->H dh=none->H' ln=some (.lst rv)->Paired (DV u H') rv (iA T (dQ tw))->H' dh=some (.dK (cF sh es))->Q (.ref p) H'
noncomputable def zG (K:Frag):Sp:=fun vs H Q _=>∃ (a:Addr) (ns:List Int),vs=[.ref a]/\bS K H a (ns.map V.int)/\ns.length<=63/\LT H/\∀ H',Q (.bl true) H'
theorem LR {kvs:List (aR×V)}{k:aR}{v:V} (h:k∉kvs.map (·.1)):cV kvs k v=kvs++[(k,v)]:=by
 unfold cV
 rw [if_neg]
 intro z
 rw [any_eq_true] at z
 obtain ⟨p,hp,e⟩:=z
 exact h (mem_map.mpr ⟨p,hp,of_decide_eq_true e⟩)
theorem LT.dK {H:Hp}{p:Addr}{xs ys:List (aR×V)} (t:LT H) (h:H p=some (.dK xs)):LT (L2.upd H p (.dK ys)):=by
 rcases t with t|⟨c,t,u⟩
 ·exact .inl (by rw [aI (cD t h (by intro z; cases z))]; exact t)
 ·exact .inr ⟨c,by rw [aI (cD t h (by intro z; cases z))]; exact t,by rw [aI (cD u h (by intro z; cases z))]; exact u⟩
theorem xD {H:Hp}{u:Int×Int}{sh:List (Str×Nat)}{kv:List (aR×V)}{p q:Addr} (nd:(sh.map (·.1)).Nodup) (pk:Paired (fun (kv:aR×V) (x:Str×Nat)=>kv.1=Sum.inr x.1/\cE H kv.2 (bN u x.2)) kv sh) (h1:H p=some (.dK kv)) (h2:H q=some (.dK kv)):wL H (.ref p) (.ref q):=
 .inr ⟨p,q,_,_,rfl,rfl,h1,h2,rfl,fun y hy=>by
  obtain ⟨i,hi⟩:=List.getElem?_of_mem hy
  have e:=eX (EV pk nd) (k:=y.1) (v:=y.2) hi
  obtain ⟨x,_,_,t,et,g⟩:=Paired.at pk hi
  rw [et] at e ⊢
  exact ⟨.tup [.int (bN u x.2).1,.int (bN u x.2).2],_,e,ND g,ND g,show 1<=20 by decide⟩⟩
theorem AJ {α β:Type}{R:α->β->Prop}{a:α}{b:β}:∀ {l:List α}{m:List β},Paired R l m->R a b->Paired R (l++[a]) (m++[b])
|_,_,.nil,h=>.cons h .nil
|_,_,.cons r t,h=>.cons r (AJ t h)
theorem BD {vs:List V} {H:Hp} {Q:VK} {E:XK} (h:∃ (pu:Addr) (u:Int×Int) (p2:Addr) (S:List Nat) (pt:Addr) (F:List (Option Nat)) (last:Nat) (d:Addr) (sh:List (Str×Nat)) (tw:Bool),vs=[.ref pu,.ref p2,.ref pt,.ref d,.bl tw]/\lQ u/\H pu=some (.tup [.int u.1,.int u.2])/\H p2=some (.lst ((S.map Int.ofNat).map V.int))/\(∀ s∈S,0 < s)/\(∀ s∈S,s<=100000)/\S.length < 64/\H pt=some (.lst (F.map oV))/\JQ S last F/\last<=400/\H d=some (.dK (gB sh))/\(sh.map (·.1)).Nodup/\sh.length<=18/\(∀ y∈sh,y.2<=last) /\
  ∀ c T es v H',ZR S sh (dQ tw) c T es->EB u sh (dQ tw) H' c T es v->aJ H H'->Q v H'):rB vs H Q E:=by
 obtain ⟨pu,u,p2,S,pt,F,last,d,sh,tw,a1,a2,a3,a4,a5,a6,a7,a8,a9,a10,a11,a12,a13,a14,k⟩:=h
 exact ⟨pu,u,p2,S,pt,F,last,d,sh,tw,a1,a2,a3,a4,a5,a6,a7,a8,a9,a10,a11,a12,a13,a14,
  fun ns1 n ns2 a T es H' b1 b2 b3 b4=>k 1 [] [] _ _ (.inl ⟨rfl,rfl,rfl,_,_,_,_,_,_,b1,b2,b3⟩) (.inl ⟨rfl,rfl⟩) b4,
  fun ns a T es H' b1 b2 b3 b4=>k 2 [] [] _ _ (.inr (.inl ⟨rfl,rfl,rfl,_,_,_,_,b1,b2,b3⟩)) (.inr (.inl ⟨rfl,rfl⟩)) b4,
  fun ns a es H' b1 b2 b3=>k 3 [] [] _ _ (.inr (.inr (.inl ⟨rfl,rfl,rfl,_,_,_,b1,b2⟩))) (.inr (.inr (.inl ⟨rfl,rfl⟩))) b3,
  fun ns a T es p ln dh rv H' b1 b2 b3 b4 b5 b6 b7 b8 b9=>k 4 T es _ _ (.inr (.inr (.inr ⟨rfl,b3,b4,_,_,b1,b2⟩))) (.inr (.inr (.inr ⟨rfl,_,_,_,_,rfl,b6,b7,b8,b9⟩))) b5⟩
theorem uD {K:Frag} {vs:List V} {H:Hp} {Q:VK} {E:XK} (h:∃ (l:Addr) (ms:List Nat) (u:Int×Int) (d:Addr) (sh:List (Str×Nat)) (tw:Bool),vs=[.ref l,.ref d,.bl tw]/\lQ u/\LQ cE H l (ms.map (bN u))/\(∀ m∈ms,0 < m)/\(∀ m∈ms,m<=100000)/\ms≠[]/\ms.length < 50/\DT u H d sh/\(sh.map (·.1)).Nodup/\(∀ x∈sh,x.2<=900)/\sh.length<=18/\LT H /\
  ∀ c T es v H',ZR ms sh (dQ tw) c T es->EB u sh (dQ tw) H' c T es v->(∀ p ln dh,v=.ref p->H' p=some (.tup [.ref ln,.ref dh])->H ln=none/\H dh=none)->Kp tT H H'->LT H'->Q v H'):nE K vs H Q E:=by
 obtain ⟨l,ms,u,d,sh,tw,a1,a2,a3,a4,a5,a6,a7,a8,a9,a10,a11,a12,k⟩:=h
 exact ⟨l,ms,u,d,sh,tw,a1,a2,a3,a4,a5,a6,a7,a8,a9,a10,a11,a12,
  fun ns1 n ns2 a T es H' b1 b2 b3 b4 b5=>k 1 [] [] _ _ (.inl ⟨rfl,rfl,rfl,_,_,_,_,_,_,b1,b2,b3⟩) (.inl ⟨rfl,rfl⟩) (fun _ _ _ z=>nomatch z) b4 b5,
  fun ns a T es H' b1 b2 b3 b4 b5=>k 2 [] [] _ _ (.inr (.inl ⟨rfl,rfl,rfl,_,_,_,_,b1,b2,b3⟩)) (.inr (.inl ⟨rfl,rfl⟩)) (fun _ _ _ z=>nomatch z) b4 b5,
  fun ns a es H' b1 b2 b4 b5=>k 3 [] [] _ _ (.inr (.inr (.inl ⟨rfl,rfl,rfl,_,_,_,b1,b2⟩))) (.inr (.inr (.inl ⟨rfl,rfl⟩))) (fun _ _ _ z=>nomatch z) b4 b5,
  fun ns a T es p ln dh rv H' b1 b2 b3 b4 b5 b6 b7 b8 b9 b10 b11 b12=>k 4 T es _ _ (.inr (.inr (.inr ⟨rfl,b3,b4,_,_,b1,b2⟩))) (.inr (.inr (.inr ⟨rfl,_,_,_,_,rfl,b7,b10,b11,b12⟩))) (fun p' ln' dh' z g=>by cases z; rw [b7] at g; cases g; exact ⟨b8,b9⟩) b5 b6⟩
theorem EB.sm {u:Int×Int}{sh:List (Str×Nat)}{k:Nat}{H H':Hp}{c:Nat}{T:List Nat}{es:List (Nat×Nat)}{v:V} (h:EB u sh k H c T es v) (s:aJ H H'):EB u sh k H' c T es v:=by
 rcases h with h|h|h|⟨e,p,ln,dh,rv,e1,e2,e3,e4,e5⟩
 ·exact .inl h
 ·exact .inr (.inl h)
 ·exact .inr (.inr (.inl h))
 ·exact .inr (.inr (.inr ⟨e,p,ln,dh,rv,e1,s _ _ e2,s _ _ e3,Pd.imp e4 fun v x r=>r.tk fun b xs h=>s _ _ h,s _ _ e5⟩))
theorem EB.tk {u:Int×Int}{sh:List (Str×Nat)}{k:Nat}{H H':Hp}{c:Nat}{T:List Nat}{es:List (Nat×Nat)}{v:V} (h:EB u sh k H c T es v) (kp:Kp tT H H') (t:LT H):EB u sh k H' c T es v:=by
 rcases h with h|h|h|⟨e,p,ln,dh,rv,e1,e2,e3,e4,e5⟩
 ·exact .inl h
 ·exact .inr (.inl h)
 ·exact .inr (.inr (.inl h))
 ·exact .inr (.inr (.inr ⟨e,p,ln,dh,rv,e1,kT kp t e2 (fun _ z=>by cases z),kT kp t e3 (fun _ z=>by cases z),Pd.imp e4 fun v x r=>r.tk fun b xs h=>kT kp t h (fun _ z=>by cases z),kT kp t e5 (fun _ z=>by cases z)⟩))
theorem yD {H:Hp}{sh:List (Str×Nat)}{es:List (Nat×Nat)}{p q:Addr} (nd:(sh.map (·.1)).Nodup) (h1:H p=some (.dK (cF sh es))) (h2:H q=some (.dK (cF sh es))):wL H (.ref p) (.ref q):=
 .inr ⟨p,q,_,_,rfl,rfl,h1,h2,rfl,fun kv hkv=>by
  obtain ⟨i,hi⟩:=List.getElem?_of_mem hkv
  have e:=eX (sX nd) (k:=kv.1) (v:=kv.2) hi
  obtain ⟨x,_,rfl⟩:=mem_map.mp hkv
  exact ⟨.str _,_,e,rfl,rfl,zero_le _⟩⟩
theorem HG {u:Int×Int}{sh:List (Str×Nat)}{k:Nat}{H:Hp}{c:Nat}{T:List Nat}{es:List (Nat×Nat)}{v v':V}{Q:VK} (nd:(sh.map (·.1)).Nodup) (h:EB u sh k H c T es v) (h':EB u sh k H c T es v') (kk:Q (.bl false) H):XN v v' H Q:=by
 rcases h with ⟨rfl,rfl⟩|⟨rfl,rfl⟩|⟨rfl,rfl⟩|⟨rfl,p,ln,dh,rv,rfl,e2,e3,e4,e5⟩
 ·rcases h' with ⟨_,rfl⟩|⟨z,_⟩|⟨z,_⟩|⟨z,_⟩
  ·exact .inl (AO (by rw [show (!(Str.ofString "sum"==Str.ofString "sum"))=false by decide]; exact kk))
  all_goals cases z
 ·rcases h' with ⟨z,_⟩|⟨_,rfl⟩|⟨z,_⟩|⟨z,_⟩
  ·cases z
  ·exact .inl (AO (by rw [show (!(Str.ofString "many"==Str.ofString "many"))=false by decide]; exact kk))
  all_goals cases z
 ·rcases h' with ⟨z,_⟩|⟨z,_⟩|⟨_,rfl⟩|⟨z,_⟩
  ·cases z
  ·cases z
  ·exact .inl (AO (by rw [show (!(Str.ofString "net"==Str.ofString "net"))=false by decide]; exact kk))
  ·cases z
 ·rcases h' with ⟨z,_⟩|⟨z,_⟩|⟨z,_⟩|⟨_,p',ln',dh',rv',rfl,f2,f3,f4,f5⟩
  ·cases z
  ·cases z
  ·cases z
  ·refine .inr ⟨p,p',_,_,rfl,rfl,e2,f2,rfl,fun i x y hx hy=>?_,kk⟩
   match i,hx,hy with
  |0,hx,hy =>
    cases hx
    cases hy
    exact .inl ⟨.lst ((iA T k).map (KO u)),⟨ln,rv,rfl,e3,mW e4⟩,⟨ln',rv',rfl,f3,mW f4⟩,by
     show fJ ((iA T k).map (KO u))+1<=20
     have:=rP u (iA T k)
     omega⟩
  |1,hx,hy =>
    cases hx
    cases hy
    exact yD nd e5 f5
  |i+2,hx,_=>simp at hx
section
variable {P:Program} {w:World} {K:Frag} {mg:Str -> Option Value} {base:Heap} {k:Nat} {xt x1 x3 x4:Addr}
theorem jZ (T:Bl mg) (d:Df K mg "common_divisor" eA ["one","other"]) (W:kP mg xt x1 x3 x4) (R_NoSum:bX K xt x1 x3 x4 x3 3) (R1:bX K xt x1 x3 x4 x1 1) (R4:bX K xt x1 x3 x4 x4 4):bV P w K mg base (k+1) "common_divisor" ["one","other"] zI:=by
 refine bV.of d cI (fun vs H Q E h=>?_) (fun f cdv A outer s H vs Q E hr h=>?_)
 ·obtain ⟨a,b,rfl,_⟩:=h
  rfl
 ·obtain ⟨a,b,rfl,q⟩:=h
  refine ⟨_,(@aA _ _ _ _ _ (@gD _ _ _ _ _ _ PassesOwn.never (@aN _ _ _ _ _ _ _ _ (sN hr.units) (pv 1) (@aD _ _ _ _) (aU _)) (@aA _ _ _ _ _ (@aG _ _ (i:=2) _ _ _ _ cI.nd rfl (by w_left) (@aH _ _ _ _ _ _ _ _ MA (pv 0) (pv 1)) (by rfl) (by w_means)) (@aA _ _ _ _ _ (@aG _ _ (i:=0) _ _ _ _ cI.nd rfl (by w_left) (pv 1) (by rfl) (by w_means)) (@aF _ _ _ (@aG _ _ (i:=1) _ _ _ _ cI.nd rfl (by w_left) (pv 2) (by rfl) (by w_means)))))) (@aF _ _ _ (@aQ _ _ _ _ (@aX _ _ _ _ _ _ _ _ _ QB rfl T.z_abs IZ (@dD _ _ _ (pv 0) (by rfl)) (by decide) (by decide) (by rfl) (by rfl))))),?_⟩
  w_fin
  refine uB (fun σ H'=>∃ (one other:Int) (o:Option V),σ=[some (.int one),some (.int other),o]/\H'=H/\Int.gcd one other=Int.gcd a b)
   (fun σ _=>match σ with|[_,some (.int z),_]=>z.natAbs|_=>0) ⟨_,_,_,rfl,rfl,rfl⟩ ?_ ?_
  ·rintro σ H' ⟨one,other,o,rfl,rfl,hg⟩
   w_fin
   refine lY (fun c=>?_) (fun c=>?_)
   ·subst c
    w_fin
    rw [Int.gcd_zero_right] at hg
    have e:(if one < 0 then -one else one)=(Int.gcd a b:Int):=by rw [← hg]; split <;> omega
    rw [e]
    exact q
   ·w_fin
    refine ⟨⟨_,_,_,rfl,rfl,by rw [DD c]; exact hg⟩,?_⟩
    show (one.fmod other).natAbs < other.natAbs
    exact MV c
  ·intro σ H Q Q' hQ h
   obtain ⟨v,e1,h⟩:=h
   rcases h with ⟨e2,b',e3,q'⟩|⟨d,e,e2,e3,e4,e5,b',e6,q'⟩
   ·exact ⟨v,e1,.inl ⟨e2,b',e3,hQ _ _ q'⟩⟩
   ·exact ⟨v,e1,.inr ⟨d,e,e2,e3,e4,e5,b',e6,hQ _ _ q'⟩⟩
theorem HC (T:Bl mg) (d:Df K mg "added" rO ["one","other"]) (W:kP mg xt x1 x3 x4) (R_NoSum:bX K xt x1 x3 x4 x3 3) (R1:bX K xt x1 x3 x4 x1 1) (R4:bX K xt x1 x3 x4 x4 4) (o0b:bV P w K mg base k "common_divisor" ["one","other"] zI):bV P w K mg base (k+1) "added" ["one","other"] ET:=by
 refine bV.of d iD (fun vs H Q E h=>?_) (fun f cdv A outer s H vs Q E hr h=>?_)
 ·obtain ⟨x,y,q1,q2,rfl,_⟩:=h
  rfl
 ·obtain ⟨x,y,q1,q2,rfl,⟨p1,rfl,h1⟩,⟨p2,rfl,h2⟩,z1,z2,q⟩:=h
  refine ⟨_,(@aA _ _ _ _ _ (@aG _ _ (i:=2) _ _ _ _ iD.nd rfl (by w_left) (@aK _ _ _ _ _ _ _ _ _ _ o0b hr rfl (@dX _ _ _ _ _ (@qC _ _ _ _ _ _ _ (pv 0)) (@qC _ _ _ _ _ _ _ (pv 1)) (by rfl) (by rfl)) (by decide) (by rfl) (by rfl)) (by rfl) (by w_means)) (@aA _ _ _ _ _ (@aG _ _ (i:=3) _ _ _ _ iD.nd rfl (by w_left) (@aH _ _ _ _ _ _ _ _ bE (@qC _ _ _ _ _ _ _ (pv 1)) (pv 2)) (by rfl) (by w_means)) (@aA _ _ _ _ _ (@aG _ _ (i:=4) _ _ _ _ iD.nd rfl (by w_left) (@aH _ _ _ _ _ _ _ _ aW (@aH _ _ _ _ _ _ _ _ bO (@qC _ _ _ _ _ _ _ (pv 0)) (pv 3)) (@aH _ _ _ _ _ _ _ _ bO (@qC _ _ _ _ _ _ _ (pv 1)) (@aH _ _ _ _ _ _ _ _ bE (@qC _ _ _ _ _ _ _ (pv 0)) (pv 2)))) (by rfl) (by w_means)) (@aA _ _ _ _ _ (@aG _ _ (i:=5) _ _ _ _ iD.nd rfl (by w_left) (@aK _ _ _ _ _ _ _ _ _ _ o0b hr rfl (@dX _ _ _ _ _ (pv 4) (pv 2) (by rfl) (by rfl)) (by decide) (by rfl) (by rfl)) (by rfl) (by w_means)) (@aF _ _ _ (@aQ _ _ _ _ (@dF _ _ _ _ _ (@dX _ _ _ _ _ (@aH _ _ _ _ _ _ _ _ bE (pv 4) (pv 5)) (@aH _ _ _ _ _ _ _ _ bO (@aH _ _ _ _ _ _ _ _ bE (@qC _ _ _ _ _ _ _ (pv 0)) (pv 5)) (pv 3)) (by rfl) (by rfl))))))))),?_⟩
  have hq1:=q1.den_pos
  have hq2:=q2.den_pos
  obtain ⟨s0,k0,sb,ks,⟨gp,cop,wr⟩,zu,zv,zf,zb⟩:=DR (a:=q1.num) (b:=q1.den) (c:=q2.num) (d:=q2.den) (by omega) (by omega) q1.reduced q2.reduced rfl rfl rfl rfl rfl
  have M:∀ {m n:Nat} {i j:Int},Sm m i->Sm n j->m<=60000000->n<=60000000->eO i j:=fun h1 h2 h3 h4=>eO.s h1 h2 h3 h4
  have sb1:Sm 8000 (q1.den:Int):=z1.2
  have sb2:Sm 8000 (q2.den:Int):=z2.2
  w_fin
  refine ⟨_,_,rfl,?_⟩
  generalize (Int.gcd (q1.den:Int) (q2.den:Int):Int)=s at s0 k0 sb ks gp cop wr zu zv zf zb ⊢
  have hs:Sm 8000 s:=Sm.le (by omega) sb1
  have hds:∀ z,jD z s:=fun _=>⟨by omega,hs⟩
  w_fin
  refine fQ (hds _) ?_
  generalize (q2.den:Int).fdiv s=u at k0 ks gp cop wr zu zv zf zb ⊢
  have hu:Sm 8000 u:=Sm.le zu sb2
  w_fin
  refine qB (M (m:=8000) z1.1 hu (by decide) (by decide)) ?_
  w_fin
  refine fQ (hds _) ?_
  generalize (q1.den:Int).fdiv s=v at k0 ks gp cop wr zv zf zb ⊢
  have hv:Sm 8000 v:=Sm.le zv sb1
  w_fin
  refine qB (M (m:=8000) z2.1 hv (by decide) (by decide)) ?_
  w_fin
  refine ⟨_,s,rfl,?_⟩
  generalize (Int.gcd (q1.num * u+q2.num * v) s:Int)=k' at k0 ks gp cop wr zf zb ⊢
  have hk:Sm 8000 k':=Sm.le (by omega) hs
  have hdk:∀ z,jD z k':=fun _=>⟨by omega,hk⟩
  w_fin
  refine fQ (hdk _) ?_
  w_fin
  refine fQ (hdk _) ?_
  w_fin
  have hbk:Sm 8000 ((q1.den:Int).fdiv k'):=Sm.le zb sb1
  refine qB (M hbk hu (by decide) (by decide)) ?_
  w_fin
  refine gO fun p hp=>?_
  w_fin
  have e:=FK (t:=q1.num * q2.den+q2.num * q1.den) (b:=q1.den * q2.den) (Int.mul_ne_zero (by omega) (by omega)) gp cop wr
  rw [← yS] at e
  refine q _ _ ⟨p,rfl,?_⟩ (aJ.new hp)
  rw [e.1,e.2]
  exact aC
theorem vI (T:Bl mg) (d:Df K mg "lessened" jE ["one","other"]) (W:kP mg xt x1 x3 x4) (R_NoSum:bX K xt x1 x3 x4 x3 3) (R1:bX K xt x1 x3 x4 x1 1) (R4:bX K xt x1 x3 x4 x4 4) (o0u:bV P w K mg base k "added" ["one","other"] ET):bV P w K mg base (k+1) "lessened" ["one","other"] ER:=by
 refine bV.of d uP (fun vs H Q E h=>?_) (fun f cdv A outer s H vs Q E hr h=>?_)
 ·obtain ⟨x,y,q1,q2,rfl,_⟩:=h
  rfl
 ·obtain ⟨x,y,q1,q2,rfl,fx,⟨p2,rfl,h2⟩,z1,z2,q⟩:=h
  refine ⟨_,(@aF _ _ _ (@aQ _ _ _ _ (@aK _ _ _ _ _ _ _ _ _ _ o0u hr rfl (@dX _ _ _ _ _ (pv 0) (@dF _ _ _ _ _ (@dX _ _ _ _ _ (@GK _ _ _ _ _ _ wP (@qC _ _ _ _ _ _ _ (pv 1))) (@qC _ _ _ _ _ _ _ (pv 1)) (by rfl) (by rfl))) (by rfl) (by rfl)) (by decide) (by rfl) (by rfl)))),?_⟩
  w_fin
  refine gO fun p hp=>?_
  w_fin
  refine ⟨x,.ref p,q1,-q2,rfl,fx.tk (TK.new hp),⟨p,rfl,by rw [Rat.neg_num,Rat.neg_den]; exact aC⟩,z1,z2.neg,fun v H' fv s1=>?_⟩
  w_fin
  exact q v H' (by rw [Rat.sub_eq_add_neg]; exact fv) ((aJ.new hp).trans s1)
theorem pC (T:Bl mg) (d:Df K mg "whole_tops" eR ["fractions"]) (W:kP mg xt x1 x3 x4) (R_NoSum:bX K xt x1 x3 x4 x3 3) (R1:bX K xt x1 x3 x4 x1 1) (R4:bX K xt x1 x3 x4 x4 4) (o0b:bV P w K mg base k "common_divisor" ["one","other"] zI):bV P w K mg base (k+1) "whole_tops" ["fractions"] wZ:=by
 refine bV.of d eE (fun vs H Q E h=>?_) (fun f cdv A outer s H vs Q E hr h=>?_)
 ·obtain ⟨l,fs,B,rfl,_⟩:=h
  rfl
 ·obtain ⟨l,fs,B,rfl,hl,hn,hB,hB2,hf,q⟩:=h
  refine ⟨_,(@aA _ _ _ _ _ (@aG _ _ (i:=1) _ _ _ _ eE.nd rfl (by w_left) (@aD _ _ _ _) (by rfl) (by w_means)) (@aA _ _ _ _ _ (@cO _ _ _ _ _ _ _ _ PassesOwn.never rfl (@cB _ _ _ _ (pv 0)) (@aS _ _ (i:=2) _ eE.nd rfl (by w_left) (by w_means)) (@aF _ _ _ (@aG _ _ (i:=1) _ _ _ _ eE.nd rfl (by w_left) (@aH _ _ _ _ _ _ _ _ bO (@aH _ _ _ _ _ _ _ _ bE (pv 1) (@aK _ _ _ _ _ _ _ _ _ _ o0b hr rfl (@dX _ _ _ _ _ (pv 1) (@qC _ _ _ _ _ _ _ (pv 2)) (by rfl) (by rfl)) (by decide) (by rfl) (by rfl))) (@qC _ _ _ _ _ _ _ (pv 2))) (by rfl) (by w_means))) (by intro _; rfl)) (@aF _ _ _ (@aQ _ _ _ _ (@iR _ _ _ _ _ _ _ _ _ _ _ _ _ _ (@eJ _ _ (sc:=aE eR) (N:=["fractions","bottom","each"]) (tn:=["each"]) (names:=["bottom"]) (is:=[1]) rfl rfl (by decide +kernel) (by decide +kernel) rfl (by decide +kernel) rfl (by decide +kernel) (by decide +kernel) (by decide +kernel)) rfl (@cB _ _ _ _ (pv 0)) (fun _ _ _ _=>(@aS _ _ (i:=0) _ (show (["each","bottom"]:List Str).Nodup by decide +kernel) rfl (Or.inl rfl) (Or.inr rfl))) (fun _ _ _ _=>(@aH _ _ _ _ _ _ _ _ bO (@bQ _ _ _ _ _ _ _ fX (pv 0) (@aD _ _ _ _) (fun _ _=>rfl)) (@aH _ _ _ _ _ _ _ _ bE (pv 1) (@bQ _ _ _ _ _ _ _ fX (pv 0) (@aD _ _ _ _) (fun _ _=>rfl))))) (fun _ _ _ _=>(@fB _)) (by intro _; rfl)))))),?_⟩
  obtain ⟨vs,hv,pv⟩:=hl
  have hvl:=Paired.length pv
  have smD:∀ D,0 < D->D ∣ B->Sm 100 D:=fun D h1 h2=>Sm.le (le_of_dvd (by omega) (Int.natAbs_dvd_natAbs.mpr h2)) hB2
  w_fin
  refine cA (bS.of hv) ?_
  refine gQ (xs:=vs) (fun i σ G=>∃ (D:Int) (o:Option V),σ=[some (.ref l),some (.int D),o]/\G=H/\0 < D/\D ∣ B/\∀ f∈fs.take i,f.2 ∣ D) ⟨1,_,rfl,rfl,by decide,⟨B,by simp⟩,fun f hf=>by simp at hf⟩ ?_ ?_ ?_
  ·rintro i σ G hi ⟨D,o,rfl,rfl,_⟩
   exact bS.of hv
  ·rintro i x σ G hx ⟨D,o,rfl,rfl,hD,hDB,hDf⟩
   obtain ⟨f,hf1,tq,rfl,ht⟩:=Paired.at pv hx
   obtain ⟨f1,f2,f3⟩:=hf f (mem_of_getElem? hf1)
   obtain ⟨s1,s2,s3,s4⟩:=HQ hD f1 hDB f2
   have gp:0 < (Int.gcd D f.2:Int):=by
    have:=kD (t:=D) (b:=f.2) (by omega)
    omega
   have sg':Sm 8000 (Int.gcd D f.2:Int):=Sm.mono (Sm.le (b:=D) (by have:=le_of_dvd (by omega) (Int.gcd_dvd_natAbs_left D f.2); omega) (smD D hD hDB)) (by decide)
   have sm1:Sm 60000000 (D.fdiv (Int.gcd D f.2:Int)):=Sm.mono (Sm.le (b:=D) (eB (by omega) (kJ (by omega) (Int.gcd_dvd_left ..))) (smD D hD hDB)) (by decide)
   have sm2:Sm 60000000 f.2:=Sm.mono (smD f.2 f1 f2) (by decide)
   w_fin
   refine ⟨D,f.2,rfl,?_⟩
   w_fin
   refine fQ ⟨by omega,sg'⟩ ?_
   w_fin
   refine qB (.inr ⟨sm1,sm2⟩) ?_
   w_fin
   refine ⟨_,_,rfl,rfl,s1,s2,fun g hg=>?_⟩
   rw [take_add_one,hf1] at hg
   rcases mem_append.mp hg with h|h
   ·exact Int.dvd_trans (hDf g h) s3
   ·rw [mem_singleton.mp h]; exact s4
  ·rintro σ G ⟨D,o,rfl,rfl,hD,hDB,hDf⟩
   have hDf':∀ f∈fs,f.2 ∣ D:=fun f hf'=>hDf f (by rw [take_of_length_le (by omega)]; exact hf')
   have sD:=smD D hD hDB
   w_fin
   refine cA (bS.of hv) ?_
   refine mO (xs:=vs) (by omega) (fun acc i ys G'=>Kp acc G G'/\ys=(BU D (fs.take i)).map V.int) (fun acc h0=>⟨Kp.new h0,rfl⟩) ?_ ?_ ?_
   ·rintro acc i ys G' h0 _ ⟨kp,_⟩
    exact bS.of (kp _ _ (aB hv h0) hv)
   ·rintro acc i ys G' x h0 hx hly ha ⟨kp,rfl⟩
    obtain ⟨f,hf1,tq,rfl,ht⟩:=Paired.at pv hx
    have htG:G' tq=some (.tup [.int f.1,.int f.2]):=kp _ _ (aB ht h0) ht
    obtain ⟨f1,f2,f3⟩:=hf f (mem_of_getElem? hf1)
    have sm2:Sm 8000 f.2:=Sm.mono (smD f.2 f1 f2) (by decide)
    have sm1:Sm 60000000 (D.fdiv f.2):=Sm.mono (Sm.le (b:=D) (eB (by omega) (kJ (by omega) (hDf' f (mem_of_getElem? hf1)))) sD) (by decide)
    w_fin
    refine fQ ⟨by omega,sm2⟩ ?_
    w_fin
    refine qB (.inr ⟨Sm.mono f3 (by decide),sm1⟩) ?_
    w_fin
    refine jN (List.getElem?_eq_some_iff.mp hx).1 hly ha ⟨kp.trans Kp.upd,?_⟩
    rw [take_add_one,hf1]
    simp [BU]
   ·rintro acc ys G' h0 ha hly ⟨kp,rfl⟩
    rw [take_of_length_le (by omega)] at ha
    w_fin
    exact q acc G' D h0 (fun b o e=>kp _ _ (aB e h0) e) hD sD hDf' ha
theorem sP (T:Bl mg) (d:ZW K mg "sorted_by" cM ["fractions","things"] 93 91) (BB:pN mg base) (W:kP mg xt x1 x3 x4) (R_NoSum:bX K xt x1 x3 x4 x3 3) (R1:bX K xt x1 x3 x4 x1 1) (R4:bX K xt x1 x3 x4 x4 4) (o0f:bV P w K mg base k "whole_tops" ["fractions"] wZ):bV P w K mg base (k+1) "sorted_by" ["fractions","things"] (gH K):=by
 refine bV.ofC d jQ (fun vs H Q E h=>?_) (fun f A outer s H vs Q E hr h=>?_)
 ·obtain ⟨l,ms,u,rfl,_⟩:=h
  rfl
 ·obtain ⟨l,ms,u,rfl,hu,hl,hn,h64,hT,q⟩:=h
  refine ⟨_,(@aA _ _ _ _ _ (@aG _ _ (i:=2) _ _ _ _ jQ.nd rfl (by w_left) (@CD _ _ _ _ _ _ _ _ _ _ _ _ _ _ _ _ _ _ hr rfl rfl T.z_sorted rfl T.z_zip rfl d.hd BB rfl rfl (@dX _ _ _ _ _ (@aK _ _ _ _ _ _ _ _ _ _ o0f hr rfl (@dD _ _ _ (pv 0) (by rfl)) (by decide) (by rfl) (by rfl)) (pv 1) (by rfl) (by rfl)) (by rfl) (by rfl) (by rfl)) (by rfl) (by w_means)) (@aF _ _ _ (@aQ _ _ _ _ (@iR _ _ _ _ _ _ _ _ _ _ _ _ _ _ (@eJ _ _ (sc:=aE cM) (N:=["fractions","things","pairs"]) (tn:=["pair"]) (names:=[]) (is:=[]) rfl rfl (by decide +kernel) (by decide +kernel) rfl (by decide +kernel) rfl (by decide +kernel) (by decide +kernel) (by decide +kernel)) rfl (@cB _ _ _ _ (pv 2)) (fun _ _ _ _=>(@aS _ _ (i:=0) _ (show (["pair"]:List Str).Nodup by decide +kernel) rfl (Or.inl rfl) (Or.inr rfl))) (fun _ _ _ _=>(@bQ _ _ _ _ _ _ _ fX (pv 0) (@aD _ _ _ _) (fun _ _=>rfl))) (fun _ _ _ _=>(@fB _)) (by intro _; rfl))))),?_⟩
  have hlq:=hl
  obtain ⟨vs,hv,pv⟩:=hl
  have hvl:=Paired.length pv
  rw [length_map] at hvl
  have smF:∀ m∈ms,Sm 100 (bN u m).1:=fun m hm=>EJ hu (hn m hm)
  w_fin
  refine ⟨l,ms.map (bN u),u.2,rfl,hlq,by rw [length_map]; omega,hu.p2,Sm.of (by have:=hu.p2; omega) (by have:=hu.s2; show u.2 < ((2 ^ 100:Nat):Int); omega),fun f hf=>?_,fun p1 H1 D hp1 s1 hD sD hDf h1=>?_⟩
  ·obtain ⟨m,hm,rfl⟩:=mem_map.mp hf
   obtain ⟨a1,a2,_⟩:=hu.tm m
   exact ⟨a1,a2,smF m hm⟩
  have hDm:∀ m∈ms,(bN u m).2 ∣ D:=fun m hm=>hDf _ (mem_map.mpr ⟨m,hm,rfl⟩)
  w_fin
  refine ⟨p1,l,BU D (ms.map (bN u)),vs,rfl,bS.of h1,bS.of (s1 _ _ hv),by simp [BU,hvl],by simp [BU]; omega,cQ.same hT s1,fun pl G tr hpl kp hTG hG htr hperm hpw=>?_⟩
  have ek:(BU D (ms.map (bN u))).zip vs=(ms.zip vs).map fun p=>((bN u p.1).1 * D.fdiv (bN u p.1).2,p.2):=by
   unfold BU
   rw [map_map,List.zip_map_left]
   rfl
  obtain ⟨ys,pys,eys⟩:=eS hperm ek
  have kpH:Kp tT H G:=s1.kp.trans kp
  have memY:∀ y∈ys,y.1∈ms/\cE H y.2 (bN u y.1):=fun y hy=>by
   have hy':=pys.mem_iff.mp hy
   obtain ⟨i,hi⟩:=List.getElem?_of_mem hy'
   rw [List.getElem?_zip_eq_some] at hi
   obtain ⟨f,hf1,hf2⟩:=Paired.at pv hi.2
   rw [List.getElem?_map,hi.1] at hf1
   cases hf1
   exact ⟨mem_of_getElem? hi.1,hf2⟩
  have htl:tr.length<=500:=by
   have:=hperm.length_eq
   rw [length_map,length_zip] at this
   omega
  w_fin
  refine cA (bS.of hG) ?_
  refine mO (xs:=tr.map fun p=>V.ref p.1) (by rw [length_map]; omega) (fun acc i zs G'=>Kp acc G G'/\zs=(tr.take i).map fun p=>p.2.2) (fun acc h0=>⟨Kp.new h0,rfl⟩) ?_ ?_ ?_
  ·rintro acc i zs G' h0 _ ⟨kp',_⟩
   exact bS.of (kp' _ _ (aB hG h0) hG)
  ·rintro acc i zs G' x h0 hx hly ha ⟨kp',rfl⟩
   rw [List.getElem?_map] at hx
   obtain ⟨tp,htp,rfl⟩:=Option.map_eq_some_iff.mp hx
   have htG:=htr tp (mem_of_getElem? htp)
   have htG':G' tp.1=_:=kp' _ _ (aB htG h0) htG
   w_fin
   refine jN (by rw [length_map]; exact (List.getElem?_eq_some_iff.mp htp).1) hly ha ⟨kp'.trans Kp.upd,?_⟩
   rw [take_add_one,htp]
   simp
  ·rintro acc zs G' h0 ha hly ⟨kp',rfl⟩
   rw [length_map,take_length] at ha
   have sG:aJ G G':=fun b o e=>kp' _ _ (aB e h0) e
   have kpG:Kp tT H G':=kpH.trans sG.kp
   have e2:(tr.map fun p=>p.2.2)=ys.map (·.2):=by
    have:=congrArg (List.map Prod.snd) eys
    simpa [map_map,Function.comp_def] using this
   w_fin
   refine q acc G' (ys.map (·.1)) (PM kpH hTG h0) kpG (cQ.same hTG sG) ?_ ?_ ⟨_,ha,?_⟩
   ·have:=pys.map (·.1)
    rwa [List.map_fst_zip (by omega)] at this
   ·have h1:(tr.map (·.2)).Pairwise (fun p q=>p.1<=q.1):=pairwise_map.mpr hpw
    rw [eys,pairwise_map] at h1
    rw [pairwise_map]
    refine h1.imp_of_mem fun {a b} ha hb hab=>?_
    exact VI hu hD (hDm _ (memY a ha).1) (hDm _ (memY b hb).1) hab
   ·rw [e2,map_map]
    have:∀ (l:List (Nat×V)),(∀ y∈l,cE H y.2 (bN u y.1))->Paired (cE G') (l.map (·.2)) (l.map (bN u ∘ (·.1))):=fun l=>by
     induction l with
    |nil=>intro _; exact .nil
    |cons y l ih=>intro hy; exact .cons (cE.tk (hy y mem_cons_self) kpG hT) (ih fun z hz=>hy z (mem_cons_of_mem _ hz))
    exact this ys fun y hy=>(memY y hy).2
theorem vF (T:Bl mg) (d:Df K mg "units_of" gJ ["times"]) (W:kP mg xt x1 x3 x4) (R_NoSum:bX K xt x1 x3 x4 x3 3) (R1:bX K xt x1 x3 x4 x1 1) (R4:bX K xt x1 x3 x4 x4 4) (o0b:bV P w K mg base k "common_divisor" ["one","other"] zI) (o0f:bV P w K mg base k "whole_tops" ["fractions"] wZ):bV P w K mg base (k+1) "units_of" ["times"] zD:=by
 refine bV.of d eK (fun vs H Q E h=>?_) (fun f cdv A outer s H vs Q E hr h=>?_)
 ·obtain ⟨l,ms,u,rfl,_⟩:=h
  rfl
 ·obtain ⟨l,ms,u,rfl,hu,hl,hn,h64,hp,q⟩:=h
  refine ⟨_,(@aA _ _ _ _ _ (@aG _ _ (i:=1) _ _ _ _ eK.nd rfl (by w_left) (@aK _ _ _ _ _ _ _ _ _ _ o0f hr rfl (@dD _ _ _ (pv 0) (by rfl)) (by decide) (by rfl) (by rfl)) (by rfl) (by w_means)) (@aA _ _ _ _ _ (@aG _ _ (i:=2) _ _ _ _ eK.nd rfl (by w_left) (@aD _ _ _ _) (by rfl) (by w_means)) (@aA _ _ _ _ _ (@cO _ _ _ _ _ _ _ _ PassesOwn.never rfl (@cB _ _ _ _ (pv 1)) (@aS _ _ (i:=3) _ eK.nd rfl (by w_left) (by w_means)) (@aF _ _ _ (@aG _ _ (i:=2) _ _ _ _ eK.nd rfl (by w_left) (@aK _ _ _ _ _ _ _ _ _ _ o0b hr rfl (@dX _ _ _ _ _ (pv 2) (pv 3) (by rfl) (by rfl)) (by decide) (by rfl) (by rfl)) (by rfl) (by w_means))) (by intro _; rfl)) (@aF _ _ _ (@aQ _ _ _ _ (@iR _ _ _ _ _ _ _ _ _ _ _ _ _ _ (@eJ _ _ (sc:=aE gJ) (N:=["times","tops","unit","top"]) (tn:=["top"]) (names:=["unit"]) (is:=[2]) rfl rfl (by decide +kernel) (by decide +kernel) rfl (by decide +kernel) rfl (by decide +kernel) (by decide +kernel) (by decide +kernel)) rfl (@cB _ _ _ _ (pv 1)) (fun _ _ _ _=>(@aS _ _ (i:=0) _ (show (["top","unit"]:List Str).Nodup by decide +kernel) rfl (Or.inl rfl) (Or.inr rfl))) (fun _ _ _ _=>(@aH _ _ _ _ _ _ _ _ bE (pv 0) (pv 1))) (fun _ _ _ _=>(@fB _)) (by intro _; rfl))))))),?_⟩
  have smF:∀ m∈ms,Sm 100 (bN u m).1:=fun m hm=>EJ hu (hn m hm)
  w_fin
  refine ⟨l,ms.map (bN u),u.2,rfl,hl,by rw [length_map]; omega,hu.p2,Sm.of (by have:=hu.p2; omega) (by have:=hu.s2; show u.2 < ((2 ^ 100:Nat):Int); omega),fun f hf=>?_,fun p1 H1 D hp1 s1 hD sD hDf h1=>?_⟩
  ·obtain ⟨m,hm,rfl⟩:=mem_map.mp hf
   obtain ⟨a1,a2,_⟩:=hu.tm m
   exact ⟨a1,a2,smF m hm⟩
  have hDm:∀ m∈ms,(bN u m).2 ∣ D:=fun m hm=>hDf _ (mem_map.mpr ⟨m,hm,rfl⟩)
  obtain ⟨ts,ets⟩:∃ ts:List Nat,BU D (ms.map (bN u))=ts.map Int.ofNat:=⟨(BU D (ms.map (bN u))).map Int.toNat,by
   rw [map_map]
   refine ((map_congr_left fun x hx=>?_).trans (map_id _)).symm
   obtain ⟨f,hf,rfl⟩:=mem_map.mp hx
   obtain ⟨m,hm,rfl⟩:=mem_map.mp hf
   exact Int.toNat_of_nonneg (VH hu hD (hDm m hm))⟩
  have ett:ts.map (· * u.2.toNat)=ms.map (· * (u.1 * D).toNat):=by
   have h2:=hu.p2
   have h3:=Int.mul_pos hu.p1 hD
   have e:(BU D (ms.map (bN u))).map (· * u.2)=ms.map fun (m:Nat)=>(m:Int) * (u.1 * D):=by
    unfold BU
    rw [map_map,map_map]
    exact map_congr_left fun m hm=>EI hu (hDm m hm)
   rw [ets,map_map] at e
   have:=congrArg (List.map Int.toNat) e
   rw [map_map,map_map] at this
   refine (map_congr_left fun x _=>?_).trans (this.trans (map_congr_left fun x _=>?_))
   ·show x * u.2.toNat=((x:Int) * u.2).toNat
    rw [Int.toNat_mul (by omega) (by omega),Int.toNat_natCast]
   ·show ((x:Int) * (u.1 * D)).toNat=x * (u.1 * D).toNat
    rw [Int.toNat_mul (by omega) (by omega),Int.toNat_natCast]
  have eud:=EG (by have:=hu.p2; omega) (by have:=Int.mul_pos hu.p1 hD; omega) ett hp
  have htl:ts.length=ms.length:=by have:=congrArg List.length ett; simpa using this
  rw [ets] at h1
  have gpos:0 < dI ts/\Sm 8000 (dI ts:Int):=by
   obtain ⟨m,hm,hm0⟩:=hp
   obtain ⟨i,hi⟩:=List.getElem?_of_mem hm
   have:=congrArg (fun l=>l[i]?) ett
   simp only [List.getElem?_map,hi,Option.map_some] at this
   obtain ⟨x,hx,ex⟩:=Option.map_eq_some_iff.mp this
   have hx0:0 < x:=Nat.pos_of_ne_zero fun z=>by
    rw [z,zero_mul] at ex
    have:=mul_pos hm0 (show 0 < (u.1 * D).toNat by have:=Int.mul_pos hu.p1 hD; omega)
    omega
   refine ⟨kF (mem_of_getElem? hx) hx0,?_⟩
   have hxm:(x:Int)∈BU D (ms.map (bN u)):=by rw [ets]; exact mem_map.mpr ⟨x,mem_of_getElem? hx,rfl⟩
   obtain ⟨f,hf,ef⟩:=mem_map.mp hxm
   obtain ⟨m',hm',rfl⟩:=mem_map.mp hf
   obtain ⟨a1,a2,a3,a4,a5⟩:=hu.tm m'
   have s1':Sm 100 (bN u m').1:=smF m' hm'
   have s2':Sm 100 (D.fdiv (bN u m').2):=Sm.le (b:=D) (eB (by omega) (kJ (by omega) (hDm m' hm'))) sD
   have s3':=Sm.mul s1' s2'
   rw [ef] at s3'
   refine Sm.mono (Sm.le (b:=(x:Int)) ?_ s3') (by decide)
   have:=le_of_dvd hx0 (iG (mem_of_getElem? hx))
   omega
  w_fin
  refine cA (bS.of h1) ?_
  refine gQ (xs:=(ts.map Int.ofNat).map V.int) (fun i σ G=>∃ (o:Option V),σ=[some (.ref l),some (.ref p1),some (.int (dI (ts.take i):Int)),o]/\G=H1) ⟨_,rfl,rfl⟩ ?_ ?_ ?_
  ·rintro i σ G hi ⟨o,rfl,rfl⟩
   exact bS.of h1
  ·rintro i x σ G hx ⟨o,rfl,rfl⟩
   rw [map_map,List.getElem?_map] at hx
   obtain ⟨x,hx',rfl⟩:=Option.map_eq_some_iff.mp hx
   w_fin
   refine ⟨_,_,rfl,?_⟩
   w_fin
   refine ⟨some (V.int (Int.ofNat x)),?_,rfl⟩
   rw [take_add_one,hx']
   show _=[_,_,some (V.int (dI (ts.take i++[x]):Int)),_]
   rw [qN]
   rfl
  ·rintro σ G ⟨o,rfl,rfl⟩
   rw [length_map,length_map,take_length]
   obtain ⟨gpos,sg'⟩:=gpos
   w_fin
   refine cA (bS.of h1) ?_
   refine mO (xs:=(ts.map Int.ofNat).map V.int) (by rw [length_map,length_map]; omega) (fun acc i ys G'=>Kp acc G G'/\ys=(((ts.take i).map (· / dI ts)).map Int.ofNat).map V.int) (fun acc h0=>⟨Kp.new h0,rfl⟩) ?_ ?_ ?_
   ·rintro acc i ys G' h0 _ ⟨kp,_⟩
    exact bS.of (kp _ _ (aB h1 h0) h1)
   ·rintro acc i ys G' x h0 hx hly ha ⟨kp,rfl⟩
    rw [map_map,List.getElem?_map] at hx
    obtain ⟨x,hx',rfl⟩:=Option.map_eq_some_iff.mp hx
    w_fin
    refine fQ ⟨by omega,sg'⟩ ?_
    w_fin
    refine jN (by rw [length_map,length_map]; exact (List.getElem?_eq_some_iff.mp hx').1) hly ha ⟨kp.trans Kp.upd,?_⟩
    rw [take_add_one,hx']
    simp only [map_append,map_cons,map_nil,Option.toList]
    congr 3
    rw [Int.fdiv_eq_ediv_of_nonneg _ (Int.natCast_nonneg _)]
    rfl
   ·rintro acc ys G' h0 ha hly ⟨kp,rfl⟩
    rw [length_map,length_map,take_length,eud] at ha
    w_fin
    exact q acc G' (s1.free h0) (s1.trans fun b o e=>kp _ _ (aB e h0) e) ha
theorem lR (T:Bl mg) (d:Df K mg "fewest_parts" dS ["parts","last"]) (W:kP mg xt x1 x3 x4) (R_NoSum:bX K xt x1 x3 x4 x3 3) (R1:bX K xt x1 x3 x4 x1 1) (R4:bX K xt x1 x3 x4 x4 4):bV P w K mg base (k+1) "fewest_parts" ["parts","last"] uK:=by
 refine bV.of d dC (fun vs H Q E h=>?_) (fun f cdv A outer s H vs Q E hr h=>?_)
 ·obtain ⟨p,S,n,rfl,_⟩:=h
  rfl
 ·obtain ⟨p,S,n,rfl,hp,hS,hl,hn,q⟩:=h
  refine ⟨_,(@aA _ _ _ _ _ (@aG _ _ (i:=2) _ _ _ _ dC.nd rfl (by w_left) (@bF _ _ _ _ (@dD _ _ _ (@aD _ _ _ _) (by rfl))) (by rfl) (by w_means)) (@aA _ _ _ _ _ (@cO _ _ _ _ _ _ _ _ PassesOwn.never rfl (@lD _ _ _ _ _ _ _ rfl T.z_range (@dX _ _ _ _ _ (@aD _ _ _ _) (@aH _ _ _ _ _ _ _ _ aW (pv 1) (@aD _ _ _ _)) (by rfl) (by rfl)) (by rfl) (by rfl)) (@aS _ _ (i:=3) _ dC.nd rfl (by w_left) (by w_means)) (@aA _ _ _ _ _ (@rZ _ _ _ _ _ _ _ _ _ _ _ _ _ _ (i:=4) _ _ _ dC.nd rfl (by w_left) (@eJ _ _ (sc:=aE dS) (N:=["parts","last","fewest","whole","counts"]) (tn:=["part"]) (names:=["whole","fewest"]) (is:=[3,2]) rfl rfl (by decide +kernel) (by decide +kernel) rfl (by decide +kernel) rfl (by decide +kernel) (by decide +kernel) (by decide +kernel)) rfl (@cB _ _ _ _ (pv 0)) (fun _ _ _ _=>(@aS _ _ (i:=0) _ (show (["part","whole","fewest"]:List Str).Nodup by decide +kernel) rfl (Or.inl rfl) (Or.inr rfl))) (fun _ _ _ _=>(@bQ _ _ _ _ _ _ _ fX (pv 2) (@aH _ _ _ _ _ _ _ _ fS (pv 1) (pv 0)) (fun _ _=>rfl))) (fun _ _ _ _=>(@rX _ _ _ (@PW.pt _ _ _ (@jG _ _ _ _ _ _ _ (@aN _ _ _ _ _ _ _ _ AN (pv 0) (pv 1) (aU _)) (@iP _ _ _ _ (@aN _ _ _ _ _ _ _ _ nV (@bQ _ _ _ _ _ _ _ fX (pv 2) (@aH _ _ _ _ _ _ _ _ fS (pv 1) (pv 0)) (fun _ _=>rfl)) (@fR _ _ _) (aU _))))))) (by intro _; rfl) (by rfl) (by w_means)) (@aF _ _ _ (@dU _ _ _ _ (@jX _ _ _ _ _ _ _ _ _ _ _ _ plainAttrs_list PySem.F.slot_list_append PySem.F.type_list_append dM (pv 2) (@dD _ _ _ (@uZ _ _ _ _ _ _ _ _ (@GF _ _ _ (pv 4) (by intro _; rfl)) (@aH _ _ _ _ _ _ _ _ aW (@aX _ _ _ _ _ _ _ _ _ (UA rfl) rfl T.z_min UG (@dD _ _ _ (pv 4) (by rfl)) (by decide) (by decide) (by rfl) (by rfl)) (@aD _ _ _ _)) (@fR _ _ _)) (by rfl)) (by rfl) (by rfl) (by rfl) (by rfl) (by rfl)) (by rfl)))) (by intro _; rfl)) (@aF _ _ _ (@aQ _ _ _ _ (pv 2))))),?_⟩
  w_fin
  refine bU fun l hl0=>?_
  w_fin
  refine ⟨1,(n:Int)+1,rfl,by omega,?_⟩
  have en:((n:Int)+1 - 1).toNat=n:=by omega
  rw [en]
  refine rW (n:=n) (fun i σ G=>∃ (F:List (Option Nat)) (o1 o2:Option V),σ=[some (.ref p),some (.int n),some (.ref l),o1,o2]/\Kp l H G/\G l=some (.lst (F.map oV))/\JQ S i F) ⟨[some 0],_,_,rfl,Kp.new hl0,aC,rfl,?_⟩ ?_ ?_
  ·intro w o h
   cases w with
  |zero=>cases h; exact oJ
  |succ w=>simp at h
  ·rintro i σ G hi ⟨F,o1,o2,rfl,kp,hF,hFl,hFb⟩
   have sG:aJ H G:=fun b o e=>kp _ _ (aB e hl0) e
   have hpG:=sG _ _ hp
   have ix:∀ s∈S,s<=i+1->∃ o,F[i+1 - s]?=some o:=fun s hs hl1=>⟨_,List.getElem?_eq_getElem (by have:=hS s hs; omega)⟩
   w_fin
   refine cA (bS.of hpG) ?_
   refine nN (xs:=(S.map Int.ofNat).map V.int) (by rw [length_map,length_map]; omega) (fun acc j ys G'=>Kp acc G G'/\ys=((lZ F (i+1) (S.take j)).map Int.ofNat).map V.int) (fun acc h0=>⟨Kp.new h0,rfl⟩) ?_ ?_ ?_
   ·rintro acc j ys G' h0 _ ⟨kp',_⟩
    exact bS.of (kp' _ _ (aB hpG h0) hpG)
   ·rintro acc j ys G' x h0 hx hly ha ⟨kp',rfl⟩
    rw [map_map,List.getElem?_map] at hx
    obtain ⟨s,hs,e⟩:=Option.map_eq_some_iff.mp hx
    obtain rfl:x=V.int (s:Int):=e.symm
    have hsS:=mem_of_getElem? hs
    have hlt:j < ((S.map Int.ofNat).map V.int).length:=by rw [length_map,length_map]; exact (List.getElem?_eq_some_iff.mp hs).1
    have hF':G' l=some (.lst (F.map oV)):=kp' _ _ (aB hF h0) hF
    have skip:(if s<=i+1 then (F[i+1 - s]?).join else none)=none->AZ ((S.map Int.ofNat).map V.int).length acc (fun j ys G'=>Kp acc G G'/\ys=((lZ F (i+1) (S.take j)).map Int.ofNat).map V.int) (((lZ F (i+1) (S.take j)).map Int.ofNat).map V.int) j G':=fun e=>by
     refine yF hlt hly ha ⟨kp',?_⟩
     rw [take_add_one,hs]
     unfold lZ
     rw [filterMap_append]
     simp [e]
    w_fin
    refine lY (fun c=>?_) (fun c=>?_)
    ·have hle:s<=i+1:=by have:(s:Int)<=1+i:=c; omega
     obtain ⟨o,ho⟩:=ix s hsS hle
     have hix:kO (F.map oV) (1+(i:Int) - (s:Int))=some (oV o):=by
      rw [show 1+(i:Int) - (s:Int)=((i+1 - s:Nat):Int) by omega]
      exact cJ (by rw [List.getElem?_map,ho]; rfl)
     w_fin
     refine bY hF' hix ?_
     w_fin
     cases o with
    |none =>
      refine rR ?_
      w_fin
      exact skip (by rw [if_pos hle,ho]; rfl)
    |some k =>
      refine xJ ?_
      w_fin
      refine bY hF' hix ?_
      w_fin
      refine yG hlt hly ha ⟨kp'.trans Kp.upd,?_⟩
      rw [take_add_one,hs]
      unfold lZ
      rw [filterMap_append]
      simp [hle,ho,oV]
    ·w_fin
     exact skip (by rw [if_neg (by have:¬ (s:Int)<=1+i:=c; omega)])
   ·rintro acc ys G' h0 ha hly ⟨kp',rfl⟩
    rw [length_map,length_map,take_length] at ha
    have hF':G' l=some (.lst (F.map oV)):=kp' _ _ (aB hF h0) hF
    have sG':aJ G G':=fun b o e=>kp' _ _ (aB e h0) e
    generalize hcs:lZ F (i+1) S=cs at ha
    have fin:∀ o,(o=none->cs=[])->(∀ k,o=some k->∃ j,k=j+1/\j∈cs/\∀ x∈cs,j<=x)->JQ S (i+1) (F++[o]):=fun o h0 h1=>by
     refine ⟨by rw [length_append,hFl]; rfl,fun w o' h=>?_⟩
     rcases lt_or_ge w F.length with hw|hw
     ·rw [List.getElem?_append_left hw] at h
      exact hFb w o' h
     ·rw [List.getElem?_append_right hw] at h
      have hw0:w - F.length=0:=by
       rcases eq_zero_or_pos (w - F.length) with z|z
       ·exact z
       ·rw [List.getElem?_eq_none (by simp only [length_singleton]; exact z)] at h; cases h
      rw [hw0] at h
      cases h
      rw [show w=i+1 by omega]
      exact uE hS hFl hFb (fun e=>by rw [hcs]; exact h0 e) fun k e=>by rw [hcs]; exact h1 k e
    w_fin
    cases cs with
   |nil =>
     refine ⟨false,.inl ⟨_,bS.of ha,rfl⟩,?_⟩
     w_fin
     refine jU hF' (by rw [length_map]; omega) ?_
     w_fin
     exact ⟨F++[none],_,_,rfl,(kp.trans sG'.kp).trans Kp.upd,by rw [aC,map_append]; rfl,fin none (fun _=>rfl) fun k e=>by cases e⟩
   |cons c cs =>
     refine ⟨true,.inl ⟨_,bS.of ha,rfl⟩,?_⟩
     w_fin
     refine RF ha (by simp) fun m hm hmin=>?_
     obtain ⟨j,hj,rfl⟩:=mem_map.mp hm
     w_fin
     refine jU hF' (by rw [length_map]; omega) ?_
     w_fin
     exact ⟨F++[some (j+1)],_,_,rfl,(kp.trans sG'.kp).trans Kp.upd,by rw [aC,map_append]; rfl,fin (some (j+1)) (fun e=>by cases e) fun k e=>⟨j,by cases e; rfl,hj,fun x hx=>by have:=hmin x (mem_map.mpr ⟨x,hx,rfl⟩); exact Int.ofNat_le.mp this⟩⟩
  ·rintro σ G ⟨F,o1,o2,rfl,kp,hF,hT⟩
   w_fin
   exact q l G F hl0 (fun b o e=>kp _ _ (aB e hl0) e) hF hT
theorem pD (T:Bl mg) (d:Df K mg "first_part" gN ["parts","fewest","left"]) (W:kP mg xt x1 x3 x4) (R_NoSum:bX K xt x1 x3 x4 x3 3) (R1:bX K xt x1 x3 x4 x1 1) (R4:bX K xt x1 x3 x4 x4 4):bV P w K mg base (k+1) "first_part" ["parts","fewest","left"] zJ:=by
 refine bV.of d fO (fun vs H Q E h=>?_) (fun f cdv A outer s H vs Q E hr h=>?_)
 ·obtain ⟨p,S,f',F,n,k',last,rfl,_⟩:=h
  rfl
 ·obtain ⟨p,S,f',F,n,k',last,rfl,hp,hS,hl,hF,hT,h0,h1,hk,q⟩:=h
  refine ⟨_,(@aA _ _ _ _ _ (@cO _ _ _ _ _ _ _ _ PassesOwn.never rfl (@AD _ _ _ _ _ _ _ _ rfl T.z_enumerate (@dD _ _ _ (pv 0) (by rfl)) (by rfl)) (@GI _ _ _ _ _ (n:=2) rfl (@jW _ _ _ _ _ (@aS _ _ (i:=3) _ fO.nd rfl (by w_left) (by w_means)) (@jW _ _ _ _ _ (@aS _ _ (i:=4) _ fO.nd rfl (by w_left) (by w_means)) (@AF _) (by rfl)) (by rfl)) (by rfl) (by rfl)) (@aF _ _ _ (@cY _ _ _ _ _ _ _ _ (@PW.pt _ _ _ (@jG _ _ _ _ _ _ _ (@aN _ _ _ _ _ _ _ _ AN (pv 4) (pv 2) (aU _)) (@iP _ _ _ _ (@aN _ _ _ _ _ _ _ _ (lE hr.units) (@bQ _ _ _ _ _ _ _ cP (pv 1) (@aH _ _ _ _ _ _ _ _ fS (pv 2) (pv 4)) (fun _ _=>rfl)) (@aH _ _ _ _ _ _ _ _ fS (@bQ _ _ _ _ _ _ _ cP (pv 1) (pv 2) (fun _ _=>rfl)) (@aD _ _ _ _)) (aU _))))) (@aF _ _ _ (@aQ _ _ _ _ (pv 3))) (@bH _))) (by intro _; rfl)) (@aF _ _ _ (@aQ _ _ _ _ (@fR _ _ _)))),?_⟩
  have hx0:∃ s∈S,s<=n/\iW S (n - s) (some k'):=by
   have hB:=hT.2 n _ hk
   obtain ⟨s,j,hs,hl',ej,hj⟩:=hB.1.head h0
   cases ej
   refine ⟨s,hs,hl',hj,fun i hi=>?_⟩
   have:=hB.2 _ (hi.cons hs hl')
   omega
  have at':∀ s,0 < s->s<=n->∃ o,F[n - s]?=some o/\iW S (n - s) o:=fun s h2 h3=>by
   have hlt:n - s < F.length:=by rw [hT.1]; omega
   exact ⟨_,List.getElem?_eq_getElem hlt,hT.2 _ _ (List.getElem?_eq_getElem hlt)⟩
  w_fin
  refine ⟨p,rfl,⟨_,bS.of hp⟩,?_⟩
  refine FQ (xs:=(S.map Int.ofNat).map V.int) (fun i σ G=>∃ (o1 o2:Option V),σ=[some (.ref p),some (.ref f'),some (.int n),o1,o2]/\aJ H G/\∀ j s',j < i->S[j]?=some s'->s'<=n->¬ iW S (n - s') (some k')) ⟨_,_,rfl,aJ.refl _,fun j s' h=>by omega⟩ ?_ ?_ ?_
  ·rintro i σ G hi ⟨o1,o2,rfl,sG,_⟩
   exact bS.of (sG _ _ hp)
  ·rintro i x T' σ G hx hT' ⟨o1,o2,rfl,sG,hno⟩
   rw [map_map,List.getElem?_map] at hx
   obtain ⟨s',hs,e⟩:=Option.map_eq_some_iff.mp hx
   obtain rfl:x=V.int (s':Int):=e.symm
   have hsS:=mem_of_getElem? hs
   have s2:=sG.trans (aJ.new (o:=.tup [.int i,.int (s':Int)]) hT')
   have ht:=aC (H:=G) (a:=T') (o:=.tup [.int i,.int (s':Int)])
   generalize L2.upd G T' (.tup [.int i,.int (s':Int)])=G2 at s2 ht ⊢
   have more:(s'<=n->¬ iW S (n - s') (some k'))->∀ j s'',j < i+1->S[j]?=some s''->s''<=n->¬ iW S (n - s'') (some k'):=fun h j s'' hj hs'' hl''=>by
    rcases lt_or_ge j i with h3|h3
    ·exact hno j s'' h3 hs'' hl''
    ·have:j=i:=by omega
     subst this
     rw [hs] at hs''
     cases hs''
     exact h hl''
   have hF2:=s2 _ _ hF
   w_fin
   refine lY (fun c=>?_) (fun c=>?_)
   ·have hle:s'<=n:=by omega
    obtain ⟨o,ho,hb⟩:=at' s' (hS s' hsS) hle
    w_fin
    refine bY hF2 (v:=oV o) (by rw [show (n:Int) - (s':Int)=((n - s':Nat):Int) by omega]; exact cJ (by rw [List.getElem?_map,ho]; rfl)) ?_
    w_fin
    refine bY hF2 (v:=V.int ((k'+1:Nat):Int)) (cJ (by rw [List.getElem?_map,hk]; rfl)) ?_
    w_fin
    cases o with
   |none =>
     refine YO ?_
     w_fin
     exact ⟨_,_,rfl,s2,more fun _ h=>by have:=h.uniq hb; cases this⟩
   |some j =>
     refine IP ?_
     w_fin
     refine lY (fun c2=>?_) (fun c2=>?_)
     ·have:j=k':=by omega
      subst this
      w_fin
      exact q i s' G2 s2 hs hle hb hno
     ·w_fin
      exact ⟨_,_,rfl,s2,more fun _ h=>by have:=h.uniq hb; cases this; omega⟩
   ·w_fin
    exact ⟨_,_,rfl,s2,more fun h=>by omega⟩
  ·rintro σ G ⟨o1,o2,rfl,sG,hno⟩
   obtain ⟨s,hs,hl',hb⟩:=hx0
   obtain ⟨j,hj⟩:=List.getElem?_of_mem hs
   rw [length_map,length_map] at hno
   exact absurd hb (hno j s (List.getElem?_eq_some_iff.mp hj).1 hj hl')
theorem xS (T:Bl mg) (d:Df K mg "made_of" lA ["box","time"]) (W:kP mg xt x1 x3 x4) (R_NoSum:bX K xt x1 x3 x4 x3 3) (R1:bX K xt x1 x3 x4 x1 1) (R4:bX K xt x1 x3 x4 x4 4) (o0e:bV P w K mg base k "first_part" ["parts","fewest","left"] zJ) (o0c:bV P w K mg base k "fewest_parts" ["parts","last"] uK) (o0k:bV P w K mg base k "units_of" ["times"] zD) (o0g:bV P w K mg base k "sorted_by" ["fractions","things"] (gH K)):kR P w K mg base (k+1) "made_of" ["box","time"] [] (EO K x3):=by
 refine kR.of d cL (fun vs H Q E h=>?_) (fun f cdv A outer s H vs Q E hr h=>?_)
 ·obtain ⟨l,ms,u,n,tq,rfl,_⟩:=h
  rfl
 ·obtain ⟨l,ms,u,n,tq,rfl,hu,hl,ht,hp,hm,hn,h1,h64,hT,q1,q2⟩:=h
  refine ⟨_,(@aA _ _ _ _ _ (@aG _ _ (i:=2) _ _ _ _ cL.nd rfl (by w_left) (@LW _ _ _ _ _ _ _ rfl rfl T.z_list rfl T.z_reversed (@aK _ _ _ _ _ _ _ _ _ _ o0g hr rfl (@dX _ _ _ _ _ (pv 0) (pv 0) (by rfl) (by rfl)) (by decide) (by rfl) (by rfl)) (by rfl) (by rfl)) (by rfl) (by w_means)) (@aA _ _ _ _ _ (@aG _ _ (i:=3) _ _ _ _ cL.nd rfl (by w_left) (@aK _ _ _ _ _ _ _ _ _ _ o0k hr rfl (@dD _ _ _ (@aH _ _ _ _ _ _ _ _ aW (pv 2) (@bF _ _ _ _ (@dD _ _ _ (pv 1) (by rfl)))) (by rfl)) (by decide) (by rfl) (by rfl)) (by rfl) (by w_means)) (@aA _ _ _ _ _ (@aG _ _ (i:=4) _ _ _ _ cL.nd rfl (by w_left) (@nR _ _ _ _ _ _ _ _ _ plainAttrs_list PySem.F.slot_list_pop PySem.F.type_list_pop SV (pv 3) (by rfl) (by rfl)) (by rfl) (by w_means)) (@aA _ _ _ _ _ (@aG _ _ (i:=5) _ _ _ _ cL.nd rfl (by w_left) (@aK _ _ _ _ _ _ _ _ _ _ o0c hr rfl (@dX _ _ _ _ _ (pv 3) (pv 4) (by rfl) (by rfl)) (by decide) (by rfl) (by rfl)) (by rfl) (by w_means)) (@aA _ _ _ _ _ (@cY _ _ _ _ _ _ _ _ (@aN _ _ _ _ _ _ _ _ sO (@bQ _ _ _ _ _ _ _ cP (pv 5) (pv 4) (fun _ _=>rfl)) (@fR _ _ _) (aU _)) (@aF _ _ _ (@lC _ _ _ _ _ _ _ _ _ _ (fun _ _ _ _ _ _ _ _ I m q=>wN I m q) rfl rfl W.m_NoSum R_NoSum.e (@dD _ _ _ (@bW _ _ _ _) (by rfl)) (by decide) (by rfl) (by rfl))) (@bH _)) (@aA _ _ _ _ _ (@aG _ _ (i:=6) _ _ _ _ cL.nd rfl (by w_left) (@bF _ _ _ _ (@fD _)) (by rfl) (by w_means)) (@aA _ _ _ _ _ (@PS.nox _ _ _ (@gD _ _ _ _ _ _ PassesOwn.never (@aN _ _ _ _ _ _ _ _ lK (pv 4) (@aD _ _ _ _) (aU _)) (@aA _ _ _ _ _ (@aG _ _ (i:=7) _ _ _ _ cL.nd rfl (by w_left) (@aK _ _ _ _ _ _ _ _ _ _ o0e hr rfl (@vC _ _ _ _ _ _ _ (pv 3) (pv 5) (pv 4) (by rfl) (by rfl) (by rfl)) (by decide) (by rfl) (by rfl)) (by rfl) (by w_means)) (@aA _ _ _ _ _ (@dU _ _ _ _ (@jX _ _ _ _ _ _ _ _ _ _ _ _ plainAttrs_list PySem.F.slot_list_append PySem.F.type_list_append dM (pv 6) (@dD _ _ _ (@bQ _ _ _ _ _ _ _ cP (pv 2) (pv 7) (fun _ _=>rfl)) (by rfl)) (by rfl) (by rfl) (by rfl) (by rfl) (by rfl)) (by rfl)) (@aF _ _ _ (@SE _ _ (i:=4) _ _ _ _ _ _ cL.nd rfl (by w_left) (@bQ _ _ _ _ _ _ _ cP (pv 3) (pv 7) (fun _ _=>rfl)) TM (by first|exact .inl rfl|exact .inr rfl))))))) (@aF _ _ _ (@aQ _ _ _ _ (pv 6)))))))))),?_⟩
  w_fin
  refine WG ?_
  w_fin
  refine ⟨l,ms,u,rfl,hu,hl,hm,by omega,hT,fun p1 H1 ns hp1 kp1 hT1 pn sn hq1=>?_⟩
  obtain ⟨vs,hv,pv⟩:=hq1
  refine ⟨p1,vs,rfl,hv,fun p2 hp2=>?_⟩
  have hlen:ns.length=ms.length:=pn.length_eq
  have k2:Kp tT H (L2.upd H1 p2 (.lst vs.reverse)):=kp1.trans (aJ.new hp2).kp
  have s2:=aJ.new (o:=.lst vs.reverse) hp2
  have t2:=cQ.same hT1 s2
  have h2:=aC (H:=H1) (a:=p2) (o:=.lst vs.reverse)
  generalize L2.upd H1 p2 (.lst vs.reverse)=H2 at k2 s2 t2 h2 ⊢
  have hq2:LQ cE H2 p2 ((ns.reverse).map (bN u)):=⟨_,h2,by
   rw [List.map_reverse]
   exact GN (Pd.imp pv fun v f x=>cE.same x s2)⟩
  have ht2:cE H2 (.ref tq) (bN u n):=cE.tk ht k2 hT
  w_fin
  refine eP fun p3 H3 hp3 s3 h3=>?_
  have hvl:vs.length=ns.length:=by have:=Paired.length pv; rwa [length_map] at this
  w_fin
  refine JD (s3 _ _ h2) h3 (by rw [length_reverse]; simp; omega) fun p4 hp4=>?_
  have s4:=s3.trans (aJ.new (o:=.lst (vs.reverse++[V.ref tq])) hp4)
  have h4:=aC (H:=H3) (a:=p4) (o:=.lst (vs.reverse++[V.ref tq]))
  generalize L2.upd H3 p4 (.lst (vs.reverse++[V.ref tq]))=H4 at s4 h4 ⊢
  have memr:∀ m,m∈ns.reverse ↔ m∈ms:=fun m=>by rw [List.mem_reverse]; exact pn.mem_iff
  have hq4:LQ cE H4 p4 ((ns.reverse++[n]).map (bN u)):=⟨_,h4,by
   obtain ⟨vs',e1,e2⟩:=hq2
   rw [h2] at e1
   cases e1
   rw [map_append]
   exact Pd.snoc (Pd.imp e2 fun v f x=>cE.same x s4) (cE.same ht2 s4)⟩
  have hex:∃ m∈ns.reverse++[n],0 < m:=by
   obtain ⟨m,hm'⟩:=List.exists_mem_of_ne_nil _ h1
   exact ⟨m,mem_append_left _ ((memr m).mpr hm'),hp m hm'⟩
  w_fin
  refine ⟨p4,ns.reverse++[n],u,rfl,hu,hq4,fun m hm'=>?_,by rw [length_append,length_reverse]; simp; omega,hex,fun p5 H5 hp5 s5 h5=>?_⟩
  ·rcases mem_append.mp hm' with h|h
   ·exact hm m ((memr m).mp h)
   ·rw [mem_singleton.mp h]; omega
  have hg0:0 < dI (ns.reverse++[n]):=let ⟨m,a,b⟩:=hex; kF a b
  have hgd:∀ m∈ns.reverse++[n],dI (ns.reverse++[n]) ∣ m:=fun m h=>iG h
  generalize dI (ns.reverse++[n])=g at h5 hg0 hgd
  rw [map_append,map_append,map_append] at h5
  have hgS:∀ m∈ns.reverse,g ∣ m:=fun m h=>hgd m (mem_append_left _ h)
  have hgn:n / g * g=n:=div_mul_cancel (hgd n (mem_append_right _ (by simp)))
  have hln:n / g<=n:=Nat.div_le_self _ _
  obtain ⟨S,hS⟩:∃ S,S=ns.reverse.map (· / g):=⟨_,rfl⟩
  rw [← hS] at h5
  have hSl:S.length=ms.length:=by rw [hS,length_map,length_reverse,hlen]
  have hSp:∀ s∈S,0 < s:=fun s hs=>by
   rw [hS] at hs
   obtain ⟨m,hm',rfl⟩:=mem_map.mp hs
   exact Nat.div_pos (le_of_dvd (hp m ((memr m).mp hm')) (hgS m hm')) hg0
  have hSd:S.Pairwise (· ≥ ·):=by
   rw [hS,pairwise_map]
   refine (List.pairwise_reverse.mpr sn).imp fun {a b} hab=>Nat.div_le_div_right hab
  have b5:Kp tT H H5:=(k2.trans s4.kp).trans s5.kp
  have t5:LT H5:=cQ.same (cQ.same t2 s4) s5
  have f5:∀ {a:Addr},H5 a=none->H a=none:=fun h=>PM b5 t5 h
  have isBm:∀ o,iW S (n / g) o->iW ms n o:=fun o h=>by
   rw [hS] at h
   have:=(iW.scale hg0 hgS).mp h
   rw [hgn] at this
   exact this.perm memr
  w_fin
  refine RQ h5 ?_
  refine ⟨p5,_,V.int ((n / g:Nat):Int),rfl,rfl,h5,by simp,?_⟩
  rw [show (((S.map Int.ofNat).map V.int)++(([n].map (· / g)).map Int.ofNat).map V.int).dropLast=(S.map Int.ofNat).map V.int by simp]
  have k6:Kp p5 H5 (L2.upd H5 p5 (.lst ((S.map Int.ofNat).map V.int))):=Kp.upd
  have h6:=aC (H:=H5) (a:=p5) (o:=.lst ((S.map Int.ofNat).map V.int))
  generalize L2.upd H5 p5 (.lst ((S.map Int.ofNat).map V.int))=H6 at k6 h6 ⊢
  have hp5H:H p5=none:=PM (k2.trans s4.kp) (cQ.same t2 s4) hp5
  have b6:Kp tT H H6:=fun b o nb e=>k6 _ _ (aB e hp5H) (b5 _ _ nb e)
  have t6:LT H6:=by
   have e:=cQ.same t2 s4
   have hk:∀ b o,H4 b=some o->H6 b=some o:=fun b o h=>k6 _ _ (aB h hp5) (s5 _ _ h)
   exact cQ.same e hk
  have s6:aJ H2 H6:=fun b o h=>k6 _ _ (aB (s4 _ _ h) hp5) (s5 _ _ (s4 _ _ h))
  w_fin
  refine ⟨p5,S,n / g,rfl,h6,hSp,by omega,by omega,fun p7 H7 F hp7 s7 h7 hF=>?_⟩
  have b7:Kp tT H H7:=b6.trans s7.kp
  have t7:LT H7:=cQ.same t6 s7
  have s27:=s6.trans s7
  obtain ⟨o,ho⟩:∃ o,F[n / g]?=some o:=⟨_,List.getElem?_eq_getElem (by rw [hF.1]; omega)⟩
  have hBo:=hF.2 _ _ ho
  w_fin
  refine bY h7 (v:=oV o) (cJ (by rw [List.getElem?_map,ho]; rfl)) ?_
  cases o with
 |none =>
   refine rT ?_
   w_fin
   exact ⟨by rw [sizeLine_eq]; decide,q1 (isBm none hBo) H7 b7 t7⟩
 |some k0 =>
   refine rV ?_
   w_fin
   refine bU fun p8 hp8=>?_
   have hp8H:H p8=none:=PM b7 t7 hp8
   w_fin
   refine mM (fun σ G=>∃ (lf kk:Nat) (L:List Nat) (o:Option V) (ws:List V),σ=[some (.ref l),some (.ref tq),some (.ref p2),some (.ref p5),some (.int lf),some (.ref p7),some (.ref p8),o]/\Kp p8 H7 G/\G p8=some (.lst ws)/\Paired (cE G) ws ((L.map (· * g)).map (bN u))/\lf<=n / g/\iW S lf (some kk)/\L.length+lf<=n / g/\∀ M,kS S lf M->kS S (n / g) (L++M))
    (fun σ _=>match σ with|[_,_,_,_,some (.int z),_,_,_]=>z.toNat|_=>0) ⟨n / g,k0,[],_,[],rfl,Kp.new hp8,aC,.nil,le_refl _,hBo,by simp,fun M h=>h⟩ ?_
   rintro σ G ⟨lf,kk,L,o,ws,rfl,kG,hG,pG,hlf,hB,hLl,hM⟩
   have sG:aJ H7 G:=fun b o h=>kG _ _ (aB h hp8) h
   have wl:ws.length=L.length:=by have:=Paired.length pG; simpa using this
   w_fin
   refine lY (fun c=>?_) (fun c=>?_)
   ·have h0:0 < lf:=by omega
    w_fin
    refine JZ ?_
    obtain ⟨kk,rfl⟩:∃ j,kk=j+1:=by
     obtain ⟨s,j,_,_,e,_⟩:=hB.1.head h0
     exact ⟨j,e⟩
    have hFk:F[lf]?=some (some (kk+1)):=by
     obtain ⟨o',ho'⟩:∃ o',F[lf]?=some o':=⟨_,List.getElem?_eq_getElem (by rw [hF.1]; omega)⟩
     rw [ho',(hF.2 _ _ ho').uniq hB]
    w_fin
    refine ⟨p5,S,p7,F,lf,kk,n / g,rfl,sG _ _ (s7 _ _ h6),hSp,by omega,sG _ _ h7,hF,h0,hlf,hFk,fun i s1 G1 sG1 hi hle hb1 hno=>?_⟩
    have hi':i < S.length:=(List.getElem?_eq_some_iff.mp hi).1
    obtain ⟨m1,hm1,em1⟩:∃ m1,ns.reverse[i]?=some m1/\m1 / g=s1:=by
     rw [hS,List.getElem?_map] at hi
     obtain ⟨m1,a,b⟩:=Option.map_eq_some_iff.mp hi
     exact ⟨m1,a,b⟩
    have em2:s1 * g=m1:=by rw [← em1]; exact div_mul_cancel (hgS m1 (mem_of_getElem? hm1))
    have sA:aJ H2 G1:=(s27.trans sG).trans sG1
    obtain ⟨vs2,e1,e2⟩:=LQ.sm hq2 sA
    rw [sA _ _ h2] at e1
    cases e1
    obtain ⟨v1,hv1,hf1⟩:=Pd.get e2 (i:=i) (b:=bN u m1) (by rw [List.getElem?_map,hm1]; rfl)
    have hG1:=sG1 _ _ hG
    w_fin
    refine bY (sA _ _ h2) (v:=v1) (cJ hv1) ?_
    w_fin
    refine jU hG1 (by omega) ?_
    have kE:Kp p8 G1 (L2.upd G1 p8 (.lst (ws++[v1]))):=Kp.upd
    have hE:=aC (H:=G1) (a:=p8) (o:=.lst (ws++[v1]))
    generalize L2.upd G1 p8 (.lst (ws++[v1]))=G2 at kE hE ⊢
    have hp5':G2 p5=some (.lst ((S.map Int.ofNat).map V.int)):=kE _ _ (aB (s7 _ _ h6) hp8) (sG1 _ _ (sG _ _ (s7 _ _ h6)))
    have kT2:∀ {v f},cE G1 v f->cE G2 v f:=fun ⟨q,a,b⟩=>⟨q,a,kE _ _ (cD b hG1 (by intro z; cases z)) b⟩
    w_fin
    refine XG rfl ?_
    w_fin
    refine bY hp5' (v:=V.int (s1:Int)) (cJ (by rw [map_map,List.getElem?_map,hi]; rfl)) ?_
    w_fin
    refine WU ?_
    w_fin
    have hs1:=hSp s1 (mem_of_getElem? hi)
    have elf:(lf:Int) - (s1:Int)=((lf - s1:Nat):Int):=by omega
    rw [elf]
    refine ⟨⟨lf - s1,kk,L++[s1],_,ws++[v1],rfl,fun b o nb h=>kE _ _ nb (sG1 _ _ (kG _ _ nb h)),hE,?_,by omega,hb1,by simp; omega,fun M hM'=>?_⟩,by show ((lf - s1:Nat):Int).toNat < (lf:Int).toNat; omega⟩
    ·rw [map_append,map_append]
     refine Pd.snoc (Pd.imp pG fun v f x=>kT2 (cE.same x sG1)) ?_
     show cE G2 v1 (bN u (s1 * g))
     rw [em2]
     exact kT2 hf1
    ·rw [append_assoc]
     refine hM _ (.cons (mem_of_getElem? hi) hle hs1 hB hb1 (fun s' hs' hl' hb'=>?_) hM')
     obtain ⟨j,hj⟩:=List.getElem?_of_mem hs'
     rcases lt_or_ge j i with h|h
     ·exact absurd hb' (hno j s' h hj hl')
     ·rcases lt_or_ge i j with h2'|h2'
      ·have:=List.pairwise_iff_getElem.mp hSd i j hi' (List.getElem?_eq_some_iff.mp hj).1 h2'
       have e3:=(List.getElem?_eq_some_iff.mp hi).2
       have e4:=(List.getElem?_eq_some_iff.mp hj).2
       rw [e3,e4] at this
       exact this
      ·have:j=i:=by omega
       subst this
       rw [hi] at hj
       cases hj
       exact le_refl _
   ·have:lf=0:=by omega
    subst this
    w_fin
    have hfin:=hM [] .nil
    rw [append_nil,hS] at hfin
    have h9:=kS.scale hg0 hgS hfin
    rw [hgn] at h9
    refine q2 (L.map (· * g)) p8 G (h9.perm memr) hp8H (fun b o nb h=>kG _ _ (aB h hp8H) (b7 _ _ nb h)) (cQ.same t7 sG) ⟨ws,hG,pG⟩
theorem nW (T:Bl mg) (d:Df K mg "post_called" fP ["number"]) (W:kP mg xt x1 x3 x4) (R_NoSum:bX K xt x1 x3 x4 x3 3) (R1:bX K xt x1 x3 x4 x1 1) (R4:bX K xt x1 x3 x4 x4 4) {tk_LETTERS:Tok} (g_LETTERS:mg "LETTERS"=some (.str "abcdefghijklmnopqrstuvwxyz" tk_LETTERS)):bV P w K mg base (k+1) "post_called" ["number"] nG:=by
 refine bV.of d dR (fun vs H Q E h=>?_) (fun f cdv A outer s H vs Q E hr h=>?_)
 ·obtain ⟨n,rfl,_⟩:=h
  rfl
 ·obtain ⟨n,rfl,hn,q⟩:=h
  refine ⟨_,(@aA _ _ _ _ _ (@aG _ _ (i:=1) _ _ _ _ dR.nd rfl (by w_left) (@bQ _ _ _ _ _ _ _ cP (@dW _ _ (v:=(.str "abcdefghijklmnopqrstuvwxyz")) _ _ rfl g_LETTERS ⟨_,rfl⟩ (by decide)) (@aH _ _ _ _ _ _ _ _ cH (pv 0) (@aX _ _ _ _ _ _ _ _ _ kL rfl T.z_len fZ (@dD _ _ _ (@dW _ _ (v:=(.str "abcdefghijklmnopqrstuvwxyz")) _ _ rfl g_LETTERS ⟨_,rfl⟩ (by decide)) (by rfl)) (by decide) (by decide) (by rfl) (by rfl))) (fun _ _=>rfl)) (by rfl) (by w_means)) (@aA _ _ _ _ _ (@gD _ _ _ _ _ _ PassesOwn.never (@aN _ _ _ _ _ _ _ _ XX (pv 0) (@aX _ _ _ _ _ _ _ _ _ kL rfl T.z_len fZ (@dD _ _ _ (@dW _ _ (v:=(.str "abcdefghijklmnopqrstuvwxyz")) _ _ rfl g_LETTERS ⟨_,rfl⟩ (by decide)) (by rfl)) (by decide) (by decide) (by rfl) (by rfl)) (aU _)) (@aA _ _ _ _ _ (@aG _ _ (i:=0) _ _ _ _ dR.nd rfl (by w_left) (@aH _ _ _ _ _ _ _ _ bE (pv 0) (@aX _ _ _ _ _ _ _ _ _ kL rfl T.z_len fZ (@dD _ _ _ (@dW _ _ (v:=(.str "abcdefghijklmnopqrstuvwxyz")) _ _ rfl g_LETTERS ⟨_,rfl⟩ (by decide)) (by rfl)) (by decide) (by decide) (by rfl) (by rfl))) (by rfl) (by w_means)) (@aF _ _ _ (@aG _ _ (i:=1) _ _ _ _ dR.nd rfl (by w_left) (@aH _ _ _ _ _ _ _ _ aW (@bQ _ _ _ _ _ _ _ cP (@dW _ _ (v:=(.str "abcdefghijklmnopqrstuvwxyz")) _ _ rfl g_LETTERS ⟨_,rfl⟩ (by decide)) (@aH _ _ _ _ _ _ _ _ cH (pv 0) (@aX _ _ _ _ _ _ _ _ _ kL rfl T.z_len fZ (@dD _ _ _ (@dW _ _ (v:=(.str "abcdefghijklmnopqrstuvwxyz")) _ _ rfl g_LETTERS ⟨_,rfl⟩ (by decide)) (by rfl)) (by decide) (by decide) (by rfl) (by rfl))) (fun _ _=>rfl)) (pv 1)) (by rfl) (by w_means))))) (@aF _ _ _ (@aQ _ _ _ _ (pv 1))))),?_⟩
  have hL:(Str.length "abcdefghijklmnopqrstuvwxyz")=26:=AR
  have at':∀ m:Nat,m < 26->kO (Str.ofString "abcdefghijklmnopqrstuvwxyz").cps.toList (m:Int)=some (97+m):=fun m h=>NP h
  w_fin
  refine rS (by rw [hL,sizeLine_eq]; decide) ?_
  rw [hL]
  w_fin
  refine OL (by rw [hL]; decide) (by rw [show (n:Int) % ((26:Nat):Int)=((n % 26:Nat):Int) by omega]; exact at' _ (mod_lt _ (by decide))) ?_
  w_fin
  refine mM (fun σ G=>∃ (m:Nat) (z:Str),σ=[some (.int m),some (.str z)]/\G=H/\((m=n/\z=JN (n % 26))∨(26<=n/\m=n / 26/\z=JN (n / 26)++JN (n % 26)))) (fun σ _=>match σ with|some (.int m)::_=>m.toNat|_=>0) ⟨n,_,rfl,rfl,.inl ⟨rfl,rfl⟩⟩ ?_
  rintro σ G ⟨m,z,rfl,rfl,hc⟩
  w_fin
  refine rS (by rw [hL,sizeLine_eq]; decide) ?_
  rw [hL]
  w_fin
  refine lY (fun c=>?_) (fun c=>?_)
  ·rcases hc with ⟨rfl,rfl⟩|⟨_,rfl,_⟩
   ·w_fin
    refine JZ ?_
    w_fin
    refine rS (by rw [hL,sizeLine_eq]; decide) ?_
    rw [hL]
    w_fin
    rw [show Int.fdiv (m:Int) ((26:Nat):Int)=((m / 26:Nat):Int) by rw [Int.fdiv_eq_ediv_of_nonneg _ (by decide)]; omega]
    w_fin
    refine rS (by rw [hL,sizeLine_eq]; decide) ?_
    rw [hL]
    w_fin
    refine OL (by rw [hL]; decide) (by rw [show ((m / 26:Nat):Int) % ((26:Nat):Int)=((m / 26:Nat):Int) by omega]; exact at' _ (by omega)) ?_
    w_fin
    refine QC (show 1+1<=1000 by decide) ?_
    w_fin
    refine ⟨⟨m / 26,_,rfl,rfl,.inr ⟨by omega,rfl,rfl⟩⟩,?_⟩
    show ((m / 26:Nat):Int).toNat < (m:Int).toNat
    omega
   ·omega
  ·w_fin
   have hz:z=gW n:=by
    unfold gW
    rcases hc with ⟨rfl,rfl⟩|⟨h1,rfl,rfl⟩
    ·rw [if_pos (by omega),Nat.mod_eq_of_lt (by omega)]
    ·rw [if_neg (by omega)]
   rw [hz]
   exact q G (aJ.refl _)
theorem jY (T:Bl mg) (d:Df K mg "rising_moments" cS ["show"]) (W:kP mg xt x1 x3 x4) (R_NoSum:bX K xt x1 x3 x4 x3 3) (R1:bX K xt x1 x3 x4 x1 1) (R4:bX K xt x1 x3 x4 x4 4) (o0g:bV P w K mg base k "sorted_by" ["fractions","things"] (gH K)):bV P w K mg base (k+1) "rising_moments" ["show"] uJ:=by
 refine bV.of d fK (fun vs H Q E h=>?_) (fun f cdv A outer s H vs Q E hr h=>?_)
 ·obtain ⟨d,sh,u,rfl,_⟩:=h
  rfl
 ·obtain ⟨d,sh,u,rfl,hu,hs,hnd,hm,h18,hT,q⟩:=h
  refine ⟨_,(@aA _ _ _ _ _ (@aG _ _ (i:=1) _ _ _ _ fK.nd rfl (by w_left) (@aX _ _ _ _ _ _ _ _ _ (yL rfl) rfl T.z_sorted iV (@dD _ _ _ (@bG _ _ _ _ _ _ _ _ _ (DM rfl hr.units) rfl T.z_set IY (@dD _ _ _ (@vA _ _ _ _ _ _ _ _ _ _ _ _ _ _ (@eJ _ _ (sc:=aE cS) (N:=["show","moments"]) (tn:=["bell"]) (names:=["show"]) (is:=[0]) rfl rfl (by decide +kernel) (by decide +kernel) rfl (by decide +kernel) rfl (by decide +kernel) (by decide +kernel) (by decide +kernel)) rfl (pv 0) (fun _ _ _ _=>(@aS _ _ (i:=0) _ (show (["bell","show"]:List Str).Nodup by decide +kernel) rfl (Or.inl rfl) (Or.inr rfl))) (fun _ _ _ _=>(@iQ _ _ _ _ _ _ hr.u1 (pv 1) (pv 0) (fun _ _=>rfl))) (fun _ _ _ _=>(@fB _)) (by intro _; rfl)) (by rfl)) (by decide) (by decide) (by rfl) (by rfl)) (by rfl)) (by decide) (by decide) (by rfl) (by rfl)) (by rfl) (by w_means)) (@aF _ _ _ (@aQ _ _ _ _ (@aK _ _ _ _ _ _ _ _ _ _ o0g hr rfl (@dX _ _ _ _ _ (pv 1) (pv 1) (by rfl) (by rfl)) (by decide) (by rfl) (by rfl))))),?_⟩
  obtain ⟨kvs,hk,pk⟩:=hs
  have hlk:=Paired.length pk
  have ndk:=EV pk hnd
  w_fin
  refine zU d (jC.dK hk) ?_
  w_fin
  refine ⟨rfl,kvs,hk,fun o'=>?_⟩
  have hfz:L2.upd H d (.frz o' (.dK kvs)) d=some (.frz o' (.dK kvs)):=aC
  have back:∀ G',aJ (L2.upd H d (.frz o' (.dK kvs))) G'->aJ H (melt d G'):=fun G s=>vO hk s
  generalize L2.upd H d (.frz o' (.dK kvs))=HF at hfz back ⊢
  refine uT (by omega) (fun acc i ys G=>Kp acc HF G/\ys=(kvs.take i).map (·.2)) (fun acc h=>⟨Kp.new h,rfl⟩) ?_ ?_ ?_
  ·intro acc i ys G hacc _ ⟨kp,_⟩
   exact kp _ _ (aB hfz hacc) hfz
  ·rintro acc i ys G k0 v0 hacc hx hyl hG ⟨kp,rfl⟩
   have dG:=kp _ _ (aB hfz hacc) hfz
   w_fin
   refine XC (.inr ⟨o',dG⟩) (eX ndk hx) ?_
   w_fin
   refine jN (List.getElem?_eq_some_iff.mp hx).1 hyl hG ⟨kp.trans Kp.upd,?_⟩
   rw [take_add_one,hx]
   simp
  ·rintro acc ys G hacc hG hyl ⟨kp,rfl⟩
   have sG:aJ H (melt d G):=back G fun b o e=>kp _ _ (aB e hacc) e
   have hGm:melt d G acc=some (.lst ((kvs.take kvs.length).map (·.2))):=cZ (fun _ _ z=>nomatch z) hG
   generalize melt d G=G1 at sG hGm ⊢
   rw [take_length] at hGm
   have pk1:=Pd.imp pk (G:=fun (kv:aR×V) (x:Str×Nat)=>kv.1=Sum.inr x.1/\cE G1 kv.2 (bN u x.2)) fun v x r=>⟨r.1,cE.same r.2 sG⟩
   obtain ⟨ts,ets,pt⟩:=zM pk1
   rw [ets] at hGm
   have tl:=Paired.length pt
   have tat:∀ t∈ts,∃ m,UO u G1 t m:=fun t ht=>let ⟨x,_,r⟩:=GO pt ht; ⟨x.2,r⟩
   w_fin
   refine KR (kf:=JP G1) hGm (fun t ht=>?_) (by omega) fun l ps G2 hl sS gS h1 h2 h3=>?_
   ·obtain ⟨m,r⟩:=tat t ht
    rw [xZ r]
    exact r
   have pl:ps.length<=18:=by
    have:=lF h2 (m:=ts.map (JP G1)) fun k hk=>by
     obtain ⟨q,hq,rfl⟩:=mem_map.mp hk
     exact mem_map_of_mem (h1 q hq)
    rw [length_map,length_map] at this
    omega
   w_fin
   refine FN (nf:=As G2) gS (fun t ht=>?_) (by omega) fun l2 qs G3 hl2 s3 g3 hp=>?_
   ·obtain ⟨m,r⟩:=tat t (h1 t ht)
    have r2:UO u G2 t m:=sS _ _ r
    rw [TQ r2]
    exact ⟨r2,succ_pos _⟩
   obtain ⟨ms,p1,p2,p3⟩:=QR hu pt h1 h2 h3 hp
   have sA:=(sG.trans sS).trans s3
   have s13:=sS.trans s3
   have hq3:LQ cE G3 l2 (ms.map (bN u)):=⟨_,g3,AK (fun t m r=>⟨t,rfl,s13 _ _ r⟩) p1⟩
   have hml:ms.length<=18:=by
    have:=Paired.length p1
    have:=hp.length_eq
    omega
   have t3:=cQ.same hT sA
   w_fin
   refine ⟨l2,ms,u,rfl,hu,hq3,fun m hm'=>?_,by omega,t3,fun p H' ns hp' k' t' pn sn hq=>?_⟩
   ·obtain ⟨x,hx,rfl⟩:=(p3 m).mp hm'
    exact hm x hx
   w_fin
   refine q p H' ns (sA.free hp') (sA.kp.trans k') t' ?_ (fun m=>by rw [pn.mem_iff]; exact p3 m) hq
   exact (sn.and (pn.nodup_iff.mpr p2)).imp fun h=>by omega
theorem vH (T:Bl mg) (d:ZV K mg "made_net" dE ["box","show","double"] [.bl false] 2 ["double"]) (W:kP mg xt x1 x3 x4) (R_NoSum:bX K xt x1 x3 x4 x3 3) (R1:bX K xt x1 x3 x4 x1 1) (R4:bX K xt x1 x3 x4 x4 4) {tk_MOST_RUNS:Tok} (g_MOST_RUNS:mg "MOST_RUNS"=some (.int 120 tk_MOST_RUNS)) (o0d:bV P w K mg base k "post_called" ["number"] nG) (o0a:bV P w K mg base k "rising_moments" ["show"] uJ) (o0j:bV P w K mg base k "lessened" ["one","other"] ER) (o0m:kR P w K mg base k "made_of" ["box","time"] [] (EO K x3)):iJ P w K mg base (k+1) "made_net" ["box","show","double"] [.bl false] 2 ["double"] (mE K x1 x3 x4):=by
 refine iJ.of d bL (fun vs H Q E h=>?_) (fun f cdv A outer s H vs Q E hr h=>?_)
 ·obtain ⟨l,ms,u,ds,sh,tw,rfl,_⟩:=h
  rfl
 ·obtain ⟨l,ms,u,ds,sh,tw,rfl,hu,hl,hp,hm,h1,h64,hs,hnd,hsm,h18,hT,q1,q2,q3,q4⟩:=h
  refine ⟨_,(@aA _ _ _ _ _ (@aG _ _ (i:=3) _ _ _ _ bL.nd rfl (by w_left) (@bF _ _ _ _ (@fD _)) (by rfl) (by w_means)) (@aA _ _ _ _ _ (@aG _ _ (i:=4) _ _ _ _ bL.nd rfl (by w_left) (@GL _ _) (by rfl) (by w_means)) (@aA _ _ _ _ _ (@aG _ _ (i:=5) _ _ _ _ bL.nd rfl (by w_left) (@dF _ _ _ _ _ (@dX _ _ _ _ _ (@aD _ _ _ _) (@aD _ _ _ _) (by rfl) (by rfl))) (by rfl) (by w_means)) (@aA _ _ _ _ _ (@cO _ _ _ _ _ _ _ _ PassesOwn.leaving rfl (@cB _ _ _ _ (@aK _ _ _ _ _ _ _ _ _ _ o0a hr rfl (@dD _ _ _ (pv 1) (by rfl)) (by decide) (by rfl) (by rfl))) (@aS _ _ (i:=6) _ bL.nd rfl (by w_left) (by w_means)) (@aA _ _ _ _ _ (@dU _ _ _ _ (@jX _ _ _ _ _ _ _ _ _ _ _ _ plainAttrs_list PySem.F.slot_list_extend PySem.F.type_list_extend qH (pv 3) (@dD _ _ _ (@vB _ _ _ _ _ _ _ _ _ _ _ _ o0m hr rfl GQ (@dX _ _ _ _ _ (pv 0) (@aK _ _ _ _ _ _ _ _ _ _ o0j hr rfl (@dX _ _ _ _ _ (pv 6) (pv 5) (by rfl) (by rfl)) (by decide) (by rfl) (by rfl)) (by rfl) (by rfl)) (by decide) (by rfl) (by rfl)) (by rfl)) (by rfl) (by rfl) (by rfl) (by rfl) (by rfl)) (by rfl)) (@aA _ _ _ _ _ (@jV _ _ _ _ _ _ _ _ _ hr.u1 (pv 4) (pv 6) (@aX _ _ _ _ _ _ _ _ _ kL rfl T.z_len fZ (@dD _ _ _ (pv 3) (by rfl)) (by decide) (by decide) (by rfl) (by rfl)) rfl) (@aF _ _ _ (@aG _ _ (i:=5) _ _ _ _ bL.nd rfl (by w_left) (pv 6) (by rfl) (by w_means))))) (by intro _; rfl)) (@aA _ _ _ _ _ (@aG _ _ (i:=7) _ _ _ _ bL.nd rfl (by w_left) (@uZ _ _ _ _ _ _ _ _ (@rY _ _ _ (pv 2) (by intro _; rfl)) (@aD _ _ _ _) (@aD _ _ _ _)) (by rfl) (by w_means)) (@aA _ _ _ _ _ (@cY _ _ _ _ _ _ _ _ (@aN _ _ _ _ _ _ _ _ lK (@aH _ _ _ _ _ _ _ _ bO (@aX _ _ _ _ _ _ _ _ _ kL rfl T.z_len fZ (@dD _ _ _ (pv 3) (by rfl)) (by decide) (by decide) (by rfl) (by rfl)) (pv 7)) (@dW _ _ (v:=(.int 120)) _ _ rfl g_MOST_RUNS ⟨_,rfl⟩ (by decide)) (aU _)) (@aF _ _ _ (@lC _ _ _ _ _ _ _ _ _ _ (fun _ _ _ _ _ _ _ _ I m q=>wN I m q) rfl rfl W.m_TooMany R4.e (@dD _ _ _ (@SI _ _ _ _ _ _ (@sJ _ _ _ _ _ (@bW _ _ _ _) (@sJ _ _ _ _ _ (@SJ _ _ _ _ (@dW _ _ (v:=(.int 120)) _ _ rfl g_MOST_RUNS ⟨_,rfl⟩ (by decide))) (@sJ _ _ _ _ _ (@bW _ _ _ _) (@SG _)))) (by decide)) (by rfl)) (by decide) (by rfl) (by rfl))) (@bH _)) (@aA _ _ _ _ _ (@cY _ _ _ _ _ _ _ _ (@xM _ _ _ _ (@GF _ _ _ (pv 3) (by intro _; rfl))) (@aF _ _ _ (@lC _ _ _ _ _ _ _ _ _ _ (fun _ _ _ _ _ _ _ _ I m q=>wN I m q) rfl rfl W.m_NoNet R1.e (@dD _ _ _ (@bW _ _ _ _) (by rfl)) (by decide) (by rfl) (by rfl))) (@bH _)) (@aA _ _ _ _ _ (@aG _ _ (i:=8) _ _ _ _ bL.nd rfl (by w_left) (@bF _ _ _ _ (@fD _)) (by rfl) (by w_means)) (@aA _ _ _ _ _ (@cO _ _ _ _ _ _ _ _ PassesOwn.leaving rfl (@AD _ _ _ _ _ _ _ _ rfl T.z_enumerate (@dD _ _ _ (pv 3) (by rfl)) (by rfl)) (@GI _ _ _ _ _ (n:=2) rfl (@jW _ _ _ _ _ (@aS _ _ (i:=9) _ bL.nd rfl (by w_left) (by w_means)) (@jW _ _ _ _ _ (@aS _ _ (i:=10) _ bL.nd rfl (by w_left) (by w_means)) (@AF _) (by rfl)) (by rfl)) (by rfl) (by rfl)) (@aF _ _ _ (@dU _ _ _ _ (@jX _ _ _ _ _ _ _ _ _ _ _ _ plainAttrs_list PySem.F.slot_list_extend PySem.F.type_list_extend qH (pv 8) (@dD _ _ _ (@aH _ _ _ _ _ _ _ _ GS (@bF _ _ _ _ (@dD _ _ _ (@dF _ _ _ _ _ (@vC _ _ _ _ _ _ _ (@aK _ _ _ _ _ _ _ _ _ _ o0d hr rfl (@dD _ _ _ (pv 9) (by rfl)) (by decide) (by rfl) (by rfl)) (@aK _ _ _ _ _ _ _ _ _ _ o0d hr rfl (@dD _ _ _ (@aH _ _ _ _ _ _ _ _ aW (pv 9) (@aD _ _ _ _)) (by rfl)) (by decide) (by rfl) (by rfl)) (pv 10) (by rfl) (by rfl) (by rfl))) (by rfl))) (pv 7)) (by rfl)) (by rfl) (by rfl) (by rfl) (by rfl) (by rfl)) (by rfl))) (by intro _; rfl)) (@aA _ _ _ _ _ (@aG _ _ (i:=11) _ _ _ _ bL.nd rfl (by w_left) (@bG _ _ _ _ _ _ _ _ _ (yO rfl) rfl T.z_dict BN (@dD _ _ _ (@vA _ _ _ _ _ _ _ _ _ _ _ _ _ _ (@eJ _ _ (sc:=aE dE) (N:=["box","show","double","times","ends","ahead","moment","times_over","net","number","time","hung"]) (tn:=["bell"]) (names:=["show","ends"]) (is:=[1,4]) rfl rfl (by decide +kernel) (by decide +kernel) rfl (by decide +kernel) rfl (by decide +kernel) (by decide +kernel) (by decide +kernel)) rfl (pv 1) (fun _ _ _ _=>(@aS _ _ (i:=0) _ (show (["bell","show","ends"]:List Str).Nodup by decide +kernel) rfl (Or.inl rfl) (Or.inr rfl))) (fun _ _ _ _=>(@dF _ _ _ _ _ (@dX _ _ _ _ _ (pv 0) (@aK _ _ _ _ _ _ _ _ _ _ o0d hr rfl (@dD _ _ _ (@iQ _ _ _ _ _ _ hr.u1 (pv 2) (@iQ _ _ _ _ _ _ hr.u1 (pv 1) (pv 0) (fun _ _=>rfl)) (fun _ _=>rfl)) (by rfl)) (by decide) (by rfl) (by rfl)) (by rfl) (by rfl)))) (fun _ _ _ _=>(@fB _)) (by intro _; rfl)) (by rfl)) (by decide) (by decide) (by rfl) (by rfl)) (by rfl) (by w_means)) (@aF _ _ _ (@aQ _ _ _ _ (@dF _ _ _ _ _ (@dX _ _ _ _ _ (pv 8) (pv 11) (by rfl) (by rfl))))))))))))))),?_⟩
  w_fin
  refine eP fun p3 H3 hp3 s3 g3=>?_
  w_fin
  refine LG fun p4 hp4=>?_
  have s4:=s3.trans (aJ.new (o:=.dT []) hp4)
  have g34:L2.upd H3 p4 (.dT []) p3=_:=bB hp4 g3
  have g4:=aC (H:=H3) (a:=p4) (o:=.dT [])
  generalize L2.upd H3 p4 (.dT [])=H4 at s4 g34 g4 ⊢
  w_fin
  refine gO fun p5 hp5=>?_
  have s5:=s4.trans (aJ.new (o:=.tup [.int 0,.int 1]) hp5)
  have g35:L2.upd H4 p5 (.tup [.int 0,.int 1]) p3=_:=bB hp5 g34
  have g45:L2.upd H4 p5 (.tup [.int 0,.int 1]) p4=_:=bB hp5 g4
  have g5:=aC (H:=H4) (a:=p5) (o:=.tup [.int 0,.int 1])
  generalize L2.upd H4 p5 (.tup [.int 0,.int 1])=H5 at s5 g35 g45 g5 ⊢
  have t5:=cQ.same hT s5
  w_fin
  refine ⟨ds,sh,u,rfl,hu,DT.sm hs s5,hnd,fun x hx=>by have:=hsm x hx; omega,h18,t5,fun lr H6 ns hlr k6 t6 hns hmem hq6=>?_⟩
  have g36:=kT k6 t5 g35 (fun _ z=>by cases z)
  have g46:=kT k6 t5 g45 (fun _ z=>by cases z)
  have g56:=kT k6 t5 g5 (fun _ z=>by cases z)
  have hp3n:H p3=none:=hp3
  have hp4n:H p4=none:=s3.free hp4
  have k06:Kp tT H H6:=s5.kp.trans k6
  obtain ⟨mv,hmv,pmv⟩:=hq6
  have lmv:=Paired.length pmv
  rw [length_map] at lmv
  have msh:mD sh ns:=⟨hns,hmem⟩
  have nsl:ns.length<=18:=by
   have:=lF (hns.imp fun h=>ne_of_lt h) (m:=sh.map (·.2)) fun m hm'=>by
    obtain ⟨x,hx,e⟩:=(hmem m).mp hm'
    exact mem_map.mpr ⟨x,hx,e⟩
   rw [length_map] at this
   omega
  have ns9:∀ m∈ns,m<=900:=fun m hm'=>by obtain ⟨x,hx,rfl⟩:=(hmem m).mp hm'; exact hsm x hx
  w_fin
  refine cA (bS.of hmv) ?_
  refine gQ (xs:=mv) (fun i σ G=>∃ (a:Nat) (T:List Nat) (es:List (Nat×Nat)) (va:V) (o6 o7 o8 o9 o10 o11:Option V),σ=[some (.ref l),some (.ref ds),some (.bl tw),some (.ref p3),some (.ref p4),some va,o6,o7,o8,o9,o10,o11]/\Kp tT H G/\LT G/\G lr=some (.lst mv)/\TK H6 G/\LQ cE G p3 (T.map (bN u))/\G p4=some (.dT (fM u es))/\cE G va (bN u a)/\fH ms (ns.take i) a T es)
   ⟨0,[],[],_,_,_,_,_,_,_,rfl,k06,t6,hmv,fun _ _ h=>h,⟨[],g36,.nil⟩,g46,⟨p5,rfl,by rw [KA hu]; exact g56⟩,.nil⟩ ?_ ?_ ?_
  ·rintro i σ G hi ⟨a,T,es,va,o6,o7,o8,o9,o10,o11,rfl,kG,tG,hlG,_⟩
   exact bS.of hlG
  ·rintro i x σ G hx ⟨a,T,es,va,o6,o7,o8,o9,o10,o11,rfl,kG,tG,hlG,tk,h3,h4,ha,hM⟩
   obtain ⟨fx,hfx,tx,rfl,gx⟩:=Paired.at pmv hx
   rw [List.getElem?_map] at hfx
   obtain ⟨n,hn,rfl⟩:=Option.map_eq_some_iff.mp hfx
   have hnm:=mem_of_getElem? hn
   have hn9:=ns9 n hnm
   have gxG:=tk _ _ gx
   have hil:i < ns.length:=(List.getElem?_eq_some_iff.mp hn).1
   have ens:ns=ns.take i++n::ns.drop (i+1):=by
    have e2:n=ns[i]:=by rw [List.getElem?_eq_getElem hil] at hn; exact (Option.some.inj hn).symm
    rw [e2,← drop_eq_getElem_cons hil,take_append_drop]
   have htk:ns.take (i+1)=ns.take i++[n]:=by rw [take_add_one,hn]; rfl
   have hlt:∀ m∈ns.take i,m < n:=fun m hm'=>by
    rw [ens] at hns
    exact (pairwise_append.mp hns).2.2 m hm' n mem_cons_self
   have han:a<=n:=by
    rcases hM.last with ⟨_,e⟩|e
    ·omega
    ·exact le_of_lt (hlt a e)
   have hlen:=hM.len
   obtain ⟨v30,g30,p30⟩:=h3
   w_fin
   refine ⟨.ref tx,va,qm u n,qm u a,rfl,(IC hu).mp ⟨tx,rfl,gxG⟩,(IC hu).mp ha,NZ hu (by omega),NZ hu (by omega),fun v G1 fv s1=>?_⟩
   rw [SA hu han] at fv
   obtain ⟨tq,rfl,gq⟩:=(IC hu).mpr fv
   have t1:=cQ.same tG s1
   have k1:Kp tT H G1:=kG.trans s1.kp
   refine ⟨l,ms,u,n - a,tq,rfl,hu,LQ.tk hl k1 hT,⟨tq,rfl,gq⟩,hp,hm,by omega,h1,h64,t1,fun hno G2 k2 t2=>?_,fun L l' G2 hL hl' k2 t2 hq=>?_⟩
   ·exact q1 _ n _ a T es G2 (by rw [← ens]; exact msh) hM hno (k1.trans k2) t2
   have kG2:Kp tT G G2:=s1.kp.trans k2
   obtain ⟨v3,g3',p3'⟩:=LQ.tk ⟨v30,g30,p30⟩ kG2 tG
   obtain ⟨wl,gl',pl'⟩:=hq
   have l3:=Paired.length p3'
   have ll:=Paired.length pl'
   rw [length_map] at l3 ll
   have hLl:=hL.len
   w_fin
   refine ON g3' gl' (by omega) ?_
   have g42:=kT kG2 tG h4 (fun _ z=>by cases z)
   have glr:=kT kG2 tG hlG (fun _ z=>by cases z)
   have ne34:p4≠p3:=cD g42 g3' (by intro z; cases z)
   have tkU:TK G2 (L2.upd G2 p3 (.lst (v3++wl))):=TK.lst g3'
   have k3:Kp tT H (L2.upd G2 p3 (.lst (v3++wl))):=(k1.trans k2).ou hp3n
   have t3:LT (L2.upd G2 p3 (.lst (v3++wl))):=LT.lst t2 g3'
   have tkk:TK H6 (L2.upd G2 p3 (.lst (v3++wl))):=fun b xs h=>tkU _ _ (kT kG2 tG (tk _ _ h) (fun _ z=>by cases z))
   have g33:L2.upd G2 p3 (.lst (v3++wl)) p3=_:=aC
   have g43:L2.upd G2 p3 (.lst (v3++wl)) p4=_:=(aI ne34).trans g42
   have nlr:lr≠p3:=fun z=>by subst z; rw [g35] at hlr; cases hlr
   have glr3:L2.upd G2 p3 (.lst (v3++wl)) lr=_:=(aI nlr).trans glr
   have q33:Paired (cE (L2.upd G2 p3 (.lst (v3++wl)))) (v3++wl) ((T++L).map (bN u)):=by
    rw [map_append]
    exact Pd.app (Pd.imp p3' fun v f x=>let ⟨q,e,g⟩:=x; ⟨q,e,tkU _ _ g⟩) (Pd.imp pl' fun v f x=>let ⟨q,e,g⟩:=x; ⟨q,e,tkU _ _ g⟩)
   generalize L2.upd G2 p3 (.lst (v3++wl))=G3 at k3 t3 tkk g33 g43 glr3 q33 ⊢
   have gx3:=tkk _ _ gx
   have el:((v3++wl).length:Int)=((T++L).length:Nat):=by rw [length_append,length_append,l3,ll]
   have hnot:n∉es.map (·.1):=by
    rw [hM.keys]
    intro z
    exact absurd (hlt n z) (lt_irrefl _)
   have hel:es.length<=18:=by
    have e2:=congrArg List.length hM.keys
    rw [length_map,length_take] at e2
    omega
   w_fin
   refine XA (k:=DZ (bN u n)) g43 gx3 (by unfold fM; rw [length_map]; omega) ?_
   rw [el,IJ hu hnot]
   have k4:=k3.ou (o:=.dT (fM u (es++[(n,(T++L).length)]))) hp4n
   have t4:=LT.dT (ys:=fM u (es++[(n,(T++L).length)])) t3 g43
   have tk4:TK G3 (L2.upd G3 p4 (.dT (fM u (es++[(n,(T++L).length)])))):=fun b xs h=>by rw [aI (cD h g43 (by intro z; cases z))]; exact h
   have g44:L2.upd G3 p4 (.dT (fM u (es++[(n,(T++L).length)]))) p4=_:=aC
   have g34':L2.upd G3 p4 (.dT (fM u (es++[(n,(T++L).length)]))) p3=_:=(aI (Ne.symm ne34)).trans g33
   have nl4:lr≠p4:=fun z=>by subst z; rw [g45] at hlr; cases hlr
   have glr4:L2.upd G3 p4 (.dT (fM u (es++[(n,(T++L).length)]))) lr=_:=(aI nl4).trans glr3
   generalize L2.upd G3 p4 (.dT (fM u (es++[(n,(T++L).length)])))=G4 at k4 t4 tk4 g44 g34' glr4 ⊢
   w_fin
   exact ⟨n,T++L,_,.ref tx,_,_,_,_,_,_,rfl,k4,t4,glr4,fun b xs h=>tk4 _ _ (tkk _ _ h),⟨_,g34',Pd.imp q33 fun v f x=>let ⟨q,e,g⟩:=x; ⟨q,e,tk4 _ _ g⟩⟩,g44,⟨tx,rfl,tk4 _ _ gx3⟩,by rw [htk]; exact .snoc hM han hL⟩
  ·rintro σ G ⟨a,T,es,va,o6,o7,o8,o9,o10,o11,rfl,kG,tG,hlG,tk,⟨v3,g3',p3'⟩,h4,ha,hM⟩
   rw [lmv,take_length] at hM
   have hlen:=hM.len
   have l3:=Paired.length p3'
   rw [length_map] at l3
   refine RC ?_
   refine zQ ?_
   refine FV (fun σ F=>σ=[some (.ref l),some (.ref ds),some (.bl tw),some (.ref p3),some (.ref p4),some va,o6,some (.int (dQ tw)),o8,o9,o10,o11]/\F=G) ?_ ?_
   ·rintro σ F ⟨rfl,rfl⟩
    have tw2:1<=dQ tw/\dQ tw<=2:=by cases tw <;> decide
    have ha9:a<=900:=by
     rcases hM.last with ⟨_,e⟩|e
     ·omega
     ·exact ns9 a e
    have sm1:Sm 60000000 (v3.length:Int):=Sm.mono (m:=100) (Sm.of (by omega) (by show (v3.length:Int) < ((2 ^ 100:Nat):Int); omega)) (by decide)
    have sm2:Sm 60000000 (dQ tw:Int):=Sm.mono (m:=100) (Sm.of (by omega) (by show (dQ tw:Int) < ((2 ^ 100:Nat):Int); omega)) (by decide)
    w_fin
    rw [l3,← Int.natCast_mul]
    refine lY (fun c=>?_) (fun c=>?_)
    ·w_fin
     refine WY (i:=120) (by decide) fun z hz=>?_
     w_fin
     exact fun _=>And.intro (show 1<=sizeLine by rw [sizeLine_eq]; decide) (q2 ns a T es F msh hM (by omega) kG tG)
    have c120:T.length * dQ tw<=120:=by omega
    have tl120:T.length<=120:=le_trans (Nat.le_mul_of_pos_right _ (by omega)) c120
    w_fin
    cases T with
   |nil =>
     cases p3'
     refine ⟨false,.inl ⟨_,bS.of g3',rfl⟩,?_⟩
     w_fin
     exact And.intro (show 1<=sizeLine by rw [sizeLine_eq]; decide) (q3 ns a es F msh hM kG tG)
   |cons t0 tr =>
    have hT0:t0::tr≠[]:=cons_ne_nil _ _
    generalize t0::tr=T at *
    have hv0:v3≠[]:=fun z=>by
     rw [z] at l3
     exact hT0 (length_eq_zero_iff.mp l3.symm)
    refine ⟨true,.inl ⟨_,bS.of g3',by cases v3 with
    |nil=>exact absurd rfl hv0
    |cons _ _=>rfl⟩,?_⟩
    w_fin
    refine bU fun p8 hp8=>?_
    have hp8H:H p8=none:=PM kG tG hp8
    obtain ⟨F8,zE,s8,g8⟩:=HD hp8 (.lst [])
    rw [zE]
    have t8:=cQ.same tG s8
    have g38:=s8 _ _ g3'
    have g48:=s8 _ _ h4
    have pv8:=Pd.imp p3' (G:=cE F8) fun v f x=>cE.same x s8
    have k8:Kp tT H F8:=kG.trans s8.kp
    have n38:p3≠p8:=fun z=>by subst z; rw [hp8] at g3'; cases g3'
    have n48:p4≠p8:=fun z=>by subst z; rw [hp8] at h4; cases h4
    w_fin
    refine ⟨p3,rfl,⟨_,bS.of g38⟩,?_⟩
    refine FQ (xs:=v3) (fun i σ G=>∃ (o9 o10 o11:Option V) (rv:List V),σ=[some (.ref l),some (.ref ds),some (.bl tw),some (.ref p3),some (.ref p4),some va,o6,some (.int (dQ tw)),some (.ref p8),o9,o10,o11]/\Kp tT H G/\LT G/\G p3=some (.lst v3)/\G p4=some (.dT (fM u es))/\TK F8 G/\G p8=some (.lst rv)/\Paired (DV u G) rv (iA (T.take i) (dQ tw)))
     ⟨_,_,_,[],rfl,k8,t8,g38,g48,fun _ _ h=>h,g8,.nil⟩ ?_ ?_ ?_
    ·rintro i σ G hi ⟨o9,o10,o11,rv,rfl,_,_,hg3,_⟩
     exact bS.of hg3
    ·rintro i x T' σ G hx hT' ⟨o9,o10,o11,rv,rfl,kG1,tG1,hg3,hg4,tk1,hg8,prv⟩
     obtain ⟨fx,hfx,tx,rfl,gx⟩:=Paired.at pv8 hx
     rw [List.getElem?_map] at hfx
     obtain ⟨m,hm9,rfl⟩:=Option.map_eq_some_iff.mp hfx
     have hi:i < T.length:=(List.getElem?_eq_some_iff.mp hm9).1
     obtain ⟨G2,zE,s2,ht2⟩:=HD hT' (.tup [.int i,.ref tx])
     rw [zE]
     have gxG:=s2 _ _ (tk1 _ _ gx)
     have hg82:=s2 _ _ hg8
     w_fin
     refine ⟨i,rfl,by omega,fun G3 s3=>?_⟩
     w_fin
     refine ⟨i+1,by rw [Int.natCast_succ],by omega,fun G4 s4=>?_⟩
     have s24:=(s2.trans s3).trans s4
     w_fin
     refine gO fun t5 ht5=>?_
     have s5:=s24.trans (aJ.new (o:=.tup [.str (gW i),.str (gW (i+1)),.ref tx]) ht5)
     have g5:=aC (H:=G4) (a:=t5) (o:=.tup [.str (gW i),.str (gW (i+1)),.ref tx])
     generalize L2.upd G4 t5 (.tup [.str (gW i),.str (gW (i+1)),.ref tx])=G5 at s5 g5 ⊢
     w_fin
     refine bU fun p6 hp6=>?_
     have s6:=s5.trans (aJ.new (o:=.lst [.ref t5]) hp6)
     have g56:L2.upd G5 p6 (.lst [.ref t5]) t5=_:=bB hp6 g5
     have g6:=aC (H:=G5) (a:=p6) (o:=.lst [.ref t5])
     generalize L2.upd G5 p6 (.lst [.ref t5])=G6 at s6 g56 g6 ⊢
     w_fin
     refine ⟨p6,(dQ tw:Int),[.ref t5],rfl,rfl,g6,by omega,by omega,by rw [sizeLine_eq]; show 1 * _<=_; omega,fun p7 hp7=>?_⟩
     rw [rQ,Int.toNat_natCast]
     have s7:=s6.trans (aJ.new (o:=.lst (List.replicate (dQ tw) (.ref t5))) hp7)
     have g57:L2.upd G6 p7 (.lst (List.replicate (dQ tw) (.ref t5))) t5=_:=bB hp7 g56
     have g7:=aC (H:=G6) (a:=p7) (o:=.lst (List.replicate (dQ tw) (.ref t5)))
     generalize L2.upd G6 p7 (.lst (List.replicate (dQ tw) (.ref t5)))=G7 at s7 g57 g7 ⊢
     w_fin
     have lrv:=Paired.length prv
     rw [nZ] at lrv
     have ltk:(T.take i).length * dQ tw<=T.length * dQ tw:=Nat.mul_le_mul_right _ (by rw [length_take]; omega)
     have g87:=s7 _ _ hg8
     refine ON g87 g7 (by rw [length_replicate]; omega) ?_
     have tkU:TK G7 (L2.upd G7 p8 (.lst (rv++List.replicate (dQ tw) (.ref t5)))):=TK.lst g87
     have kU:Kp tT H (L2.upd G7 p8 (.lst (rv++List.replicate (dQ tw) (.ref t5)))):=(kG1.trans s7.kp).ou hp8H
     have tU:LT (L2.upd G7 p8 (.lst (rv++List.replicate (dQ tw) (.ref t5)))):=LT.lst (cQ.same tG1 s7) g87
     have gU:L2.upd G7 p8 (.lst (rv++List.replicate (dQ tw) (.ref t5))) p8=_:=aC
     have gU3:L2.upd G7 p8 (.lst (rv++List.replicate (dQ tw) (.ref t5))) p3=_:=(aI n38).trans (s7 _ _ hg3)
     have gU4:L2.upd G7 p8 (.lst (rv++List.replicate (dQ tw) (.ref t5))) p4=_:=(aI n48).trans (s7 _ _ hg4)
     generalize L2.upd G7 p8 (.lst (rv++List.replicate (dQ tw) (.ref t5)))=G8 at tkU kU tU gU gU3 gU4 ⊢
     have tkA:TK G G8:=fun b xs h=>tkU _ _ (s7 _ _ h)
     w_fin
     refine ⟨_,_,_,_,rfl,kU,tU,gU3,gU4,fun b xs h=>tkA _ _ (tk1 _ _ h),gU,?_⟩
     rw [show T.take (i+1)=T.take i++[m] by rw [take_add_one,hm9]; rfl,qF]
     refine Pd.app (Pd.imp prv fun v x r=>r.tk tkA) (xP ⟨t5,tx,rfl,?_,tkA _ _ (tk1 _ _ gx)⟩ _)
     rw [show (T.take i).length=i by rw [length_take]; omega]
     exact tkU _ _ g57
    ·rintro σ G ⟨o9,o10,o11,rv,rfl,kG1,tG1,hg3,hg4,tk1,hg8,prv⟩
     rw [l3,take_length] at prv
     obtain ⟨kvs,hk,pk⟩:=DT.tk hs kG1 hT
     have hlk:=Paired.length pk
     have ndk:=EV pk hnd
     w_fin
     refine zU ds (jC.dK hk) ?_
     w_fin
     refine ⟨rfl,kvs,hk,fun o'=>?_⟩
     have hfz:L2.upd G ds (.frz o' (.dK kvs)) ds=some (.frz o' (.dK kvs)):=aC
     have back:∀ G',aJ (L2.upd G ds (.frz o' (.dK kvs))) G'->aJ G (melt ds G'):=fun G s=>vO hk s
     have tkF:TK G (L2.upd G ds (.frz o' (.dK kvs))):=TK.dic hk
     have g4F:L2.upd G ds (.frz o' (.dK kvs)) p4=_:=(aI (cD hg4 hk (by intro z; cases z))).trans hg4
     generalize L2.upd G ds (.frz o' (.dK kvs))=HF at hfz back tkF g4F ⊢
     have hvl:(cF sh es).length=sh.length:=by unfold cF; rw [length_map]
     refine uT (by omega) (fun acc i ys G'=>Kp acc HF G'/\nB G' ys ((cF sh es).take i)) (fun acc h=>⟨Kp.new h,.nil⟩) ?_ ?_ ?_
     ·intro acc i ys G' hacc _ ⟨kp,_⟩
      exact kp _ _ (aB hfz hacc) hfz
     ·rintro acc i ys G' k0 v0 hacc hx hyl hG ⟨kp,pr⟩
      have dG:=kp _ _ (aB hfz hacc) hfz
      have g4G:=kp _ _ (aB g4F hacc) g4F
      obtain ⟨x,hxs,ek,tq,rfl,gq⟩:=Paired.at pk hx
      have gqG:=kp _ _ (aB (tkF _ _ gq) hacc) (tkF _ _ gq)
      have xm:x.2∈es.map (·.1):=by
       rw [hM.keys]
       exact (hmem _).mpr ⟨x,mem_of_getElem? hxs,rfl⟩
      obtain ⟨c1,e1,e2,e3⟩:=vZ hu xm
      have hc1:=hM.le _ e2
      have hvx:(cF sh es)[i]?=some (Sum.inr x.1,V.str (gW c1)):=by
       unfold cF
       rw [List.getElem?_map,hxs]
       show some (Sum.inr x.1,V.str (gW ((es.lookup x.2).getD 0)))=_
       rw [e1]
       rfl
      cases (show k0=Sum.inr x.1 from ek)
      w_fin
      refine FU (.inr ⟨o',dG⟩) (eX ndk hx) ?_
      w_fin
      refine XB (k:=DZ (bN u x.2)) (.inl g4G) gqG e3 ?_
      w_fin
      refine ⟨c1,rfl,by have:c1<=T.length:=hc1; omega,fun G2 s2=>?_⟩
      w_fin
      refine gO fun t5 ht5=>?_
      have s5:=s2.trans (aJ.new (o:=.tup [kV (Sum.inr x.1),.str (gW c1)]) ht5)
      have g5:=aC (H:=G2) (a:=t5) (o:=.tup [kV (Sum.inr x.1),.str (gW c1)])
      generalize L2.upd G2 t5 (.tup [kV (Sum.inr x.1),.str (gW c1)])=G5 at s5 g5 ⊢
      have hG5:=s5 _ _ hG
      refine jN (List.getElem?_eq_some_iff.mp hx).1 hyl hG5 ⟨(kp.trans s5.kp).trans Kp.upd,?_⟩
      have tkU:TK G5 (L2.upd G5 acc (.lst (ys++[.ref t5]))):=TK.lst hG5
      rw [take_add_one,hvx]
      exact Pd.snoc (Pd.imp pr fun v kv ⟨a,e,g⟩=>⟨a,e,tkU _ _ (s5 _ _ g)⟩) ⟨t5,rfl,tkU _ _ g5⟩
     ·rintro acc ys G' hacc hG hyl ⟨kp,pr⟩
      have sG:aJ G (melt ds G'):=back G' fun b o e=>kp _ _ (aB e hacc) e
      have hGm:melt ds G' acc=some (.lst ys):=cZ (fun _ _ z=>nomatch z) hG
      have pr2:nB (melt ds G') ys ((cF sh es).take kvs.length):=Pd.imp pr fun v kv ⟨a,e,g⟩=>⟨a,e,TK.melt _ _ g⟩
      generalize melt ds G'=G1 at sG hGm pr2 ⊢
      rw [take_of_length_le (by omega)] at pr2
      w_fin
      refine ⟨acc,ys,cF sh es,rfl,hGm,pr2,by omega,fun dh hdh=>?_⟩
      rw [qI (by rw [nil_append]; exact sX hnd),nil_append]
      have sd:=sG.trans (aJ.new (o:=.dK (cF sh es)) hdh)
      have gd:=aC (H:=G1) (a:=dh) (o:=.dK (cF sh es))
      generalize L2.upd G1 dh (.dK (cF sh es))=G2 at sd gd ⊢
      w_fin
      refine gO fun pr hpr=>?_
      have se:=sd.trans (aJ.new (o:=.tup [.ref p8,.ref dh]) hpr)
      have ge:L2.upd G2 pr (.tup [.ref p8,.ref dh]) dh=_:=bB hpr gd
      have gp:=aC (H:=G2) (a:=pr) (o:=.tup [.ref p8,.ref dh])
      generalize L2.upd G2 pr (.tup [.ref p8,.ref dh])=G3 at se ge gp ⊢
      w_fin
      exact q4 ns a T es pr p8 dh rv G3 msh hM hT0 c120 (kG1.trans se.kp) (cQ.same tG1 se) gp hp8H (PM kG1 tG1 (sG.free hdh)) (se _ _ hg8) (Pd.imp prv fun v x r=>r.tk fun b xs h=>se _ _ h) ge
   ·intro NX hN
    cases tw
    ·w_fin
     exact hN _ _ ⟨rfl,rfl⟩
    ·w_fin
     exact hN _ _ ⟨rfl,rfl⟩
theorem xT (T:Bl mg) (d:Df K mg "_law_cell_at" lB ["_law_script","_law_k"]) (W:kP mg xt x1 x3 x4) (R_NoSum:bX K xt x1 x3 x4 x3 3) (R1:bX K xt x1 x3 x4 x1 1) (R4:bX K xt x1 x3 x4 x4 4):bV P w K mg base (k+1) "_law_cell_at" ["_law_script","_law_k"] (xA K):=by
 refine bV.of d xE (fun vs H Q E h=>?_) (fun f cdv A outer s H vs Q E hr h=>?_)
 ·obtain ⟨a,ns,k',rfl,_⟩:=h
  rfl
 ·obtain ⟨a,ns,k',rfl,hS,h0,q⟩:=h
  refine ⟨_,(@aA _ _ _ _ _ (@cY _ _ _ _ _ _ _ _ (@aN _ _ _ _ _ _ _ _ vE (pv 1) (@aX _ _ _ _ _ _ _ _ _ kL rfl T.z_len fZ (@dD _ _ _ (pv 0) (by rfl)) (by decide) (by decide) (by rfl) (by rfl)) (aU _)) (@aF _ _ _ (@aQ _ _ _ _ (@bQ _ _ _ _ _ _ _ cP (pv 0) (pv 1) (fun _ _=>rfl)))) (@bH _)) (@aF _ _ _ (@aQ _ _ _ _ (@aD _ _ _ _)))),?_⟩
  w_fin
  refine FP hS ?_
  w_fin
  refine lY (fun c=>?_) (fun c=>?_)
  ·rw [length_map] at c
   obtain ⟨z,_,hz⟩:=Aq (ns:=ns) h0 c
   w_fin
   refine WS hS hz ?_
   w_fin
   exact q z
  ·w_fin
   exact q 0
theorem GZ (T:Bl mg) (d:Df K mg "_law_mixed" rJ ["_law_cell","_law_k"]) (W:kP mg xt x1 x3 x4) (R_NoSum:bX K xt x1 x3 x4 x3 3) (R1:bX K xt x1 x3 x4 x1 1) (R4:bX K xt x1 x3 x4 x4 4):bV P w K mg base (k+1) "_law_mixed" ["_law_cell","_law_k"] mF:=by
 refine bV.of d FC (fun vs H Q E h=>?_) (fun f cdv A outer s H vs Q E hr h=>?_)
 ·obtain ⟨c,k',rfl,_⟩:=h
  rfl
 ·obtain ⟨c,k',rfl,h0,h1,q⟩:=h
  refine ⟨_,(@aF _ _ _ (@aQ _ _ _ _ (@aH _ _ _ _ _ _ _ _ cH (@aH _ _ _ _ _ _ _ _ aW (@aH _ _ _ _ _ _ _ _ aW (@aH _ _ _ _ _ _ _ _ bO (@aH _ _ _ _ _ _ _ _ cH (@aH _ _ _ _ _ _ _ _ bO (pv 0) (@aD _ _ _ _)) (@aD _ _ _ _)) (@aD _ _ _ _)) (@aH _ _ _ _ _ _ _ _ bO (@aH _ _ _ _ _ _ _ _ bO (@aD _ _ _ _) (pv 1)) (pv 1))) (@aH _ _ _ _ _ _ _ _ bO (@aD _ _ _ _) (pv 1))) (@aD _ _ _ _)))),?_⟩
  w_fin
  have h:=Int.emod_nonneg (c * 69621) (show (2147483629:Int)≠0 by decide)
  have h':=Int.emod_lt_of_pos (c * 69621) (show (0:Int) < 2147483629 by decide)
  generalize c * 69621 % 2147483629=z at *
  w_fin
  exact q _ (Int.emod_nonneg _ (by decide)) (Int.emod_lt_of_pos _ (by decide))
theorem HA (T:Bl mg) (d:Df K mg "_law_great" rL ["_law_cell"]) (W:kP mg xt x1 x3 x4) (R_NoSum:bX K xt x1 x3 x4 x3 3) (R1:bX K xt x1 x3 x4 x1 1) (R4:bX K xt x1 x3 x4 x4 4) (o0s:bV P w K mg base k "_law_mixed" ["_law_cell","_law_k"] mF):bV P w K mg base (k+1) "_law_great" ["_law_cell"] zH:=by
 refine bV.of d FD (fun vs H Q E h=>?_) (fun f cdv A outer s H vs Q E hr h=>?_)
 ·obtain ⟨c,rfl,_⟩:=h
  rfl
 ·obtain ⟨c,rfl,q⟩:=h
  refine ⟨_,(@aA _ _ _ _ _ (@cY _ _ _ _ _ _ _ _ (@PW.pt _ _ _ (@GC _ _ _ _ _ _ _ (@aN _ _ _ _ _ _ _ _ vE (pv 0) (@aD _ _ _ _) (aU _)) (@xL _ _ _ _ (@aN _ _ _ _ _ _ _ _ lK (pv 0) (@aH _ _ _ _ _ _ _ _ GU (@aD _ _ _ _) (@aD _ _ _ _)) (aU _))))) (@aF _ _ _ (@aQ _ _ _ _ (pv 0))) (@bH _)) (@aF _ _ _ (@aQ _ _ _ _ (@aH _ _ _ _ _ _ _ _ aW (@aK _ _ _ _ _ _ _ _ _ _ o0s hr rfl (@dX _ _ _ _ _ (pv 0) (@aD _ _ _ _) (by rfl) (by rfl)) (by decide) (by rfl) (by rfl)) (@aH _ _ _ _ _ _ _ _ bO (@aD _ _ _ _) (@aH _ _ _ _ _ _ _ _ aW (@aK _ _ _ _ _ _ _ _ _ _ o0s hr rfl (@dX _ _ _ _ _ (pv 0) (@aD _ _ _ _) (by rfl) (by rfl)) (by decide) (by rfl) (by rfl)) (@aH _ _ _ _ _ _ _ _ bO (@aD _ _ _ _) (@aK _ _ _ _ _ _ _ _ _ _ o0s hr rfl (@dX _ _ _ _ _ (pv 0) (@aD _ _ _ _) (by rfl) (by rfl)) (by decide) (by rfl) (by rfl))))))))),?_⟩
  w_fin
  refine lY (fun c0=>?_) (fun c0=>?_)
  ·w_fin
   exact q _
  ·w_fin
   refine lY (fun c1=>?_) (fun c1=>?_)
   ·w_fin
    exact q _
   ·w_fin
    refine ⟨c,41,rfl,by decide,by decide,fun r1 a1 b1=>?_⟩
    w_fin
    refine ⟨c,43,rfl,by decide,by decide,fun r2 a2 b2=>?_⟩
    w_fin
    refine ⟨c,47,rfl,by decide,by decide,fun r3 a3 b3=>?_⟩
    w_fin
    exact q _
theorem xR (T:Bl mg) (d:Df K mg "_law_numbers" kZ ["_law_script","_law_first","_law_many","_law_size"]) (W:kP mg xt x1 x3 x4) (R_NoSum:bX K xt x1 x3 x4 x3 3) (R1:bX K xt x1 x3 x4 x1 1) (R4:bX K xt x1 x3 x4 x4 4) (o0n:bV P w K mg base k "_law_cell_at" ["_law_script","_law_k"] (xA K)) (o0s:bV P w K mg base k "_law_mixed" ["_law_cell","_law_k"] mF):bV P w K mg base (k+1) "_law_numbers" ["_law_script","_law_first","_law_many","_law_size"] (pQ K):=by
 refine bV.of d fA (fun vs H Q E h=>?_) (fun f cdv A outer s H vs Q E hr h=>?_)
 ·obtain ⟨a,ns,f0,m,z,rfl,_⟩:=h
  rfl
 ·obtain ⟨a,ns,f0,m,z,rfl,hS,hf0,hf1,hm0,hm,z0,z1,q⟩:=h
  refine ⟨_,(@aA _ _ _ _ _ (@aG _ _ (i:=4) _ _ _ _ fA.nd rfl (by w_left) (@bF _ _ _ _ (@fD _)) (by rfl) (by w_means)) (@aA _ _ _ _ _ (@aG _ _ (i:=5) _ _ _ _ fA.nd rfl (by w_left) (@aK _ _ _ _ _ _ _ _ _ _ o0n hr rfl (@dX _ _ _ _ _ (pv 0) (pv 1) (by rfl) (by rfl)) (by decide) (by rfl) (by rfl)) (by rfl) (by w_means)) (@aA _ _ _ _ _ (@gD _ _ _ _ _ _ PassesOwn.never (@PW.pt _ _ _ (@jG _ _ _ _ _ _ _ (@aN _ _ _ _ _ _ _ _ (lE hr.units) (@aH _ _ _ _ _ _ _ _ cH (@aK _ _ _ _ _ _ _ _ _ _ o0n hr rfl (@dX _ _ _ _ _ (pv 0) (@aD _ _ _ _) (by rfl) (by rfl)) (by decide) (by rfl) (by rfl)) (@aD _ _ _ _)) (@aD _ _ _ _) (aU _)) (@jG _ _ _ _ _ _ _ (@aN _ _ _ _ _ _ _ _ (sN hr.units) (pv 5) (@aD _ _ _ _) (aU _)) (@iP _ _ _ _ (@aN _ _ _ _ _ _ _ _ vE (@aX _ _ _ _ _ _ _ _ _ kL rfl T.z_len fZ (@dD _ _ _ (pv 4) (by rfl)) (by decide) (by decide) (by rfl) (by rfl)) (pv 2) (aU _)))))) (@aA _ _ _ _ _ (@dU _ _ _ _ (@jX _ _ _ _ _ _ _ _ _ _ _ _ plainAttrs_list PySem.F.slot_list_append PySem.F.type_list_append dM (pv 4) (@dD _ _ _ (@aH _ _ _ _ _ _ _ _ cH (pv 5) (pv 3)) (by rfl)) (by rfl) (by rfl) (by rfl) (by rfl) (by rfl)) (by rfl)) (@aF _ _ _ (@aG _ _ (i:=5) _ _ _ _ fA.nd rfl (by w_left) (@aH _ _ _ _ _ _ _ _ bE (pv 5) (pv 3)) (by rfl) (by w_means))))) (@aA _ _ _ _ _ (@cO _ _ _ _ _ _ _ _ PassesOwn.never rfl (@lD _ _ _ _ _ _ _ rfl T.z_range (@dX _ _ _ _ _ (@aX _ _ _ _ _ _ _ _ _ kL rfl T.z_len fZ (@dD _ _ _ (pv 4) (by rfl)) (by decide) (by decide) (by rfl) (by rfl)) (pv 2) (by rfl) (by rfl)) (by rfl) (by rfl)) (@aS _ _ (i:=6) _ fA.nd rfl (by w_left) (by w_means)) (@aF _ _ _ (@dU _ _ _ _ (@jX _ _ _ _ _ _ _ _ _ _ _ _ plainAttrs_list PySem.F.slot_list_append PySem.F.type_list_append dM (pv 4) (@dD _ _ _ (@aH _ _ _ _ _ _ _ _ cH (@aK _ _ _ _ _ _ _ _ _ _ o0s hr rfl (@dX _ _ _ _ _ (@aK _ _ _ _ _ _ _ _ _ _ o0n hr rfl (@dX _ _ _ _ _ (pv 0) (@aH _ _ _ _ _ _ _ _ aW (pv 1) (pv 6)) (by rfl) (by rfl)) (by decide) (by rfl) (by rfl)) (pv 6) (by rfl) (by rfl)) (by decide) (by rfl) (by rfl)) (pv 3)) (by rfl)) (by rfl) (by rfl) (by rfl) (by rfl) (by rfl)) (by rfl))) (by intro _; rfl)) (@aF _ _ _ (@aQ _ _ _ _ (pv 4))))))),?_⟩
  obtain ⟨m,rfl⟩:∃ m':Nat,m=m':=⟨m.toNat,by omega⟩
  rw [Int.toNat_natCast] at q
  w_fin
  refine bU fun p hp=>?_
  have hS1:bS K (L2.upd H p (.lst [])) a (ns.map V.int):=(aJ.new hp).seq hS
  w_fin
  refine ⟨a,ns,f0,rfl,hS1,hf0,fun c0=>?_⟩
  w_fin
  refine FV (s:=qZ _ _) (fun σ H'=>∃ (c':Int) (o:Option V) (xs:List Int),σ=[some (.ref a),some (.int f0),some (.int m),some (.int z),some (.ref p),some (.int c'),o]/\Kp p H H'/\H' p=some (.lst (xs.map V.int))/\xs.length<=m/\∀ x∈xs,0<=x/\x < z) ?_ (fun NX hNX=>?_)
  ·rintro σ H1 ⟨c',o,xs,rfl,kp,h1,hl,hx⟩
   w_fin
   refine ⟨_,_,rfl,⟨by omega,by rw [length_map]; omega,by omega,by omega⟩,?_⟩
   rw [length_map]
   have hN:((m:Int) - (xs.length:Int)).toNat=m - xs.length:=by omega
   rw [hN]
   refine rW (fun i σ H'=>∃ (c':Int) (o:Option V) (ys:List Int),σ=[some (.ref a),some (.int f0),some (.int m),some (.int z),some (.ref p),some (.int c'),o]/\Kp p H H'/\H' p=some (.lst (ys.map V.int))/\ys.length=xs.length+i/\∀ x∈ys,0<=x/\x < z) ⟨_,_,xs,rfl,kp,h1,rfl,hx⟩ ?_ ?_
   ·rintro i σ H2 hi ⟨c2,o2,ys,rfl,kp2,h2,hl2,hx2⟩
    have s2:aJ H H2:=fun b o h=>kp2 _ _ (aB h hp) h
    w_fin
    refine ⟨a,ns,_,rfl,s2.seq hS,by omega,fun r=>?_⟩
    w_fin
    refine ⟨r,_,rfl,by omega,by omega,fun r2 a2 b2=>?_⟩
    w_fin
    refine jU h2 (by rw [length_map]; omega) ?_
    w_fin
    refine ⟨_,_,ys++[r2 % z],rfl,kp2.trans Kp.upd,by rw [aC]; simp,by rw [length_append,hl2]; rfl,fun x hx'=>?_⟩
    rcases mem_append.mp hx' with h|h
    ·exact hx2 x h
    ·rw [mem_singleton.mp h]
     exact ⟨Int.emod_nonneg _ (by omega),Int.emod_lt_of_pos _ z0⟩
   ·rintro σ H2 ⟨c2,o2,ys,rfl,kp2,h2,hl2,hx2⟩
    w_fin
    exact q p H2 ys hp (fun b o h=>kp2 _ _ (aB h hp) h) h2 (by omega) hx2
  ·refine mM (fun σ H'=>∃ (c':Int) (o:Option V) (xs:List Int),σ=[some (.ref a),some (.int f0),some (.int m),some (.int z),some (.ref p),some (.int c'),o]/\Kp p H H'/\H' p=some (.lst (xs.map V.int))/\xs.length<=m/\∀ x∈xs,0<=x/\x < z)
    (fun _ H'=>m - (match H' p with|some (.lst xs)=>xs.length|_=>0)) ⟨c0,_,[],rfl,Kp.new hp,aC,zero_le _,fun x hx=>by simp at hx⟩ ?_
   ·rintro σ H1 ⟨c',o,xs,rfl,kp,h1,hl,hx⟩
    have s1:aJ H H1:=fun b o h=>kp _ _ (aB h hp) h
    w_fin
    refine ⟨a,ns,0,rfl,s1.seq hS,Int.le_refl 0,fun r=>?_⟩
    w_fin
    refine lY (fun c1=>?_) (fun c1=>?_)
    ·w_fin
     refine lY (fun c2=>?_) (fun c2=>?_)
     ·w_fin
      exact hNX _ _ ⟨c',o,xs,rfl,kp,h1,hl,hx⟩
     ·w_fin
      rw [length_map]
      refine lY (fun c3=>?_) (fun c3=>?_)
      ·w_fin
       refine JZ ?_
       w_fin
       refine jU h1 (by rw [length_map]; omega) ?_
       w_fin
       refine ⟨⟨_,o,xs++[c' % z],rfl,kp.trans Kp.upd,by rw [aC]; simp,by rw [length_append]; simp; omega,fun x hx'=>?_⟩,?_⟩
       ·rcases mem_append.mp hx' with h|h
        ·exact hx x h
        ·rw [mem_singleton.mp h]
         exact ⟨Int.emod_nonneg _ (by omega),Int.emod_lt_of_pos _ z0⟩
       ·show m - (match L2.upd H1 p _ p with|some (.lst xs)=>xs.length|_=>0) < m - (match H1 p with|some (.lst xs)=>xs.length|_=>0)
        rw [aC,h1]
        show m - (xs.map V.int++[V.int (c' % z)]).length < m - (xs.map V.int).length
        rw [length_append,length_map]
        simp
        omega
      ·w_fin
       exact hNX _ _ ⟨c',o,xs,rfl,kp,h1,hl,hx⟩
    ·w_fin
     exact hNX _ _ ⟨c',o,xs,rfl,kp,h1,hl,hx⟩
theorem CG (T:Bl mg) (d:Df K mg "_law_lowest" nK ["_law_top","_law_bottom"]) (W:kP mg xt x1 x3 x4) (R_NoSum:bX K xt x1 x3 x4 x3 3) (R1:bX K xt x1 x3 x4 x1 1) (R4:bX K xt x1 x3 x4 x4 4):bV P w K mg base (k+1) "_law_lowest" ["_law_top","_law_bottom"] nF:=by
 refine bV.of d iN (fun vs H Q E h=>?_) (fun f cdv A outer s H vs Q E hr h=>?_)
 ·obtain ⟨t,b,rfl,_⟩:=h
  rfl
 ·obtain ⟨t,b,rfl,hb,hs1,hs2,q⟩:=h
  refine ⟨_,(@aA _ _ _ _ _ (@aG _ _ (i:=2) _ _ _ _ iN.nd rfl (by w_left) (@aX _ _ _ _ _ _ _ _ _ QB rfl T.z_abs IZ (@dD _ _ _ (pv 0) (by rfl)) (by decide) (by decide) (by rfl) (by rfl)) (by rfl) (by w_means)) (@aA _ _ _ _ _ (@aG _ _ (i:=3) _ _ _ _ iN.nd rfl (by w_left) (pv 1) (by rfl) (by w_means)) (@aA _ _ _ _ _ (@gD _ _ _ _ _ _ PassesOwn.never (@aN _ _ _ _ _ _ _ _ lK (pv 3) (@aD _ _ _ _) (aU _)) (@aF _ _ _ (@SD _ _ (i:=2) (j:=3) _ _ _ _ _ _ _ _ _ _ _ rfl iN.nd rfl rfl (by decide) rfl rfl (@dX _ _ _ _ _ (pv 3) (@aH _ _ _ _ _ _ _ _ cH (pv 2) (pv 3)) (by rfl) (by rfl)) rfl (by rfl)))) (@aF _ _ _ (@aQ _ _ _ _ (@dF _ _ _ _ _ (@dX _ _ _ _ _ (@aH _ _ _ _ _ _ _ _ bE (pv 0) (pv 2)) (@aH _ _ _ _ _ _ _ _ bE (pv 1) (pv 2)) (by rfl) (by rfl)))))))),?_⟩
  w_fin
  refine uB (fun σ H'=>∃ one other:Int,σ=[some (.int t),some (.int b),some (.int one),some (.int other)]/\H'=H/\0<=one/\0<=other/\Int.gcd one other=Int.gcd t b)
   (fun σ _=>match σ with|[_,_,_,some (.int z)]=>z.toNat|_=>0) ⟨_,_,rfl,rfl,by split <;> omega,by omega,?_⟩ ?_ ?_
  ·have e:(if t < 0 then -t else t)=(t.natAbs:Int):=by split <;> omega
   rw [e]
   simp [Int.gcd]
  ·rintro σ H' ⟨one,other,rfl,rfl,h1,h2,hg⟩
   w_fin
   refine lY (fun c=>?_) (fun c=>?_)
   ·w_fin
    refine ⟨⟨_,_,rfl,rfl,h2,Int.emod_nonneg _ (by omega),by rw [IB c]; exact hg⟩,?_⟩
    have:=Int.emod_lt_of_pos one c
    show (one % other).toNat < other.toNat
    omega
   ·have e:other=0:=by omega
    subst e
    have hb0:b≠0:=by omega
    have e1:one=(Int.gcd t b:Int):=by rw [← hg,Int.gcd_zero_right]; omega
    have hgb:(Int.gcd t b:Int).natAbs<=b.natAbs:=by
     have:=le_of_dvd (by omega) (Int.gcd_dvd_natAbs_right t b)
     omega
    have es:(Int.gcd t b:Int)=sg t b:=by unfold sg; rw [if_neg (by omega)]
    subst e1
    w_fin
    rw [es]
    have hc:∀ z,jD z (sg t b):=fun _=>⟨EW hb0,Sm.le (by rw [pX]; omega) hs2⟩
    refine fQ (hc _) ?_
    w_fin
    refine fQ (hc _) ?_
    w_fin
    refine gO fun p hp=>?_
    w_fin
    exact q p hp
  ·intro σ H Q Q' hQ h
   obtain ⟨v,e1,i,j,e2,e3,b',e4,q'⟩:=h
   exact ⟨v,e1,i,j,e2,e3,b',e4,hQ _ _ q'⟩
theorem ME (T:Bl mg) (d:Df K mg "_law_unit" xF ["_law_number"]) (W:kP mg xt x1 x3 x4) (R_NoSum:bX K xt x1 x3 x4 x3 3) (R1:bX K xt x1 x3 x4 x1 1) (R4:bX K xt x1 x3 x4 x4 4):bV P w K mg base (k+1) "_law_unit" ["_law_number"] EN:=by
 refine bV.of d KG (fun vs H Q E h=>?_) (fun f cdv A outer s H vs Q E hr h=>?_)
 ·obtain ⟨n,rfl,_⟩:=h
  rfl
 ·obtain ⟨n,rfl,q⟩:=h
  refine ⟨_,(@aF _ _ _ (@aQ _ _ _ _ (@bQ _ _ _ _ _ _ _ cP (@bF _ _ _ _ (@bI _ _ _ _ _ (@dF _ _ _ _ _ (@dX _ _ _ _ _ (@aD _ _ _ _) (@aD _ _ _ _) (by rfl) (by rfl))) (@bI _ _ _ _ _ (@dF _ _ _ _ _ (@dX _ _ _ _ _ (@aD _ _ _ _) (@aD _ _ _ _) (by rfl) (by rfl))) (@bI _ _ _ _ _ (@dF _ _ _ _ _ (@dX _ _ _ _ _ (@aD _ _ _ _) (@aD _ _ _ _) (by rfl) (by rfl))) (@vC _ _ _ _ _ _ _ (@dF _ _ _ _ _ (@dX _ _ _ _ _ (@aD _ _ _ _) (@aD _ _ _ _) (by rfl) (by rfl))) (@dF _ _ _ _ _ (@dX _ _ _ _ _ (@aD _ _ _ _) (@aD _ _ _ _) (by rfl) (by rfl))) (@dF _ _ _ _ _ (@dX _ _ _ _ _ (@aD _ _ _ _) (@aH _ _ _ _ _ _ _ _ aW (@aH _ _ _ _ _ _ _ _ GU (@aD _ _ _ _) (@aD _ _ _ _)) (@aD _ _ _ _)) (by rfl) (by rfl))) (by rfl) (by rfl) (by rfl)) (by rfl)) (by rfl)) (by rfl))) (@aH _ _ _ _ _ _ _ _ cH (pv 0) (@aD _ _ _ _)) (fun _ _=>rfl)))),?_⟩
  w_fin
  refine jF fun p0 H0 hp0 s0 g0=>?_
  w_fin
  refine jF fun p1 H1 hp1 s1 g1=>?_
  w_fin
  refine jF fun p2 H2 hp2 s2 g2=>?_
  w_fin
  refine jF fun p3 H3 hp3 s3 g3=>?_
  w_fin
  refine jF fun p4 H4 hp4 s4 g4=>?_
  w_fin
  refine KU ?_
  w_fin
  refine jF fun p5 H5 hp5 s5 g5=>?_
  w_fin
  refine eP fun p9 H9 hp9 s9 g9=>?_
  have r5:=s9
  have r4:=s5.trans r5
  have r3:=s4.trans r4
  have r2:=s3.trans r3
  have r1:=s2.trans r2
  have r0:=s1.trans r1
  have rH:=s0.trans r0
  have a0:=Int.emod_nonneg n (show (6:Int)≠0 by decide)
  have a1:=Int.emod_lt_of_pos n (show (0:Int) < 6 by decide)
  w_fin
  rcases (show n % 6=0∨n % 6=1∨n % 6=2∨n % 6=3∨n % 6=4∨n % 6=5 by omega) with e|e|e|e|e|e
  ·rw [e]
   refine bY g9 (v:=V.ref p0) rfl ?_
   w_fin
   exact q p0 (1,1) H9 ⟨by decide,by decide,by decide,by decide⟩ (hp0) rH (r0 _ _ g0)
  ·rw [e]
   refine bY g9 (v:=V.ref p1) rfl ?_
   w_fin
   exact q p1 (1,2) H9 ⟨by decide,by decide,by decide,by decide⟩ ((s0.free hp1)) rH (r1 _ _ g1)
  ·rw [e]
   refine bY g9 (v:=V.ref p2) rfl ?_
   w_fin
   exact q p2 (2,3) H9 ⟨by decide,by decide,by decide,by decide⟩ ((s0.free (s1.free hp2))) rH (r2 _ _ g2)
  ·rw [e]
   refine bY g9 (v:=V.ref p3) rfl ?_
   w_fin
   exact q p3 (1,12) H9 ⟨by decide,by decide,by decide,by decide⟩ ((s0.free (s1.free (s2.free hp3)))) rH (r3 _ _ g3)
  ·rw [e]
   refine bY g9 (v:=V.ref p4) rfl ?_
   w_fin
   exact q p4 (5,1) H9 ⟨by decide,by decide,by decide,by decide⟩ ((s0.free (s1.free (s2.free (s3.free hp4))))) rH (r4 _ _ g4)
  ·rw [e]
   refine bY g9 (v:=V.ref p5) rfl ?_
   w_fin
   exact q p5 (7,1000000000000+1) H9 ⟨by decide,by decide,by decide,by decide⟩ ((s0.free (s1.free (s2.free (s3.free (s4.free hp5)))))) rH (r5 _ _ g5)
theorem GX (T:Bl mg) (d:Df K mg "_law_sizes" rG ["_law_numbers_here"]) (W:kP mg xt x1 x3 x4) (R_NoSum:bX K xt x1 x3 x4 x3 3) (R1:bX K xt x1 x3 x4 x1 1) (R4:bX K xt x1 x3 x4 x4 4):bV P w K mg base (k+1) "_law_sizes" ["_law_numbers_here"] (zF K):=by
 refine bV.of d jR (fun vs H Q E h=>?_) (fun f cdv A outer s H vs Q E hr h=>?_)
 ·obtain ⟨p,xs,rfl,_⟩:=h
  rfl
 ·obtain ⟨p,xs,rfl,hp,hx,hl,h0,q⟩:=h
  refine ⟨_,(@aA _ _ _ _ _ (@aG _ _ (i:=1) _ _ _ _ jR.nd rfl (by w_left) (@bF _ _ _ _ (@fD _)) (by rfl) (by w_means)) (@aA _ _ _ _ _ (@cO _ _ _ _ _ _ _ _ PassesOwn.never rfl (@cB _ _ _ _ (pv 0)) (@aS _ _ (i:=2) _ jR.nd rfl (by w_left) (by w_means)) (@aA _ _ _ _ _ (@aG _ _ (i:=3) _ _ _ _ jR.nd rfl (by w_left) (@aH _ _ _ _ _ _ _ _ aW (@aD _ _ _ _) (@aH _ _ _ _ _ _ _ _ cH (pv 2) (@bQ _ _ _ _ _ _ _ cP (@bF _ _ _ _ (@dX _ _ _ _ _ (@aD _ _ _ _) (@aD _ _ _ _) (by rfl) (by rfl))) (@aH _ _ _ _ _ _ _ _ cH (@aH _ _ _ _ _ _ _ _ bE (pv 2) (@aD _ _ _ _)) (@aD _ _ _ _)) (fun _ _=>rfl)))) (by rfl) (by w_means)) (@aF _ _ _ (@cY _ _ _ _ _ _ _ _ (@aN _ _ _ _ _ _ _ _ sM (pv 3) (pv 1) (by with_unfolding_all rfl)) (@aF _ _ _ (@dU _ _ _ _ (@jX _ _ _ _ _ _ _ _ _ _ _ _ plainAttrs_list PySem.F.slot_list_append PySem.F.type_list_append dM (pv 1) (@dD _ _ _ (pv 3) (by rfl)) (by rfl) (by rfl) (by rfl) (by rfl) (by rfl)) (by rfl))) (@bH _)))) (by intro _; rfl)) (@aF _ _ _ (@aQ _ _ _ _ (pv 1))))),?_⟩
  w_fin
  refine bU fun l hl0=>?_
  w_fin
  have hp1:=aJ.new (o:=.lst []) hl0 _ _ hp
  refine cA (bS.of hp1) ?_
  refine gQ (xs:=xs.map V.int) (fun i σ G=>∃ (S:List Nat) (o1 o2:Option V),σ=[some (.ref p),some (.ref l),o1,o2]/\Kp l H G/\G l=some (.lst ((S.map Int.ofNat).map V.int))/\(∀ s∈S,0 < s/\s<=40)/\S.length<=i/\(0 < i->S≠[])) ⟨[],_,_,rfl,Kp.new hl0,aC,fun s h=>by simp at h,le_refl _,fun h=>by omega⟩ ?_ ?_ ?_
  ·rintro i σ G hi ⟨S,o1,o2,rfl,kp,_⟩
   exact bS.of (kp _ _ (aB hp hl0) hp)
  ·rintro i x σ G hx' ⟨S,o1,o2,rfl,kp,hG,hS,hSl,hS0⟩
   rw [List.getElem?_map] at hx'
   obtain ⟨z,hz,rfl⟩:=Option.map_eq_some_iff.mp hx'
   w_fin
   refine eP fun pa G9 hpa s9 g9=>?_
   have a0:=Int.emod_nonneg (z.fdiv 40) (show (2:Int)≠0 by decide)
   have a1:=Int.emod_lt_of_pos (z.fdiv 40) (show (0:Int) < 2 by decide)
   obtain ⟨w,hw,hw2⟩:∃ w:Int,kO [V.int 12,V.int 40] (z.fdiv 40 % 2)=some (V.int w)/\(w=12∨w=40):=by
    rcases (show z.fdiv 40 % 2=0∨z.fdiv 40 % 2=1 by omega) with e|e
    ·exact ⟨12,by rw [e]; rfl,.inl rfl⟩
    ·exact ⟨40,by rw [e]; rfl,.inr rfl⟩
   w_fin
   refine bY g9 hw ?_
   have b0:=Int.emod_nonneg z (show w≠0 by omega)
   have b1:=Int.emod_lt_of_pos z (show 0 < w by omega)
   w_fin
   have hG9:=s9 _ _ hG
   have kp9:=kp.trans s9.kp
   refine ⟨l,_,rfl,.inl (bS.of hG9),rfl,qP _,?_⟩
   obtain ⟨m,hm⟩:∃ m:Nat,1+z % w=m:=⟨(1+z % w).toNat,by omega⟩
   rw [hm]
   have hmb:0 < m/\m<=40:=by omega
   generalize hbv:(if true=true then !ZM (V.int (m:Int)) ((S.map Int.ofNat).map V.int) else ZM (V.int (m:Int)) ((S.map Int.ofNat).map V.int))=bv
   cases bv with
  |false =>
    w_fin
    refine ⟨S,_,_,rfl,kp9,hG9,hS,by omega,fun _ e2=>?_⟩
    rw [e2,if_pos rfl] at hbv
    cases hbv
  |true =>
    w_fin
    refine jU hG9 (by rw [length_map,length_map]; have:=(List.getElem?_eq_some_iff.mp hz).1; omega) ?_
    w_fin
    refine ⟨S++[m],_,_,rfl,kp9.trans Kp.upd,by rw [aC]; simp,fun x hx9=>?_,by simp; omega,fun _=>by simp⟩
    rcases mem_append.mp hx9 with h|h
    ·exact hS x h
    ·rw [mem_singleton.mp h]; exact hmb
  ·rintro σ G ⟨S,o1,o2,rfl,kp,hG,hS,hSl,hS0⟩
   rw [length_map] at hSl hS0
   w_fin
   exact q l S G hl0 (fun b o e=>kp _ _ (aB e hl0) e) hG hS (by omega) (hS0 (List.length_pos_iff.mpr h0))
theorem vG (T:Bl mg) (d:Df K mg "_law_times_of" gM ["_law_unit_here","_law_sizes_here"]) (W:kP mg xt x1 x3 x4) (R_NoSum:bX K xt x1 x3 x4 x3 3) (R1:bX K xt x1 x3 x4 x1 1) (R4:bX K xt x1 x3 x4 x4 4) (o0o:bV P w K mg base k "_law_lowest" ["_law_top","_law_bottom"] nF):bV P w K mg base (k+1) "_law_times_of" ["_law_unit_here","_law_sizes_here"] rA:=by
 refine bV.of d uO (fun vs H Q E h=>?_) (fun f cdv A outer s H vs Q E hr h=>?_)
 ·obtain ⟨a,u,p,S,rfl,_⟩:=h
  rfl
 ·obtain ⟨a,u,p,S,rfl,hu,ha,hp,hS,hl,q⟩:=h
  refine ⟨_,(@aF _ _ _ (@aQ _ _ _ _ (@iR _ _ _ _ _ _ _ _ _ _ _ _ _ _ (@eJ _ _ (sc:=aE gM) (N:=["_law_unit_here","_law_sizes_here"]) (tn:=["_law_size"]) (names:=["_law_unit_here"]) (is:=[0]) rfl rfl (by decide +kernel) (by decide +kernel) rfl (by decide +kernel) rfl (by decide +kernel) (by decide +kernel) (by decide +kernel)) rfl (@cB _ _ _ _ (pv 1)) (fun _ _ _ _=>(@aS _ _ (i:=0) _ (show (["_law_size","_law_unit_here"]:List Str).Nodup by decide +kernel) rfl (Or.inl rfl) (Or.inr rfl))) (fun _ _ _ _=>(@aK _ _ _ _ _ _ _ _ _ _ o0o hr rfl (@dX _ _ _ _ _ (@aH _ _ _ _ _ _ _ _ bO (@bQ _ _ _ _ _ _ _ fX (pv 1) (@aD _ _ _ _) (fun _ _=>rfl)) (pv 0)) (@bQ _ _ _ _ _ _ _ fX (pv 1) (@aD _ _ _ _) (fun _ _=>rfl)) (by rfl) (by rfl)) (by decide) (by rfl) (by rfl))) (fun _ _ _ _=>(@fB _)) (by intro _; rfl)))),?_⟩
  w_fin
  refine cA (bS.of hp) ?_
  refine mO (xs:=(S.map Int.ofNat).map V.int) (by rw [length_map,length_map]; omega) (fun acc i ys G=>Kp acc H G/\Paired (cE G) ys ((S.take i).map (bN u))) (fun acc h0=>⟨Kp.new h0,.nil⟩) ?_ ?_ ?_
  ·rintro acc i ys G h0 _ ⟨kp,_⟩
   exact bS.of (kp _ _ (aB hp h0) hp)
  ·rintro acc i ys G x h0 hx hly ha' ⟨kp,py⟩
   rw [map_map,List.getElem?_map] at hx
   obtain ⟨s',hs,e⟩:=Option.map_eq_some_iff.mp hx
   obtain rfl:x=V.int (s':Int):=e.symm
   have hs':=hS s' (mem_of_getElem? hs)
   have h1:=hu.s1
   have h2:=hu.s2
   have h3:=hu.p1
   have h4:=hu.p2
   have haG:G a=_:=kp _ _ (aB ha h0) ha
   have hb:u.1 * s'<=2 ^ 60 * 100000:=Int.mul_le_mul (Int.le_of_lt h1) (by omega) (by omega) (by decide)
   have hb0:0<=u.1 * s':=Int.mul_nonneg (by omega) (by omega)
   w_fin
   refine ⟨_,_,rfl,h4,Sm.mono (n:=8000) (m:=100) (Sm.of (by omega) (by show u.1 * s' < ((2 ^ 100:Nat):Int); omega)) (by decide),Sm.mono (n:=8000) (m:=100) (Sm.of (by omega) (by show u.2 < ((2 ^ 100:Nat):Int); omega)) (by decide),fun tq htq=>?_⟩
   w_fin
   obtain ⟨G2,zE,s2,h5⟩:=HD htq (.tup [.int (dY (u.1 * s') u.2),.int (dO (u.1 * s') u.2)])
   rw [zE]
   have ha2:=s2 _ _ ha'
   refine jN (by rw [length_map,length_map]; exact (List.getElem?_eq_some_iff.mp hs).1) hly ha2 ⟨(kp.trans s2.kp).trans Kp.upd,?_⟩
   rw [take_add_one,hs,map_append]
   have kT2:∀ {v f},cE G2 v f->cE (L2.upd G2 acc (.lst (ys++[V.ref tq]))) v f:=fun ⟨q,a,b⟩=>⟨q,a,by rw [aI (cD b ha2 (by intro z; cases z))]; exact b⟩
   exact Pd.snoc (Pd.imp py fun v f x=>kT2 (cE.same x s2)) (kT2 ⟨tq,rfl,h5⟩)
  ·rintro acc ys G h0 ha' hly ⟨kp,py⟩
   rw [take_of_length_le (by rw [length_map,length_map]; exact le_refl _)] at py
   w_fin
   exact q acc G h0 (fun b o e=>kp _ _ (aB e h0) e) ⟨ys,ha',py⟩
theorem MI (T:Bl mg) (d:Df K mg "_law_best" rM ["_law_sizes_here","_law_whole"]) (W:kP mg xt x1 x3 x4) (R_NoSum:bX K xt x1 x3 x4 x3 3) (R1:bX K xt x1 x3 x4 x1 1) (R4:bX K xt x1 x3 x4 x4 4):bV P w K mg base (k+1) "_law_best" ["_law_sizes_here","_law_whole"] ES:=by
 refine bV.of d fL (fun vs H Q E h=>?_) (fun f cdv A outer s H vs Q E hr h=>?_)
 ·obtain ⟨p,S,n,rfl,_⟩:=h
  rfl
 ·obtain ⟨p,S,n,rfl,hp,hS,hl,hn,q⟩:=h
  refine ⟨_,(@aA _ _ _ _ _ (@aG _ _ (i:=2) _ _ _ _ fL.nd rfl (by w_left) (@bF _ _ _ _ (@dD _ _ _ (@aD _ _ _ _) (by rfl))) (by rfl) (by w_means)) (@aA _ _ _ _ _ (@cO _ _ _ _ _ _ _ _ PassesOwn.never rfl (@lD _ _ _ _ _ _ _ rfl T.z_range (@dX _ _ _ _ _ (@aD _ _ _ _) (@aH _ _ _ _ _ _ _ _ aW (pv 1) (@aD _ _ _ _)) (by rfl) (by rfl)) (by rfl) (by rfl)) (@aS _ _ (i:=3) _ fL.nd rfl (by w_left) (by w_means)) (@aA _ _ _ _ _ (@rZ _ _ _ _ _ _ _ _ _ _ _ _ _ _ (i:=4) _ _ _ fL.nd rfl (by w_left) (@eJ _ _ (sc:=aE rM) (N:=["_law_sizes_here","_law_whole","_law_best_here","_law_number","_law_some","_law_least","_law_many"]) (tn:=["_law_size"]) (names:=["_law_number","_law_best_here"]) (is:=[3,2]) rfl rfl (by decide +kernel) (by decide +kernel) rfl (by decide +kernel) rfl (by decide +kernel) (by decide +kernel) (by decide +kernel)) rfl (@cB _ _ _ _ (pv 0)) (fun _ _ _ _=>(@aS _ _ (i:=0) _ (show (["_law_size","_law_number","_law_best_here"]:List Str).Nodup by decide +kernel) rfl (Or.inl rfl) (Or.inr rfl))) (fun _ _ _ _=>(@bQ _ _ _ _ _ _ _ fX (pv 2) (@aH _ _ _ _ _ _ _ _ fS (pv 1) (pv 0)) (fun _ _=>rfl))) (fun _ _ _ _=>(@rX _ _ _ (@aN _ _ _ _ _ _ _ _ AN (pv 0) (pv 1) (aU _)))) (by intro _; rfl) (by rfl) (by w_means)) (@aA _ _ _ _ _ (@aG _ _ (i:=5) _ _ _ _ fL.nd rfl (by w_left) (@fR _ _ _) (by rfl) (by w_means)) (@aA _ _ _ _ _ (@cO _ _ _ _ _ _ _ _ PassesOwn.never rfl (@cB _ _ _ _ (pv 4)) (@aS _ _ (i:=6) _ fL.nd rfl (by w_left) (by w_means)) (@aF _ _ _ (@cY _ _ _ _ _ _ _ _ (@PW.pt _ _ _ (@jG _ _ _ _ _ _ _ (@aN _ _ _ _ _ _ _ _ nV (pv 6) (@fR _ _ _) (aU _)) (@iP _ _ _ _ (@PW.pt _ _ _ (@GC _ _ _ _ _ _ _ (@aN _ _ _ _ _ _ _ _ sO (pv 5) (@fR _ _ _) (aU _)) (@xL _ _ _ _ (@aN _ _ _ _ _ _ _ _ vE (pv 6) (pv 5) (aU _)))))))) (@aF _ _ _ (@aG _ _ (i:=5) _ _ _ _ fL.nd rfl (by w_left) (pv 6) (by rfl) (by w_means))) (@bH _))) (by intro _; rfl)) (@aA _ _ _ _ _ (@cY _ _ _ _ _ _ _ _ (@aN _ _ _ _ _ _ _ _ nV (pv 5) (@fR _ _ _) (aU _)) (@aF _ _ _ (@aG _ _ (i:=5) _ _ _ _ fL.nd rfl (by w_left) (@aH _ _ _ _ _ _ _ _ aW (pv 5) (@aD _ _ _ _)) (by rfl) (by w_means))) (@bH _)) (@aF _ _ _ (@dU _ _ _ _ (@jX _ _ _ _ _ _ _ _ _ _ _ _ plainAttrs_list PySem.F.slot_list_append PySem.F.type_list_append dM (pv 2) (@dD _ _ _ (pv 5) (by rfl)) (by rfl) (by rfl) (by rfl) (by rfl) (by rfl)) (by rfl))))))) (by intro _; rfl)) (@aF _ _ _ (@aQ _ _ _ _ (pv 2))))),?_⟩
  w_fin
  refine bU fun l hl0=>?_
  w_fin
  refine ⟨1,(n:Int)+1,rfl,by omega,?_⟩
  have en:((n:Int)+1 - 1).toNat=n:=by omega
  rw [en]
  refine rW (n:=n) (fun i σ G=>∃ (F:List (Option Nat)) (o1 o2 o3 o4:Option V),σ=[some (.ref p),some (.int n),some (.ref l),o1,o2,o3,o4]/\Kp l H G/\G l=some (.lst (F.map oV))/\JQ S i F) ⟨[some 0],_,_,_,_,rfl,Kp.new hl0,aC,rfl,?_⟩ ?_ ?_
  ·intro w o h
   cases w with
  |zero=>cases h; exact oJ
  |succ w=>simp at h
  ·rintro i σ G hi ⟨F,o1,o2,o3,o4,rfl,kp,hF,hFl,hFb⟩
   have sG:aJ H G:=fun b o e=>kp _ _ (aB e hl0) e
   have hpG:=sG _ _ hp
   have ix:∀ s∈S,s<=i+1->∃ o,F[i+1 - s]?=some o:=fun s hs hl1=>⟨_,List.getElem?_eq_getElem (by have:=hS s hs; omega)⟩
   w_fin
   refine cA (bS.of hpG) ?_
   refine nN (xs:=(S.map Int.ofNat).map V.int) (by rw [length_map,length_map]; omega) (fun acc j ys G'=>Kp acc G G'/\ys=(wG F (i+1) (S.take j)).map oV) (fun acc h0=>⟨Kp.new h0,rfl⟩) ?_ ?_ ?_
   ·rintro acc j ys G' h0 _ ⟨kp',_⟩
    exact bS.of (kp' _ _ (aB hpG h0) hpG)
   ·rintro acc j ys G' x h0 hx hly ha ⟨kp',rfl⟩
    rw [map_map,List.getElem?_map] at hx
    obtain ⟨s,hs,e⟩:=Option.map_eq_some_iff.mp hx
    obtain rfl:x=V.int (s:Int):=e.symm
    have hsS:=mem_of_getElem? hs
    have hlt:j < ((S.map Int.ofNat).map V.int).length:=by rw [length_map,length_map]; exact (List.getElem?_eq_some_iff.mp hs).1
    have hF':G' l=some (.lst (F.map oV)):=kp' _ _ (aB hF h0) hF
    w_fin
    refine lY (fun c=>?_) (fun c=>?_)
    ·have hle:s<=i+1:=by have:(s:Int)<=1+i:=c; omega
     obtain ⟨o,ho⟩:=ix s hsS hle
     have hix:kO (F.map oV) (1+(i:Int) - (s:Int))=some (oV o):=by
      rw [show 1+(i:Int) - (s:Int)=((i+1 - s:Nat):Int) by omega]
      exact cJ (by rw [List.getElem?_map,ho]; rfl)
     w_fin
     refine bY hF' hix ?_
     w_fin
     refine yG hlt hly ha ⟨kp'.trans Kp.upd,?_⟩
     rw [take_add_one,hs]
     unfold wG
     rw [filterMap_append]
     simp [hle,ho]
    ·w_fin
     refine yF hlt hly ha ⟨kp',?_⟩
     have hnl:¬ s<=i+1:=by have:¬ (s:Int)<=1+i:=c; omega
     rw [take_add_one,hs]
     unfold wG
     rw [filterMap_append]
     simp [hnl]
   ·rintro acc ys G' h0 ha hly ⟨kp',rfl⟩
    rw [length_map,length_map,take_length] at ha
    have hF':G' l=some (.lst (F.map oV)):=kp' _ _ (aB hF h0) hF
    have sG':aJ G G':=fun b o e=>kp' _ _ (aB e h0) e
    have hcl:(wG F (i+1) S).length<=100:=le_trans (List.length_filterMap_le _ _) hl
    have hcm:∀ o,o∈wG F (i+1) S ↔ ∃ s∈S,s<=i+1/\F[i+1 - s]?=some o:=fun o=>IU
    generalize wG F (i+1) S=cs at ha hcl hcm
    have fin:∀ o',gY cs o'->JQ S (i+1) (F++[o'.map (·+1)]):=fun o' hle=>by
     refine ⟨by rw [length_append,hFl]; rfl,fun w o' h=>?_⟩
     rcases lt_or_ge w F.length with hw|hw
     ·rw [List.getElem?_append_left hw] at h
      exact hFb w o' h
     ·rw [List.getElem?_append_right hw] at h
      have hw0:w - F.length=0:=by
       rcases eq_zero_or_pos (w - F.length) with z|z
       ·exact z
       ·rw [List.getElem?_eq_none (by simp only [length_singleton]; exact z)] at h; cases h
      rw [hw0] at h
      cases h
      rw [show w=i+1 by omega]
      have hmem:∀ k,k∈lZ F (i+1) S ↔ some k∈cs:=fun k=>by rw [kK,hcm]
      refine uE hS hFl hFb (fun e=>?_) fun k e=>?_
      ·have e1:=Option.map_eq_none_iff.mp e
       have h2:=hle.1 e1
       rw [List.eq_nil_iff_forall_not_mem]
       intro k hk
       have:=h2 _ ((hmem k).mp hk)
       cases this
      ·obtain ⟨j,e1,e2⟩:=Option.map_eq_some_iff.mp e
       obtain ⟨h3,h4⟩:=hle.2 j e1
       exact ⟨j,e2.symm,(hmem j).mpr h3,fun x hx=>h4 x ((hmem x).mp hx)⟩
    w_fin
    refine cA (bS.of ha) ?_
    refine gQ (xs:=cs.map oV) (fun j σ G2=>∃ (o':Option Nat) (o5:Option V),σ=[some (.ref p),some (.int n),some (.ref l),some (.int (1+i)),some (.ref acc),some (oV o'),o5]/\G2=G'/\gY (cs.take j) o') ⟨none,_,rfl,rfl,xY⟩ ?_ ?_ ?_
    ·rintro j σ G2 _ ⟨o',o5,rfl,rfl,_⟩
     exact bS.of ha
    ·rintro j x σ G2 hx ⟨o',o5,rfl,rfl,hle⟩
     rw [List.getElem?_map] at hx
     obtain ⟨y,hy,rfl⟩:=Option.map_eq_some_iff.mp hx
     have etk:cs.take (j+1)=cs.take j++[y]:=by rw [take_add_one,hy]; rfl
     w_fin
     cases y with
    |none =>
      refine rR ?_
      w_fin
      exact ⟨o',_,rfl,rfl,by rw [etk]; exact vR hle⟩
    |some k1 =>
      refine xJ ?_
      w_fin
      cases o' with
     |none =>
       refine rT ?_
       w_fin
       exact ⟨some k1,_,rfl,rfl,by rw [etk]; exact oF hle fun m e=>by cases e⟩
     |some m1 =>
       refine rV ?_
       w_fin
       refine RT ?_
       w_fin
       refine lY (fun c=>?_) (fun c=>?_)
       ·w_fin
        exact ⟨some k1,_,rfl,rfl,by rw [etk]; exact oF hle fun m e=>by cases e; omega⟩
       ·w_fin
        exact ⟨some m1,_,rfl,rfl,by rw [etk]; exact xX hle (by omega)⟩
    ·rintro σ G2 ⟨o',o5,rfl,rfl,hle⟩
     rw [length_map,take_length] at hle
     have hT2:=fin o' hle
     w_fin
     cases o' with
    |none =>
      refine rR ?_
      w_fin
      refine jU hF' (by rw [length_map]; omega) ?_
      w_fin
      exact ⟨F++[none],_,_,_,_,rfl,(kp.trans sG'.kp).trans Kp.upd,by rw [aC,map_append]; rfl,hT2⟩
    |some m1 =>
      refine xJ ?_
      w_fin
      refine QD ?_
      w_fin
      refine jU hF' (by rw [length_map]; omega) ?_
      w_fin
      exact ⟨F++[some (m1+1)],_,_,_,_,rfl,(kp.trans sG'.kp).trans Kp.upd,by rw [aC,map_append]; rfl,hT2⟩
  ·rintro σ G ⟨F,o1,o2,o3,o4,rfl,kp,hF,hT⟩
   w_fin
   exact q l G F hl0 (fun b o e=>kp _ _ (aB e hl0) e) hF hT
theorem MH (T:Bl mg) (d:Df K mg "_law_list" rK ["_law_sizes_here","_law_best_here","_law_whole"]) (W:kP mg xt x1 x3 x4) (R_NoSum:bX K xt x1 x3 x4 x3 3) (R1:bX K xt x1 x3 x4 x1 1) (R4:bX K xt x1 x3 x4 x4 4):bV P w K mg base (k+1) "_law_list" ["_law_sizes_here","_law_best_here","_law_whole"] EQ:=by
 refine bV.of d mJ (fun vs H Q E h=>?_) (fun f cdv A outer s H vs Q E hr h=>?_)
 ·obtain ⟨p,S,b,F,n,last,kk,rfl,_⟩:=h
  rfl
 ·obtain ⟨p,S,b,F,n,last,kk,rfl,hp,hS,hl,hb,hF,hn,h9,hk,q⟩:=h
  refine ⟨_,(@aA _ _ _ _ _ (@aG _ _ (i:=3) _ _ _ _ mJ.nd rfl (by w_left) (@bF _ _ _ _ (@fD _)) (by rfl) (by w_means)) (@aA _ _ _ _ _ (@gD _ _ _ _ _ _ PassesOwn.never (@aN _ _ _ _ _ _ _ _ lK (pv 2) (@aD _ _ _ _) (aU _)) (@aA _ _ _ _ _ (@rZ _ _ _ _ _ _ _ _ _ _ _ _ _ _ (i:=4) _ _ _ mJ.nd rfl (by w_left) (@eJ _ _ (sc:=aE rK) (N:=["_law_sizes_here","_law_best_here","_law_whole","_law_found","_law_some"]) (tn:=["_law_size"]) (names:=["_law_whole","_law_best_here"]) (is:=[2,1]) rfl rfl (by decide +kernel) (by decide +kernel) rfl (by decide +kernel) rfl (by decide +kernel) (by decide +kernel) (by decide +kernel)) rfl (@cB _ _ _ _ (@aX _ _ _ _ _ _ _ _ _ yM rfl T.z_sorted iV (@dD _ _ _ (pv 0) (by rfl)) (by decide) (by decide) (by rfl) (by rfl))) (fun _ _ _ _=>(@aS _ _ (i:=0) _ (show (["_law_size","_law_whole","_law_best_here"]:List Str).Nodup by decide +kernel) rfl (Or.inl rfl) (Or.inr rfl))) (fun _ _ _ _=>(pv 0)) (fun _ _ _ _=>(@rX _ _ _ (@PW.pt _ _ _ (@jG _ _ _ _ _ _ _ (@aN _ _ _ _ _ _ _ _ AN (pv 0) (pv 1) (aU _)) (@iP _ _ _ _ (@aN _ _ _ _ _ _ _ _ (lE hr.units) (@bQ _ _ _ _ _ _ _ fX (pv 2) (@aH _ _ _ _ _ _ _ _ fS (pv 1) (pv 0)) (fun _ _=>rfl)) (@aH _ _ _ _ _ _ _ _ fS (@bQ _ _ _ _ _ _ _ fX (pv 2) (pv 1) (fun _ _=>rfl)) (@aD _ _ _ _)) (aU _))))))) (by intro _; rfl) (by rfl) (by w_means)) (@aA _ _ _ _ _ (@dU _ _ _ _ (@jX _ _ _ _ _ _ _ _ _ _ _ _ plainAttrs_list PySem.F.slot_list_append PySem.F.type_list_append dM (pv 3) (@dD _ _ _ (@bQ _ _ _ _ _ _ _ cP (pv 4) (@GK _ _ _ _ _ _ wP (@aD _ _ _ _)) (fun _ _=>rfl)) (by rfl)) (by rfl) (by rfl) (by rfl) (by rfl) (by rfl)) (by rfl)) (@aF _ _ _ (@aG _ _ (i:=2) _ _ _ _ mJ.nd rfl (by w_left) (@aH _ _ _ _ _ _ _ _ fS (pv 2) (@bQ _ _ _ _ _ _ _ cP (pv 4) (@GK _ _ _ _ _ _ wP (@aD _ _ _ _)) (fun _ _=>rfl))) (by rfl) (by w_means)))))) (@aF _ _ _ (@aQ _ _ _ _ (pv 3))))),?_⟩
  w_fin
  refine bU fun l hl0=>?_
  w_fin
  refine mM (fun σ G=>∃ (w kk:Nat) (L:List Nat) (o:Option V),σ=[some (.ref p),some (.ref b),some (.int w),some (.ref l),o]/\Kp l H G/\G l=some (.lst ((L.map Int.ofNat).map V.int))/\w<=n/\F[w]?=some (some kk)/\L.length+w<=n/\∀ M,kS S w M->kS S n (L++M))
   (fun σ _=>match σ with|[_,_,some (.int z),_,_]=>z.toNat|_=>0) ⟨n,kk,[],_,rfl,Kp.new hl0,aC,le_refl _,hk,by simp,fun M h=>h⟩ ?_
  rintro σ G ⟨w,k1,L,o,rfl,kG,hG,hw,hk1,hLl,hM⟩
  have sG:aJ H G:=fun b o h=>kG _ _ (aB h hl0) h
  w_fin
  refine lY (fun c=>?_) (fun c=>?_)
  ·have h0:0 < w:=by omega
   have hw0:=h0
   have hB:=hF.2 _ _ hk1
   obtain ⟨k1,rfl⟩:∃ j,k1=j+1:=by
    obtain ⟨s,j,_,_,e,_⟩:=hB.1.head h0
    exact ⟨j,e⟩
   w_fin
   refine JZ ?_
   w_fin
   refine KP (sG _ _ hp) (by rw [length_map]; omega) fun l2 ys G2 hl2 s2 h2 pys sys=>?_
   obtain ⟨S',pS,rfl⟩:=eS pys rfl
   rw [pairwise_map] at sys
   have memS:∀ x,x∈S' ↔ x∈S:=fun x=>pS.mem_iff
   have hSl':S'.length=S.length:=pS.length_eq
   have hb2:=s2 _ _ (sG _ _ hb)
   have ix:∀ s∈S',s<=w->∃ o,F[w - s]?=some o:=fun s hs hl1=>⟨_,List.getElem?_eq_getElem (by rw [hF.1]; omega)⟩
   obtain ⟨gd,hgd⟩:∃ gd:Nat->Bool,∀ s,gd s=decide (s<=w/\F[w - s]?=some (some k1)):=⟨_,fun _=>rfl⟩
   refine cA (bS.of h2) ?_
   refine nN (xs:=(S'.map Int.ofNat).map V.int) (by rw [length_map,length_map]; omega) (fun acc j ys G'=>Kp acc G2 G'/\ys=(((S'.take j).filter gd).map Int.ofNat).map V.int) (fun acc h0=>⟨Kp.new h0,rfl⟩) ?_ ?_ ?_
   ·rintro acc j ys G' h0 _ ⟨kp',_⟩
    exact bS.of (kp' _ _ (aB h2 h0) h2)
   ·rintro acc j ys G' x h0 hx hly ha ⟨kp',rfl⟩
    rw [map_map,List.getElem?_map] at hx
    obtain ⟨s',hs,e⟩:=Option.map_eq_some_iff.mp hx
    obtain rfl:x=V.int (s':Int):=e.symm
    have hsS:=mem_of_getElem? hs
    have hlt:j < ((S'.map Int.ofNat).map V.int).length:=by rw [length_map,length_map]; exact (List.getElem?_eq_some_iff.mp hs).1
    have hb':G' b=some (.lst (F.map oV)):=kp' _ _ (aB hb2 h0) hb2
    have skip:gd s'=false->AZ ((S'.map Int.ofNat).map V.int).length acc (fun j ys G'=>Kp acc G2 G'/\ys=(((S'.take j).filter gd).map Int.ofNat).map V.int) ((((S'.take j).filter gd).map Int.ofNat).map V.int) j G':=fun e=>by
     refine yF hlt hly ha ⟨kp',?_⟩
     rw [take_add_one,hs,filter_append]
     simp [e]
    w_fin
    refine lY (fun c=>?_) (fun c=>?_)
    ·have hle:s'<=w:=by omega
     obtain ⟨o',ho⟩:=ix s' hsS hle
     w_fin
     refine bY hb' (v:=oV o') (by rw [show (w:Int) - (s':Int)=((w - s':Nat):Int) by omega]; exact cJ (by rw [List.getElem?_map,ho]; rfl)) ?_
     w_fin
     refine bY hb' (v:=V.int ((k1+1:Nat):Int)) (cJ (by rw [List.getElem?_map,hk1]; rfl)) ?_
     w_fin
     cases o' with
    |none =>
      refine YO ?_
      w_fin
      exact skip (by rw [hgd]; simp [ho])
    |some j1 =>
      refine IP ?_
      w_fin
      refine lY (fun c2=>?_) (fun c2=>?_)
      ·w_fin
       refine yG hlt hly ha ⟨kp'.trans Kp.upd,?_⟩
       have:j1=k1:=by omega
       have eg:gd s'=true:=by rw [hgd]; simp [ho,hle,this]
       rw [take_add_one,hs,filter_append]
       simp [eg]
      ·w_fin
       exact skip (by rw [hgd]; simp [ho]; omega)
    ·w_fin
     exact skip (by rw [hgd]; simp; omega)
   ·rintro acc ys G' h0 ha hly ⟨kp',rfl⟩
    rw [length_map,length_map,take_length] at ha
    have sG':aJ G2 G':=fun b o e=>kp' _ _ (aB e h0) e
    have hne:S'.filter gd≠[]:=by
     obtain ⟨s,j,hs,hl',ej,hj⟩:=hB.1.head hw0
     cases ej
     obtain ⟨o',ho⟩:=ix s ((memS s).mpr hs) hl'
     have hbo:=hF.2 _ _ ho
     have hbk:iW S (w - s) (some k1):=⟨hj,fun i hi=>by have:=hB.2 _ (hi.cons hs hl'); omega⟩
     rw [hbo.uniq hbk] at ho
     have:s∈S'.filter gd:=mem_filter.mpr ⟨(memS s).mpr hs,by rw [hgd]; simp [hl',ho]⟩
     exact List.ne_nil_of_mem this
    obtain ⟨ini,s',es⟩:∃ ini s',S'.filter gd=ini++[s']:=⟨_,_,(List.dropLast_concat_getLast hne).symm⟩
    have hs':s'∈S'.filter gd:=by rw [es]; simp
    obtain ⟨hs1,hs2⟩:=mem_filter.mp hs'
    rw [hgd,decide_eq_true_iff] at hs2
    have hpw:(S'.filter gd).Pairwise (fun a b=>Int.ofNat a<=Int.ofNat b):=sys.filter _
    rw [es,pairwise_append] at hpw
    have hix:kO (((S'.filter gd).map Int.ofNat).map V.int) (-1)=some (V.int (s':Int)):=by
     rw [es,map_append,map_append]
     exact JA _ _
    have hGl:=sG' _ _ (s2 _ _ hG)
    have hs0:=hS s' ((memS s').mp hs1)
    w_fin
    refine bY ha hix ?_
    w_fin
    refine jU hGl (by rw [length_map,length_map]; omega) ?_
    have kE:Kp l G' (L2.upd G' l (.lst ((L.map Int.ofNat).map V.int++[V.int (s':Int)]))):=Kp.upd
    have hE:=aC (H:=G') (a:=l) (o:=.lst ((L.map Int.ofNat).map V.int++[V.int (s':Int)]))
    generalize L2.upd G' l (.lst ((L.map Int.ofNat).map V.int++[V.int (s':Int)]))=G3 at kE hE ⊢
    have hacc:acc≠l:=Ne.symm (aB (s2 _ _ hG) h0)
    w_fin
    refine bY (kE _ _ hacc ha) hix ?_
    w_fin
    rw [show (w:Int) - (s':Int)=((w - s':Nat):Int) by omega]
    refine ⟨⟨w - s',k1,L++[s'],_,rfl,fun b o nb h=>kE _ _ nb (sG' _ _ (s2 _ _ (kG _ _ nb h))),by rw [hE]; simp,by omega,hs2.2,by simp; omega,fun M hM'=>?_⟩,by show ((w - s':Nat):Int).toNat < (w:Int).toNat; omega⟩
    rw [append_assoc]
    refine hM _ (.cons ((memS s').mp hs1) hs2.1 hs0 hB (hF.2 _ _ hs2.2) (fun s'' hs'' hl'' hb''=>?_) hM')
    obtain ⟨o',ho⟩:=ix s'' ((memS s'').mpr hs'') hl''
    rw [(hF.2 _ _ ho).uniq hb''] at ho
    have:s''∈S'.filter gd:=mem_filter.mpr ⟨(memS s'').mpr hs'',by rw [hgd]; simp [hl'',ho]⟩
    rw [es] at this
    rcases mem_append.mp this with h|h
    ·have:=hpw.2.2 s'' h s' (by simp)
     exact Int.ofNat_le.mp this
    ·rw [mem_singleton.mp h]; exact le_refl _
  ·have:w=0:=by omega
   subst this
   w_fin
   have hfin:=hM [] .nil
   rw [append_nil] at hfin
   exact q l L G hl0 sG hG hfin
theorem GY (T:Bl mg) (d:Df K mg "_law_names" mK ["_law_many"]) (W:kP mg xt x1 x3 x4) (R_NoSum:bX K xt x1 x3 x4 x3 3) (R1:bX K xt x1 x3 x4 x1 1) (R4:bX K xt x1 x3 x4 x4 4):bV P w K mg base (k+1) "_law_names" ["_law_many"] pR:=by
 refine bV.of d iC (fun vs H Q E h=>?_) (fun f cdv A outer s H vs Q E hr h=>?_)
 ·obtain ⟨rfl,_⟩:=h
  rfl
 ·obtain ⟨rfl,q⟩:=h
  refine ⟨_,(@aA _ _ _ _ _ (@aG _ _ (i:=1) _ _ _ _ iC.nd rfl (by w_left) (@bW _ _ _ _) (by rfl) (by w_means)) (@aA _ _ _ _ _ (@aG _ _ (i:=2) _ _ _ _ iC.nd rfl (by w_left) (@bG _ _ _ _ _ _ _ _ _ (NL rfl) rfl T.z_list kN (@dD _ _ _ (pv 1) (by rfl)) (by decide) (by decide) (by rfl) (by rfl)) (by rfl) (by w_means)) (@aA _ _ _ _ _ (@cO _ _ _ _ _ _ _ _ PassesOwn.never rfl (@uX _ _ _ _ (@uY _ _ _ _ _ _ _ _ _ _ QP (pv 1) (@sI _ _ _ (@aD _ _ _ _)) (@sI _ _ _ (@aD _ _ _ _)))) (@aS _ _ (i:=3) _ iC.nd rfl (by w_left) (by w_means)) (@aF _ _ _ (@aG _ _ (i:=2) _ _ _ _ iC.nd rfl (by w_left) (@aH _ _ _ _ _ _ _ _ aW (pv 2) (@iR _ _ _ _ _ _ _ _ _ _ _ _ _ _ (@eJ _ _ (sc:=aE mK) (N:=["_law_many","_law_letters","_law_names_here","_law_one"]) (tn:=["_law_other"]) (names:=["_law_one"]) (is:=[3]) rfl rfl (by decide +kernel) (by decide +kernel) rfl (by decide +kernel) rfl (by decide +kernel) (by decide +kernel) (by decide +kernel)) rfl (@uX _ _ _ _ (pv 1)) (fun _ _ _ _=>(@aS _ _ (i:=0) _ (show (["_law_other","_law_one"]:List Str).Nodup by decide +kernel) rfl (Or.inl rfl) (Or.inr rfl))) (fun _ _ _ _=>(@aH _ _ _ _ _ _ _ _ GW (pv 1) (pv 0))) (fun _ _ _ _=>(@fB _)) (by intro _; rfl))) (by rfl) (by w_means))) (by intro _; rfl)) (@aF _ _ _ (@aQ _ _ _ _ (@uY _ _ _ _ _ _ _ _ _ _ QQ (pv 2) (@LS _) (@sI _ _ _ (pv 0)))))))),?_⟩
  have hz:(Str.ofString "abcdefghijklmnopqrstuvwxyz").length=26:=AR
  w_fin
  refine ⟨_,rfl,by rw [hz]; decide,fun l0 hl0=>?_⟩
  rw [show (Str.ofString "abcdefghijklmnopqrstuvwxyz").cps.toList.map (fun c=>V.str ⟨#[c]⟩)=(List.range 26).map (fun n=>V.str (gW n)) by decide +kernel]
  obtain ⟨H0,zE,s0,g0⟩:=HD hl0 (.lst ((List.range 26).map fun n=>V.str (gW n)))
  rw [zE]
  w_fin
  refine uS ?_
  w_fin
  refine ⟨_,rfl,by rw [hz,sizeLine_eq]; decide,?_⟩
  rw [show Txt.slice (Str.ofString "abcdefghijklmnopqrstuvwxyz") (some 1) (some 9)=Str.ofString "bcdefghi" from NF]
  refine ⟨_,rfl,?_⟩
  refine LF (fun i σ G=>∃ (li:Addr) (o:Option V),σ=[some (.int 234),some (.str (Str.ofString "abcdefghijklmnopqrstuvwxyz")),some (.ref li),o]/\aJ H G/\H li=none/\G li=some (.lst ((List.range (26 * (i+1))).map fun n=>V.str (gW n)))) ⟨l0,_,rfl,s0,hl0,g0⟩ ?_ ?_
  ·rintro i c σ G hc ⟨li,o,rfl,sG,hli,gli⟩
   have hi8:i < 8:=by
    have:=(List.getElem?_eq_some_iff.mp hc).1
    exact this
   cases TZ i c hc
   w_fin
   refine uS ?_
   w_fin
   refine ⟨_,rfl,?_⟩
   refine LH (by rw [hz]; decide) (fun acc j ys G'=>Kp acc G G'/\ys=(List.range j).map fun j=>V.str (JN (i+1)++JN j)) (fun acc h0=>⟨Kp.new h0,rfl⟩) ?_ ?_
   ·rintro acc j ys G' c h0 hx hly ha ⟨kp',rfl⟩
    have hj:j < 26:=by
     have:=(Array.getElem?_eq_some_iff.mp hx).1
     exact this
    have hc2:c=97+j:=by
     have e:=HI j hj
     rw [Array.getElem?_toList] at e
     exact Option.some.inj (hx.symm.trans e)
    subst hc2
    w_fin
    refine QC (show 1+1<=1000 by decide) ?_
    refine jN (by rw [hz]; exact hj) hly ha ⟨kp'.trans Kp.upd,?_⟩
    rw [List.range_succ,map_append]
    rfl
   ·rintro acc ys G' h0 ha hly ⟨kp',rfl⟩
    rw [hz] at ha
    have sG':aJ G G':=fun b o e=>kp' _ _ (aB e h0) e
    refine JD (sG' _ _ gli) ha (by rw [length_map,length_map,length_range,length_range]; omega) fun l2 hl2=>?_
    rw [SU]
    have s2:=(sG.trans sG').trans (aJ.new (o:=.lst ((List.range (26 * (i+1+1))).map fun n=>V.str (gW n))) hl2)
    have g2:=aC (H:=G') (a:=l2) (o:=.lst ((List.range (26 * (i+1+1))).map fun n=>V.str (gW n)))
    generalize L2.upd G' l2 (.lst ((List.range (26 * (i+1+1))).map fun n=>V.str (gW n)))=G2 at s2 g2 ⊢
    w_fin
    exact ⟨l2,_,rfl,s2,(sG.trans sG').free hl2,g2⟩
  ·rintro σ G ⟨li,o,rfl,sG,hli,gli⟩
   rw [NG] at gli
   w_fin
   refine .inl ⟨li,_,rfl,bS.of gli,fun p hp=>?_⟩
   rw [show tE ((List.range 234).map fun n=>V.str (gW n)) none (some 234)=(List.range 234).map fun n=>V.str (gW n) from NH _ (by rw [length_map,length_range])]
   exact q p _ (sG.free hp) (sG.trans (aJ.new hp)) aC
theorem MG (T:Bl mg) (d:Df K mg "_law_show" xH ["_law_unit_here","_law_cell","_law_many","_law_far"]) (W:kP mg xt x1 x3 x4) (R_NoSum:bX K xt x1 x3 x4 x3 3) (R1:bX K xt x1 x3 x4 x1 1) (R4:bX K xt x1 x3 x4 x4 4):bV P w K mg base (k+1) "_law_show" ["_law_unit_here","_law_cell","_law_many","_law_far"] uI:=by
 refine bV.of d jS (fun vs H Q E h=>?_) (fun f cdv A outer s H vs Q E hr h=>?_)
 ·obtain ⟨x,c,m,r,rfl,_⟩:=h
  rfl
 ·obtain ⟨x,c,m,r,rfl,hm0,hm,hr0,hr1,q⟩:=h
  refine ⟨_,(@aA _ _ _ _ _ (@aG _ _ (i:=4) _ _ _ _ jS.nd rfl (by w_left) (@nQ _ _) (by rfl) (by w_means)) (@aA _ _ _ _ _ (@aG _ _ (i:=5) _ _ _ _ jS.nd rfl (by w_left) (@bF _ _ _ _ (@bI _ _ _ _ _ (@bW _ _ _ _) (@bI _ _ _ _ _ (@bW _ _ _ _) (@bI _ _ _ _ _ (@bW _ _ _ _) (@bI _ _ _ _ _ (@bW _ _ _ _) (@bI _ _ _ _ _ (@bW _ _ _ _) (@vC _ _ _ _ _ _ _ (@bW _ _ _ _) (@bW _ _ _ _) (@bW _ _ _ _) (by rfl) (by rfl) (by rfl)) (by rfl)) (by rfl)) (by rfl)) (by rfl)) (by rfl))) (by rfl) (by w_means)) (@aA _ _ _ _ _ (@cO _ _ _ _ _ _ _ _ PassesOwn.never rfl (@CC _ _ _ _ _ _ rfl T.z_range (@dD _ _ _ (pv 2) (by rfl)) (by rfl)) (@aS _ _ (i:=6) _ jS.nd rfl (by w_left) (by w_means)) (@aA _ _ _ _ _ (@jV _ _ _ _ _ _ _ _ _ hr.u1 (pv 4) (@bQ _ _ _ _ _ _ _ cP (pv 5) (@aH _ _ _ _ _ _ _ _ cH (@aH _ _ _ _ _ _ _ _ aW (pv 1) (@aH _ _ _ _ _ _ _ _ bO (@aD _ _ _ _) (pv 6))) (@aD _ _ _ _)) (fun _ _=>rfl)) (@aH _ _ _ _ _ _ _ _ cH (@aH _ _ _ _ _ _ _ _ bE (pv 1) (@aD _ _ _ _)) (pv 3)) rfl) (@aF _ _ _ (@aG _ _ (i:=1) _ _ _ _ jS.nd rfl (by w_left) (@aH _ _ _ _ _ _ _ _ bE (pv 1) (@aD _ _ _ _)) (by rfl) (by w_means)))) (by intro _; rfl)) (@aF _ _ _ (@aQ _ _ _ _ (pv 4)))))),?_⟩
  w_fin
  refine xK fun d0 hd0=>?_
  obtain ⟨H0,zE,s0,g0⟩:=HD hd0 (.dK [])
  rw [zE]
  w_fin
  refine bU fun lb hlb=>?_
  have s1:=s0.trans (aJ.new (o:=.lst UZ) hlb)
  have g01:L2.upd H0 lb (.lst UZ) d0=_:=bB hlb g0
  have g1:=aC (H:=H0) (a:=lb) (o:=.lst UZ)
  show kH 5 (V.ref lb) _ (L2.upd H0 lb (.lst UZ)) _
  generalize L2.upd H0 lb (.lst UZ)=H1 at s1 g01 g1 ⊢
  w_fin
  refine ⟨m,rfl,by omega,by omega,?_⟩
  refine rW (n:=m.toNat) (fun i σ G=>∃ (c:Int) (o:Option V) (sh:List (Str×Nat)),σ=[some x,some (.int c),some (.int m),some (.int r),some (.ref d0),some (.ref lb),o]/\Kp d0 H1 G/\G d0=some (.dK (gB sh))/\(sh.map (·.1)).Nodup/\sh.length<=i/\(0 < i->sh≠[])/\∀ y∈sh,y.2<=400) ⟨c,_,[],rfl,Kp.refl _ _,g01,nodup_nil,le_refl _,fun h=>absurd h (lt_irrefl _),fun y hy=>nomatch hy⟩ ?_ ?_
  ·rintro i σ G hi ⟨c,o,sh,rfl,kG,gd,nd,hl,hne,hb⟩
   have gl:=kG _ _ (cD g1 g01 (by intro z; cases z)) g1
   w_fin
   obtain ⟨z,hz⟩:=UJ (i:=(c+3 * (0+(i:Int))) % 8) (by omega) (by omega)
   refine bY gl hz ?_
   obtain ⟨mm,em,hmm⟩:∃ mm:Nat,c.fdiv 8 % r=(mm:Int)/\mm<=400:=⟨(c.fdiv 8 % r).toNat,(Int.toNat_of_nonneg (Int.emod_nonneg _ (by omega))).symm,by have:=Int.emod_lt_of_pos (c.fdiv 8) hr0; omega⟩
   rw [em]
   refine OO gd (by unfold gB; rw [length_map]; omega) ?_
   obtain ⟨sh',e1,e2,e3,e4,e5⟩:=QH nd z mm
   rw [e1]
   w_fin
   refine ⟨_,_,sh',rfl,kG.trans Kp.upd,aC,e2,by omega,fun _=>e4,fun y hy=>?_⟩
   rcases e5 y hy with h|h
   ·exact hb y h
   ·omega
  ·rintro σ G ⟨c,o,sh,rfl,kG,gd,nd,hl,hne,hb⟩
   w_fin
   exact q d0 G sh hd0 (fun b o e=>kG _ _ (aB e hd0) (s1 _ _ e)) gd nd (by omega) (hne (by omega)) hb
theorem ST (T:Bl mg) (d:Df K mg "_law_due" FF ["_law_unit_here","_law_sizes_here","_law_best_here","_law_wholes","_law_twice"]) (W:kP mg xt x1 x3 x4) (R_NoSum:bX K xt x1 x3 x4 x3 3) (R1:bX K xt x1 x3 x4 x1 1) (R4:bX K xt x1 x3 x4 x4 4) (o0v:bV P w K mg base k "_law_list" ["_law_sizes_here","_law_best_here","_law_whole"] EQ) (o0h:bV P w K mg base k "_law_times_of" ["_law_unit_here","_law_sizes_here"] rA) (o0q:bV P w K mg base k "_law_names" ["_law_many"] pR):bV P w K mg base (k+1) "_law_due" ["_law_unit_here","_law_sizes_here","_law_best_here","_law_wholes","_law_twice"] rB:=by
 refine bV.of d dZ (fun vs H Q E h=>?_) (fun f cdv A outer s H vs Q E hr h=>?_)
 ·obtain ⟨pu,u,p2,S,pt,F,last,d,sh,tw,rfl,_⟩:=h
  rfl
 ·obtain ⟨pu,u,p2,S,pt,F,last,d,sh,tw,rfl,hu,gu,g2,hS0,hS1,hSl,gt,hF,hlast,gd,hnd,hsl,hsm,q1,q2,q3,q4⟩:=h
  refine ⟨_,(@aA _ _ _ _ _ (@aG _ _ (i:=5) _ _ _ _ dZ.nd rfl (by w_left) (@bF _ _ _ _ (@fD _)) (by rfl) (by w_means)) (@aA _ _ _ _ _ (@aG _ _ (i:=6) _ _ _ _ dZ.nd rfl (by w_left) (@AG _ _ _ _ _ (@uW _ _ _ _ _ _ _ _ _ (@aD _ _ _ _) (@aD _ _ _ _) (@AB _ _)) rfl rfl (cons_ne_nil _ _) (le_of_ble_eq_true rfl)) (by rfl) (by w_means)) (@aA _ _ _ _ _ (@aG _ _ (i:=7) _ _ _ _ dZ.nd rfl (by w_left) (@aK _ _ _ _ _ _ _ _ _ _ o0q hr rfl (@dD _ _ _ (@aD _ _ _ _) (by rfl)) (by decide) (by rfl) (by rfl)) (by rfl) (by w_means)) (@aA _ _ _ _ _ (@aG _ _ (i:=8) _ _ _ _ dZ.nd rfl (by w_left) (@aD _ _ _ _) (by rfl) (by w_means)) (@aA _ _ _ _ _ (@aG _ _ (i:=9) _ _ _ _ dZ.nd rfl (by w_left) (@aD _ _ _ _) (by rfl) (by w_means)) (@aA _ _ _ _ _ (@cO _ _ _ _ _ _ _ _ PassesOwn.never rfl (@cB _ _ _ _ (@aX _ _ _ _ _ _ _ _ _ (yN rfl) rfl T.z_sorted iV (@dD _ _ _ (@bG _ _ _ _ _ _ _ _ _ (DN rfl) rfl T.z_set IY (@dD _ _ _ (@bG _ _ _ _ _ _ _ _ _ (BL rfl) rfl T.z_list kN (@dD _ _ _ (@nR _ _ _ _ _ _ _ _ _ plainAttrs_dict slot_dict_values PySem.F.type_dict_values qG (pv 3) (by rfl) (by rfl)) (by rfl)) (by decide) (by decide) (by rfl) (by rfl)) (by rfl)) (by decide) (by decide) (by rfl) (by rfl)) (by rfl)) (by decide) (by decide) (by rfl) (by rfl))) (@aS _ _ (i:=10) _ dZ.nd rfl (by w_left) (by w_means)) (@aF _ _ _ (@cY _ _ _ _ _ _ _ _ (@aN _ _ _ _ _ _ _ _ lK (pv 10) (@aD _ _ _ _) (aU _)) (@aA _ _ _ _ _ (@cY _ _ _ _ _ _ _ _ (@aN _ _ _ _ _ _ _ _ sO (@bQ _ _ _ _ _ _ _ cP (pv 2) (@aH _ _ _ _ _ _ _ _ fS (pv 10) (pv 8)) (fun _ _=>rfl)) (@fR _ _ _) (aU _)) (@aF _ _ _ (@aQ _ _ _ _ (@bW _ _ _ _))) (@bH _)) (@aA _ _ _ _ _ (@cO _ _ _ _ _ _ _ _ PassesOwn.never rfl (@cB _ _ _ _ (@aK _ _ _ _ _ _ _ _ _ _ o0h hr rfl (@dX _ _ _ _ _ (pv 0) (@aK _ _ _ _ _ _ _ _ _ _ o0v hr rfl (@vC _ _ _ _ _ _ _ (pv 1) (pv 2) (@aH _ _ _ _ _ _ _ _ fS (pv 10) (pv 8)) (by rfl) (by rfl) (by rfl)) (by decide) (by rfl) (by rfl)) (by rfl) (by rfl)) (by decide) (by rfl) (by rfl))) (@aS _ _ (i:=11) _ dZ.nd rfl (by w_left) (by w_means)) (@aA _ _ _ _ _ (@cY _ _ _ _ _ _ _ _ (@aN _ _ _ _ _ _ _ _ vE (pv 9) (@aD _ _ _ _) (aU _)) (@aF _ _ _ (@aG _ _ (i:=5) _ _ _ _ dZ.nd rfl (by w_left) (@aH _ _ _ _ _ _ _ _ aW (pv 5) (@aH _ _ _ _ _ _ _ _ GS (@bF _ _ _ _ (@dD _ _ _ (@dF _ _ _ _ _ (@vC _ _ _ _ _ _ _ (@bQ _ _ _ _ _ _ _ cP (pv 7) (pv 9) (fun _ _=>rfl)) (@bQ _ _ _ _ _ _ _ cP (pv 7) (@aH _ _ _ _ _ _ _ _ aW (pv 9) (@aD _ _ _ _)) (fun _ _=>rfl)) (pv 11) (by rfl) (by rfl) (by rfl))) (by rfl))) (@aH _ _ _ _ _ _ _ _ aW (@aD _ _ _ _) (@bG _ _ _ _ _ _ _ _ _ oU rfl T.z_int jO (@dD _ _ _ (pv 4) (by rfl)) (by decide) (by decide) (by rfl) (by rfl))))) (by rfl) (by w_means))) (@bH _)) (@aF _ _ _ (@aG _ _ (i:=9) _ _ _ _ dZ.nd rfl (by w_left) (@aH _ _ _ _ _ _ _ _ aW (pv 9) (@aD _ _ _ _)) (by rfl) (by w_means)))) (by intro _; rfl)) (@aA _ _ _ _ _ (@jV _ _ _ _ _ _ _ _ _ hr.u1 (pv 6) (pv 10) (pv 9) rfl) (@aF _ _ _ (@aG _ _ (i:=8) _ _ _ _ dZ.nd rfl (by w_left) (pv 10) (by rfl) (by w_means)))))) (@bH _))) (by intro _; rfl)) (@aA _ _ _ _ _ (@cY _ _ _ _ _ _ _ _ (@aN _ _ _ _ _ _ _ _ lK (@aH _ _ _ _ _ _ _ _ bO (pv 9) (@aH _ _ _ _ _ _ _ _ aW (@aD _ _ _ _) (@bG _ _ _ _ _ _ _ _ _ oU rfl T.z_int jO (@dD _ _ _ (pv 4) (by rfl)) (by decide) (by decide) (by rfl) (by rfl)))) (@aD _ _ _ _) (aU _)) (@aF _ _ _ (@aQ _ _ _ _ (@bW _ _ _ _))) (@bH _)) (@aA _ _ _ _ _ (@cY _ _ _ _ _ _ _ _ (@aN _ _ _ _ _ _ _ _ (lE hr.units) (pv 5) (@bF _ _ _ _ (@fD _)) (aU _)) (@aF _ _ _ (@aQ _ _ _ _ (@bW _ _ _ _))) (@bH _)) (@aA _ _ _ _ _ (@aG _ _ (i:=12) _ _ _ _ dZ.nd rfl (by w_left) (@nQ _ _) (by rfl) (by w_means)) (@aA _ _ _ _ _ (@zZ _ _ _ _ _ _ _ _ PassesOwn.never rfl (pv 3) (@aS _ _ (i:=13) _ dZ.nd rfl (by w_left) (by w_means)) (@aF _ _ _ (@jV _ _ _ _ _ _ _ _ _ hr.u1 (pv 12) (pv 13) (@bQ _ _ _ _ _ _ _ cP (pv 7) (@iQ _ _ _ _ _ _ hr.u1 (pv 6) (@iQ _ _ _ _ _ _ hr.u1 (pv 3) (pv 13) (fun _ _=>rfl)) (fun _ _=>rfl)) (fun _ _=>rfl)) rfl)) (by intro _; rfl)) (@aF _ _ _ (@aQ _ _ _ _ (@dF _ _ _ _ _ (@dX _ _ _ _ _ (pv 5) (pv 12) (by rfl) (by rfl))))))))))))))),?_⟩
  w_fin
  refine eP fun ln0 Ha hln0 sa ga=>?_
  w_fin
  refine zT fun de hde=>?_
  w_fin
  refine ⟨aC,[(Sum.inl 0,V.int 0)],rfl,by decide,?_⟩
  rw [show L2.upd (L2.upd Ha de (.dK [])) de (.dK (dH [] [(Sum.inl 0,V.int 0)]))=L2.upd Ha de (.dK (fG [])) from yY ..]
  have hdeH:H de=none:=sa.free hde
  have sb:=sa.trans (aJ.new (o:=.dK (fG [])) hde)
  have gab:L2.upd Ha de (.dK (fG [])) ln0=_:=bB hde ga
  have gb:=aC (H:=Ha) (a:=de) (o:=.dK (fG []))
  generalize L2.upd Ha de (.dK (fG []))=Hb at sb gab gb ⊢
  w_fin
  refine ⟨rfl,fun lm Hc hlm sc gm=>?_⟩
  have sbc:=sb.trans sc
  have gdc:=sbc _ _ gd
  w_fin
  refine FM gdc fun vw Hd hvw sd gvw=>?_
  w_fin
  refine zR gvw (sd _ _ (sbc _ _ gd)) fun lv He hlv se gv=>?_
  have ev:(gB sh).map (·.2)=(sh.map fun x=>(x.2:Int)).map V.int:=by unfold gB; rw [map_map,map_map]; rfl
  rw [ev] at gv
  w_fin
  refine QW gv (by rw [length_map]; omega) fun lS ys Hf hlS sf gS hys hmem=>?_
  have yl:ys.length<=18:=by
   have:=lF hys (m:=sh.map fun x=>(x.2:Int)) fun z hz=>(hmem z).mp hz
   rw [length_map] at this
   omega
  w_fin
  refine KQ gS (by omega) fun lo zs Hg hlo sg gz pz oz=>?_
  obtain ⟨ns,ens⟩:∃ ns:List Nat,zs=ns.map Int.ofNat:=⟨zs.map Int.toNat,by
   rw [map_map]
   refine ((map_congr_left fun z hz=>?_).trans (map_id _)).symm
   obtain ⟨x,_,rfl⟩:=mem_map.mp ((hmem z).mp (pz.mem_iff.mp hz))
   exact Int.toNat_of_nonneg (by omega)⟩
  subst ens
  have msh:mD sh ns:=by
   refine ⟨?_,fun m=>?_⟩
   ·have nd:=pz.nodup_iff.mpr hys
    have h2:=oz.and nd
    rw [pairwise_map] at h2
    exact h2.imp fun {a b} h=>by
     have h3:(a:Int)<=b:=h.1
     have h4:(a:Int)≠b:=h.2
     omega
   ·have e1:(m:Int)∈ns.map Int.ofNat ↔ m∈ns:=by
     rw [mem_map]
     exact ⟨fun ⟨x,hx,e⟩=>by have:x=m:=Int.ofNat.inj e; rw [← this]; exact hx,fun h=>⟨m,h,rfl⟩⟩
    rw [← e1,pz.mem_iff,hmem,mem_map]
    exact ⟨fun ⟨x,hx,e⟩=>⟨x,hx,by omega⟩,fun ⟨x,hx,e⟩=>⟨x,hx,by omega⟩⟩
  have sBg:=((sc.trans sd).trans (se.trans sf)).trans sg
  have sHg:=sb.trans sBg
  have gmg:=(((sd.trans se).trans sf).trans sg) _ _ gm
  have nsl:ns.length<=18:=by
   have:=pz.length_eq
   rw [length_map] at this
   omega
  have ns4:∀ m∈ns,m<=last:=fun m hm'=>by obtain ⟨x,hx,rfl⟩:=(msh.2 m).mp hm'; exact hsm x hx
  w_fin
  refine cA (bS.of gz) ?_
  refine gQ (xs:=(ns.map Int.ofNat).map V.int) (fun i σ G=>∃ (a:Nat) (T:List Nat) (es:List (Nat×Nat)) (ln:Addr) (rv:List V) (o10 o11 o12 o13:Option V),σ=[some (.ref pu),some (.ref p2),some (.ref pt),some (.ref d),some (.bl tw),some (.ref ln),some (.ref de),some (.ref lm),some (.int a),some (.int T.length),o10,o11,o12,o13]/\aJ H G/\G lm=some (.lst ((List.range 234).map fun n=>V.str (gW n)))/\G lo=some (.lst ((ns.map Int.ofNat).map V.int))/\G de=some (.dK (fG es))/\G ln=some (.lst rv)/\Paired (DV u G) rv (iA (T.take 120) (dQ tw))/\fH S (ns.take i) a T es)
   ⟨0,[],[],ln0,[],_,_,_,_,rfl,sHg,gmg,gz,sBg _ _ gb,sBg _ _ gab,.nil,.nil⟩ ?_ ?_ ?_
  ·rintro i σ G hi ⟨a,T,es,ln,rv,o10,o11,o12,o13,rfl,_,_,glo,_⟩
   exact bS.of glo
  ·rintro i x σ G hx ⟨a,T,es,ln,rv,o10,o11,o12,o13,rfl,sG,glm,glo,gde,gln,prv,hM⟩
   rw [map_map,List.getElem?_map] at hx
   obtain ⟨n,hn,e⟩:=Option.map_eq_some_iff.mp hx
   obtain rfl:x=V.int (n:Int):=e.symm
   have hn4:=ns4 n (mem_of_getElem? hn)
   have hil:i < ns.length:=(List.getElem?_eq_some_iff.mp hn).1
   have ens:ns=ns.take i++n::ns.drop (i+1):=by
    have e2:n=ns[i]:=by rw [List.getElem?_eq_getElem hil] at hn; exact (Option.some.inj hn).symm
    rw [e2,← drop_eq_getElem_cons hil,take_append_drop]
   have htk:ns.take (i+1)=ns.take i++[n]:=by rw [take_add_one,hn]; rfl
   have hlt:∀ m∈ns.take i,m < n:=fun m hm'=>by
    have h1:=msh.1
    rw [ens] at h1
    exact (pairwise_append.mp h1).2.2 m hm' n mem_cons_self
   have han:a<=n:=by
    rcases hM.last with ⟨_,e⟩|e
    ·omega
    ·exact le_of_lt (hlt a e)
   have hlen:=hM.len
   w_fin
   refine lY (fun c=>?_) (fun c=>?_)
   ·have hn0:0 < n:=by omega
    have gtG:=sG _ _ gt
    have g2G:=sG _ _ g2
    have guG:=sG _ _ gu
    obtain ⟨o,ho⟩:∃ o,F[n - a]?=some o:=⟨_,List.getElem?_eq_getElem (by rw [hF.1]; omega)⟩
    have hBo:=hF.2 _ _ ho
    have eat:kO (F.map oV) ((n:Int) - (a:Int))=some (oV o):=by
     rw [show (n:Int) - (a:Int)=((n - a:Nat):Int) by omega]
     exact cJ (by rw [List.getElem?_map,ho]; rfl)
    w_fin
    refine bY gtG eat ?_
    w_fin
    cases o with
   |none =>
     refine rT ?_
     w_fin
     exact q1 _ n _ a T es G (by rw [← ens]; exact msh) hM (fun k hk=>hBo k hk) sG
   |some kk =>
    refine rV ?_
    w_fin
    refine ⟨p2,S,pt,F,n - a,last,kk,by rw [show (n:Int) - (a:Int)=((n - a:Nat):Int) by omega],g2G,hS0,hSl,gtG,hF,by omega,by omega,ho,fun pl L G3 hpl s3 h3 hL=>?_⟩
    have hLl:=hL.len
    refine ⟨pu,u,pl,L,rfl,hu,s3 _ _ guG,h3,fun s hs=>hS1 s (hL.mem s hs),by omega,fun pd G4 hpd s4 qd=>?_⟩
    have s34:=s3.trans s4
    obtain ⟨tv,htv,ptv⟩:=qd
    have ltv:=Paired.length ptv
    rw [length_map] at ltv
    w_fin
    refine cA (bS.of htv) ?_
    refine gQ (xs:=tv) (fun j σ G'=>∃ (ln':Addr) (rv':List V) (o11 o12 o13:Option V),σ=[some (.ref pu),some (.ref p2),some (.ref pt),some (.ref d),some (.bl tw),some (.ref ln'),some (.ref de),some (.ref lm),some (.int a),some (.int ((T.length+j:Nat):Int)),some (.int n),o11,o12,o13]/\aJ G4 G'/\G' ln'=some (.lst rv')/\Paired (DV u G') rv' (iA ((T++L.take j).take 120) (dQ tw)))
     ⟨ln,rv,_,_,_,rfl,aJ.refl _,s34 _ _ gln,by rw [List.take_zero,append_nil]; exact Pd.imp prv fun v x r=>r.tk fun b xs h=>s34 _ _ h⟩ ?_ ?_ ?_
    ·rintro j σ G' hj ⟨ln',rv',o11,o12,o13,rfl,sG',_⟩
     exact bS.of (sG' _ _ htv)
    ·rintro j x σ G' hx ⟨ln',rv',o11,o12,o13,rfl,sG',gn',pn'⟩
     obtain ⟨fx,hfx,tx,rfl,gx⟩:=Paired.at ptv hx
     rw [List.getElem?_map] at hfx
     obtain ⟨m,hm9,rfl⟩:=Option.map_eq_some_iff.mp hfx
     have hjl:j < L.length:=(List.getElem?_eq_some_iff.mp hm9).1
     have ltk:(T++L.take j).length=T.length+j:=by rw [length_append,length_take]; omega
     have etk:T++L.take (j+1)=(T++L.take j)++[m]:=by rw [take_add_one,hm9,← append_assoc]; rfl
     have glmG:=sG' _ _ (s34 _ _ glm)
     have gxG:=sG' _ _ gx
     have eN:((T.length+j:Nat):Int)+1=((T.length+(j+1):Nat):Int):=by omega
     w_fin
     refine lY (fun c=>?_) (fun c=>?_)
     ·have hc:T.length+j < 120:=by omega
      have nmA:∀ q:Nat,q < 234->kO ((List.range 234).map fun n=>V.str (gW n)) (q:Int)=some (V.str (gW q)):=fun q hq=>cJ (by rw [List.getElem?_map,List.getElem?_range hq]; rfl)
      have lrv:=Paired.length pn'
      rw [nZ] at lrv
      have tw2:1<=dQ tw/\dQ tw<=2:=by cases tw <;> decide
      have l120:((T++L.take j).take 120).length * dQ tw<=120 * 2:=Nat.mul_le_mul (by rw [length_take]; omega) tw2.2
      w_fin
      refine bY glmG (nmA _ (by omega)) ?_
      w_fin
      rw [eN]
      refine bY glmG (nmA _ (by omega)) ?_
      w_fin
      refine jF fun t5 G5 ht5 s5 g5=>?_
      w_fin
      refine bU fun p6 hp6=>?_
      have s6:=s5.trans (aJ.new (o:=.lst [.ref t5]) hp6)
      have g56:L2.upd G5 p6 (.lst [.ref t5]) t5=_:=bB hp6 g5
      have g6:=aC (H:=G5) (a:=p6) (o:=.lst [.ref t5])
      generalize L2.upd G5 p6 (.lst [.ref t5])=G6 at s6 g56 g6 ⊢
      w_fin
      rw [yB]
      refine ⟨p6,(dQ tw:Int),[.ref t5],rfl,rfl,g6,by omega,by omega,by rw [sizeLine_eq]; show 1 * _<=_; omega,fun p7 hp7=>?_⟩
      rw [rQ,Int.toNat_natCast]
      have s7:=s6.trans (aJ.new (o:=.lst (List.replicate (dQ tw) (.ref t5))) hp7)
      have g57:L2.upd G6 p7 (.lst (List.replicate (dQ tw) (.ref t5))) t5=_:=bB hp7 g56
      have g7:=aC (H:=G6) (a:=p7) (o:=.lst (List.replicate (dQ tw) (.ref t5)))
      generalize L2.upd G6 p7 (.lst (List.replicate (dQ tw) (.ref t5)))=G7 at s7 g57 g7 ⊢
      refine JD (s7 _ _ gn') g7 (by rw [length_replicate]; omega) fun p8 hp8=>?_
      have s8:=s7.trans (aJ.new (o:=.lst (rv'++List.replicate (dQ tw) (.ref t5))) hp8)
      have g58:L2.upd G7 p8 (.lst (rv'++List.replicate (dQ tw) (.ref t5))) t5=_:=bB hp8 g57
      have g8:=aC (H:=G7) (a:=p8) (o:=.lst (rv'++List.replicate (dQ tw) (.ref t5)))
      generalize L2.upd G7 p8 (.lst (rv'++List.replicate (dQ tw) (.ref t5)))=G8 at s8 g58 g8 ⊢
      w_fin
      rw [eN]
      refine ⟨p8,_,_,_,_,rfl,sG'.trans s8,g8,?_⟩
      rw [etk,uF,if_pos (by omega),qF]
      refine Pd.app (Pd.imp pn' fun v x r=>r.tk fun b xs h=>s8 _ _ h) (xP ⟨t5,tx,rfl,?_,s8 _ _ gxG⟩ _)
      rw [show ((T++L.take j).take 120).length=T.length+j by rw [length_take]; omega]
      exact g58
     ·w_fin
      rw [eN]
      refine ⟨ln',rv',_,_,_,rfl,sG',gn',?_⟩
      rw [etk,uF,if_neg (by omega)]
      exact pn'
    ·rintro σ G' ⟨ln',rv',o11,o12,o13,rfl,sG',gn',pn'⟩
     rw [ltv,take_length] at pn'
     have el:((T.length+tv.length:Nat):Int)=((T++L).length:Nat):=by rw [length_append,ltv]
     have sA:=s34.trans sG'
     have gdeG:=sA _ _ gde
     have hnot:n∉es.map (·.1):=by
      rw [hM.keys]
      intro z
      exact absurd (hlt n z) (lt_irrefl _)
     have hel:es.length<=18:=by
      have e2:=congrArg List.length hM.keys
      rw [length_map,length_take] at e2
      omega
     have hwl:(fG es).length<=1000:=by
      unfold fG wA
      rw [length_map,length_cons]
      have:=List.length_filter_le (fun e:Nat×Nat=>decide (0 < e.1)) es
      omega
     w_fin
     refine FT (c:=Sum.inl (n:Int)) gdeG hwl ?_
     rw [el,IM hn0 hnot]
     have nln:ln'≠de:=cD gn' gdeG (by intro z; cases z)
     have nlm:lm≠de:=cD (sA _ _ glm) gdeG (by intro z; cases z)
     have nlo:lo≠de:=cD (sA _ _ glo) gdeG (by intro z; cases z)
     have tkU:TK G' (L2.upd G' de (.dK (fG (es++[(n,(T++L).length)])))):=TK.dic gdeG
     have sU:aJ H (L2.upd G' de (.dK (fG (es++[(n,(T++L).length)])))):=fun b o e=>by
      rw [aI (aB e hdeH)]
      exact (sG.trans sA) _ _ e
     have u1:L2.upd G' de (.dK (fG (es++[(n,(T++L).length)]))) lm=_:=(aI nlm).trans (sA _ _ glm)
     have u2:L2.upd G' de (.dK (fG (es++[(n,(T++L).length)]))) lo=_:=(aI nlo).trans (sA _ _ glo)
     have u3:L2.upd G' de (.dK (fG (es++[(n,(T++L).length)]))) de=_:=aC
     have u4:L2.upd G' de (.dK (fG (es++[(n,(T++L).length)]))) ln'=_:=(aI nln).trans gn'
     generalize L2.upd G' de (.dK (fG (es++[(n,(T++L).length)])))=G5 at tkU sU u1 u2 u3 u4 ⊢
     w_fin
     exact ⟨n,T++L,_,ln',rv',_,_,_,_,rfl,sU,u1,u2,u3,u4,Pd.imp pn' fun v x r=>r.tk tkU,by rw [htk]; exact .snoc hM han hL⟩
   ·have e0:n=0:=by omega
    subst e0
    have ea:a=0:=by omega
    subst ea
    w_fin
    refine ⟨0,T,es++[(0,T.length)],ln,rv,_,_,_,_,rfl,sG,glm,glo,?_,gln,prv,?_⟩
    ·rw [show fG (es++[(0,T.length)])=fG es by unfold fG; rw [qQ,if_neg (lt_irrefl 0)]]
     exact gde
    ·rw [htk]
     have:=fH.snoc (L:=[]) hM (le_refl 0) .nil
     rw [append_nil] at this
     exact this
  ·rintro σ G ⟨a,T,es,ln,rv,o10,o11,o12,o13,rfl,sG,glm,glo,gde,gln,prv,hM⟩
   rw [length_map,length_map,take_length] at hM
   have hlen:=hM.len
   have ha4:a<=400:=by
    rcases hM.last with ⟨_,e⟩|e
    ·omega
    ·have:=ns4 a e; omega
   have tw2:1<=dQ tw/\dQ tw<=2:=by cases tw <;> decide
   have sm1:Sm 60000000 (T.length:Int):=Sm.mono (m:=100) (Sm.of (by omega) (by show (T.length:Int) < ((2 ^ 100:Nat):Int); omega)) (by decide)
   have sm2:Sm 60000000 (1+if tw=true then (1:Int) else 0):=by rw [yB]; exact Sm.mono (m:=100) (Sm.of (by omega) (by show (dQ tw:Int) < ((2 ^ 100:Nat):Int); omega)) (by decide)
   w_fin
   rw [yB,← Int.natCast_mul]
   refine lY (fun c=>?_) (fun c=>?_)
   ·w_fin
    exact q2 ns a T es G msh hM (by omega) sG
   have c120:T.length * dQ tw<=120:=by omega
   have tl120:T.length<=120:=le_trans (Nat.le_mul_of_pos_right _ (by omega)) c120
   rw [take_of_length_le tl120] at prv
   w_fin
   refine eP fun pe G1 hpe s1 ge=>?_
   have prv1:=Pd.imp prv (G:=DV u G1) fun v x r=>r.tk fun b xs h=>s1 _ _ h
   w_fin
   refine YN (ds:=(iA T (dQ tw)).map (KO u)) (es:=[]) ⟨ln,rv,rfl,s1 _ _ gln,mW prv1⟩ ⟨pe,[],rfl,ge,rfl⟩ (by have:=rP u (iA T (dQ tw)); omega) ?_
   rw [KN]
   w_fin
   refine lY (fun c=>?_) (fun c=>?_)
   ·have eT:T=[]:=by
     have:=nZ (dQ tw) T
     rw [c] at this
     have:T.length * dQ tw=0:=this.symm
     rcases Nat.mul_eq_zero.mp this with h|h
     ·exact length_eq_zero_iff.mp h
     ·omega
    subst eT
    w_fin
    exact q3 ns a es G1 msh hM (sG.trans s1)
   have hT0:T≠[]:=fun z=>c (by rw [z]; rfl)
   w_fin
   refine xK fun dh hdh=>?_
   have s2:=s1.trans (aJ.new (o:=.dK []) hdh)
   have gh:=aC (H:=G1) (a:=dh) (o:=.dK [])
   generalize L2.upd G1 dh (.dK [])=G2 at s2 gh ⊢
   have gd2:=(sG.trans s2) _ _ gd
   w_fin
   refine FR d (jC.dK gd2) ?_
   w_fin
   refine ⟨rfl,_,gd2,fun o'=>?_⟩
   have ndW:((gB sh).map (·.1)).Nodup:=by
    have:(gB sh).map (·.1)=(sh.map (·.1)).map Sum.inr:=by unfold gB; rw [map_map,map_map]; rfl
    rw [this]
    exact pairwise_map.mpr (hnd.imp fun hab e=>hab (Sum.inr.inj e))
   have hfz:L2.upd G2 d (.frz o' (.dK (gB sh))) d=some (.frz o' (.dK (gB sh))):=aC
   have back:∀ G',Kp dh (L2.upd G2 d (.frz o' (.dK (gB sh)))) G'->Kp dh G2 (melt d G'):=fun G' k b o nb e=>by
    by_cases z:b=d
    ·subst z
     rw [gd2] at e
     cases e
     exact mQ (k _ _ nb hfz)
    ·rw [kA z]
     exact k _ _ nb (by rw [aI z]; exact e)
   have ndh:dh≠d:=fun z=>by
    subst z
    rw [(sG.trans s1) _ _ gd] at hdh
    cases hdh
   have tkF:TK G2 (L2.upd G2 d (.frz o' (.dK (gB sh)))):=TK.dic gd2
   have ghF:L2.upd G2 d (.frz o' (.dK (gB sh))) dh=_:=(aI ndh).trans gh
   have nde:de≠d:=fun z=>by rw [z] at hdeH; rw [hdeH] at gd; cases gd
   have gdeF:L2.upd G2 d (.frz o' (.dK (gB sh))) de=_:=(aI nde).trans (s2 _ _ gde)
   have glmF:L2.upd G2 d (.frz o' (.dK (gB sh))) lm=_:=(aI (cD (s2 _ _ glm) gd2 (by intro z; cases z))).trans (s2 _ _ glm)
   have ndde:de≠dh:=fun z=>by
    subst z
    rw [s1 _ _ gde] at hdh
    cases hdh
   have nlmh:lm≠dh:=cD (s2 _ _ glm) gh (by intro z; cases z)
   generalize L2.upd G2 d (.frz o' (.dK (gB sh)))=HF at hfz back tkF ghF gdeF glmF ⊢
   have hvl:(cF sh es).length=sh.length:=by unfold cF; rw [length_map]
   have wvl:(gB sh).length=sh.length:=by unfold gB; rw [length_map]
   refine zS (fun i σ G'=>∃ (o13:Option V),σ=[some (.ref pu),some (.ref p2),some (.ref pt),some (.ref d),some (.bl tw),some (.ref ln),some (.ref de),some (.ref lm),some (.int a),some (.int T.length),o10,o11,some (.ref dh),o13]/\Kp dh HF G'/\G' dh=some (.dK ((cF sh es).take i))) ⟨_,rfl,Kp.refl _ _,ghF⟩ ?_ ?_ ?_
   ·rintro i σ G' _ ⟨o13,rfl,kG',_⟩
    exact kG' _ _ (Ne.symm ndh) hfz
   ·rintro i k0 v0 σ G' hx ⟨o13,rfl,kG',gh'⟩
    have hx0:=hx
    unfold gB at hx0
    rw [List.getElem?_map] at hx0
    obtain ⟨x,hxs,e⟩:=Option.map_eq_some_iff.mp hx0
    cases e
    have xm:x.2∈es.map (·.1):=by
     rw [hM.keys]
     exact (msh.2 _).mpr ⟨x,mem_of_getElem? hxs,rfl⟩
    obtain ⟨c1,e1,e2,e3⟩:=IL hM xm
    have hc1:c1<=T.length:=hM.le _ e2
    have hvx:(cF sh es)[i]?=some (Sum.inr x.1,V.str (gW c1)):=by
     unfold cF
     rw [List.getElem?_map,hxs]
     show some (Sum.inr x.1,V.str (gW ((es.lookup x.2).getD 0)))=_
     rw [e1]
     rfl
    have dG:=kG' _ _ (Ne.symm ndh) hfz
    have eG:=kG' _ _ ndde gdeF
    have mG:=kG' _ _ nlmh glmF
    w_fin
    refine FU (.inr ⟨o',dG⟩) (eX ndW hx) ?_
    w_fin
    refine XD (.inl eG) e3 ?_
    w_fin
    refine bY mG (v:=V.str (gW c1)) (cJ (by rw [List.getElem?_map,List.getElem?_range (by omega)]; rfl)) ?_
    w_fin
    refine OO gh' (by rw [length_take]; omega) ?_
    rw [GD (sX hnd) hvx]
    exact ⟨_,rfl,kG'.trans Kp.upd,aC⟩
   ·rintro σ G' ⟨o13,rfl,kG',gh'⟩
    rw [take_of_length_le (by omega)] at gh'
    refine FS ?_
    have kM:=back G' kG'
    have ghM:melt d G' dh=some (.dK (cF sh es)):=cZ (fun _ _ z=>nomatch z) gh'
    generalize melt d G'=G3 at kM ghM ⊢
    have hdhG:G dh=none:=s1.free hdh
    have s3:aJ G G3:=fun b o e=>kM _ _ (aB e hdhG) (s2 _ _ e)
    w_fin
    refine gO fun pr hpr=>?_
    have s4:=s3.trans (aJ.new (o:=.tup [.ref ln,.ref dh]) hpr)
    have g4:L2.upd G3 pr (.tup [.ref ln,.ref dh]) dh=_:=bB hpr ghM
    have gp:=aC (H:=G3) (a:=pr) (o:=.tup [.ref ln,.ref dh])
    generalize L2.upd G3 pr (.tup [.ref ln,.ref dh])=G4 at s4 g4 gp ⊢
    w_fin
    exact q4 ns a T es pr ln dh rv G4 msh hM hT0 c120 (sG.trans s4) gp (s4 _ _ gln) (Pd.imp prv fun v x r=>r.tk fun b xs h=>s4 _ _ h) g4
theorem HB (T:Bl mg) (d:Df K mg "_law_asked" rN ["_law_box","_law_show_here","_law_twice"]) (W:kP mg xt x1 x3 x4) (R_NoSum:bX K xt x1 x3 x4 x3 3) (R1:bX K xt x1 x3 x4 x1 1) (R4:bX K xt x1 x3 x4 x4 4) (o0i:iJ P w K mg base k "made_net" ["box","show","double"] [.bl false] 2 ["double"] (mE K x1 x3 x4)):kR P w K mg base (k+1) "_law_asked" ["_law_box","_law_show_here","_law_twice"] [] (mE K x1 x3 x4):=by
 refine kR.of d FE (fun vs H Q E h=>?_) (fun f cdv A outer s H vs Q E hr h=>?_)
 ·obtain ⟨l,ms,u,ds,sh,tw,rfl,_⟩:=h
  rfl
 ·obtain ⟨l,ms,u,ds,sh,tw,rfl,hu,hl,hp,hm,h1,h64,hs,hnd,hsm,h18,hT,q1,q2,q3,q4⟩:=h
  refine ⟨_,(@aA _ _ _ _ _ (@cY _ _ _ _ _ _ _ _ (@aN _ _ _ _ _ _ _ _ (lE hr.units) (@aH _ _ _ _ _ _ _ _ cH (@aX _ _ _ _ _ _ _ _ _ UD rfl T.z_len fZ (@dD _ _ _ (pv 1) (by rfl)) (by decide) (by decide) (by rfl) (by rfl)) (@aD _ _ _ _)) (@aD _ _ _ _) (aU _)) (@aF _ _ _ (@aQ _ _ _ _ (@xO _ _ _ _ _ _ _ _ _ _ _ _ _ _ _ _ _ o0i hr rfl GQ (@dX _ _ _ _ _ (pv 0) (pv 1) (by rfl) (by rfl)) (pv 2) (by decide) (by rfl) (by rfl)))) (@bH _)) (@aF _ _ _ (@aQ _ _ _ _ (@vB _ _ _ _ _ _ _ _ _ _ _ _ o0i.toX hr rfl GQ (@vC _ _ _ _ _ _ _ (pv 0) (pv 1) (pv 2) (by rfl) (by rfl) (by rfl)) (by decide) (by rfl) (by rfl))))),?_⟩
  have hs':=hs
  obtain ⟨kvs,hk,pk⟩:=hs'
  w_fin
  refine KY hk ?_
  w_fin
  refine lY (fun c=>?_) (fun c=>?_)
  ·w_fin
   exact ⟨l,ms,u,ds,sh,tw,rfl,hu,hl,hp,hm,h1,h64,hs,hnd,hsm,h18,hT,q1,q2,q3,q4⟩
  ·w_fin
   exact ⟨l,ms,u,ds,sh,tw,rfl,hu,hl,hp,hm,h1,h64,hs,hnd,hsm,h18,hT,q1,q2,q3,q4⟩
theorem MF (T:Bl mg) (d:Df K mg "_law_told" xG ["_law_box","_law_show_here","_law_twice"]) (W:kP mg xt x1 x3 x4) (R_NoSum:bX K xt x1 x3 x4 x3 3) (R1:bX K xt x1 x3 x4 x1 1) (R4:bX K xt x1 x3 x4 x4 4) (o0t:kR P w K mg base k "_law_asked" ["_law_box","_law_show_here","_law_twice"] [] (mE K x1 x3 x4)):bV P w K mg base (k+1) "_law_told" ["_law_box","_law_show_here","_law_twice"] (nE K):=by
 refine bV.of d iM (fun vs H Q E h=>?_) (fun f cdv A outer s H vs Q E hr h=>?_)
 ·obtain ⟨l,ms,u,ds,sh,tw,rfl,_⟩:=h
  rfl
 ·obtain ⟨l,ms,u,ds,sh,tw,rfl,hu,hl,hp,hm,h1,h64,hs,hnd,hsm,h18,hT,q1,q2,q3,q4⟩:=h
  refine ⟨_,(@aA _ _ _ _ _ (@aG _ _ (i:=3) _ _ _ _ iM.nd rfl (by w_left) (@fR _ _ _) (by rfl) (by w_means)) (@aA _ _ _ _ _ (@aG _ _ (i:=4) _ _ _ _ iM.nd rfl (by w_left) (@bF _ _ _ _ (@fD _)) (by rfl) (by w_means)) (@aA _ _ _ _ _ (@SC _ _ _ _ (i:=5) _ _ _ _ _ _ _ _ rfl rfl rfl rfl W.t iM.nd rfl rfl (@SB _ _ _ _ (i:=3) _ _ iM.nd rfl (by w_left) (@GJ _ _ _ _ _ _ _ _ _ _ _ o0t rfl (fun _ _ z=>z) hr rfl (@vC _ _ _ _ _ _ _ (pv 0) (pv 1) (pv 2) (by rfl) (by rfl) (by rfl)) (by decide) (by rfl) (by rfl)) (by rfl) (by first|exact .inl rfl|exact .inr rfl)) (fun y=>(@aF _ _ _ (@aG _ _ (i:=4) _ _ _ _ iM.nd rfl (by w_left) (@bF _ _ _ _ (@vC _ _ _ _ _ _ _ (@aX _ _ _ _ _ _ _ _ _ oS rfl T.z_isinstance dB (@dX _ _ _ _ _ (pv 5) (@dW _ _ (v:=.ref x3) _ _ rfl W.m_NoSum rfl (by decide)) (by rfl) (by rfl)) (by decide) (by decide) (by rfl) (by rfl)) (@aX _ _ _ _ _ _ _ _ _ oS rfl T.z_isinstance dB (@dX _ _ _ _ _ (pv 5) (@dW _ _ (v:=.ref x4) _ _ rfl W.m_TooMany rfl (by decide)) (by rfl) (by rfl)) (by decide) (by decide) (by rfl) (by rfl)) (@aX _ _ _ _ _ _ _ _ _ oS rfl T.z_isinstance dB (@dX _ _ _ _ _ (pv 5) (@dW _ _ (v:=.ref x1) _ _ rfl W.m_NoNet rfl (by decide)) (by rfl) (by rfl)) (by decide) (by decide) (by rfl) (by rfl)) (by rfl) (by rfl) (by rfl))) (by rfl) (by w_means)))) (by decide)) (@aA _ _ _ _ _ (@cY _ _ _ _ _ _ _ _ (@aN _ _ _ _ _ _ _ _ (sN hr.units) (pv 4) (@bF _ _ _ _ (@fD _)) (aU _)) (@aF _ _ _ (@aQ _ _ _ _ (@bQ _ _ _ _ _ _ _ cP (@bF _ _ _ _ (@bI _ _ _ _ _ (@bW _ _ _ _) (@vC _ _ _ _ _ _ _ (@bW _ _ _ _) (@bW _ _ _ _) (@bW _ _ _ _) (by rfl) (by rfl) (by rfl)) (by rfl))) (@aH _ _ _ _ _ _ _ _ aW (@aH _ _ _ _ _ _ _ _ aW (@bG _ _ _ _ _ _ _ _ _ oU rfl T.z_int jO (@dD _ _ _ (@qC _ _ _ _ _ _ _ (pv 4)) (by rfl)) (by decide) (by decide) (by rfl) (by rfl)) (@aH _ _ _ _ _ _ _ _ bO (@aD _ _ _ _) (@bG _ _ _ _ _ _ _ _ _ oU rfl T.z_int jO (@dD _ _ _ (@qC _ _ _ _ _ _ _ (pv 4)) (by rfl)) (by decide) (by decide) (by rfl) (by rfl)))) (@aH _ _ _ _ _ _ _ _ bO (@aD _ _ _ _) (@bG _ _ _ _ _ _ _ _ _ oU rfl T.z_int jO (@dD _ _ _ (@qC _ _ _ _ _ _ _ (pv 4)) (by rfl)) (by decide) (by decide) (by rfl) (by rfl)))) (fun _ _=>rfl)))) (@bH _)) (@aF _ _ _ (@aQ _ _ _ _ (pv 3))))))),?_⟩
  w_fin
  refine eP fun l0 H0 h0 s0 g0=>?_
  have t0:=cQ.same hT s0
  w_fin
  refine ⟨l,ms,u,ds,sh,tw,rfl,hu,LQ.sm hl s0,hp,hm,h1,h64,DT.sm hs s0,hnd,hsm,h18,t0,?_,?_,?_,?_⟩
  ·intro ns1 n ns2 a T es H1 a1 a2 a3 k1 t1
   refine xI R_NoSum.t fun y hy=>?_
   obtain ⟨H2,zE,s1,y1⟩:=HD hy (sY y x3)
   rw [zE]
   w_fin
   refine gP y1 R_NoSum.x R_NoSum.k3 ?_
   w_fin
   refine gP y1 R_NoSum.x R_NoSum.k4 ?_
   w_fin
   refine gP y1 R_NoSum.x R_NoSum.k1 ?_
   w_fin
   refine bU fun l9 h9=>?_
   have s2:=aJ.new (o:=.lst [V.bl (Nat.beq 3 3),.bl (Nat.beq 4 3),.bl (Nat.beq 1 3)]) h9
   have g2:L2.upd H2 l9 (.lst [V.bl (Nat.beq 3 3),.bl (Nat.beq 4 3),.bl (Nat.beq 1 3)]) l9=some (.lst [V.bl true,.bl false,.bl false]):=by
    rw [aC]
    rfl
   generalize L2.upd H2 l9 (.lst [V.bl (Nat.beq 3 3),.bl (Nat.beq 4 3),.bl (Nat.beq 1 3)])=H3 at s2 g2 ⊢
   w_fin
   refine bU fun m1 e1=>?_
   have z1:=aJ.new (o:=.lst []) e1
   have ge:=aC (H:=H3) (a:=m1) (o:=.lst [])
   have g3:L2.upd H3 m1 (.lst []) l9=_:=bB e1 g2
   generalize L2.upd H3 m1 (.lst [])=H4 at z1 ge g3 ⊢
   refine AQ (ds:=[.bl true,.bl false,.bl false]) (es:=[]) ⟨l9,_,rfl,g3,_,_,rfl,rfl,_,_,rfl,rfl,_,_,rfl,rfl,rfl⟩ ⟨m1,[],rfl,ge,rfl⟩ (by decide) ?_
   rw [show iH [.bl true,.bl false,.bl false] []=false from rfl]
   w_fin
   refine bU fun m2 e2=>?_
   have z2:=aJ.new (o:=.lst [.str "odd",.str "sum",.str "many",.str "net"]) e2
   have g4:=aC (H:=H4) (a:=m2) (o:=.lst [.str "odd",.str "sum",.str "many",.str "net"])
   have g5:L2.upd H4 m2 (.lst [.str "odd",.str "sum",.str "many",.str "net"]) l9=_:=bB e2 g3
   generalize L2.upd H4 m2 (.lst [.str "odd",.str "sum",.str "many",.str "net"])=H5 at z2 g4 g5 ⊢
   have sA:=s1.trans (s2.trans (z1.trans z2))
   w_fin
   exact q1 _ _ _ _ _ _ _ a1 a2 a3 (s0.kp.trans (k1.trans sA.kp)) (cQ.same t1 sA)
  ·intro ns a T es H1 a1 a2 a3 k1 t1
   refine xI R4.t fun y hy=>?_
   obtain ⟨H2,zE,s1,y1⟩:=HD hy (sY y x4)
   rw [zE]
   w_fin
   refine gP y1 R4.x R4.k3 ?_
   w_fin
   refine gP y1 R4.x R4.k4 ?_
   w_fin
   refine gP y1 R4.x R4.k1 ?_
   w_fin
   refine bU fun l9 h9=>?_
   have s2:=aJ.new (o:=.lst [V.bl (Nat.beq 3 4),.bl (Nat.beq 4 4),.bl (Nat.beq 1 4)]) h9
   have g2:L2.upd H2 l9 (.lst [V.bl (Nat.beq 3 4),.bl (Nat.beq 4 4),.bl (Nat.beq 1 4)]) l9=some (.lst [V.bl false,.bl true,.bl false]):=by
    rw [aC]
    rfl
   generalize L2.upd H2 l9 (.lst [V.bl (Nat.beq 3 4),.bl (Nat.beq 4 4),.bl (Nat.beq 1 4)])=H3 at s2 g2 ⊢
   w_fin
   refine bU fun m1 e1=>?_
   have z1:=aJ.new (o:=.lst []) e1
   have ge:=aC (H:=H3) (a:=m1) (o:=.lst [])
   have g3:L2.upd H3 m1 (.lst []) l9=_:=bB e1 g2
   generalize L2.upd H3 m1 (.lst [])=H4 at z1 ge g3 ⊢
   refine AQ (ds:=[.bl false,.bl true,.bl false]) (es:=[]) ⟨l9,_,rfl,g3,_,_,rfl,rfl,_,_,rfl,rfl,_,_,rfl,rfl,rfl⟩ ⟨m1,[],rfl,ge,rfl⟩ (by decide) ?_
   rw [show iH [.bl false,.bl true,.bl false] []=false from rfl]
   w_fin
   refine bU fun m2 e2=>?_
   have z2:=aJ.new (o:=.lst [.str "odd",.str "sum",.str "many",.str "net"]) e2
   have g4:=aC (H:=H4) (a:=m2) (o:=.lst [.str "odd",.str "sum",.str "many",.str "net"])
   have g5:L2.upd H4 m2 (.lst [.str "odd",.str "sum",.str "many",.str "net"]) l9=_:=bB e2 g3
   generalize L2.upd H4 m2 (.lst [.str "odd",.str "sum",.str "many",.str "net"])=H5 at z2 g4 g5 ⊢
   have sA:=s1.trans (s2.trans (z1.trans z2))
   w_fin
   exact q2 _ _ _ _ _ a1 a2 a3 (s0.kp.trans (k1.trans sA.kp)) (cQ.same t1 sA)
  ·intro ns a es H1 a1 a2 k1 t1
   refine xI R1.t fun y hy=>?_
   obtain ⟨H2,zE,s1,y1⟩:=HD hy (sY y x1)
   rw [zE]
   w_fin
   refine gP y1 R1.x R1.k3 ?_
   w_fin
   refine gP y1 R1.x R1.k4 ?_
   w_fin
   refine gP y1 R1.x R1.k1 ?_
   w_fin
   refine bU fun l9 h9=>?_
   have s2:=aJ.new (o:=.lst [V.bl (Nat.beq 3 1),.bl (Nat.beq 4 1),.bl (Nat.beq 1 1)]) h9
   have g2:L2.upd H2 l9 (.lst [V.bl (Nat.beq 3 1),.bl (Nat.beq 4 1),.bl (Nat.beq 1 1)]) l9=some (.lst [V.bl false,.bl false,.bl true]):=by
    rw [aC]
    rfl
   generalize L2.upd H2 l9 (.lst [V.bl (Nat.beq 3 1),.bl (Nat.beq 4 1),.bl (Nat.beq 1 1)])=H3 at s2 g2 ⊢
   w_fin
   refine bU fun m1 e1=>?_
   have z1:=aJ.new (o:=.lst []) e1
   have ge:=aC (H:=H3) (a:=m1) (o:=.lst [])
   have g3:L2.upd H3 m1 (.lst []) l9=_:=bB e1 g2
   generalize L2.upd H3 m1 (.lst [])=H4 at z1 ge g3 ⊢
   refine AQ (ds:=[.bl false,.bl false,.bl true]) (es:=[]) ⟨l9,_,rfl,g3,_,_,rfl,rfl,_,_,rfl,rfl,_,_,rfl,rfl,rfl⟩ ⟨m1,[],rfl,ge,rfl⟩ (by decide) ?_
   rw [show iH [.bl false,.bl false,.bl true] []=false from rfl]
   w_fin
   refine bU fun m2 e2=>?_
   have z2:=aJ.new (o:=.lst [.str "odd",.str "sum",.str "many",.str "net"]) e2
   have g4:=aC (H:=H4) (a:=m2) (o:=.lst [.str "odd",.str "sum",.str "many",.str "net"])
   have g5:L2.upd H4 m2 (.lst [.str "odd",.str "sum",.str "many",.str "net"]) l9=_:=bB e2 g3
   generalize L2.upd H4 m2 (.lst [.str "odd",.str "sum",.str "many",.str "net"])=H5 at z2 g4 g5 ⊢
   have sA:=s1.trans (s2.trans (z1.trans z2))
   w_fin
   exact q3 _ _ _ _ a1 a2 (s0.kp.trans (k1.trans sA.kp)) (cQ.same t1 sA)
  ·intro ns a T es p ln dh rv H1 a1 a2 a3 a4 k1 t1 b1 b2 b3 b4 b5 b6
   have g1:=kT k1 t0 g0 (fun _ z=>by cases z)
   w_fin
   refine eP fun m1 H2 e1 z1 gz=>?_
   refine AQ (ds:=[]) (es:=[]) ⟨l0,[],rfl,z1 _ _ g1,rfl⟩ ⟨m1,[],rfl,gz,rfl⟩ (by decide) ?_
   rw [show iH [] []=true from rfl]
   w_fin
   exact q4 ns a T es p ln dh rv H2 a1 a2 a3 a4 (s0.kp.trans (k1.trans z1.kp)) (cQ.same t1 z1) (z1 _ _ b1) (s0.free b2) (s0.free b3) (z1 _ _ b4) (Pd.imp b5 fun v x r=>r.tk fun b xs h=>z1 _ _ h) (z1 _ _ b6)
theorem SS {f:Addr}{fd:FuncData} (T:Bl mg) (F:ZU K "law" "law" jT f fd) (W:kP mg xt x1 x3 x4) (R_NoSum:bX K xt x1 x3 x4 x3 3) (R1:bX K xt x1 x3 x4 x1 1) (R4:bX K xt x1 x3 x4 x4 4) (o0y:bV P w K mg base k "_law_told" ["_law_box","_law_show_here","_law_twice"] (nE K)) (o1a:bV P w K mg base k "_law_due" ["_law_unit_here","_law_sizes_here","_law_best_here","_law_wholes","_law_twice"] rB) (o0x:bV P w K mg base k "_law_best" ["_law_sizes_here","_law_whole"] ES) (o0o:bV P w K mg base k "_law_lowest" ["_law_top","_law_bottom"] nF) (o0z:bV P w K mg base k "_law_show" ["_law_unit_here","_law_cell","_law_many","_law_far"] uI) (o0n:bV P w K mg base k "_law_cell_at" ["_law_script","_law_k"] (xA K)) (o0p:bV P w K mg base k "_law_great" ["_law_cell"] zH) (o0h:bV P w K mg base k "_law_times_of" ["_law_unit_here","_law_sizes_here"] rA) (o0w:bV P w K mg base k "_law_unit" ["_law_number"] EN) (o0l:bV P w K mg base k "_law_numbers" ["_law_script","_law_first","_law_many","_law_size"] (pQ K)) (o0r:bV P w K mg base k "_law_sizes" ["_law_numbers_here"] (zF K)) (o0s:bV P w K mg base k "_law_mixed" ["_law_cell","_law_k"] mF):iB P w K mg base JU (k+1) f fd ["_law_script"] (zG K):=by
 refine F.ok cG (fun vs H Q E h=>?_) (fun cdv A outer s H vs Q E hr h=>?_)
 ·obtain ⟨a,ns,rfl,_⟩:=h
  rfl
 ·obtain ⟨a,ns,rfl,hS,h63,hT,q⟩:=h
  refine ⟨_,(@aA _ _ _ _ _ (@aG _ _ (i:=1) _ _ _ _ cG.nd rfl (by w_left) (@aK _ _ _ _ _ _ _ _ _ _ o0s hr rfl (@dX _ _ _ _ _ (@aK _ _ _ _ _ _ _ _ _ _ o0n hr rfl (@dX _ _ _ _ _ (pv 0) (@aD _ _ _ _) (by rfl) (by rfl)) (by decide) (by rfl) (by rfl)) (@aD _ _ _ _) (by rfl) (by rfl)) (by decide) (by rfl) (by rfl)) (by rfl) (by w_means)) (@aA _ _ _ _ _ (@aG _ _ (i:=2) _ _ _ _ cG.nd rfl (by w_left) (@aK _ _ _ _ _ _ _ _ _ _ o0r hr rfl (@dD _ _ _ (@aK _ _ _ _ _ _ _ _ _ _ o0l hr rfl (@bI _ _ _ _ _ (pv 0) (@vC _ _ _ _ _ _ _ (@aD _ _ _ _) (@aH _ _ _ _ _ _ _ _ aW (@aD _ _ _ _) (@aH _ _ _ _ _ _ _ _ cH (pv 1) (@aD _ _ _ _))) (@aD _ _ _ _) (by rfl) (by rfl) (by rfl)) (by rfl)) (by decide) (by rfl) (by rfl)) (by rfl)) (by decide) (by rfl) (by rfl)) (by rfl) (by w_means)) (@aA _ _ _ _ _ (@aG _ _ (i:=3) _ _ _ _ cG.nd rfl (by w_left) (@aK _ _ _ _ _ _ _ _ _ _ o0w hr rfl (@dD _ _ _ (@aH _ _ _ _ _ _ _ _ bE (pv 1) (@aD _ _ _ _)) (by rfl)) (by decide) (by rfl) (by rfl)) (by rfl) (by w_means)) (@aA _ _ _ _ _ (@aG _ _ (i:=4) _ _ _ _ cG.nd rfl (by w_left) (@aK _ _ _ _ _ _ _ _ _ _ o0h hr rfl (@dX _ _ _ _ _ (pv 3) (pv 2) (by rfl) (by rfl)) (by decide) (by rfl) (by rfl)) (by rfl) (by w_means)) (@aA _ _ _ _ _ (@aG _ _ (i:=5) _ _ _ _ cG.nd rfl (by w_left) (@LX _ _ _ _ _ _ _ _ (lE hr.units) (@aH _ _ _ _ _ _ _ _ cH (@aH _ _ _ _ _ _ _ _ bE (pv 1) (@aD _ _ _ _)) (@aD _ _ _ _)) (@aD _ _ _ _) (aU _)) (by rfl) (by w_means)) (@aA _ _ _ _ _ (@aG _ _ (i:=6) _ _ _ _ cG.nd rfl (by w_left) (@aK _ _ _ _ _ _ _ _ _ _ o0p hr rfl (@dD _ _ _ (@aK _ _ _ _ _ _ _ _ _ _ o0n hr rfl (@dX _ _ _ _ _ (pv 0) (@aD _ _ _ _) (by rfl) (by rfl)) (by decide) (by rfl) (by rfl)) (by rfl)) (by decide) (by rfl) (by rfl)) (by rfl) (by w_means)) (@aA _ _ _ _ _ (@aG _ _ (i:=7) _ _ _ _ cG.nd rfl (by w_left) (@aK _ _ _ _ _ _ _ _ _ _ o0z hr rfl (@bI _ _ _ _ _ (pv 3) (@vC _ _ _ _ _ _ _ (pv 6) (@bQ _ _ _ _ _ _ _ cP (@bF _ _ _ _ (@dX _ _ _ _ _ (@aH _ _ _ _ _ _ _ _ aW (@aD _ _ _ _) (@aH _ _ _ _ _ _ _ _ cH (@aH _ _ _ _ _ _ _ _ bE (pv 1) (@aD _ _ _ _)) (@aD _ _ _ _))) (@aD _ _ _ _) (by rfl) (by rfl))) (@bG _ _ _ _ _ _ _ _ _ oU rfl T.z_int jO (@dD _ _ _ (pv 5) (by rfl)) (by decide) (by decide) (by rfl) (by rfl)) (fun _ _=>rfl)) (@bQ _ _ _ _ _ _ _ cP (@bF _ _ _ _ (@dX _ _ _ _ _ (@aD _ _ _ _) (@aD _ _ _ _) (by rfl) (by rfl))) (@bG _ _ _ _ _ _ _ _ _ oU rfl T.z_int jO (@dD _ _ _ (pv 5) (by rfl)) (by decide) (by decide) (by rfl) (by rfl)) (fun _ _=>rfl)) (by rfl) (by rfl) (by rfl)) (by rfl)) (by decide) (by rfl) (by rfl)) (by rfl) (by w_means)) (@aA _ _ _ _ _ (@aG _ _ (i:=8) _ _ _ _ cG.nd rfl (by w_left) (@bQ _ _ _ _ _ _ _ cP (@bF _ _ _ _ (@bI _ _ _ _ _ (@aD _ _ _ _) (@bI _ _ _ _ _ (@aD _ _ _ _) (@bI _ _ _ _ _ (@aD _ _ _ _) (@vC _ _ _ _ _ _ _ (@aD _ _ _ _) (@aD _ _ _ _) (@aD _ _ _ _) (by rfl) (by rfl) (by rfl)) (by rfl)) (by rfl)) (by rfl))) (@aH _ _ _ _ _ _ _ _ cH (@aH _ _ _ _ _ _ _ _ bE (pv 1) (@aD _ _ _ _)) (@aD _ _ _ _)) (fun _ _=>rfl)) (by rfl) (by w_means)) (@aA _ _ _ _ _ (@cY _ _ _ _ _ _ _ _ (@PW.pt _ _ _ (@jG _ _ _ _ _ _ _ (@rY _ _ _ (pv 5) (by intro _; rfl)) (@iP _ _ _ _ (@aN _ _ _ _ _ _ _ _ lK (pv 8) (@aD _ _ _ _) (aU _))))) (@aF _ _ _ (@aG _ _ (i:=7) _ _ _ _ cG.nd rfl (by w_left) (@AG _ _ _ _ _ (@uW _ _ _ _ _ _ _ _ _ (@bW _ _ _ _) (pv 8) (@AB _ _)) rfl rfl (cons_ne_nil _ _) (le_of_ble_eq_true rfl)) (by rfl) (by w_means))) (@bH _)) (@aA _ _ _ _ _ (@aG _ _ (i:=9) _ _ _ _ cG.nd rfl (by w_left) (@nQ _ _) (by rfl) (by w_means)) (@aA _ _ _ _ _ (@zZ _ _ _ _ _ _ _ _ PassesOwn.never rfl (pv 7) (@aS _ _ (i:=10) _ cG.nd rfl (by w_left) (by w_means)) (@aF _ _ _ (@jV _ _ _ _ _ _ _ _ _ hr.u1 (pv 9) (pv 10) (@aK _ _ _ _ _ _ _ _ _ _ o0o hr rfl (@dX _ _ _ _ _ (@aH _ _ _ _ _ _ _ _ bO (@qC _ _ _ _ _ _ _ (pv 3)) (@iQ _ _ _ _ _ _ hr.u1 (pv 7) (pv 10) (fun _ _=>rfl))) (@qC _ _ _ _ _ _ _ (pv 3)) (by rfl) (by rfl)) (by decide) (by rfl) (by rfl)) rfl)) (by intro _; rfl)) (@aA _ _ _ _ _ (@aG _ _ (i:=11) _ _ _ _ cG.nd rfl (by w_left) (@aK _ _ _ _ _ _ _ _ _ _ o0x hr rfl (@dX _ _ _ _ _ (pv 2) (@aX _ _ _ _ _ _ _ _ _ (UB rfl) rfl T.z_max UH (@dD _ _ _ (@bG _ _ _ _ _ _ _ _ _ (BL rfl) rfl T.z_list kN (@dD _ _ _ (@nR _ _ _ _ _ _ _ _ _ plainAttrs_dict slot_dict_values PySem.F.type_dict_values qG (pv 7) (by rfl) (by rfl)) (by rfl)) (by decide) (by decide) (by rfl) (by rfl)) (by rfl)) (by decide) (by decide) (by rfl) (by rfl)) (by rfl) (by rfl)) (by decide) (by rfl) (by rfl)) (by rfl) (by w_means)) (@aA _ _ _ _ _ (@cO _ _ _ _ _ _ _ _ PassesOwn.never rfl (@cB _ _ _ _ (@bF _ _ _ _ (@dX _ _ _ _ _ (@lJ _ _ _ _) (@lJ _ _ _ _) (by rfl) (by rfl)))) (@aS _ _ (i:=12) _ cG.nd rfl (by w_left) (by w_means)) (@aA _ _ _ _ _ (@aG _ _ (i:=13) _ _ _ _ cG.nd rfl (by w_left) (@bF _ _ _ _ (@dX _ _ _ _ _ (@bG _ _ _ _ _ _ _ _ _ UC rfl T.z_list kN (@dD _ _ _ (pv 4) (by rfl)) (by decide) (by decide) (by rfl) (by rfl)) (@bG _ _ _ _ _ _ _ _ _ NM rfl T.z_dict BN (@dD _ _ _ (pv 9) (by rfl)) (by decide) (by decide) (by rfl) (by rfl)) (by rfl) (by rfl))) (by rfl) (by w_means)) (@aA _ _ _ _ _ (@aG _ _ (i:=14) _ _ _ _ cG.nd rfl (by w_left) (@aK _ _ _ _ _ _ _ _ _ _ o1a hr rfl (@bI _ _ _ _ _ (pv 3) (@bI _ _ _ _ _ (pv 2) (@vC _ _ _ _ _ _ _ (pv 11) (pv 7) (pv 12) (by rfl) (by rfl) (by rfl)) (by rfl)) (by rfl)) (by decide) (by rfl) (by rfl)) (by rfl) (by w_means)) (@aA _ _ _ _ _ (@aG _ _ (i:=15) _ _ _ _ cG.nd rfl (by w_left) (@aK _ _ _ _ _ _ _ _ _ _ o0y hr rfl (@vC _ _ _ _ _ _ _ (@qC _ _ _ _ _ _ _ (pv 13)) (@qC _ _ _ _ _ _ _ (pv 13)) (pv 12) (by rfl) (by rfl) (by rfl)) (by decide) (by rfl) (by rfl)) (by rfl) (by w_means)) (@aA _ _ _ _ _ (@cY _ _ _ _ _ _ _ _ (@PW.pt _ _ _ (@GC _ _ _ _ _ _ _ (@aN _ _ _ _ _ _ _ _ (GV hr.units) (pv 15) (pv 14) (aU _)) (@xL _ _ _ _ (@aN _ _ _ _ _ _ _ _ (SL hr.units) (pv 13) (@bF _ _ _ _ (@dX _ _ _ _ _ (pv 4) (pv 9) (by rfl) (by rfl))) (aU _))))) (@aF _ _ _ (@aQ _ _ _ _ (@lJ _ _ _ _))) (@bH _)) (@aF _ _ _ (@cY _ _ _ _ _ _ _ _ (@xM _ _ _ _ (@rY _ _ _ (@aX _ _ _ _ _ _ _ _ _ (qS (T:="str")) rfl T.z_isinstance dB (@dX _ _ _ _ _ (pv 14) (@AI _ _ (v:=.ty "str") _ _ rfl T.z_str UF rfl (by decide) (by decide)) (by rfl) (by rfl)) (by decide) (by decide) (by rfl) (by rfl)) (by intro _; rfl))) (@aA _ _ _ _ _ (@cY _ _ _ _ _ _ _ _ (@xM _ _ _ _ (@rY _ _ _ (@aX _ _ _ _ _ _ _ _ _ (qS (T:="tuple")) rfl T.z_isinstance dB (@dX _ _ _ _ _ (pv 15) (@AI _ _ (v:=.ty "tuple") _ _ rfl T.z_tuple IX rfl (by decide) (by decide)) (by rfl) (by rfl)) (by decide) (by decide) (by rfl) (by rfl)) (by intro _; rfl))) (@aF _ _ _ (@aQ _ _ _ _ (@lJ _ _ _ _))) (@bH _)) (@aA _ _ _ _ _ (@dU _ _ _ _ (@nR _ _ _ _ _ _ _ _ _ plainAttrs_list PySem.F.slot_list_clear PySem.F.type_list_clear HH (@qC _ _ _ _ _ _ _ (pv 15)) (by rfl) (by rfl)) (by rfl)) (@aF _ _ _ (@dU _ _ _ _ (@nR _ _ _ _ _ _ _ _ _ plainAttrs_dict PySem.F.slot_dict_clear PySem.F.type_dict_clear CJ (@qC _ _ _ _ _ _ _ (pv 15)) (by rfl) (by rfl)) (by rfl))))) (@bH _))))))) (by intro _; rfl)) (@aA _ _ _ _ _ (@cO _ _ _ _ _ _ _ _ PassesOwn.never rfl (@cB _ _ _ _ (@bF _ _ _ _ (@dX _ _ _ _ _ (@lJ _ _ _ _) (@lJ _ _ _ _) (by rfl) (by rfl)))) (@aS _ _ (i:=12) _ cG.nd rfl (by w_left) (by w_means)) (@aF _ _ _ (@cY _ _ _ _ _ _ _ _ (@aN _ _ _ _ _ _ _ _ (GV hr.units) (@aK _ _ _ _ _ _ _ _ _ _ o0y hr rfl (@vC _ _ _ _ _ _ _ (pv 4) (pv 9) (pv 12) (by rfl) (by rfl) (by rfl)) (by decide) (by rfl) (by rfl)) (@aK _ _ _ _ _ _ _ _ _ _ o1a hr rfl (@bI _ _ _ _ _ (pv 3) (@bI _ _ _ _ _ (pv 2) (@vC _ _ _ _ _ _ _ (pv 11) (pv 7) (pv 12) (by rfl) (by rfl) (by rfl)) (by rfl)) (by rfl)) (by decide) (by rfl) (by rfl)) (aU _)) (@aF _ _ _ (@aQ _ _ _ _ (@lJ _ _ _ _))) (@bH _))) (by intro _; rfl)) (@aF _ _ _ (@aQ _ _ _ _ (@lJ _ _ _ _))))))))))))))))),?_⟩
  w_fin
  refine ⟨a,ns,0,rfl,hS,Int.le_refl 0,fun c0=>?_⟩
  w_fin
  refine ⟨c0,5,rfl,by decide,by decide,fun r hr0 hr1=>?_⟩
  w_fin
  refine ⟨a,ns,1,_,80,rfl,hS,by decide,by decide,by omega,by omega,by decide,by decide,fun p1 H1 xs hp1 s1 h1 hxl hx=>?_⟩
  w_fin
  refine ⟨p1,xs,rfl,h1,hx,by omega,by intro e; rw [e] at hxl; simp at hxl; omega,fun p2 S H2 hp2 s2 h2 hS2 hSl hS0=>?_⟩
  w_fin
  refine ⟨_,rfl,fun pu u H3 hu hpu s3 h3=>?_⟩
  have h23:=s3 _ _ h2
  w_fin
  refine ⟨pu,u,p2,S,rfl,hu,h3,h23,fun s hs=>by have:=hS2 s hs; omega,by omega,fun pb H4 hpb s4 h4=>?_⟩
  have s14:=(s1.trans s2).trans (s3.trans s4)
  w_fin
  refine ⟨a,ns,8,rfl,s14.seq hS,by decide,fun c8=>?_⟩
  w_fin
  refine ⟨_,rfl,fun cg=>?_⟩
  w_fin
  generalize decide (r.fdiv 36 % 4=1)=bf
  obtain ⟨mm,emm,hm1,hm8⟩:∃ mm:Int,kO [V.int (1+r.fdiv 144 % 8),V.int 1] (if bf=true then 1 else 0)=some (V.int mm)/\1<=mm/\mm<=8:=by
   cases bf
   ·exact ⟨1+r.fdiv 144 % 8,rfl,by omega,by omega⟩
   ·exact ⟨1,rfl,by omega,by omega⟩
  obtain ⟨rr,err,hr2,hr4⟩:∃ rr:Int,kO [V.int 80,V.int 401] (if bf=true then 1 else 0)=some (V.int rr)/\0 < rr/\rr<=401:=by
   cases bf
   ·exact ⟨80,rfl,by omega,by omega⟩
   ·exact ⟨401,rfl,by omega,by omega⟩
  refine eP fun l5 H5 hl5 s5 g5=>?_
  w_fin
  refine bY g5 emm ?_
  w_fin
  refine bU fun l6 hl6=>?_
  have s6:=s5.trans (aJ.new (o:=.lst [V.int 80,V.int 401]) hl6)
  have g6:=aC (H:=H5) (a:=l6) (o:=.lst [V.int 80,V.int 401])
  generalize L2.upd H5 l6 (.lst [V.int 80,V.int 401])=H6 at s6 g6 ⊢
  w_fin
  refine bY g6 err ?_
  w_fin
  refine ⟨.ref pu,cg,mm,rr,rfl,hm1,hm8,hr2,hr4,fun dw0 H7 sh0 hdw0 s7 gw0 nd0 sl0 ne0 b40=>?_⟩
  w_fin
  refine bU fun l8 hl8=>?_
  have s8:=(s6.trans s7).trans (aJ.new (o:=.lst [V.int 0,V.int 0,V.int 60,V.int 61,V.int 120,V.int 121]) hl8)
  have gw8:L2.upd H7 l8 (.lst [V.int 0,V.int 0,V.int 60,V.int 61,V.int 120,V.int 121]) dw0=_:=bB hl8 gw0
  have g8:=aC (H:=H7) (a:=l8) (o:=.lst [V.int 0,V.int 0,V.int 60,V.int 61,V.int 120,V.int 121])
  generalize L2.upd H7 l8 (.lst [V.int 0,V.int 0,V.int 60,V.int 61,V.int 120,V.int 121])=H8 at s8 gw8 g8 ⊢
  obtain ⟨eg,heg,eg1⟩:∃ eg:Nat,kO [V.int 0,V.int 0,V.int 60,V.int 61,V.int 120,V.int 121] (r.fdiv 1152 % 6)=some (V.int (eg:Int))/\eg<=121:=by
   have e0:=Int.emod_nonneg (r.fdiv 1152) (show (6:Int)≠0 by decide)
   have e1:=Int.emod_lt_of_pos (r.fdiv 1152) (show (0:Int) < 6 by decide)
   generalize r.fdiv 1152 % 6=z at e0 e1
   rcases (show z=0∨z=1∨z=2∨z=3∨z=4∨z=5 by omega) with rfl|rfl|rfl|rfl|rfl|rfl
   ·exact ⟨0,rfl,by omega⟩
   ·exact ⟨0,rfl,by omega⟩
   ·exact ⟨60,rfl,by omega⟩
   ·exact ⟨61,rfl,by omega⟩
   ·exact ⟨120,rfl,by omega⟩
   ·exact ⟨121,rfl,by omega⟩
  have s48:=s14.trans s8
  have gu8:=s8 _ _ (s4 _ _ h3)
  have g28:=s8 _ _ (s4 _ _ h23)
  have gb8:=LQ.sm h4 s8
  walk_at "gos"
  refine bY g8 heg ?_
  walk_at "gos"
  refine RC ?_
  refine zQ ?_
  refine FV (fun σ F=>∃ (dw:Addr) (sh:List (Str×Nat)),σ=[some (.ref a),some (.int r),some (.ref p2),some (.ref pu),some (.ref pb),some (.bl bf),some (.int cg),some (.ref dw),some (.int eg),none,none,none,none,none,none,none]/\aJ H8 F/\F dw=some (.dK (gB sh))/\(sh.map (·.1)).Nodup/\sh.length<=8/\sh≠[]/\∀ y∈sh,y.2<=400) ?_ ?_
  ·rintro σ F ⟨dw,sh,rfl,sF,gw,nd,sl,ne,b4⟩
   have s4F:=s48.trans sF
   have guF:=sF _ _ gu8
   have g2F:=sF _ _ g28
   have gbF:=LQ.sm gb8 sF
   w_fin
   refine xK fun ds hds=>?_
   obtain ⟨F9,zE,s9,g9⟩:=HD hds (.dK [])
   rw [zE]
   have gw9:=s9 _ _ gw
   have gu9:=s9 _ _ guF
   w_fin
   refine FR dw (jC.dK gw9) ?_
   w_fin
   refine ⟨rfl,_,gw9,fun o'=>?_⟩
   have ndW:((gB sh).map (·.1)).Nodup:=by
    have:(gB sh).map (·.1)=(sh.map (·.1)).map Sum.inr:=by unfold gB; rw [map_map,map_map]; rfl
    rw [this]
    exact pairwise_map.mpr (nd.imp fun hab e=>hab (Sum.inr.inj e))
   have hfz:L2.upd F9 dw (.frz o' (.dK (gB sh))) dw=some (.frz o' (.dK (gB sh))):=aC
   have nds:ds≠dw:=fun z=>by
    subst z
    rw [gw] at hds
    cases hds
   have back:∀ G',Kp ds (L2.upd F9 dw (.frz o' (.dK (gB sh)))) G'->Kp ds F9 (melt dw G'):=fun G' k b o nb e=>by
    by_cases z:b=dw
    ·subst z
     rw [gw9] at e
     cases e
     exact mQ (k _ _ nb hfz)
    ·rw [kA z]
     exact k _ _ nb (by rw [aI z]; exact e)
   have gsF:L2.upd F9 dw (.frz o' (.dK (gB sh))) ds=_:=(aI nds).trans g9
   have guX:L2.upd F9 dw (.frz o' (.dK (gB sh))) pu=_:=TK.dic gw9 _ _ gu9
   generalize L2.upd F9 dw (.frz o' (.dK (gB sh)))=HF at hfz back gsF guX ⊢
   have wvl:(gB sh).length=sh.length:=by unfold gB; rw [length_map]
   have npu:pu≠ds:=fun z=>by subst z; rw [guF] at hds; cases hds
   refine zS (fun i σ G'=>∃ (o10:Option V) (kv:List (aR×V)),σ=[some (.ref a),some (.int r),some (.ref p2),some (.ref pu),some (.ref pb),some (.bl bf),some (.int cg),some (.ref dw),some (.int eg),some (.ref ds),o10,none,none,none,none,none]/\Kp ds HF G'/\G' ds=some (.dK kv)/\Paired (fun (kv:aR×V) (x:Str×Nat)=>kv.1=Sum.inr x.1/\cE G' kv.2 (bN u x.2)) kv (sh.take i)) ⟨_,[],rfl,Kp.refl _ _,gsF,.nil⟩ ?_ ?_ ?_
   ·rintro i σ G' _ ⟨o10,kv,rfl,kG',_⟩
    exact kG' _ _ (Ne.symm nds) hfz
   ·rintro i k0 v0 σ G' hx ⟨o10,kv,rfl,kG',gs',pk⟩
    have hx0:=hx
    unfold gB at hx0
    rw [List.getElem?_map] at hx0
    obtain ⟨x,hxs,e⟩:=Option.map_eq_some_iff.mp hx0
    cases e
    have hx4:=b4 x (mem_of_getElem? hxs)
    have dG:=kG' _ _ (Ne.symm nds) hfz
    have uG:=kG' _ _ npu guX
    have u1:=hu.s1
    have u2:=hu.s2
    have u3:=hu.p1
    have u4:=hu.p2
    have hb:u.1 * (x.2:Int)<=2 ^ 60 * 400:=Int.mul_le_mul (Int.le_of_lt u1) (by omega) (by omega) (by decide)
    have hb0:0<=u.1 * (x.2:Int):=Int.mul_nonneg (by omega) (by omega)
    have smu:Sm 60000000 u.1:=Sm.mono (m:=100) (Sm.of (by omega) (by show u.1 < ((2 ^ 100:Nat):Int); omega)) (by decide)
    have smx:Sm 60000000 (x.2:Int):=Sm.mono (m:=100) (Sm.of (by omega) (by show (x.2:Int) < ((2 ^ 100:Nat):Int); omega)) (by decide)
    w_fin
    refine FU (.inr ⟨o',dG⟩) (eX ndW hx) ?_
    w_fin
    refine ⟨_,_,rfl,u4,Sm.mono (n:=8000) (m:=100) (Sm.of (by omega) (by show u.1 * (x.2:Int) < ((2 ^ 100:Nat):Int); omega)) (by decide),Sm.mono (n:=8000) (m:=100) (Sm.of (by omega) (by show u.2 < ((2 ^ 100:Nat):Int); omega)) (by decide),fun pt hpt=>?_⟩
    obtain ⟨G2,zE,st,gt⟩:=HD hpt (.tup [.int (dY (u.1 * (x.2:Int)) u.2),.int (dO (u.1 * (x.2:Int)) u.2)])
    rw [zE]
    have lkv:=Paired.length pk
    rw [length_take] at lkv
    have hi8:=(List.getElem?_eq_some_iff.mp hxs).1
    w_fin
    refine FT (c:=Sum.inr x.1) (st _ _ gs') (by omega) ?_
    have hnk:(Sum.inr x.1:aR)∉kv.map (·.1):=by
     rw [rF pk]
     intro z
     obtain ⟨y,hy,ey⟩:=mem_map.mp z
     have ey:=Sum.inr.inj ey
     have ens:sh=sh.take i++x::sh.drop (i+1):=by
      have e2:x=sh[i]:=by rw [List.getElem?_eq_getElem hi8] at hxs; exact (Option.some.inj hxs).symm
      rw [e2,← drop_eq_getElem_cons hi8,take_append_drop]
     have nd':=nd
     rw [ens,map_append] at nd'
     exact (nodup_append.mp nd').2.2 y.1 (mem_map_of_mem hy) x.1 mem_cons_self ey
    rw [LR hnk]
    have tkU:TK G2 (L2.upd G2 ds (.dK (kv++[(Sum.inr x.1,.ref pt)]))):=TK.dic (st _ _ gs')
    refine ⟨_,_,rfl,(kG'.trans st.kp).trans Kp.upd,aC,?_⟩
    rw [show sh.take (i+1)=sh.take i++[x] by rw [take_add_one,hxs]; rfl]
    exact AJ (Pd.imp pk fun v x r=>⟨r.1,let ⟨q,e,g⟩:=r.2; ⟨q,e,tkU _ _ (st _ _ g)⟩⟩) ⟨rfl,pt,rfl,tkU _ _ gt⟩
   ·rintro σ G' ⟨o10,kv,rfl,kG',gs',pk⟩
    rw [wvl,take_length] at pk
    refine FS ?_
    have kM:=back G' kG'
    have gsM:melt dw G' ds=some (.dK kv):=cZ (fun _ _ z=>nomatch z) gs'
    have pkM:Paired (fun (kv:aR×V) (x:Str×Nat)=>kv.1=Sum.inr x.1/\cE (melt dw G') kv.2 (bN u x.2)) kv sh:=Pd.imp pk fun v x r=>⟨r.1,let ⟨q,e,g⟩:=r.2; ⟨q,e,TK.melt _ _ g⟩⟩
    generalize melt dw G'=G3 at kM gsM pkM ⊢
    have s3':aJ F G3:=fun b o e=>kM _ _ (aB e hds) (s9 _ _ e)
    have gw3:=s3' _ _ gw
    w_fin
    refine FM gw3 fun vw G4 hvw s4' gvw=>?_
    w_fin
    refine zR gvw (s4' _ _ gw3) fun lv G5 hlv s5' gv=>?_
    have ev:(gB sh).map (·.2)=(sh.map fun x=>(x.2:Int)).map V.int:=by unfold gB; rw [map_map,map_map]; rfl
    rw [ev] at gv
    w_fin
    refine RG gv (by intro z; exact ne (List.map_eq_nil_iff.mp z)) fun mx hmx hle=>?_
    obtain ⟨x0,hx0,e0⟩:=mem_map.mp hmx
    subst e0
    have lt4:=b4 x0 hx0
    have hlast:∀ y∈sh,y.2<=x0.2:=fun y hy=>by
     have:=hle _ (mem_map.mpr ⟨y,hy,rfl⟩)
     omega
    have s35:=s4'.trans s5'
    have sF5:=s3'.trans s35
    w_fin
    refine ⟨p2,S,x0.2,rfl,sF5 _ _ g2F,fun s hs=>(hS2 s hs).1,by omega,by omega,fun pt G6 Ft hpt s6' gt6 hFt=>?_⟩
    have s56:=s35.trans s6'
    have sF6:=s3'.trans s56
    have gs6:=s56 _ _ gsM
    have pk6:Paired (fun (kv:aR×V) (x:Str×Nat)=>kv.1=Sum.inr x.1/\cE G6 kv.2 (bN u x.2)) kv sh:=Pd.imp pkM fun v x r=>⟨r.1,cE.same r.2 s56⟩
    have gu6:=sF6 _ _ guF
    have g26:=sF6 _ _ g2F
    have gb6:=LQ.sm gbF sF6
    have gw6:=sF6 _ _ gw
    have t6:LT G6:=cQ.same hT (s4F.trans sF6)
    have hSp:∀ s∈S,0 < s:=fun s hs=>(hS2 s hs).1
    have hSm:∀ s∈S,s<=100000:=fun s hs=>by have:=hS2 s hs; omega
    w_fin
    refine eP fun lT G7 hlT s7' gT7=>?_
    have gs7:=s7' _ _ gs6
    have pk7:Paired (fun (kv:aR×V) (x:Str×Nat)=>kv.1=Sum.inr x.1/\cE G7 kv.2 (bN u x.2)) kv sh:=Pd.imp pk6 fun v x r=>⟨r.1,cE.same r.2 s7'⟩
    have gu7:=s7' _ _ gu6
    have g27:=s7' _ _ g26
    have gb7:=LQ.sm gb6 s7'
    have gw7:=s7' _ _ gw6
    have gt7:=s7' _ _ gt6
    have t7:LT G7:=cQ.same t6 s7'
    w_fin
    refine cA (bS.of gT7) ?_
    refine gQ (xs:=[.bl false,.bl true]) (fun i σ G=>∃ (o12 o13 o14 o15:Option V),σ=[some (.ref a),some (.int r),some (.ref p2),some (.ref pu),some (.ref pb),some (.bl bf),some (.int cg),some (.ref dw),some (.int eg),some (.ref ds),o10,some (.ref pt),o12,o13,o14,o15]/\Kp tT G7 G/\LT G) ⟨_,_,_,_,rfl,Kp.refl _ _,t7⟩ ?_ ?_ ?_
    ·rintro i σ G hi ⟨o12,o13,o14,o15,rfl,kG,tG⟩
     exact bS.of (kT kG t7 gT7 (fun _ z=>by cases z))
    ·rintro i x σ G hx ⟨o12,o13,o14,o15,rfl,kG,tG⟩
     obtain ⟨tw,rfl⟩:∃ tw,x=V.bl tw:=by
      match i,hx with
     |0,hx=>exact ⟨false,(Option.some.inj hx).symm⟩
     |1,hx=>exact ⟨true,(Option.some.inj hx).symm⟩
     |i+2,hx=>simp at hx
     obtain ⟨bv,hbv,pbv⟩:=LQ.tk gb7 kG t7
     have gsG:=kT kG t7 gs7 (fun _ z=>by cases z)
     w_fin
     refine YD hbv fun ph hph=>?_
     obtain ⟨Ga,zE,sa,ga⟩:=HD hph (.lst bv)
     rw [zE]
     w_fin
     refine ⟨ds,kv,rfl,sa _ _ gsG,fun pd hpd=>?_⟩
     have sb:=sa.trans (aJ.new (o:=.dK kv) hpd)
     have gab:L2.upd Ga pd (.dK kv) ph=_:=bB hpd ga
     have gb:=aC (H:=Ga) (a:=pd) (o:=.dK kv)
     generalize L2.upd Ga pd (.dK kv)=Gb at sb gab gb ⊢
     w_fin
     refine bU fun pH hpH=>?_
     have sc:=sb.trans (aJ.new (o:=.lst [.ref ph,.ref pd]) hpH)
     have gac:L2.upd Gb pH (.lst [.ref ph,.ref pd]) ph=_:=bB hpH gab
     have gbc:L2.upd Gb pH (.lst [.ref ph,.ref pd]) pd=_:=bB hpH gb
     have gc:=aC (H:=Gb) (a:=pH) (o:=.lst [.ref ph,.ref pd])
     generalize L2.upd Gb pH (.lst [.ref ph,.ref pd])=Gc at sc gac gbc gc ⊢
     have kc:Kp tT G7 Gc:=kG.trans sc.kp
     have tc:LT Gc:=cQ.same tG sc
     w_fin
     refine BD ⟨pu,u,p2,S,pt,Ft,x0.2,dw,sh,tw,rfl,hu,kT kc t7 gu7 (fun _ z=>by cases z),kT kc t7 g27 (fun _ z=>by cases z),hSp,hSm,by omega,kT kc t7 gt7 (fun _ z=>by cases z),hFt,lt4,kT kc t7 gw7 (fun _ z=>by cases z),nd,by omega,hlast,fun c T es v Gd ho hr sd=>?_⟩
     have gcd:=sd _ _ gc
     have kd:Kp tT G7 Gd:=kc.trans sd.kp
     have td:LT Gd:=cQ.same tc sd
     have tkG:TK G7 Gd:=fun b xs h=>kT kd t7 h (fun _ z=>by cases z)
     have pbd:=Pd.imp pbv (G:=cE Gd) fun v f x=>cE.same x (sc.trans sd)
     have pkd:Paired (fun (kv:aR×V) (x:Str×Nat)=>kv.1=Sum.inr x.1/\cE Gd kv.2 (bN u x.2)) kv sh:=Pd.imp pk7 fun v x r=>⟨r.1,let ⟨q,e,g⟩:=r.2; ⟨q,e,tkG _ _ g⟩⟩
     w_fin
     refine uD ⟨ph,S,u,pd,sh,tw,rfl,hu,⟨bv,sd _ _ gac,pbd⟩,hSp,hSm,hS0,by omega,⟨kv,sd _ _ gbc,pkd⟩,nd,fun x hx=>by have:=b4 x hx; omega,by omega,td,fun c' T' es' v' Ge ho' hr' hfr ke te=>?_⟩
     obtain ⟨rfl,rfl,rfl⟩:=vD ho ho'
     have hre:=EB.tk hr ke td
     have gce:=kT ke td gcd (fun _ z=>by cases z)
     have gae:=kT ke td (sd _ _ gac) (fun _ z=>by cases z)
     have gbe:=kT ke td (sd _ _ gbc) (fun _ z=>by cases z)
     have k7e:Kp tT G7 Ge:=kd.trans ke
     have tkE:TK Gd Ge:=fun b xs h=>kT ke td h (fun _ z=>by cases z)
     have pbe:=Pd.imp pbd (G:=cE Ge) fun v f x=>let ⟨q,e,g⟩:=x; ⟨q,e,tkE _ _ g⟩
     have pke:Paired (fun (kv:aR×V) (x:Str×Nat)=>kv.1=Sum.inr x.1/\cE Ge kv.2 (bN u x.2)) kv sh:=Pd.imp pkd fun v x r=>⟨r.1,let ⟨q,e,g⟩:=r.2; ⟨q,e,tkE _ _ g⟩⟩
     have gBe:=kT (sc.kp.trans (sd.kp.trans ke)) tG hbv (fun _ z=>by cases z)
     have gSe:=kT k7e t7 gs7 (fun _ z=>by cases z)
     w_fin
     refine HG nd hr' hre ?_
     w_fin
     refine eP fun pn Gf hpn sf gf=>?_
     w_fin
     refine ⟨pH,pn,_,_,rfl,rfl,sf _ _ gce,gf,rfl,fun i x y hx hy=>?_,?_⟩
     ·match i,hx,hy with
     |0,hx,hy =>
       cases hx
       cases hy
       have pbf:=Pd.imp pbe (G:=cE Gf) fun v f x=>cE.same x sf
       exact .inl ⟨.lst (UY (S.map (bN u))),IS ⟨bv,sf _ _ gae,pbf⟩,IS ⟨bv,sf _ _ gBe,pbf⟩,by
        show fJ (UY (S.map (bN u)))+1<=20
        have:=AW (S.map (bN u))
        omega⟩
     |1,hx,hy =>
       cases hx
       cases hy
       exact xD nd (Pd.imp pke fun v x r=>⟨r.1,cE.same r.2 sf⟩) (sf _ _ gbe) (sf _ _ gSe)
     |i+2,hx,_=>simp at hx
     w_fin
     have k7f:Kp tT G7 Gf:=k7e.trans sf.kp
     have tf:LT Gf:=cQ.same te sf
     rcases hre with ⟨ec,ev'⟩|⟨ec,ev'⟩|⟨ec,ev'⟩|⟨ec,pv,lnv,dhv,rvv,ev',e2,e3,e4,e5⟩
     ·subst ev'
      refine nM (.str _) iF ?_
      w_fin
      exact ⟨_,_,_,_,rfl,k7f,tf⟩
     ·subst ev'
      refine nM (.str _) iF ?_
      w_fin
      exact ⟨_,_,_,_,rfl,k7f,tf⟩
     ·subst ev'
      refine nM (.str _) iF ?_
      w_fin
      exact ⟨_,_,_,_,rfl,k7f,tf⟩
     ·subst ev'
      have hr4:∃ p ln dh rv,v'=.ref p/\Ge p=some (.tup [.ref ln,.ref dh])/\Ge ln=some (.lst rv)/\Paired (DV u Ge) rv (iA T (dQ tw))/\Ge dh=some (.dK (cF sh es)):=by
       rcases hr' with ⟨z,_⟩|⟨z,_⟩|⟨z,_⟩|⟨_,z⟩
       ·rw [ec] at z; cases z
       ·rw [ec] at z; cases z
       ·rw [ec] at z; cases z
       ·exact z
      obtain ⟨p',ln',dh',rv',ev2,f2,f3,f4,f5⟩:=hr4
      subst ev2
      obtain ⟨n1,n2⟩:=hfr p' ln' dh' rfl f2
      have f2f:=sf _ _ f2
      have f3f:=sf _ _ f3
      have f5f:=sf _ _ f5
      refine nM (.tup (sf _ _ e2)) pI ?_
      w_fin
      refine nM (.tup f2f) lV ?_
      w_fin
      refine ⟨.inl ⟨rfl,_,bS.of f3f⟩,ln',rv',rfl,rfl,f3f,?_⟩
      have nld:dh'≠ln':=cD f5f f3f (by intro z; cases z)
      have f5g:L2.upd Gf ln' (.lst []) dh'=_:=(aI nld).trans f5f
      have f2g:L2.upd Gf ln' (.lst []) p'=_:=(aI (cD f2f f3f (by intro z; cases z))).trans f2f
      have k7g:Kp tT G7 (L2.upd Gf ln' (.lst [])):=k7f.ou (PM kd td n1)
      have tg:LT (L2.upd Gf ln' (.lst [])):=LT.lst tf f3f
      generalize L2.upd Gf ln' (.lst [])=Gg at f5g f2g k7g tg ⊢
      w_fin
      first
      |refine ⟨dh',_,rfl,rfl,f5g,?_⟩
      |refine ⟨.inr (.inr (.inl ⟨rfl,.inl ⟨_,f5g⟩⟩)),dh',_,rfl,rfl,f5g,?_⟩
      w_fin
      exact ⟨_,_,_,_,rfl,k7g.ou (PM kd td n2),LT.dK tg f5g⟩
    ·rintro σ G ⟨o12,o13,o14,o15,rfl,kG,tG⟩
     w_fin
     refine eP fun lU G8 hlU sU gU=>?_
     have k8:Kp tT G7 G8:=kG.trans sU.kp
     have t8:LT G8:=cQ.same tG sU
     refine cA (bS.of gU) ?_
     refine gQ (xs:=[.bl false,.bl true]) (fun i σ G=>∃ (o12:Option V),σ=[some (.ref a),some (.int r),some (.ref p2),some (.ref pu),some (.ref pb),some (.bl bf),some (.int cg),some (.ref dw),some (.int eg),some (.ref ds),o10,some (.ref pt),o12,o13,o14,o15]/\Kp tT G8 G/\LT G) ⟨_,rfl,Kp.refl _ _,t8⟩ ?_ ?_ ?_
     ·rintro i σ G hi ⟨o12,rfl,kG,tG⟩
      exact bS.of (kT kG t8 gU (fun _ z=>by cases z))
     ·rintro i x σ G hx ⟨o12,rfl,kG',tG'⟩
      obtain ⟨tw,rfl⟩:∃ tw,x=V.bl tw:=by
       match i,hx with
      |0,hx=>exact ⟨false,(Option.some.inj hx).symm⟩
      |1,hx=>exact ⟨true,(Option.some.inj hx).symm⟩
      |i+2,hx=>simp at hx
      have kc:Kp tT G7 G:=k8.trans kG'
      have tkG:TK G7 G:=fun b xs h=>kT kc t7 h (fun _ z=>by cases z)
      have pkG:Paired (fun (kv:aR×V) (x:Str×Nat)=>kv.1=Sum.inr x.1/\cE G kv.2 (bN u x.2)) kv sh:=Pd.imp pk7 fun v x r=>⟨r.1,let ⟨q,e,g⟩:=r.2; ⟨q,e,tkG _ _ g⟩⟩
      w_fin
      refine uD ⟨pb,S,u,ds,sh,tw,rfl,hu,LQ.tk gb7 kc t7,hSp,hSm,hS0,by omega,⟨kv,kT kc t7 gs7 (fun _ z=>by cases z),pkG⟩,nd,fun x hx=>by have:=b4 x hx; omega,by omega,tG',fun c' T' es' v' Ge ho' hr' hfr ke te=>?_⟩
      have k7e:Kp tT G7 Ge:=kc.trans ke
      w_fin
      refine BD ⟨pu,u,p2,S,pt,Ft,x0.2,dw,sh,tw,rfl,hu,kT k7e t7 gu7 (fun _ z=>by cases z),kT k7e t7 g27 (fun _ z=>by cases z),hSp,hSm,by omega,kT k7e t7 gt7 (fun _ z=>by cases z),hFt,lt4,kT k7e t7 gw7 (fun _ z=>by cases z),nd,by omega,hlast,fun c T es v Gd ho hr sd=>?_⟩
      obtain ⟨rfl,rfl,rfl⟩:=vD ho ho'
      w_fin
      refine HG nd (EB.sm hr' sd) hr ?_
      w_fin
      exact ⟨_,rfl,(kG'.trans ke).trans sd.kp,cQ.same te sd⟩
     ·rintro σ G ⟨o12,rfl,kG,tG⟩
      w_fin
      exact q _
  ·intro NX hN
   cases bf
   ·w_fin
    exact hN _ _ ⟨dw0,sh0,rfl,aJ.refl _,gw8,nd0,sl0,ne0,b40⟩
   ·w_fin
    refine lY (fun c=>?_) (fun c=>?_)
    ·w_fin
     refine zT fun de hde=>?_
     w_fin
     refine ⟨aC,[(Sum.inr "ding",V.int eg)],rfl,show 1<=15 by decide,?_⟩
     rw [show L2.upd (L2.upd H8 de (.dK [])) de (.dK (dH [] [(Sum.inr "ding",V.int eg)]))=L2.upd H8 de (.dK (gB [("ding",eg)])) from yY ..]
     w_fin
     exact hN _ _ ⟨de,[("ding",eg)],rfl,aJ.new hde,aC,by simp,by simp,by simp,fun y hy=>by rw [mem_singleton.mp hy]; show eg<=400; omega⟩
    ·w_fin
     exact hN _ _ ⟨dw0,sh0,rfl,aJ.refl _,gw8,nd0,sl0,ne0,b40⟩
end
structure DA (K:Frag) (n:Str) (s:Stmt):Prop where
 ex:∃ (f:Addr) (oc:Value) (od an:Option Addr) (sl:Array (Option Value)) (kV dc pm cd ct:Value),nsIn K mainGlobals n=some (some (.ref f))/\K.lookup f=some ⟨oc,od,.func (fnOf n n (bJ s) (aZ s) (aE s) .none kV dc pm an cd ct),sl⟩/\PySem.W.codeIn K cd n=true/\keepIn K (.ref f)=true
theorem DA.of {K:Frag}{n:Str}{s:Stmt}{f:Addr}{oc:Value}{od an:Option Addr}{sl:Array (Option Value)}{kV dc pm cd ct:Value} (a:nsIn K mainGlobals n=some (some (.ref f))) (l:K.lookup f=some ⟨oc,od,.func (fnOf n n (bJ s) (aZ s) (aE s) .none kV dc pm an cd ct),sl⟩) (c:PySem.W.codeIn K cd n=true) (k:keepIn K (.ref f)=true):DA K n s:=⟨_,_,_,_,_,_,_,_,_,_,a,l,c,k⟩
theorem DA.df {K:Frag}{mg:Str->Option Value}{h:Heap}{x:Str}{st:Stmt}{ps:List Str} (d:DA K x st) (X:K.In h) (G:h.Ns mainGlobals mg)
 (b:∀ (kV doc pm:Value) (an:Option Addr) (cdv ct:Value) (us:List Value),us.length=ps.length->bindArgs (fnOf x x (bJ st) (aZ st) (aE st) .none kV doc pm an cdv ct) ⟨us,[]⟩=pure (ps.zip us)):Df K mg x st ps:=by
 obtain ⟨f,oc,od,an,sl,kV,dc,pm,cd,ct,a,l,c,k⟩:=d.ex
 exact YR X G a l c k (b _ _ _ _ _ _)
theorem all_mk {l:PySem.W.OpenLaw}{w:World}{K:Frag}{h:Heap}{mg:Str->Option Value}{fa:Addr} (X:K.In h) (G:h.Ns mainGlobals mg) (hfa:mg "law"=some (.ref fa)) {f4:Addr}{oc4:Value}{od4 an4:Option Addr}{sl4:Array (Option Value)}{kV4 dc4 pm4 cd4 ct4:Value}{f11:Addr}{oc11:Value}{od11 an11:Option Addr}{sl11:Array (Option Value)}{kV11 dc11 pm11 cd11 ct11:Value}{dT11:Addr}{dO11:Obj}{dN11:Nat}{f27:Addr}{oc27:Value}{od27 an27:Option Addr}{sl27:Array (Option Value)}{kV27 dc27 pm27 cd27 ct27:Value}{xt x1 x3 x4:Addr}{cd_NoSum:ClassData}{cd_NoNet:ClassData}{cd_TooMany:ClassData}{tk_LETTERS:Tok}{tk_MOST_RUNS:Tok}
  (a0:DA K "common_divisor" eA)
  (a1:DA K "added" rO)
  (a2:DA K "lessened" jE)
  (a3:DA K "whole_tops" eR)
  (a4:nsIn K mainGlobals "sorted_by"=some (some (.ref f4))) (l4:K.lookup f4=some ⟨oc4,od4,.func (fnOf "sorted_by" "sorted_by" (bJ cM) (aZ cM) (aE cM) .none kV4 dc4 pm4 an4 cd4 ct4),sl4⟩) (c4:PySem.W.codeIn K cd4 "sorted_by"=true) (k4:keepIn K (.ref f4)=true) (tb4:codeHdIn K 93 91=true) (tc4:cd4=.ref 93)
  (a5:DA K "units_of" gJ)
  (a6:DA K "fewest_parts" dS)
  (a7:DA K "first_part" gN)
  (a8:DA K "made_of" lA)
  (a9:DA K "post_called" fP)
  (a10:DA K "rising_moments" cS)
  (a11:nsIn K mainGlobals "made_net"=some (some (.ref f11))) (l11:K.lookup f11=some ⟨oc11,od11,.func (fnOf "made_net" "made_net" (bJ dE) (aZ dE) (aE dE) (.ref dT11) kV11 dc11 pm11 an11 cd11 ct11),sl11⟩) (c11:PySem.W.codeIn K cd11 "made_net"=true) (k11:keepIn K (.ref f11)=true)
  (t11:K.lookup dT11=some dO11) (u11:dO11.data=.seq #[.bool false] dN11)
  (a12:DA K "_law_cell_at" lB)
  (a13:DA K "_law_mixed" rJ)
  (a14:DA K "_law_great" rL)
  (a15:DA K "_law_numbers" kZ)
  (a16:DA K "_law_lowest" nK)
  (a17:DA K "_law_unit" xF)
  (a18:DA K "_law_sizes" rG)
  (a19:DA K "_law_times_of" gM)
  (a20:DA K "_law_best" rM)
  (a21:DA K "_law_list" rK)
  (a22:DA K "_law_names" mK)
  (a23:DA K "_law_show" xH)
  (a24:DA K "_law_due" FF)
  (a25:DA K "_law_asked" rN)
  (a26:DA K "_law_told" xG)
  (a27:nsIn K mainGlobals "law"=some (some (.ref f27))) (l27:K.lookup f27=some ⟨oc27,od27,.func (fnOf "law" "law" (bJ jT) (aZ jT) (aE jT) .none kV27 dc27 pm27 an27 cd27 ct27),sl27⟩) (c27:PySem.W.codeIn K cd27 "law"=true) (k27:keepIn K (.ref f27)=true)
  (bT:nsIn K mainGlobals "TileError"=some (some (.ref xt))) (b1:nsIn K mainGlobals "NoNet"=some (some (.ref x1))) (b3:nsIn K mainGlobals "NoSum"=some (some (.ref x3))) (b4:nsIn K mainGlobals "TooMany"=some (some (.ref x4))) (zV:nsIn K mainGlobals "ValueError"=some none)
  (ga_NoSum:PySem.W.findIn K (.ref x3) "__getattribute__"=some (some (.builtin "BaseException.__getattribute__"))) (gt_NoSum:PySem.W.findIn K (.ref x3) "__getattr__"=some none) (ca_NoSum:PySem.W.findIn K (.ref x3) "__class__"=some (some (.builtin "object.__class__"))) (ob_NoSum:PySem.W.subIn K (.ref x3) (.type "object")=some true) (be_NoSum:PySem.W.subIn K (.ref x3) (.type "BaseException")=some true) (ic_NoSum:PySem.W.clsIn K x3=some cd_NoSum) (ex_NoSum:excIn K x3 wJ "ValueError.__new__"=true) (ve_NoSum:kitOne K (.ref x3) (.type "ValueError")=some true) (tt_NoSum:exmOne K (.ref x3) (.ref xt)=some true)
  (k1_NoSum:kitOne K (.ref x3) (.ref x1)=some (Nat.beq 1 3)) (k3_NoSum:kitOne K (.ref x3) (.ref x3)=some (Nat.beq 3 3)) (k4_NoSum:kitOne K (.ref x3) (.ref x4)=some (Nat.beq 4 3))
  (ga_NoNet:PySem.W.findIn K (.ref x1) "__getattribute__"=some (some (.builtin "BaseException.__getattribute__"))) (gt_NoNet:PySem.W.findIn K (.ref x1) "__getattr__"=some none) (ca_NoNet:PySem.W.findIn K (.ref x1) "__class__"=some (some (.builtin "object.__class__"))) (ob_NoNet:PySem.W.subIn K (.ref x1) (.type "object")=some true) (be_NoNet:PySem.W.subIn K (.ref x1) (.type "BaseException")=some true) (ic_NoNet:PySem.W.clsIn K x1=some cd_NoNet) (ex_NoNet:excIn K x1 wJ "ValueError.__new__"=true) (ve_NoNet:kitOne K (.ref x1) (.type "ValueError")=some true) (tt_NoNet:exmOne K (.ref x1) (.ref xt)=some true)
  (k1_NoNet:kitOne K (.ref x1) (.ref x1)=some (Nat.beq 1 1)) (k3_NoNet:kitOne K (.ref x1) (.ref x3)=some (Nat.beq 3 1)) (k4_NoNet:kitOne K (.ref x1) (.ref x4)=some (Nat.beq 4 1))
  (ga_TooMany:PySem.W.findIn K (.ref x4) "__getattribute__"=some (some (.builtin "BaseException.__getattribute__"))) (gt_TooMany:PySem.W.findIn K (.ref x4) "__getattr__"=some none) (ca_TooMany:PySem.W.findIn K (.ref x4) "__class__"=some (some (.builtin "object.__class__"))) (ob_TooMany:PySem.W.subIn K (.ref x4) (.type "object")=some true) (be_TooMany:PySem.W.subIn K (.ref x4) (.type "BaseException")=some true) (ic_TooMany:PySem.W.clsIn K x4=some cd_TooMany) (ex_TooMany:excIn K x4 wJ "ValueError.__new__"=true) (ve_TooMany:kitOne K (.ref x4) (.type "ValueError")=some true) (tt_TooMany:exmOne K (.ref x4) (.ref xt)=some true)
  (k1_TooMany:kitOne K (.ref x4) (.ref x1)=some (Nat.beq 1 4)) (k3_TooMany:kitOne K (.ref x4) (.ref x3)=some (Nat.beq 3 4)) (k4_TooMany:kitOne K (.ref x4) (.ref x4)=some (Nat.beq 4 4))
  (gl_LETTERS:nsIn K mainGlobals "LETTERS"=some (some (.str "abcdefghijklmnopqrstuvwxyz" tk_LETTERS)))
  (gl_MOST_RUNS:nsIn K mainGlobals "MOST_RUNS"=some (some (.int 120 tk_MOST_RUNS)))
  (z_int:nsIn K mainGlobals "int"=some none)
  (z_bool:nsIn K mainGlobals "bool"=some none)
  (z_str:nsIn K mainGlobals "str"=some none)
  (z_list:nsIn K mainGlobals "list"=some none)
  (z_tuple:nsIn K mainGlobals "tuple"=some none)
  (z_dict:nsIn K mainGlobals "dict"=some none)
  (z_set:nsIn K mainGlobals "set"=some none)
  (z_range:nsIn K mainGlobals "range"=some none)
  (z_enumerate:nsIn K mainGlobals "enumerate"=some none)
  (z_zip:nsIn K mainGlobals "zip"=some none)
  (z_reversed:nsIn K mainGlobals "reversed"=some none)
  (z_len:nsIn K mainGlobals "len"=some none)
  (z_abs:nsIn K mainGlobals "abs"=some none)
  (z_max:nsIn K mainGlobals "max"=some none)
  (z_min:nsIn K mainGlobals "min"=some none)
  (z_isinstance:nsIn K mainGlobals "isinstance"=some none)
  (z_sorted:nsIn K mainGlobals "sorted"=some none)
  (z_all:nsIn K mainGlobals "all"=some none)
  (z_any:nsIn K mainGlobals "any"=some none)
  (z_sum:nsIn K mainGlobals "sum"=some none) :
  ∃ fd:FuncData,(∀ (s:Shared) (v:Value),BindsTo s fd ⟨[v],[]⟩ [("_law_script",v)])/\∀ base:Heap,K.In base->base.Ns mainGlobals mg->pN mg base->iB l.prog w K mg base JU 8 fa fd ["_law_script"] (zG K):=by
 have e:=hfa.symm.trans (mg_of X G a27)
 cases e
 have T:Bl mg:=⟨mg_none_of X G z_int,mg_none_of X G z_bool,mg_none_of X G z_str,mg_none_of X G z_list,mg_none_of X G z_tuple,mg_none_of X G z_dict,mg_none_of X G z_set,mg_none_of X G z_range,mg_none_of X G z_enumerate,mg_none_of X G z_zip,mg_none_of X G z_reversed,mg_none_of X G z_len,mg_none_of X G z_abs,mg_none_of X G z_max,mg_none_of X G z_min,mg_none_of X G z_isinstance,mg_none_of X G z_sorted,mg_none_of X G z_all,mg_none_of X G z_any,mg_none_of X G z_sum⟩
 have W:kP mg xt x1 x3 x4:=⟨mg_of X G bT,mg_of X G b1,mg_of X G b3,mg_of X G b4,mg_none_of X G zV⟩
 have R_NoSum:bX K xt x1 x3 x4 x3 3:=⟨⟨ga_NoSum,gt_NoSum,ca_NoSum,ob_NoSum,be_NoSum,by rw [ic_NoSum]; rfl⟩,.ve ex_NoSum,ve_NoSum,tt_NoSum,k1_NoSum,k3_NoSum,k4_NoSum⟩
 have R1:bX K xt x1 x3 x4 x1 1:=⟨⟨ga_NoNet,gt_NoNet,ca_NoNet,ob_NoNet,be_NoNet,by rw [ic_NoNet]; rfl⟩,.ve ex_NoNet,ve_NoNet,tt_NoNet,k1_NoNet,k3_NoNet,k4_NoNet⟩
 have R4:bX K xt x1 x3 x4 x4 4:=⟨⟨ga_TooMany,gt_TooMany,ca_TooMany,ob_TooMany,be_TooMany,by rw [ic_TooMany]; rfl⟩,.ve ex_TooMany,ve_TooMany,tt_TooMany,k1_TooMany,k3_TooMany,k4_TooMany⟩
 subst tc4
 have d_sorted_by:ZW K mg "sorted_by" cM ["fractions","things"] 93 91:=TY X G a4 l4 c4 k4 tb4 (NB fun _ _=>rfl)
 have d_made_net:ZV K mg "made_net" dE ["box","show","double"] [.bl false] 2 ["double"]:=TW (ds:=[.bool false]) X G a11 l11 c11 k11 t11 u11 (fun sh us hg hl=>by refine YL (P:=fun us=>BindsTo sh _ ⟨us,[]⟩ (List.zip ["box","show","double"] us)) ?_ us hl; exact fun _ _ _=>.of_defaults rfl hg u11 rfl rfl) (.cons rfl .nil) (fun sh us hg hl=>by refine NB (P:=fun us=>BindsTo sh _ ⟨us,[]⟩ (List.zip ["box","show","double"] (us++[.bool false]))) ?_ us (show us.length=2 by simpa using hl); exact fun _ _=>.of_defaults rfl hg u11 rfl rfl) (by decide) (fun sh us ws hg hu hw=>by refine NB (P:=fun us=>BindsTo sh _ ⟨us,List.zip ["double"] ws⟩ (List.zip ["box","show","double"] (us++ws))) ?_ us hu; exact fun _ _=>by refine YM (P:=fun ws=>BindsTo sh _ ⟨_,List.zip ["double"] ws⟩ (List.zip ["box","show","double"] (_++ws))) ?_ ws hw; exact fun _=>.of_defaults rfl hg u11 rfl rfl)
 have FL:=TU (st:=jT) l27 c27 k27
 refine ⟨fnOf "law" "law" (bJ jT) (aZ jT) (aE jT) .none kV27 dc27 pm27 an27 cd27 ct27,fun s v=>.of_eq rfl,fun base _ _ BB=>?_⟩
 have o0b:=jZ (P:=l.prog) (w:=w) (base:=base) (k:=0) T (a0.df X G (by w_left)) W R_NoSum R1 R4
 have o0u:=HC (k:=1) T (a1.df X G (by w_left)) W R_NoSum R1 R4 (o0b.mono (by decide))
 have o0j:=vI (k:=2) T (a2.df X G (by w_left)) W R_NoSum R1 R4 (o0u.mono (by decide))
 have o0f:=pC (k:=1) T (a3.df X G (by w_left)) W R_NoSum R1 R4 (o0b.mono (by decide))
 have o0g:bV l.prog w K mg base 3 "sorted_by" ["fractions","things"] (gH K):=sP (k:=2) T d_sorted_by BB W R_NoSum R1 R4 (o0f.mono (by decide))
 have o0k:=vF (k:=2) T (a5.df X G (by w_left)) W R_NoSum R1 R4 (o0b.mono (by decide)) (o0f.mono (by decide))
 have o0c:=lR (P:=l.prog) (w:=w) (base:=base) (k:=0) T (a6.df X G (by w_left)) W R_NoSum R1 R4
 have o0e:=pD (P:=l.prog) (w:=w) (base:=base) (k:=0) T (a7.df X G (by w_left)) W R_NoSum R1 R4
 have o0m:=xS (k:=3) T (a8.df X G (by w_left)) W R_NoSum R1 R4 (o0e.mono (by decide)) (o0c.mono (by decide)) (o0k.mono (by decide)) (o0g.mono (by decide))
 have o0d:=nW (P:=l.prog) (w:=w) (base:=base) (k:=0) T (a9.df X G (by w_left)) W R_NoSum R1 R4 (mg_of X G gl_LETTERS)
 have o0a:=jY (k:=3) T (a10.df X G (by w_left)) W R_NoSum R1 R4 (o0g.mono (by decide))
 have o0i:=vH (P:=l.prog) (w:=w) (base:=base) (k:=4) T d_made_net W R_NoSum R1 R4 (mg_of X G gl_MOST_RUNS) (o0d.mono (by decide)) (o0a.mono (by decide)) (o0j.mono (by decide)) (o0m.mono (by decide))
 have o0n:=xT (P:=l.prog) (w:=w) (base:=base) (k:=0) T (a12.df X G (by w_left)) W R_NoSum R1 R4
 have o0s:=GZ (P:=l.prog) (w:=w) (base:=base) (k:=0) T (a13.df X G (by w_left)) W R_NoSum R1 R4
 have o0p:=HA (k:=1) T (a14.df X G (by w_left)) W R_NoSum R1 R4 (o0s.mono (by decide))
 have o0l:=xR (k:=1) T (a15.df X G fun _ _ _ _ _ _=>YK fun _ _ _ _=>rfl) W R_NoSum R1 R4 (o0n.mono (by decide)) (o0s.mono (by decide))
 have o0o:=CG (P:=l.prog) (w:=w) (base:=base) (k:=0) T (a16.df X G (by w_left)) W R_NoSum R1 R4
 have o0w:=ME (P:=l.prog) (w:=w) (base:=base) (k:=0) T (a17.df X G (by w_left)) W R_NoSum R1 R4
 have o0r:=GX (P:=l.prog) (w:=w) (base:=base) (k:=0) T (a18.df X G (by w_left)) W R_NoSum R1 R4
 have o0h:=vG (k:=1) T (a19.df X G (by w_left)) W R_NoSum R1 R4 (o0o.mono (by decide))
 have o0x:=MI (P:=l.prog) (w:=w) (base:=base) (k:=0) T (a20.df X G (by w_left)) W R_NoSum R1 R4
 have o0v:=MH (P:=l.prog) (w:=w) (base:=base) (k:=0) T (a21.df X G (by w_left)) W R_NoSum R1 R4
 have o0q:=GY (P:=l.prog) (w:=w) (base:=base) (k:=0) T (a22.df X G (by w_left)) W R_NoSum R1 R4
 have o0z:=MG (P:=l.prog) (w:=w) (base:=base) (k:=0) T (a23.df X G fun _ _ _ _ _ _=>YK fun _ _ _ _=>rfl) W R_NoSum R1 R4
 have o1a:=ST (k:=2) T (a24.df X G fun _ _ _ _ _ _=>Au fun _ _ _ _ _=>rfl) W R_NoSum R1 R4 (o0v.mono (by decide)) (o0h.mono (by decide)) (o0q.mono (by decide))
 have o0t:=HB (k:=5) T (a25.df X G (by w_left)) W R_NoSum R1 R4 (o0i.mono (by decide))
 have o0y:=MF (k:=6) T (a26.df X G (by w_left)) W R_NoSum R1 R4 (o0t.mono (by decide))
 exact SS (k:=7) T FL W R_NoSum R1 R4 (o0y.mono (by decide)) (o1a.mono (by decide)) (o0x.mono (by decide)) (o0o.mono (by decide)) (o0z.mono (by decide)) (o0n.mono (by decide)) (o0p.mono (by decide)) (o0h.mono (by decide)) (o0w.mono (by decide)) (o0l.mono (by decide)) (o0r.mono (by decide)) (o0s.mono (by decide))
theorem walk {l:PySem.W.OpenLaw}{q:Program}{loose:List Str}{XP:(Str->Option Value)->Heap->Prop}{YP:World->Heap->Prop}{d:DefRec}{K:Params->Frag} (hn:l.most=some 63) (hdf:d.params.defaults=[])
  (hY:∀ (w:World) (h:Heap),YP w h->(K w.params).In h/\h.get? 91=some (tabObj #[])) (hC:∀ P,codeHdIn (K P) 93 91=true) (hKT:∀ P,(K P).lookup 91=none)
  (F:∀ (w:World) (mg:Str->Option Value) (fa:Addr) (h:Heap),(K w.params).In h->h.Ns mainGlobals mg->mg d.name=some (.ref fa) ->
   ∃ fd:FuncData,(∀ (s:Shared) (u:Value),BindsTo s fd ⟨[u],[]⟩ [("_law_script",u)])/\∀ base:Heap,(K w.params).In base->base.Ns mainGlobals mg->pN mg base->iB l.prog w (K w.params) mg base JU 8 fa fd ["_law_script"] (zG (K w.params))) :
  PySem.W.WalkO q loose XP YP l.row.toRowW d [] (fun f vs=>PySem.call f vs):=
 L2.walk_ofT (n:=63) (k:=8) (x:="_law_script") (CX:=fun _=>JU) (sp:=fun w=>zG (K w.params)) hn (by decide) hdf ⟨rfl,by decide,by decide⟩ hY hC hKT F (fun _ _ a ns hl hT hS=>⟨a,ns,rfl,hS,hl,.inl hT,fun _=>rfl⟩) fun _ _ _ _ _ z=>z
open PySem.W in
theorem Be {q:Program}{loose:List Str}{XP:(Str->Option Value)->Heap->Prop}{r:RowW}{d:DefRec}{kwd:List (Str×Expr)}{run:Value->List Value->Sem Value}{K:Params->Frag}{as:List Addr}{n t:Nat} (e:∀ P:Params,as=List.map (fun x=>x.fst) (K P))
  (W:WalkO q loose XP (kHook K as e).says r d kwd run):WalkX q loose XP (X.obsZ as) (X.valZ K n t) r d kwd run:=
 fun w s₀ s₁ mg mb G y a o pm cd doc dV kV ho hd hcd hD hmg hg args vals as' L hpre hlay hrd hwl hlo =>
  W w s₀ s₁ mg mb G ((kHook K as e).keeps w s₀.heap s₁.heap ((kHook K as e).of w s₀ (congrArg Prod.fst y)) L.keeps) a o pm cd doc dV kV ho hd hcd hD hmg hg args vals as' hpre hlay hrd hwl hlo
end Lw
local macro_rules | `(tactic| walk_at "df") => `(tactic| (refine' Lw.DA.of ?a ?l ?c ?k; (case a => k_is); (case l => k_is); (case c => k_is); (case k => k_is)))
open PySem PySem.W PyProof.Rows
set_option maxRecDepth 100000 in
set_option maxHeartbeats 0 in
theorem PySem.Challenge.cw_tilefall_k62_made_nets_holds : PySem.Challenge.rw_tilefall_k62_made_nets.Holds := by
  w_on; o_law; km_head; (case hw => w_witness2)
  k_fill
  refine Lw.walk (l := PySem.Challenge.rw_tilefall_k62_made_nets) rfl rfl (fun w h Y => ⟨PySem.W.km_in_of Y, PySem.W.km_tabs_of Y 91 (by simp)⟩) (fun _ => by kernel_rfl) (fun _ => by kernel_rfl) ?F
  case F =>
    intro w mg fa h KX G hmg
    refine' Lw.all_mk KX G hmg ?a0 ?a1 ?a2 ?a3 ?a4 ?l4 ?c4 ?k4 ?tb4 ?tc4 ?a5 ?a6 ?a7 ?a8 ?a9 ?a10 ?a11 ?l11 ?c11 ?k11 ?t11 ?u11 ?a12 ?a13 ?a14 ?a15 ?a16 ?a17 ?a18 ?a19 ?a20 ?a21 ?a22 ?a23 ?a24 ?a25 ?a26 ?a27 ?l27 ?c27 ?k27 ?bT ?b1 ?b3 ?b4 ?zV ?ga_NoSum ?gt_NoSum ?ca_NoSum ?ob_NoSum ?be_NoSum ?ic_NoSum ?ex_NoSum ?ve_NoSum ?tt_NoSum ?k1_NoSum ?k3_NoSum ?k4_NoSum ?ga_NoNet ?gt_NoNet ?ca_NoNet ?ob_NoNet ?be_NoNet ?ic_NoNet ?ex_NoNet ?ve_NoNet ?tt_NoNet ?k1_NoNet ?k3_NoNet ?k4_NoNet ?ga_TooMany ?gt_TooMany ?ca_TooMany ?ob_TooMany ?be_TooMany ?ic_TooMany ?ex_TooMany ?ve_TooMany ?tt_TooMany ?k1_TooMany ?k3_TooMany ?k4_TooMany ?gl_LETTERS ?gl_MOST_RUNS  ?z_int ?z_bool ?z_str ?z_list ?z_tuple ?z_dict ?z_set ?z_range ?z_enumerate ?z_zip ?z_reversed ?z_len ?z_abs ?z_max ?z_min ?z_isinstance ?z_sorted ?z_all ?z_any ?z_sum
    (case a0 | a1 | a2 | a3 | a5 | a6 | a7 | a8 | a9 | a10 | a12 | a13 | a14 | a15 | a16 | a17 | a18 | a19 | a20 | a21 | a22 | a23 | a24 | a25 | a26 => walk_at "df")
    (case a4|l4|c4|k4|a11|l11|c11|k11|t11|a27|l27|c27|k27|bT|b1|b3|b4|zV|ga_NoSum|gt_NoSum|ca_NoSum|ob_NoSum|be_NoSum|ic_NoSum|ga_NoNet|gt_NoNet|ca_NoNet|ob_NoNet|be_NoNet|ic_NoNet|ga_TooMany|gt_TooMany|ca_TooMany|ob_TooMany|be_TooMany|ic_TooMany|gl_LETTERS|gl_MOST_RUNS|z_int|z_bool|z_str|z_list|z_tuple|z_dict|z_set|z_range|z_enumerate|z_zip|z_reversed|z_len|z_abs|z_max|z_min|z_isinstance|z_sorted|z_all|z_any|z_sum => k_is)
    (case tb4 => first | k_is | kernel_rfl); (case tc4 => exact rfl)
    (case u11 => exact rfl)
    (case ex_NoSum => k_exc)
    (case ve_NoSum => kit_is)
    (case tt_NoSum => kts_exm)
    (case k1_NoSum => kit_is)
    (case k3_NoSum => kit_is)
    (case k4_NoSum => kit_is)
    (case ex_NoNet => k_exc)
    (case ve_NoNet => kit_is)
    (case tt_NoNet => kts_exm)
    (case k1_NoNet => kit_is)
    (case k3_NoNet => kit_is)
    (case k4_NoNet => kit_is)
    (case ex_TooMany => k_exc)
    (case ve_TooMany => kit_is)
    (case tt_TooMany => kts_exm)
    (case k1_TooMany => kit_is)
    (case k3_TooMany => kit_is)
    (case k4_TooMany => kit_is)
