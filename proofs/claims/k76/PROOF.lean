import PyProof.Rows.All
import Wide.All
import OpenK.AllK
import Wide.FinOn
import Lean
import PyProof.EqAt
import PyProof.EqKinds
import PyProof.TupleCall
import PyProof.NeKinds
import KE.KTryMore
import KE.RegKTryMore
import KE.RegKIsAll
import PyProof.ExcBaseAll.ValueError
import PyProof.ExcBaseAll.Exception
import PyProof.ExcAttrAll.ValueError
import PySem.Challenge.RW_tilefall_k76_whole_from_text_to_net
set_option Elab.async false
set_option linter.all false
set_option maxRecDepth 100000
open List (all_cons all_eq_true all_map any_cons append_assoc append_nil cons_ne_nil drop_drop drop_left drop_length drop_zero filterMap_cons find?_cons flatMap_append flatMap_cons forIn_cons forIn_nil length_append length_cons length_drop length_map length_nil length_pos_iff length_replicate length_reverse length_tail length_take length_take_le lookup_cons map_append map_cons map_eq_nil_iff map_map map_nil map_take mem_append mem_append_left mem_append_right mem_cons mem_cons_of_mem mem_cons_self mem_flatMap mem_map mem_of_getElem? mem_of_mem_take mem_range mem_reverse mem_singleton nil_append nodup_cons of_mem_zip pairwise_map size_toArray sum_cons take_add_one take_append take_append_drop take_length take_of_length_le take_take)
open Nat (le_antisymm le_of_ble_eq_true le_of_lt le_refl le_succ le_trans lt_irrefl lt_of_le_of_lt lt_of_lt_of_le lt_or_ge lt_succ_self lt_trans min_self mul_le_mul_right ne_of_gt ne_of_lt not_lt_zero pow_add sub_zero succ_mul succ_pos zero_le)
open PySem.W (Frag InstAt callWith_K cellsFrom_some excIn exmOne fnOf instObj keepIn kia_one kitCls kitOne kitx_dict kitx_list lookIn methodObj mg_none_of mg_of mroIn nsIn plainGet)
open PySem.F (entry_dict_get plainAttrs_list plainAttrs_str slot_dict_get slot_str_count slot_str_join slot_str_split slot_tuple_add type_str_count type_str_join type_str_split)
open PySem.Heap (get?_none_of_le get?_push_of_some get?_push_size get?_update_other get?_update_self lt_size size_push)
def PySem.W.Fast.tw1471693073461631729:=0
def PySem.W.Fast.tw12573306701844172508:=0
def PySem.W.Fast.tw12805961249481216481:=0
def PySem.W.Fast.tw4595582071528899872:=0
def PySem.W.Fast.tw15870351412005710446:=0
def PySem.W.Fast.tw12641638670094555930:=0
def PySem.W.Fast.tw11728094994227868268:=0
def PySem.W.Fast.tw4004844453195593405:=0
def PySem.W.Fast.tw15255512544557534352:=0
def PySem.W.Fast.tw6593518960221108335:=0
def PySem.W.Fast.tw13927314450124059067:=0
def PySem.W.Fast.tw13967615266262446573:=0
def PySem.W.Fast.tw1029203846429645874:=0
def PySem.W.Fast.tw4193542230955262132:=0
def PySem.W.Fast.tw6888058100361126644:=0
def PySem.W.Fast.tw18016760564836529256:=0
def PySem.W.Fast.tw14992136147954915582:=0
def PySem.W.Fast.tw5793469529810916243:=0
def PySem.W.Fast.tw12234549840923346034:=0
def PySem.W.Fast.tw17116918256360280823:=0
def PySem.W.Fast.tw361270573446100238:=0
def PySem.W.Fast.tw3821055770327832804:=0
def PySem.W.Fast.tw3669575712986421712:=0
def PySem.W.Fast.tw5152689107916859381:=0
def PySem.W.Fast.tw8962711778645903255:=0
def PySem.W.Fast.tw3489271246778862738:=0
def PySem.W.Fast.tw6446300358322078223:=0
def PySem.W.Fast.tw11968942377681950318:=0
def PySem.W.Fast.tw14159636092466473900:=0
def PySem.W.Fast.tw12206951123570364296:=0
namespace L2
open PySem PySem.Spec PyProof.Rows
section
abbrev cB:=Sum Int Str
def wQ:cB->Value->Bool
|.inl k,v=>Value.isInt k v
|.inr x,v=>Value.isStrOf x v
def vQ (w:World):cB->Int
|.inl k=>hashInt k
|.inr x=>hashStr w x
theorem dU:∀ {k:cB}{v:Value},wQ k v=true->(∃ i t,k=Sum.inl i/\v=Value.int i t)∨(∃ x t,k=Sum.inr x/\v=Value.str x t)
|.inl i,v,h=>by
  obtain ⟨t,e⟩:=Value.isInt_shape (k:=i) (v:=v) h
  exact .inl ⟨i,t,rfl,e⟩
|.inr x,v,h=>by
  obtain ⟨t,e⟩:=Value.isStrOf_shape (x:=x) (v:=v) h
  exact .inr ⟨x,t,rfl,e⟩
theorem IS (i:Int) (t:Tok):wQ (.inl i) (.int i t)=true:=by simp [wQ,Value.isInt]
theorem gP (x:Str) (t:Tok):wQ (.inr x) (.str x t)=true:=by simp [wQ,Value.isStrOf]
theorem ZD (a b:Int):decide ((Sum.inl a:cB)=Sum.inl b)=(a==b):=by
 by_cases e:a=b
 ·subst e; simp
 ·have h:¬ (Sum.inl a:cB)=Sum.inl b:=fun q=>e (Sum.inl.inj q)
  rw [decide_eq_false h]
  exact (beq_eq_false_iff_ne.mpr e).symm
theorem ZA (a b:Str):decide ((Sum.inr a:cB)=Sum.inr b)=decide (a=b):=by
 by_cases e:a=b
 ·subst e; simp
 ·have h:¬ (Sum.inr a:cB)=Sum.inr b:=fun q=>e (Sum.inr.inj q)
  rw [decide_eq_false h,decide_eq_false e]
theorem ZC (a:Int) (b:Str):decide ((Sum.inl a:cB)=Sum.inr b)=false:=decide_eq_false (fun q=>nomatch q)
theorem ZB (a:Str) (b:Int):decide ((Sum.inr a:cB)=Sum.inl b)=false:=decide_eq_false (fun q=>nomatch q)
def cQ (prog:Program) (w:World):PySem.KeyKind prog w cB where
 is:=wQ
 hash:=vQ w
 inj:=fun v a b ha hb=>by
  rcases dU ha with ⟨i,t,rfl,rfl⟩|⟨x,t,rfl,rfl⟩
  ·rcases dU hb with ⟨j,u,rfl,e⟩|⟨y,u,rfl,e⟩
   ·injection e with e1 _; rw [e1]
   ·exact nomatch e
  ·rcases dU hb with ⟨j,u,rfl,e⟩|⟨y,u,rfl,e⟩
   ·exact nomatch e
   ·injection e with e1 _; rw [e1]
 byValue:=fun k v h=>by
  rcases dU h with ⟨i,t,rfl,rfl⟩|⟨x,t,rfl,rfl⟩ <;> rfl
 pyHash:=fun hv h=>by
  rcases dU hv with ⟨i,t,rfl,rfl⟩|⟨x,t,rfl,rfl⟩
  ·exact wpAny_pyHash_int h
  ·exact wpAny_pyHash_str h
 eqBool:=fun hu hv h=>by
  rcases dU hu with ⟨i,t,rfl,rfl⟩|⟨x,t,rfl,rfl⟩
  ·rcases dU hv with ⟨j,u,rfl,rfl⟩|⟨y,u,rfl,rfl⟩
   ·rw [ZD] at h; exact wpAny_eqBool_int h
   ·rw [ZC] at h; exact SeqAt.EqAt.int_str i t y u _ _ _ _ h
  ·rcases dU hv with ⟨j,u,rfl,rfl⟩|⟨y,u,rfl,rfl⟩
   ·rw [ZB] at h; exact SeqAt.EqAt.str_int x t j u _ _ _ _ h
   ·rw [ZA] at h; exact wpAny_eqBool_str h
 «strs»:=fun k x t v h=>by
  rcases dU h with ⟨i,u,rfl,e⟩|⟨y,u,rfl,e⟩
  ·exact nomatch e
  ·injection e with e1 _
   subst e1
   cases v <;> rfl
theorem BG (prog:Program) (w:World) (i:Int) (t:Tok):(cQ prog w).is (.inl i) (.int i t)=true:=IS i t
theorem BF (prog:Program) (w:World) (x:Str) (t:Tok):(cQ prog w).is (.inr x) (.str x t)=true:=gP x t
end
section
inductive V where
|non|bl (b:Bool)|int (i:Int)|str (x:Str)|byt (b:Array UInt8)|flt (b:UInt64)|ref (a:Addr)|ty (n:String)
 deriving DecidableEq
def bL:V->Value->Prop
|.non,u=>u=Value.none
|.bl b,u=>u=Value.bool b
|.int i,u=>∃ t,u=Value.int i t
|.str x,u=>∃ t,u=Value.str x t
|.byt b,u=>∃ t,u=Value.bytes b t
|.flt b,u=>∃ t,u=Value.float b t
|.ref a,u=>u=Value.ref a
|.ty n,u=>u=Value.type n
abbrev bN:List V->List Value->Prop:=Paired bL
theorem bN.length {xs:List V}{us:List Value} (r:bN xs us):xs.length=us.length:=Paired.length r
theorem bN.get:∀ {xs:List V}{us:List Value}{i:Nat}{x:V},bN xs us->xs[i]?=some x->∃ u,us[i]?=some u/\bL x u
|_,_,_,_,.nil,e=>by simp at e
|_,_,0,_,.cons r _,e=>by simp at e; subst e; exact ⟨_,rfl,r⟩
|_,_,i+1,x,.cons _ t,e=>by
  obtain ⟨u,h1,h2⟩:=bN.get (i:=i) (x:=x) t (by simpa using e)
  exact ⟨u,by simpa using h1,h2⟩
theorem bN.set {x:V}{u:Value} (r:bL x u):∀ {xs:List V}{us:List Value} (i:Nat),bN xs us->bN (xs.set i x) (us.set i u)
|_,_,_,.nil=>.nil
|_,_,0,.cons _ t=>.cons r t
|_,_,i+1,.cons q t=>.cons q (bN.set r i t)
theorem bN.append:∀ {xs ys:List V}{us ws:List Value},bN xs us->bN ys ws->bN (xs++ys) (us++ws)
|_,_,_,_,.nil,s=>s
|_,_,_,_,.cons r t,s=>.cons r (bN.append t s)
theorem bN.take:∀ {xs:List V}{us:List Value} (n:Nat),bN xs us->bN (xs.take n) (us.take n)
|_,_,0,_=>.nil
|_,_,_+1,.nil=>.nil
|_,_,n+1,.cons r t=>.cons r (bN.take n t)
theorem bN.drop:∀ {xs:List V}{us:List Value} (n:Nat),bN xs us->bN (xs.drop n) (us.drop n)
|_,_,0,r=>r
|_,_,_+1,.nil=>.nil
|_,_,n+1,.cons _ t=>bN.drop n t
def pO:Option V->Option Value->Prop
|some v,some u=>bL v u
|none,none=>True
|_,_=>False
def KV {κ:Type}:List (κ×V)->List (κ×Value)->Prop:=Paired fun (p:κ×V) (q:κ×Value)=>p.1=q.1/\bL p.2 q.2
def kV:cB->V
|.inl i=>.int i
|.inr x=>.str x
inductive HO where
 |lst (xs:List V)
 |tup (xs:List V)
 |dK (kvs:List (cB×V))|dT (kvs:List (List cB×V))
 |set (S:Int->Bool) (n:Nat)
 |ins (C dx:Addr) (fs:List (Str×V))
 |own (x:Addr)
 |xd (fs:List (Str×V))
 |met (f x:Addr)
 |rng (lo hi:Int)
 |frz (o:Obj) (u:HO)
 |tbl (ps:Array Value)
 |ext (φ:Heap->Prop)
abbrev Hp:=Addr->Option HO
def upd (H:Hp) (a:Addr) (o:HO):Hp:=fun b=>if b=a then some o else H b
theorem aE {H:Hp}{a:Addr}{o:HO}:upd H a o a=some o:=by unfold upd; rw [if_pos rfl]
theorem aZ {H:Hp}{a b:Addr}{o:HO} (h:b≠a):upd H a o b=H b:=by unfold upd; rw [if_neg h]
theorem MU {H:Hp}{a b:Addr}{o u:HO} (h:H a=some o) (h':H b=some u) (d:o≠u):a≠b:=by
 intro e; subst e; rw [h] at h'; exact d (Option.some.inj h')
theorem aB {H:Hp}{a b:Addr}{o:HO} (h:H a=some o) (h':H b=none):a≠b:=by
 intro e; subst e; rw [h] at h'; cases h'
section
variable (P:Program) (w:World)
def cS (H:Hp) (h:Heap) (a:Addr):HO->Prop
|.lst xs=>xs.length<=sizeLine/\∃ (its:List Value) (n:Nat),bN xs its/\h.get? a=some { cls:=.type "list",data:=.seq its.toArray n }
|.tup xs=>(xs.length<=sizeLine/\∃ o,h.get? a=some o/\o.dict=none)/\∃ its:List Value,bN xs its/\IsTup h a its.toArray
|.dK kvs=>kvs.length<=sizeLine/\(a==sysModules)=false/\∃ vs,KV kvs vs/\h.DictOf (cQ P w) a vs
|.dT kvs=>kvs.length<=sizeLine/\(a==sysModules)=false/\∃ xs:List (List cB×Addr×Value),
   Paired (fun (p:List cB×V) (q:List cB×Addr×Value)=>p.1=q.1/\H q.2.1=some (.tup (p.1.map kV))/\bL p.2 q.2.2) kvs xs /\
   ∃ o es ep,h.get? a=some o/\o.ExactDict/\o.data=.dict es ep/\es.toList=xs.map (entryOfKey (tupleKind (cQ P w)))/\(xs.map (·.1)).Nodup
|.set S n=>h.SetOf (intKind P w) a S n
|.ins C dx fs=>H dx=some (.own a)/\fs.length<=1000/\dx≠a/\h.get? a=some (instObj C dx) /\
   ∃ mA,h.Ns1 dx mA/\(∀ f,pO (fs.lookup f) (mA f))/\PySem.Within mA (fs.map (·.1))
|.own _=>∃ o,h.get? a=some o
|.xd fs=>∃ mA,h.Ns1 a mA/\∀ f,pO (fs.lookup f) (mA f)
|.rng lo hi=>∃ t u v,h.get? a=some { cls:=.type "range",data:=.fields #[.int lo t,.int hi u,.int 1 v] }
|.frz o u=>h.get? a=some o/\cS H h a u
|.tbl ps=>h.get? a=some { cls:=.none,data:=.fields ps }
|.met f x=>h.get? a=some (methodObj (.ref f) (.ref x))
|.ext φ=>φ h/\(∃ o,h.get? a=some o)/\∀ h1 h2:Heap,φ h1->(∀ o,h1.get? a=some o->h2.get? a=some o)->φ h2
def lH (H:Hp) (h:Heap):Prop:=∀ a o,H a=some o->cS P w H h a o
end
section
variable {P:Program} {w:World} {H H':Hp} {h h':Heap} {a:Addr} {o:HO}
theorem cS.lt (x:cS P w H h a o):a < h.objs.size:=by
 cases o with
|lst xs=>obtain ⟨_,_,_,_,e⟩:=x; exact lt_size e
|tup xs=>obtain ⟨_,_,_,p⟩:=x; exact p.lt
|dK kvs=>obtain ⟨_,_,_,_,o,_,_,e,_⟩:=x; exact lt_size e
|dT kvs=>obtain ⟨_,_,_,_,o,_,_,e,_⟩:=x; exact lt_size e
|set S n=>obtain ⟨o,_,_,_,e,_⟩:=x; exact lt_size e
|ins C dx fs=>obtain ⟨_,_,_,e,_⟩:=x; exact lt_size e
|own y=>obtain ⟨_,e⟩:=x; exact lt_size e
|xd fs=>obtain ⟨_,⟨_,_,_,e,_⟩,_⟩:=x; exact lt_size e
|rng lo hi=>obtain ⟨_,_,_,e⟩:=x; exact lt_size e
|frz ob u=>obtain ⟨e,_⟩:=x; exact lt_size e
|tbl ps=>exact lt_size (show h.get? a=some _ from x)
|met f y=>exact lt_size (show h.get? a=some _ from x)
|ext φ=>obtain ⟨_,⟨_,e⟩,_⟩:=x; exact lt_size e
theorem Paired.mapP {α β:Type}{F G:α->β->Prop}:∀ {l₁:List α}{l₂:List β},Paired F l₁ l₂->(∀ a b,F a b->G a b)->Paired G l₁ l₂
|_,_,.nil,_=>.nil
|_,_,.cons r t,f=>.cons (f _ _ r) (Paired.mapP t f)
theorem cS.stay (x:cS P w H h a o) (k:∀ b u,(b=a∨H b=some (.own a))->h.get? b=some u->h'.get? b=some u)
  (ho:∀ b,H b=some (.own a)->H' b=some (.own a)) (ht:∀ b xs,H b=some (.tup xs)->H' b=some (.tup xs)):cS P w H' h' a o:=by
 induction o with
|lst xs=>obtain ⟨z,its,n,r,e⟩:=x; exact ⟨z,its,n,r,k _ _ (.inl rfl) e⟩
|tup xs=>obtain ⟨⟨z,o1,e1,d1⟩,its,r,ob,e,c⟩:=x; exact ⟨⟨z,o1,k _ _ (.inl rfl) e1,d1⟩,its,r,ob,k _ _ (.inl rfl) e,c⟩
|dK kvs=>obtain ⟨z,y,vs,r,ob,es,ep,e,c⟩:=x; exact ⟨z,y,vs,r,ob,es,ep,k _ _ (.inl rfl) e,c⟩
|dT kvs =>
  obtain ⟨z,y,xs,r,ob,es,ep,e,c⟩:=x
  exact ⟨z,y,xs,Paired.mapP r fun p q z=>⟨z.1,ht _ _ z.2.1,z.2.2⟩,ob,es,ep,k _ _ (.inl rfl) e,c⟩
|set S n=>obtain ⟨ob,es,ep,t,e,c⟩:=x; exact ⟨ob,es,ep,t,k _ _ (.inl rfl) e,c⟩
|ins C dx fs =>
  obtain ⟨d,z,ne,e,mA,⟨od,es,ep,e2,c⟩,r⟩:=x
  exact ⟨ho _ d,z,ne,k _ _ (.inl rfl) e,mA,⟨od,es,ep,k _ _ (.inr d) e2,c⟩,r⟩
|own y=>obtain ⟨ob,e⟩:=x; exact ⟨ob,k _ _ (.inl rfl) e⟩
|xd fs=>obtain ⟨mA,⟨od,es,ep,e,c⟩,r⟩:=x; exact ⟨mA,⟨od,es,ep,k _ _ (.inl rfl) e,c⟩,r⟩
|rng lo hi=>obtain ⟨t,u,v,e⟩:=x; exact ⟨t,u,v,k _ _ (.inl rfl) e⟩
|frz ob u ih=>obtain ⟨e,q⟩:=x; exact ⟨k _ _ (.inl rfl) e,ih q⟩
|tbl ps =>
  have e:h.get? a=some { cls:=.none,data:=.fields ps }:=x
  show h'.get? a=some { cls:=.none,data:=.fields ps }
  exact k a _ (.inl rfl) e
|met f y =>
  have e:h.get? a=some (methodObj (.ref f) (.ref y)):=x
  show h'.get? a=some (methodObj (.ref f) (.ref y))
  exact k a _ (.inl rfl) e
|ext φ=>obtain ⟨p,⟨o,e⟩,st⟩:=x; exact ⟨st _ _ p fun o q=>k _ _ (.inl rfl) q,⟨o,k _ _ (.inl rfl) e⟩,st⟩
theorem lH.lt (x:lH P w H h) (e:H a=some o):a < h.objs.size:=(x a o e).lt
theorem lH.fresh (x:lH P w H h) (e:h.objs.size<=a):H a=none:=by
 cases q:H a with
|none=>rfl
|some u=>exact absurd (lt_of_lt_of_le (x.lt q) e) (lt_irrefl _)
theorem lH.kept (x:lH P w H h) (k:∀ b u,h.get? b=some u->h'.get? b=some u):lH P w H h':=fun a o e =>
 (x a o e).stay (fun b u _ q=>k b u q) (fun _ q=>q) fun _ _ q=>q
theorem lH.laid (x:lH P w H h) (k:∀ b u,h.get? b=some u->h'.get? b=some u) (hp:h.objs.size<=a) (new:cS P w (upd H a o) h' a o):lH P w (upd H a o) h':=fun b u e=>by
 have hn:=x.fresh hp
 by_cases hb:b=a
 ·subst hb; rw [aE] at e; cases e; exact new
 ·rw [aZ hb] at e
  exact (x b u e).stay (fun c v _ q=>k c v q) (fun c q=>by rw [aZ (aB q hn)]; exact q) fun c xs q=>by rw [aZ (aB q hn)]; exact q
end
def Rd (H:Hp) (a:Addr) (u:HO):Prop:=H a=some u∨∃ o,H a=some (.frz o u)
theorem Rd.ok {P:Program}{w:World}{H:Hp}{h:Heap}{a:Addr}{u:HO} (r:Rd H a u) (x:lH P w H h):cS P w H h a u:=by
 rcases r with r|⟨o,r⟩
 ·exact x a u r
 ·obtain ⟨_,q⟩:=x a _ r
  exact q
def Fx:Option HO->Prop
|some (.lst _)=>True
|some (.dK _)=>True
|some (.dT _)=>True
|some (.set _ _)=>True
|some (.ins _ _ _)=>True
|some (.ext _)=>True
|_=>False
section
variable {P:Program} {w:World} {H:Hp} {h h':Heap} {x e:Addr} {o':HO}
theorem lH.write (ok:lH P w H h) (mu:Fx (H x)) (he:e=x∨H e=some (.own x)) (k:∀ b u,b≠e->h.get? b=some u->h'.get? b=some u) (heo:∃ u,h'.get? e=some u)
  (new:cS P w (upd H x o') h' x o'):lH P w (upd H x o') h':=fun b u q=>by
 have nown:∀ c y,H c=some (.own y)->c≠x:=fun c y r z=>by subst z; rw [r] at mu; exact mu
 have ntup:∀ c xs,H c=some (.tup xs)->c≠x:=fun c xs r z=>by subst z; rw [r] at mu; exact mu
 by_cases hb:b=x
 ·subst hb; rw [aE] at q; cases q; exact new
 ·rw [aZ hb] at q
  by_cases hbe:b=e
  ·have q':H b=some (.own x):=by
    rcases he with z|z
    ·exact absurd (hbe.trans z) hb
    ·rw [hbe]; exact z
   rw [q] at q'; cases q'
   obtain ⟨v,hv⟩:=heo
   exact ⟨v,by rw [hbe]; exact hv⟩
  ·refine (ok b u q).stay (fun c v hc r=>k c v ?_ r) (fun c r=>by rw [aZ (nown c b r)]; exact r) fun c xs r=>by rw [aZ (ntup c xs r)]; exact r
   rcases hc with rfl|hc
   ·exact hbe
   ·rintro rfl
    rcases he with z|z
    ·exact nown c b hc z
    ·rw [hc] at z; cases z; exact hb rfl
end
structure Un (fs ex:List Addr) (H H':Hp) (h h':Heap):Prop where
 keep:∀ b o,h.get? b=some o->H b=none->b∉fs->b∉ex->h'.get? b=some o
 slot:∀ b o,h.get? b=some o->H b=none->b∈fs->b∉ex->∃ sl,h'.get? b=some { o with slots:=sl }
 free:∀ b o,h.get? b=some o->H b=none->b∉ex->H' b=none
 there:∀ b o,h.get? b=some o->b∉ex->∃ o',h'.get? b=some o'
 tups:∀ b xs,H b=some (.tup xs)->H' b=some (.tup xs)
 frzs:∀ b o u,H b=some (.frz o u)->H' b=some (.frz o u)
 tbls:∀ b ps,H b=some (.tbl ps)->∃ more,H' b=some (.tbl (ps++more))
section
variable {fs fs' ex ex':List Addr} {H H1 H2:Hp} {h h1 h2 h':Heap} {a x e:Addr} {o:HO}
theorem Un.any (u:Un fs ex H H1 h h1) {b:Addr}{ob:Obj} (q:h.get? b=some ob) (n:H b=none) (hx:b∉ex):∃ sl,h1.get? b=some { ob with slots:=sl }:=by
 by_cases hb:b∈fs
 ·exact u.slot b ob q n hb hx
 ·exact ⟨ob.slots,u.keep b ob q n hb hx⟩
theorem Un.trans (a:Un fs ex H H1 h h1) (b:Un fs ex H1 H2 h1 h2):Un fs ex H H2 h h2 where
 keep:=fun c ob q n hc hx=>b.keep c ob (a.keep c ob q n hc hx) (a.free c ob q n hx) hc hx
 slot:=fun c ob q n hc hx=>by
  obtain ⟨sl,e1⟩:=a.slot c ob q n hc hx
  obtain ⟨sl',e2⟩:=b.slot c _ e1 (a.free c ob q n hx) hc hx
  exact ⟨sl',e2⟩
 free:=fun c ob q n hx=>by
  obtain ⟨o',e1⟩:=a.there c ob q hx
  exact b.free c o' e1 (a.free c ob q n hx) hx
 there:=fun c ob q hx=>by
  obtain ⟨o',e1⟩:=a.there c ob q hx
  exact b.there c o' e1 hx
 tups:=fun c xs q=>b.tups c xs (a.tups c xs q)
 frzs:=fun c ob xs q=>b.frzs c ob xs (a.frzs c ob xs q)
 tbls:=fun c ps q=>by
  obtain ⟨m1,e1⟩:=a.tbls c ps q
  obtain ⟨m2,e2⟩:=b.tbls c _ e1
  exact ⟨m1++m2,by rw [e2,Array.append_assoc]⟩
theorem Un.kept (k:∀ b u,h.get? b=some u->h'.get? b=some u):Un fs ex H H h h':=
 ⟨fun b ob q _ _ _=>k b ob q,fun b ob q _ _ _=>⟨ob.slots,k b ob q⟩,fun _ _ _ n _=>n,fun b ob q _=>⟨ob,k b ob q⟩,fun _ _ q=>q,fun _ _ _ q=>q,fun _ ps q=>⟨#[],by rw [q]; simp⟩⟩
theorem Un.refl:Un fs ex H H h h:=Un.kept fun _ _ q=>q
theorem Un.laid (k:∀ b u,h.get? b=some u->h'.get? b=some u) (hp:h.objs.size<=a) (hn:H a=none):Un fs ex H (upd H a o) h h' where
 keep:=fun b u q _ _ _=>k b u q
 slot:=fun b u q _ _ _=>⟨u.slots,k b u q⟩
 free:=fun b u q n _=>by rw [aZ (ne_of_lt (lt_of_lt_of_le (lt_size q) hp))]; exact n
 there:=fun b u q _=>⟨u,k b u q⟩
 tups:=fun b xs q=>by rw [aZ (aB q hn)]; exact q
 frzs:=fun b u xs q=>by rw [aZ (aB q hn)]; exact q
 tbls:=fun b ps q=>⟨#[],by rw [aZ (aB q hn),q]; simp⟩
theorem Un.write (mu:Fx (H x)) (he:e=x∨H e=some (.own x)) (k:∀ b u,b≠e->h.get? b=some u->h'.get? b=some u) (heo:∃ u,h'.get? e=some u):Un fs ex H (upd H x o) h h':=by
 have hx:∀ b,H b=none->b≠x:=fun b n z=>by subst z; rw [n] at mu; exact mu
 have hb:∀ b,H b=none->b≠e:=fun b n z=>by
  subst z
  rcases he with r|r
  ·exact hx b n r
  ·rw [n] at r; cases r
 have hm:∀ b u,H b=some u->¬ Fx (some u)->b≠x:=fun b u q nm z=>by subst z; rw [q] at mu; exact nm mu
 refine ⟨fun b u q n _ _=>k b u (hb b n) q,fun b u q n _ _=>⟨u.slots,k b u (hb b n) q⟩,fun b u q n _=>by rw [aZ (hx b n)]; exact n,fun b u q _=>?_,
  fun b xs q=>by rw [aZ (hm b _ q fun z=>z)]; exact q,fun b u xs q=>by rw [aZ (hm b _ q fun z=>z)]; exact q,fun b ps q=>⟨#[],by rw [aZ (hm b _ q fun z=>z),q]; simp⟩⟩
 by_cases hbe:b=e
 ·subst hbe; exact heo
 ·exact ⟨u,k b u hbe q⟩
end
def Gh (h:Heap) (H:Hp):List Addr:=(List.range h.objs.size).filter fun a=>(H a).isSome
def yL (h:Heap) (H:Hp):Heap:=PySem.W.hideAll h (Gh h H)
theorem IW (h:Heap) (H:Hp):(yL h H).objs.size=h.objs.size:=PySem.W.hideAll_size _ _
theorem NF {h:Heap}{H:Hp}{b:Addr}{o:Obj} (e:h.get? b=some o) (n:H b=none):(yL h H).get? b=some o:=
 PySem.W.hideAll_get _ e fun hm=>by
  have q:(H b).isSome=true:=(List.mem_filter.mp hm).2
  rw [n] at q; simp at q
theorem RG {h:Heap}{H:Hp}{b:Addr}{o:Obj} (e:(yL h H).get? b=some o):h.get? b=some o/\H b=none:=by
 have e':h.get? b=some o:=PySem.W.of_hideAll (Gh h H) e
 refine ⟨e',?_⟩
 cases q:H b with
|none=>rfl
|some x =>
  have hm:b∈Gh h H:=List.mem_filter.mpr ⟨mem_range.mpr (lt_size e'),by simp [q]⟩
  have z:(yL h H).get? b=none:=PySem.W.hideAll_none (Gh h H) hm
  rw [z] at e; cases e
def SK (g h:Heap) (L:Addr):List (Addr×Obj):=(List.range h.objs.size).filterMap fun a=>if a=L∨(g.get? a).isSome=true then none else (h.get? a).map fun o=>(a,o)
def eK (g h:Heap) (L d:Addr):List (Addr×Obj):=(SK g h L).filter fun p=>decide (p.1≠d)
end
section
structure Mod (K:Frag) (mg:Str->Option Value) (base:Heap):Prop where
 kin:K.In base
 glob:base.Ns mainGlobals mg
 blt:∃ mb,base.Ns builtinsNs mb/\∀ x:Str,x≠"__name__"->mb x=bootBuiltins x
 nolimit:base.NoLimit
set_option genInjectivity false in
set_option genSizeOfSpec false in
structure Cx where
 prog:Program
 w:World
 K:Frag
 mg:Str->Option Value
 base:Heap
 A:Around
 N:List Str
 s₀:Shared
 H₀:Hp
 env:Env
 outer:List Env
 stack:List Env
 ex:List Addr
 fn:Str->Bool
 calm:Bool
 pn:List (Addr×Obj)
 xe:Value->Shared->Prop
def nD (l:List Env):List Addr:=l.filterMap (·.frame)
abbrev Cx.fs (X:Cx):List Addr:=nD X.outer
def Fs (sc:Scope) (x:Str):Prop:=sc.names.lookup x=some .local∨sc.names.lookup x=some .cell∨sc.names.lookup x=some .free
def Ao (sc:Scope) (x:Str):Prop:=sc.names.lookup x=some .local∨sc.names.lookup x=some .cell
def Ii (env:Env) (h:Heap) (m:Str->Option Value) (x:Str) (u:Value):Prop:=
 (env.kindOf x=some .local/\m x=some u)∨((env.kindOf x=some .cell∨env.kindOf x=some .free)/\∃ c,env.cells.lookup x=some c/\h.IsCell c (some u))
structure Cx.Ok (X:Cx):Prop where
 mod:Mod X.K X.mg X.base
 kind:X.env.scope.kind=.function
 glob:X.env.globals=mainGlobals
 blt:X.env.builtins=builtinsNs
 above:X.s₀.heap.objs.size<=X.env.locals
 inj:∀ x y c,X.env.cells.lookup x=some c->X.env.cells.lookup y=some c->x=y
 has:∀ x,(X.env.kindOf x=some .cell∨X.env.kindOf x=some .free)->∃ c,X.env.cells.lookup x=some c
 cab:∀ x c,X.fn x=true->X.env.cells.lookup x=some c->X.s₀.heap.objs.size<=c
 hd:X.calm=true->X.A.handled=none
 frames:X.A.frames=some X.stack
 stk:X.stack=X.outer∨(X.stack=X.env::X.outer/\X.env.frame=some X.env.locals)
 exf:∀ b∈X.ex,b≠X.env.locals/\∀ x c,X.env.cells.lookup x=some c->c≠b
 bs:∀ b o,X.base.get? b=some o->X.s₀.heap.get? b=some o/\X.H₀ b=none
 bsz:X.base.objs.size<=X.s₀.heap.objs.size
 noex:∀ b o,X.base.get? b=some o->b∉X.ex
 exfs:∀ b∈X.ex,b∉X.fs
 funs:X.s₀.heap.FunFrames X.base X.outer
 frf:∀ b∈X.fs,X.H₀ b=none
structure bA (X:Cx) (pins:List (Addr×Obj)) (σ:List (Option V)) (H:Hp) (s:Shared):Prop where
 ok:X.Ok
 os:s.os=X.s₀.os
 bare:AllBare s.gens
 base:Un X.fs X.ex X.H₀ H X.s₀.heap s.heap
 loc:∃ m,s.heap.Ns X.env.locals m/\∀ (i:Nat) (x:Str) (v:V),X.N[i]?=some x->σ[i]?=some (some v)->Fs X.env.scope x->∃ u,bL v u/\Ii X.env s.heap m x u
 cell:∀ x c,X.env.cells.lookup x=some c->∃ v,s.heap.IsCell c v
 free:H X.env.locals=none
 freeC:∀ x c,X.env.cells.lookup x=some c->H c=none
 pin:∀ p∈X.pn++pins,s.heap.get? p.1=some p.2/\H p.1=none/\p.1≠X.env.locals/\p.1∉X.fs/\∀ v,p.2.data≠.cell v
 hok:lH X.prog X.w H s.heap
 len:σ.length=X.N.length
section
variable {X:Cx} {pins:List (Addr×Obj)} {σ:List (Option V)} {H H':Hp} {s:Shared} {h':Heap}
theorem Cx.Ok.nofr (ok:X.Ok) {b:Addr}{o:Obj} (e:X.base.get? b=some o):b∉X.fs:=fun hb=>by
 have:=(ok.funs.mem hb).1
 rw [e] at this; cases this
theorem bA.bs (I:bA X pins σ H s):∀ b o,X.base.get? b=some o->s.heap.get? b=some o/\H b=none:=fun b o e =>
 ⟨I.base.keep b o (I.ok.bs b o e).1 (I.ok.bs b o e).2 (I.ok.nofr e) (I.ok.noex b o e),I.base.free b o (I.ok.bs b o e).1 (I.ok.bs b o e).2 (I.ok.noex b o e)⟩
theorem bA.bk (I:bA X pins σ H s):∀ b o,X.base.get? b=some o->s.heap.get? b=some o:=fun b o e=>(I.bs b o e).1
theorem bA.mod (I:bA X pins σ H s):Mod X.K X.mg X.base:=I.ok.mod
theorem bA.kIn (I:bA X pins σ H s):X.K.In s.heap:=I.ok.mod.kin.keeps I.bk
theorem bA.lt (I:bA X pins σ H s):X.env.locals < s.heap.objs.size:=let ⟨_,hn,_⟩:=I.loc; hn.lt
theorem bA.sz (I:bA X pins σ H s):X.s₀.heap.objs.size<=s.heap.objs.size:=le_trans I.ok.above (le_of_lt I.lt)
theorem bA.nofs (I:bA X pins σ H s) {a:Addr} (h:s.heap.objs.size<=a):a∉X.fs:=fun hb=>by
 obtain ⟨_,o,ho,_⟩:=I.ok.funs.mem hb
 exact absurd (lt_of_lt_of_le (lt_size ho) (le_trans I.sz h)) (lt_irrefl _)
theorem bA.cne (I:bA X pins σ H s):∀ x c,X.env.cells.lookup x=some c->c≠X.env.locals:=fun x c e z=>by
 obtain ⟨v,o,ho,hd⟩:=I.cell x c e
 obtain ⟨m,⟨o',es,ep,ho',hd',_⟩,_⟩:=I.loc
 rw [z,ho'] at ho; cases ho; rw [hd'] at hd; cases hd
theorem bA.funs (I:bA X pins σ H s):s.heap.FunFrames X.base X.outer:=by
 have all:∀ (l:List Env),(∀ b∈nD l,b∈X.fs)->X.s₀.heap.FunFrames X.base l->s.heap.FunFrames X.base l:=by
  intro l
  induction l with
 |nil=>intro _ _; trivial
 |cons env r ih =>
   intro hs hl
   obtain ⟨hk,⟨L,o,hf,hn,ho,hd⟩,hr⟩:=hl
   have hL:L∈X.fs:=hs L (by unfold nD; rw [filterMap_cons,hf]; exact mem_cons_self)
   obtain ⟨sl,e⟩:=I.base.slot L o ho (I.ok.frf L hL) hL fun z=>I.ok.exfs L z hL
   exact ⟨hk,⟨L,_,hf,hn,e,hd⟩,ih (fun b hb=>hs b (by unfold nD; rw [filterMap_cons,hf]; exact mem_cons_of_mem _ hb)) hr⟩
 exact all X.outer (fun _ hb=>hb) I.ok.funs
theorem bA.stack (I:bA X pins σ H s):s.heap.FunFrames X.base X.stack:=by
 rcases I.ok.stk with e|⟨e,hf⟩
 ·rw [e]; exact I.funs
 ·rw [e]
  obtain ⟨m,hn,_⟩:=I.loc
  refine .cons (by rw [I.ok.kind]; decide) hf hn ?_ I.funs
  exact get?_none_of_le (le_trans I.ok.bsz I.ok.above)
theorem bA.stkSub (I:bA X pins σ H s):∀ b∈nD X.stack,b∈X.env.locals::X.fs:=fun b hb=>by
 rcases I.ok.stk with e|⟨e,hf⟩
 ·rw [e] at hb; exact mem_cons_of_mem _ hb
 ·rw [e] at hb
  unfold nD at hb
  rw [filterMap_cons,hf] at hb
  exact hb
theorem bA.stkFree (I:bA X pins σ H s):∀ b∈nD X.stack,H b=none:=fun b hb=>by
 rcases mem_cons.mp (I.stkSub b hb) with e|hb
 ·rw [e]; exact I.free
 ·obtain ⟨_,o,ho,_⟩:=I.ok.funs.mem hb
  exact I.base.free b o ho (I.ok.frf b hb) fun z=>I.ok.exfs b z hb
theorem bA.step {g':Array GenState}{t':Nat}{d':Drawn}{ch:List Addr} (I:bA X pins σ H s)
  (hch:∀ b∈ch,(b∈X.ex∨X.s₀.heap.objs.size<=b)/\b≠X.env.locals/\(∀ x c,X.env.cells.lookup x=some c->c≠b)/\∀ p∈X.pn++pins,p.1≠b)
  (keep:∀ b o,b≠X.env.locals->b∉X.fs->b∉ch->s.heap.get? b=some o->H b=none->h'.get? b=some o)
  (slot:∀ b o,b≠X.env.locals->b∈X.fs->b∉ch->s.heap.get? b=some o->H b=none->∃ sl,h'.get? b=some { o with slots:=sl }) (free:∀ b o,b∉ch->s.heap.get? b=some o->H b=none->H' b=none)
  (there:∀ b o,b∉ch->s.heap.get? b=some o->∃ o',h'.get? b=some o')
  (tups:∀ b xs,H b=some (.tup xs)->H' b=some (.tup xs)) (frzs:∀ b o u,H b=some (.frz o u)->H' b=some (.frz o u)) (tbls:∀ b ps,H b=some (.tbl ps)->∃ more,H' b=some (.tbl (ps++more)))
  (ns:∀ m,s.heap.Ns X.env.locals m->h'.Ns X.env.locals m) (hok:lH X.prog X.w H' h') (hg:AllBare g') :
  bA X pins σ H' { s with heap:=h',gens:=g',drawn:=d',toks:=t' }:=by
 have neL:∀ b o,X.s₀.heap.get? b=some o->b≠X.env.locals:=fun b o e=>ne_of_lt (lt_of_lt_of_le (lt_size e) I.ok.above)
 have neC:∀ b o,X.s₀.heap.get? b=some o->b∉X.ex->b∉ch:=fun b o e hx hb=>by
  rcases (hch b hb).1 with z|z
  ·exact hx z
  ·exact absurd (lt_of_lt_of_le (lt_size e) z) (lt_irrefl _)
 have cellK:∀ x c,X.env.cells.lookup x=some c->∀ v,s.heap.IsCell c v->h'.IsCell c v:=fun x c e v ⟨o,ho,hd⟩=>by
  have nch:c∉ch:=fun z=>(hch c z).2.2.1 x c e rfl
  by_cases hc:c∈X.fs
  ·obtain ⟨sl,q⟩:=slot c o (I.cne x c e) hc nch ho (I.freeC x c e)
   exact ⟨_,q,hd⟩
  ·exact ⟨o,keep c o (I.cne x c e) hc nch ho (I.freeC x c e),hd⟩
 refine ⟨I.ok,I.os,hg,⟨fun b o e n hb hx=>?_,fun b o e n hb hx=>?_,fun b o e n hx=>?_,fun b o e hx=>?_,fun b xs e=>tups b xs (I.base.tups b xs e),fun b o xs e=>frzs b o xs (I.base.frzs b o xs e),fun b ps e=>?_⟩,?_,fun x c e=>?_,?_,fun x c e=>?_,fun p hp=>?_,hok,I.len⟩
 ·exact keep b o (neL b o e) hb (neC b o e hx) (I.base.keep b o e n hb hx) (I.base.free b o e n hx)
 ·obtain ⟨sl,e1⟩:=I.base.slot b o e n hb hx
  obtain ⟨sl',e2⟩:=slot b _ (neL b o e) hb (neC b o e hx) e1 (I.base.free b o e n hx)
  exact ⟨sl',e2⟩
 ·obtain ⟨o',e1⟩:=I.base.there b o e hx
  exact free b o' (neC b o e hx) e1 (I.base.free b o e n hx)
 ·obtain ⟨o',e1⟩:=I.base.there b o e hx
  exact there b o' (neC b o e hx) e1
 ·obtain ⟨m1,e1⟩:=I.base.tbls b ps e
  obtain ⟨m2,e2⟩:=tbls b _ e1
  exact ⟨m1++m2,by rw [e2,Array.append_assoc]⟩
 ·obtain ⟨m,hn,hl⟩:=I.loc
  refine ⟨m,ns m hn,fun i x v e1 e2 e3=>?_⟩
  obtain ⟨u,r,l⟩:=hl i x v e1 e2 e3
  refine ⟨u,r,?_⟩
  rcases l with l|⟨k,c,e,z⟩
  ·exact .inl l
  ·exact .inr ⟨k,c,e,cellK x c e _ z⟩
 ·obtain ⟨v,z⟩:=I.cell x c e
  exact ⟨v,cellK x c e v z⟩
 ·obtain ⟨m,⟨o,_,_,ho,_⟩,_⟩:=I.loc
  exact free _ o (fun z=>(hch _ z).2.1 rfl) ho I.free
 ·obtain ⟨v,o,ho,hd⟩:=I.cell x c e
  exact free c o (fun z=>(hch c z).2.2.1 x c e rfl) ho (I.freeC x c e)
 ·obtain ⟨e,n,ne,nf,d⟩:=I.pin p hp
  have nch:p.1∉ch:=fun z=>(hch p.1 z).2.2.2 p hp rfl
  exact ⟨keep p.1 p.2 ne nf nch e n,free p.1 p.2 nch e n,ne,nf,d⟩
theorem bA.un {t':Nat} (I:bA X pins σ H s) (u:Un X.fs [] H H' s.heap h') (hok:lH X.prog X.w H' h'):bA X pins σ H' { s with heap:=h',toks:=t' }:=by
 obtain ⟨m,⟨o,es,ep,ho,r⟩,_⟩:=id I.loc
 obtain ⟨sl,hL⟩:=u.any ho I.free (by simp)
 exact I.step (g':=s.gens) (d':=s.drawn) (ch:=[]) (fun _ z=>nomatch z) (fun b o _ hb _ e n=>u.keep b o e n hb (by simp)) (fun b o _ hb _ e n=>u.slot b o e n hb (by simp)) (fun b o _ e n=>u.free b o e n (by simp)) (fun b o _ e=>u.there b o e (by simp)) u.tups u.frzs u.tbls (fun m' hm=>by
  obtain ⟨o',es',ep',ho',r'⟩:=hm
  rw [ho] at ho'; cases ho'
  exact ⟨_,es',ep',hL,r'⟩) hok I.bare
theorem bA.call {g':Array GenState}{t':Nat}{d':Drawn}{ch:List Addr} (I:bA X pins σ H s) (u:Un (nD X.stack) ch H H' s.heap h') (hok:lH X.prog X.w H' h') (hg:AllBare g')
  (hch:∀ b∈ch,(b∈X.ex∨X.s₀.heap.objs.size<=b)/\b≠X.env.locals/\(∀ x c,X.env.cells.lookup x=some c->c≠b)/\∀ p∈X.pn++pins,p.1≠b) :
  bA X pins σ H' { s with heap:=h',gens:=g',drawn:=d',toks:=t' }:=by
 obtain ⟨m,⟨o,es,ep,ho,r⟩,_⟩:=id I.loc
 obtain ⟨sl,hL⟩:=u.any ho I.free fun z=>(hch _ z).2.1 rfl
 exact I.step (ch:=ch) hch (fun b o hL hb hc e n=>u.keep b o e n (fun z=>(mem_cons.mp (I.stkSub b z)).elim hL hb) hc) (fun b o _ _ hc e n=>u.any e n hc) (fun b o hc e n=>u.free b o e n hc) (fun b o hc e=>u.there b o e hc) u.tups u.frzs u.tbls (fun m' hm=>by
  obtain ⟨o',es',ep',ho',r'⟩:=hm
  rw [ho] at ho'; cases ho'
  exact ⟨_,es',ep',hL,r'⟩) hok hg
theorem bA.turned {t':Nat}{it:Addr} (I:bA X pins σ H s) (k:∀ b o,b≠it->s.heap.get? b=some o->h'.get? b=some o) (hn:H it=none) (hL:it≠X.env.locals)
  (h1:it∈X.ex∨X.s₀.heap.objs.size<=it) (h2:∀ x c,X.env.cells.lookup x=some c->c≠it) (h3:∀ p∈X.pn++pins,p.1≠it):bA X pins σ H { s with heap:=h',toks:=t' }:=by
 have nit:∀ b u,H b=some u->b≠it:=fun b u e z=>by rw [z,hn] at e; cases e
 refine I.step (g':=s.gens) (d':=s.drawn) (ch:=[it]) (fun b hb=>?_) (fun b o _ _ hc e _=>k b o (fun z=>hc (by simp [z])) e) (fun b o _ _ hc e _=>⟨o.slots,k b o (fun z=>hc (by simp [z])) e⟩) (fun _ _ _ _ n=>n)
  (fun b o hc e=>⟨o,k b o (fun z=>hc (by simp [z])) e⟩) (fun _ _ e=>e) (fun _ _ _ e=>e) (fun b ps e=>⟨#[],by rw [e]; simp⟩) (fun m hm=>?_) (fun b u e=>?_) I.bare
 ·have e:b=it:=by simpa using hb
  subst e
  exact ⟨h1,hL,h2,h3⟩
 ·obtain ⟨o,es,ep,ho,r⟩:=hm
  exact ⟨o,es,ep,k _ o (Ne.symm hL) ho,r⟩
 ·refine (I.hok b u e).stay (fun c v hc q=>k c v ?_ q) (fun _ q=>q) fun _ _ q=>q
  rcases hc with z|z
  ·rw [z]; exact nit b u e
  ·exact nit c _ z
theorem bA.tok (I:bA X pins σ H s) (t:Nat):bA X pins σ H { s with toks:=t }:=I.un (h':=s.heap) (t':=t) Un.refl I.hok
theorem bA.kept {t':Nat} (I:bA X pins σ H s) (k:∀ b u,s.heap.get? b=some u->h'.get? b=some u):bA X pins σ H { s with heap:=h',toks:=t' }:=I.un (Un.kept k) (I.hok.kept k)
theorem bA.laid {a:Addr}{o:HO}{t':Nat} (I:bA X pins σ H s) (k:∀ b u,s.heap.get? b=some u->h'.get? b=some u) (hp:s.heap.objs.size<=a) (new:cS X.prog X.w (upd H a o) h' a o) :
  bA X pins σ (upd H a o) { s with heap:=h',toks:=t' }:=I.un (Un.laid k hp (I.hok.fresh hp)) (I.hok.laid k hp new)
theorem bA.write {x e:Addr}{o:HO}{t':Nat} (I:bA X pins σ H s) (mu:Fx (H x)) (he:e=x∨H e=some (.own x)) (k:∀ b u,b≠e->s.heap.get? b=some u->h'.get? b=some u) (heo:∃ u,h'.get? e=some u)
  (new:cS X.prog X.w (upd H x o) h' x o):bA X pins σ (upd H x o) { s with heap:=h',toks:=t' }:=I.un (Un.write mu he k heo) (I.hok.write mu he k heo new)
theorem bA.pins_of {pins':List (Addr×Obj)} (I:bA X pins σ H s) (h:∀ p∈pins',s.heap.get? p.1=some p.2/\H p.1=none/\p.1≠X.env.locals/\p.1∉X.fs/\∀ v,p.2.data≠.cell v):bA X pins' σ H s:=
 ⟨I.ok,I.os,I.bare,I.base,I.loc,I.cell,I.free,I.freeC,fun p hp=>(mem_append.mp hp).elim (fun z=>I.pin p (mem_append_left _ z)) (h p),I.hok,I.len⟩
theorem uG {N:List Str} (hN:N.Nodup) {i j:Nat}{x:Str} (a:N[i]?=some x) (b:N[j]?=some x):i=j:=by
 obtain ⟨h1,e1⟩:=List.getElem?_eq_some_iff.mp a
 obtain ⟨h2,e2⟩:=List.getElem?_eq_some_iff.mp b
 exact (List.getElem_inj hN).mp (e1.trans e2.symm)
theorem vZ {M:Model}{A:Around}{E:Value->Shared->Prop}{i:Nat}{x:Str}{v:V}{u:Value}{Q:Unit->Shared->Prop} (I:bA X pins σ H s) (hN:X.N.Nodup) (hi:X.N[i]?=some x) (hx:Ao X.env.scope x) (r:bL v u)
  (h:∀ s',bA X pins (σ.set i (some v)) H s'->(∃ a,Heap.SameBut a s.heap s'.heap/\(a=X.env.locals∨X.env.cells.lookup x=some a))->Q () s') (hf:X.fn x=true∨X.env.scope.names.lookup x=some .local:=by first|exact .inl rfl|exact .inr rfl|assumption):wpAny M A (storeName X.env x u) Q E s:=by
 obtain ⟨m,hn,hl⟩:=id I.loc
 have hcls:(X.env.scope.kind==.class || (X.env.scope.kind==.module&&X.env.locals !=X.env.globals))=false:=by rw [I.ok.kind]; rfl
 have hiσ:i < σ.length:=by rw [I.len]; exact (List.getElem?_eq_some_iff.mp hi).1
 have cne:=I.cne
 have tracked:∀ {a:Addr} {h':Heap},(∃ o,s.heap.get? a=some o/\H a=none)->Heap.SameBut a s.heap h'->lH X.prog X.w H h':=fun {a h'} ha hs b ob e=>by
  obtain ⟨_,_,hfree⟩:=ha
  refine (I.hok b ob e).stay (fun c w' hc q=>(hs.2 c ?_).trans q) (fun _ q=>q) fun _ _ q=>q
  rintro rfl
  rcases hc with rfl|hc
  ·rw [hfree] at e; cases e
  ·rw [hfree] at hc; cases hc
 rcases hx with hk|hk
 ·refine wpAny_storeName_local hk hn (fun h' hn' hs=>?_) hcls
  obtain ⟨oL,_,_,hoL,_⟩:=id hn
  refine h _ ⟨I.ok,I.os,I.bare,⟨fun b o e n hb hx=>?_,fun b o e n hb hx=>?_,I.base.free,fun b o e hx=>?_,I.base.tups,I.base.frzs,I.base.tbls⟩,⟨_,hn',fun j y v' e1 e2 e3=>?_⟩,fun y c e=>?_,I.free,I.freeC,fun p hp=>?_,tracked ⟨oL,hoL,I.free⟩ hs,by simpa using I.len⟩ ⟨_,hs,.inl rfl⟩
  ·exact (hs.2 b (ne_of_lt (lt_of_lt_of_le (lt_size e) I.ok.above))).trans (I.base.keep b o e n hb hx)
  ·obtain ⟨sl,e1⟩:=I.base.slot b o e n hb hx
   exact ⟨sl,(hs.2 b (ne_of_lt (lt_of_lt_of_le (lt_size e) I.ok.above))).trans e1⟩
  ·obtain ⟨o',e1⟩:=I.base.there b o e hx
   exact ⟨o',(hs.2 b (ne_of_lt (lt_of_lt_of_le (lt_size e) I.ok.above))).trans e1⟩
  ·by_cases hj:j=i
   ·subst hj
    rw [hi] at e1; cases e1
    rw [List.getElem?_set_self hiσ] at e2
    cases e2
    exact ⟨u,r,.inl ⟨hk,by simp⟩⟩
   ·rw [List.getElem?_set_ne (Ne.symm hj)] at e2
    obtain ⟨u',r',q⟩:=hl j y v' e1 e2 e3
    refine ⟨u',r',?_⟩
    rcases q with ⟨k,e⟩|⟨k,c,e,z⟩
    ·refine .inl ⟨k,?_⟩
     have:y≠x:=fun e=>hj (uG hN e1 (e ▸ hi))
     simp [this,e]
    ·exact .inr ⟨k,c,e,z.sameBut hs (cne y c e)⟩
  ·obtain ⟨w',z⟩:=I.cell y c e
   exact ⟨w',z.sameBut hs (cne y c e)⟩
  ·obtain ⟨e,n,ne,nf,d⟩:=I.pin p hp
   exact ⟨(hs.2 p.1 ne).trans e,n,ne,nf,d⟩
 ·have hfn:X.fn x=true:=by
   rcases hf with z|z
   ·exact z
   ·rw [z] at hk; cases hk
  obtain ⟨c,hc⟩:=I.ok.has x (.inl hk)
  obtain ⟨w',z⟩:=I.cell x c hc
  refine wpAny_storeName_cell I.ok.kind hk hc z (fun h' hc' hs=>?_)
  obtain ⟨oc,hoc,hocd⟩:=id z
  refine h { s with heap:=h' } ⟨I.ok,I.os,I.bare,⟨fun b o e n hb hx=>?_,fun b o e n hb hx=>?_,I.base.free,fun b o e hx=>?_,I.base.tups,I.base.frzs,I.base.tbls⟩,⟨m,hn.sameBut hs (Ne.symm (cne x c hc)),fun j y v' e1 e2 e3=>?_⟩,fun y c' e=>?_,I.free,I.freeC,fun p hp=>?_,tracked ⟨oc,hoc,I.freeC x c hc⟩ hs,by simpa using I.len⟩ ⟨c,hs,.inr hc⟩
  ·exact (hs.2 b (ne_of_lt (lt_of_lt_of_le (lt_size e) (I.ok.cab x c hfn hc)))).trans (I.base.keep b o e n hb hx)
  ·obtain ⟨sl,e1⟩:=I.base.slot b o e n hb hx
   exact ⟨sl,(hs.2 b (ne_of_lt (lt_of_lt_of_le (lt_size e) (I.ok.cab x c hfn hc)))).trans e1⟩
  ·obtain ⟨o',e1⟩:=I.base.there b o e hx
   exact ⟨o',(hs.2 b (ne_of_lt (lt_of_lt_of_le (lt_size e) (I.ok.cab x c hfn hc)))).trans e1⟩
  ·by_cases hj:j=i
   ·subst hj
    rw [hi] at e1; cases e1
    rw [List.getElem?_set_self hiσ] at e2
    cases e2
    exact ⟨u,r,.inr ⟨.inl hk,c,hc,hc'⟩⟩
   ·rw [List.getElem?_set_ne (Ne.symm hj)] at e2
    obtain ⟨u',r',q⟩:=hl j y v' e1 e2 e3
    refine ⟨u',r',?_⟩
    rcases q with q|⟨k,c',e,z'⟩
    ·exact .inl q
    ·refine .inr ⟨k,c',e,z'.sameBut hs ?_⟩
     rintro rfl
     exact hj (uG hN e1 (I.ok.inj _ _ _ e hc ▸ hi))
  ·by_cases hcc:c'=c
   ·subst hcc; exact ⟨_,hc'⟩
   ·obtain ⟨w2,z2⟩:=I.cell y c' e
    exact ⟨w2,z2.sameBut hs hcc⟩
  ·obtain ⟨e,n,ne,nf,d⟩:=I.pin p hp
   refine ⟨(hs.2 p.1 ?_).trans e,n,ne,nf,d⟩
   intro q
   rw [q,hoc] at e
   have q':oc=p.2:=Option.some.inj e
   exact d w' (by rw [← q']; exact hocd)
theorem iR {M:Model}{A:Around}{E:Value->Shared->Prop}{i:Nat}{x:Str}{v:V}{u:Value}{Q:Unit->Shared->Prop} (I:bA X pins σ H s) (hN:X.N.Nodup) (hi:X.N[i]?=some x) (hx:Ao X.env.scope x) (r:bL v u)
  (h:∀ s',bA X pins (σ.set i (some v)) H s'->Q () s') (hf:X.fn x=true∨X.env.scope.names.lookup x=some .local:=by first|exact .inl rfl|exact .inr rfl|assumption):wpAny M A (storeName X.env x u) Q E s:=
 vZ I hN hi hx r (fun s' I' _=>h s' I') hf
theorem bA.call' {s':Shared}{ch:List Addr} (I:bA X pins σ H s) (ho:s'.os=s.os) (u:Un (nD X.stack) ch H H' s.heap s'.heap) (hok:lH X.prog X.w H' s'.heap) (hg:AllBare s'.gens)
  (hch:∀ b∈ch,(b∈X.ex∨X.s₀.heap.objs.size<=b)/\b≠X.env.locals/\(∀ x c,X.env.cells.lookup x=some c->c≠b)/\∀ p∈X.pn++pins,p.1≠b):bA X pins σ H' s':=by
 obtain ⟨h',g',d',t',o'⟩:=s'
 have e:o'=s.os:=ho
 subst e
 exact I.call (g':=g') (t':=t') (d':=d') u hok hg hch
end
abbrev XK:=Value->Option Addr->Hp->Prop
abbrev St:=List (Option V)
abbrev VK:=V->Hp->Prop
abbrev TE:=St->Hp->VK->Prop
abbrev TT:=St->Hp->(Bool->Hp->Prop)->Prop
abbrev TA:=St->Hp->(List V->Hp->Prop)->Prop
structure fQ where
 nx:St->Hp->Prop
 rt:VK
 bk:St->Hp->Prop:=fun _ _=>False
 ct:St->Hp->Prop:=fun _ _=>False
abbrev TS:=fQ->St->Hp->Prop
def EP (X:Cx) (pins:List (Addr×Obj)) (σ:St) (Q:VK) (u:Value) (s':Shared):Prop:=∃ v H',bA X pins σ H' s'/\bL v u/\Q v H'
def TP (X:Cx) (pins:List (Addr×Obj)) (σ:St) (Q:Bool->Hp->Prop) (b:Bool) (s':Shared):Prop:=∃ H',bA X pins σ H' s'/\Q b H'
def AP (X:Cx) (pins:List (Addr×Obj)) (σ:St) (Q:List V->Hp->Prop) (us:List Value) (s':Shared):Prop:=∃ vs H',bA X pins σ H' s'/\bN vs us/\Q vs H'
def SP (X:Cx) (pins:List (Addr×Obj)) (D:fQ) (f:Flow) (s':Shared):Prop:=
 match f with
|.next=>∃ σ' H',bA X pins σ' H' s'/\D.nx σ' H'
|.brk=>∃ σ' H',bA X pins σ' H' s'/\D.bk σ' H'
|.cont=>∃ σ' H',bA X pins σ' H' s'/\D.ct σ' H'
|.ret u=>∃ v σ' H',bA X pins σ' H' s'/\bL v u/\D.rt v H'
def PE (X:Cx) (e:Expr) (t:TE):Prop:=
 ∀ (pins:List (Addr×Obj)) (s:Shared) (σ:St) (H:Hp) (Q:VK),bA X pins σ H s->t σ H Q->wpAny (model X.prog X.w) X.A (eval e X.env) (EP X pins σ Q) X.xe s
def PT (X:Cx) (e:Expr) (t:TT):Prop:=
 ∀ (pins:List (Addr×Obj)) (s:Shared) (σ:St) (H:Hp) (Q:Bool->Hp->Prop),bA X pins σ H s->t σ H Q->wpAny (model X.prog X.w) X.A (isTrue e X.env (eval e X.env)) (TP X pins σ Q) X.xe s
def PW (X:Cx) (e:Expr) (t:TT):Prop:=
 ∀ (whole:Sem Value) (pins:List (Addr×Obj)) (s:Shared) (σ:St) (H:Hp) (Q:Bool->Hp->Prop),bA X pins σ H s->t σ H Q->wpAny (model X.prog X.w) X.A (isTrue e X.env whole) (TP X pins σ Q) X.xe s
theorem PW.pt {X:Cx}{e:Expr}{t:TT} (h:PW X e t):PT X e t:=h _
def PA (X:Cx) (es:List Expr) (t:TA):Prop:=
 ∀ (pos:Pos) (pins:List (Addr×Obj)) (s:Shared) (σ:St) (H:Hp) (Q:List V->Hp->Prop),bA X pins σ H s->t σ H Q->wpAny (model X.prog X.w) X.A (spliced (backTo pos (starEach es X.env))) (AP X pins σ Q) X.xe s
def PS (X:Cx) (st:Stmt) (t:TS):Prop:=
 ∀ (pins:List (Addr×Obj)) (s:Shared) (σ:St) (H:Hp) (D:fQ),bA X pins σ H s->t D σ H->wpAny (model X.prog X.w) X.A (exec st X.env) (SP X pins D) X.xe s
def CH (X:Cx) (st:List Stmt) (t:TS):Prop:=
 ∀ (pins:List (Addr×Obj)) (s:Shared) (σ:St) (H:Hp) (D:fQ),bA X pins σ H s->t D σ H->wpAny (model X.prog X.w) X.A (execs st X.env) (SP X pins D) X.xe s
theorem cJ {α:Type}{t:Sem α}{Q Q':α->Shared->Prop}{M:Model}{A:Around}{E:Value->Shared->Prop}{s:Shared} (h:wpAny M A t Q E s) (hQ:∀ a s,Q a s->Q' a s):wpAny M A t Q' E s:=wpAny_mono h hQ fun _ _ x=>x
end
section
section
variable {X:Cx}
def VG (i:Nat):TE:=fun σ H Q=>∃ v,σ[i]?=some (some v)/\Q v H
def tC (v:V):TE:=fun _ H Q=>Q v H
theorem YF {i:Nat}{x:Str}{pos:Pos} (hN:X.N[i]?=some x) (hv:Fs X.env.scope x) (hd:(x==("__debug__":Str))=false:=by decide) (hcd:(x==("__classdict__":Str))=false:=by decide):PE X (.Name x pos) (VG i):=by
 intro pins s σ H Q I h
 obtain ⟨v,e,h⟩:=h
 obtain ⟨m,hn,hl⟩:=I.loc
 obtain ⟨u,r,l⟩:=hl i x v hN e hv
 have fin:EP X pins σ Q u s:=⟨v,H,I,r,h⟩
 rcases l with ⟨hk,hm⟩|⟨hk,c,hc,hcell⟩
 ·exact wpAny_Name (wpAny_loadName_local I.ok.kind hk hn hm fin) hd
 ·rcases hk with hk|hk
  ·exact wpAny_Name (wpAny_loadName_cell I.ok.kind hk hc hcell fin) hd
  ·exact wpAny_Name (wpAny_loadName_free I.ok.kind hk hc hcell fin hcd) hd
theorem aD {i j pos}:PE X (.Constant (.int i) j pos) (tC (.int i)):=fun _ _ _ H _ I h=>wpAny_Constant_int ⟨.int i,H,I.tok _,⟨_,rfl⟩,h⟩
theorem wK {b j pos}:PE X (.Constant (.bool b) j pos) (tC (.bl b)):=fun _ _ _ H _ I h=>Constant_bool ⟨.bl b,H,I,rfl,h⟩
theorem fO {j pos}:PE X (.Constant .none j pos) (tC .non):=fun _ _ _ H _ I h=>Constant_none ⟨.non,H,I,rfl,h⟩
theorem aH {x j pos}:PE X (.Constant (.str x) j pos) (tC (.str x)):=fun _ _ _ H _ I h=>Calls.Constant_str ⟨.str x,H,I.tok _,⟨_,rfl⟩,h⟩
def Gl (X:Cx) (x:Str):Prop:=X.env.kindOf x=some .globalImplicit
theorem pB {E:Value->Shared->Prop}{pins:List (Addr×Obj)}{s:Shared}{σ:St}{H:Hp}{x:Str}{u:Value}{pos:Pos}{Q:Value->Shared->Prop} (I:bA X pins σ H s) (hg:Gl X x) (hm:X.mg x=some u) (h:Q u s)
  (hd:(x==("__debug__":Str))=false:=by decide):wpAny (model X.prog X.w) X.A (eval (.Name x pos) X.env) Q E s:=
 Calls.Name_function_global I.ok.kind hg (Calls.loadGlobal_global (by rw [I.ok.glob]; exact I.mod.glob.keeps I.bk) hm h) hd
theorem lF {E:Value->Shared->Prop}{pins:List (Addr×Obj)}{s:Shared}{σ:St}{H:Hp}{x:Str}{u:Value}{pos:Pos}{Q:Value->Shared->Prop} (I:bA X pins σ H s) (hg:Gl X x) (hm:X.mg x=none) (hv:bootBuiltins x=some u) (h:Q u s)
  (hn:x≠"__name__":=by decide) (hd:(x==("__debug__":Str))=false:=by decide):wpAny (model X.prog X.w) X.A (eval (.Name x pos) X.env) Q E s:=by
 obtain ⟨mb,h1,h2⟩:=I.mod.blt
 exact Calls.Name_function_global I.ok.kind hg (Calls.loadGlobal_builtin (by rw [I.ok.glob]; exact I.mod.glob.keeps I.bk) hm (by rw [I.ok.blt]; exact h1.keeps I.bk) ((h2 x hn).trans hv) h) hd
theorem eC {x:Str}{v:V}{u:Value}{pos:Pos} (hg:Gl X x) (hm:X.mg x=some u) (r:bL v u) (hd:(x==("__debug__":Str))=false:=by decide):PE X (.Name x pos) (tC v):=
 fun _ _ _ H _ I h=>pB I hg hm ⟨v,H,I,r,h⟩ hd
theorem iJ {x:Str}{v:V}{u:Value}{pos:Pos} (hg:Gl X x) (hm:X.mg x=none) (hv:bootBuiltins x=some u) (r:bL v u) (hn:x≠"__name__":=by decide) (hd:(x==("__debug__":Str))=false:=by decide):PE X (.Name x pos) (tC v):=
 fun _ _ _ H _ I h=>lF I hg hm hv ⟨v,H,I,r,h⟩ hn hd
variable {a b:Expr} {ta tb:TE} {pos:Pos}
def PC (X:Cx) (op:CmpOp) (a b:Expr) (t:TE):Prop:=
 ∀ (pins:List (Addr×Obj)) (s:Shared) (σ:St) (H:Hp) (Q:VK),bA X pins σ H s->t σ H Q ->
  wpAny (model X.prog X.w) X.A (eval a X.env) (fun v s₁=>wpAny (model X.prog X.w) X.A (eval b X.env) (fun u s₂=>wpAny (model X.prog X.w) X.A (compareOp op v u) (EP X pins σ Q) X.xe s₂) X.xe s₁) X.xe s
def tB (t:TE):TT:=fun σ H Q=>t σ H fun x H1=>∃ c,x=.bl c/\Q c H1
theorem ML {op:CmpOp}{t:TE} (h:PC X op a b t) (h1:behindInMarks op b=false:=by first|exact nobehind _ (by decide) (by decide)|rfl):PE X (.Compare a [op] [b] pos) t:=fun pins s σ H Q I hw=>wpAny_Compare1 (h pins s σ H Q I hw) h1
theorem YA {op:CmpOp}{t:TE} (h:PC X op a b t) (h1:behindInMarks op b=false:=by first|exact nobehind _ (by decide) (by decide)|rfl):PT X (.Compare a [op] [b] pos) (tB t):=by
 intro pins s σ H Q I hw
 refine wpAny_isTrue_Compare1 (cJ (h pins s σ H _ I hw) fun v s1 h1=>cJ h1 fun u s2 h2=>cJ h2 fun c s3 ⟨x,H1,I1,r1,q1⟩=>?_) h1
 obtain ⟨d,rfl,q⟩:=q1
 cases r1
 exact wpAny_truthy_bool ⟨H1,I1,q⟩
theorem fN {e:Expr}{t:TE} (h:PE X e t) (he:∀ whole,isTrue e X.env whole=(do let v ← whole; standAt e.pos; holding [v] (truthy v)):=by intro _; rfl):PT X e (tB t):=by
 intro pins s σ H Q I hw
 refine isTrue_plain (cJ (h pins s σ H _ I hw) fun v s1 ⟨x,H1,I1,r1,q1⟩=>?_) (he _)
 obtain ⟨d,rfl,q⟩:=q1
 cases r1
 exact wpAny_truthy_bool ⟨H1,I1,q⟩
variable {tA tB':TT} {eK:List Expr}
def Bt (t u:TT):TT:=fun σ H Q=>t σ H fun c H1=>if c=true then u σ H1 Q else Q false H1
def Ir (t u:TT):TT:=fun σ H Q=>t σ H fun c H1=>if c=true then Q true H1 else u σ H1 Q
def Bk (t:TT):TT:=fun σ H Q=>t σ H fun c H1=>Q (!c) H1
theorem kY (ha:PT X a tA):PW X (.BoolOp .And [a] pos) tA:=by
 intro wh pins s σ H Q I h
 refine isTrue_and (cJ (ha pins s σ H Q I h) fun c s1 e=>?_)
 cases c with
|true=>exact isTrue_and_nil e
|false=>exact e
theorem jZ (ha:PT X a tA):PW X (.BoolOp .Or [a] pos) tA:=by
 intro wh pins s σ H Q I h
 refine isTrue_or (cJ (ha pins s σ H Q I h) fun c s1 e=>?_)
 cases c with
|false=>exact isTrue_or_nil e
|true=>exact e
theorem kZ (ha:PT X a tA) (hb:PW X (.BoolOp .And (b::eK) pos) tB'):PW X (.BoolOp .And (a::b::eK) pos) (Bt tA tB'):=by
 intro wh pins s σ H Q I h
 refine isTrue_and (cJ (ha pins s σ H _ I h) fun c s1 ⟨H1,I1,q1⟩=>?_)
 cases c with
|true=>exact hb wh pins s1 σ H1 Q I1 q1
|false=>exact ⟨H1,I1,q1⟩
theorem lW (ha:PT X a tA) (hb:PW X (.BoolOp .Or (b::eK) pos) tB'):PW X (.BoolOp .Or (a::b::eK) pos) (Ir tA tB'):=by
 intro wh pins s σ H Q I h
 refine isTrue_or (cJ (ha pins s σ H _ I h) fun c s1 ⟨H1,I1,q1⟩=>?_)
 cases c with
|true=>exact ⟨H1,I1,q1⟩
|false=>exact hb wh pins s1 σ H1 Q I1 q1
theorem gA (ha:PT X a tA):PT X (.UnaryOp .Not a pos) (Bk tA):=by
 intro pins s σ H Q I h
 exact isTrue_not (ha pins s σ H (fun c H1=>Q (!c) H1) I h)
def TL (ta tb:TE):TE:=fun σ H Q=>ta σ H fun x H1=>∃ c,x=.bl c/\if c=true then tb σ H1 Q else Q (.bl false) H1
def SY (ta:TE):TE:=fun σ H Q=>ta σ H fun x H1=>∃ c,x=.bl c/\Q (.bl (!c)) H1
theorem lB {op}{t:TE} (h:PE X a t):PE X (.BoolOp op [a] pos) t:=fun pins s σ H Q I hw=>BoolOp_one (h pins s σ H Q I hw)
theorem jA (ha:PE X a ta) (hb:PE X (.BoolOp .And (b::eK) pos) tb):PE X (.BoolOp .And (a::b::eK) pos) (TL ta tb):=by
 intro pins s σ H Q I h
 refine BoolOp_and (cJ (ha pins s σ H _ I h) fun v s1 ⟨x,H1,I1,r1,q1⟩=>?_)
 obtain ⟨c,rfl,q1⟩:=q1
 cases r1
 refine wpAny_truthy_bool ?_
 cases c with
|true=>exact hb pins s1 σ H1 Q I1 q1
|false=>exact ⟨.bl false,H1,I1,rfl,q1⟩
theorem YG (ha:PE X a ta):PE X (.UnaryOp .Not a pos) (SY ta):=by
 intro pins s σ H Q I h
 refine UnaryOp_ (cJ (ha pins s σ H _ I h) fun v s1 ⟨x,H1,I1,r1,q1⟩=>?_)
 obtain ⟨c,rfl,q1⟩:=q1
 cases r1
 exact not_of (wpAny_truthy_bool ⟨.bl (!c),H1,I1,rfl,q1⟩)
def Iu (t:TT) (ta tb:TE):TE:=fun σ H Q=>t σ H fun c H1=>if c=true then ta σ H1 Q else tb σ H1 Q
theorem oP {c:Expr} (hc:PT X c tA) (ha:PE X a ta) (hb:PE X b tb):PE X (.IfExp c a b pos) (Iu tA ta tb):=by
 intro pins s σ H Q I h
 refine wpAny_IfExp (cJ (hc pins s σ H _ I h) fun d s1 ⟨H1,I1,q1⟩=>?_)
 cases d with
|true=>exact ha pins s1 σ H1 Q I1 q1
|false=>exact hb pins s1 σ H1 Q I1 q1
end
end
section
def cN (K:Frag) (H:Hp) (a:Addr) (xs:List V):Prop:=
 Rd H a (.lst xs) ∨
  ∃ (o:Obj) (its:Array Value) (n:Nat),K.lookup a=some o/\o.cls=.type "list"/\o.dict=none/\o.data=.seq its n/\its.size<=sizeLine/\bN xs its.toList
def fV (K:Frag) (H:Hp) (a:Addr) (xs:List V):Prop:=
 Rd H a (.tup xs) ∨
  ∃ (o:Obj) (its:Array Value) (n:Nat),K.lookup a=some o/\o.cls=.type "tuple"/\o.data=.seq its n/\its.size<=sizeLine/\bN xs its.toList
def Ib:Value->Option V
|.none=>some .non
|.bool b=>some (.bl b)
|.int i _=>some (.int i)
|.str x _=>some (.str x)
|.bytes b _=>some (.byt b)
|.float b _=>some (.flt b)
|.ref a=>some (.ref a)
|.type n=>some (.ty n)
|_=>none
theorem bL.abs {x:V}{u:Value} (r:bL x u):Ib u=some x:=by
 cases x with
|non=>cases r; rfl
|bl _=>cases r; rfl
|int _=>obtain ⟨t,rfl⟩:=r; rfl
|str _=>obtain ⟨t,rfl⟩:=r; rfl
|byt _=>obtain ⟨t,rfl⟩:=r; rfl
|flt _=>obtain ⟨t,rfl⟩:=r; rfl
|ref _=>cases r; rfl
|ty _=>cases r; rfl
theorem bL.inj {x y:V}{u:Value} (r:bL x u) (q:bL y u):x=y:=Option.some.inj (r.abs.symm.trans q.abs)
theorem bN.inj:∀ {xs ys:List V}{us:List Value},bN xs us->bN ys us->xs=ys
|_,_,_,.nil,.nil=>rfl
|_,_,_,.cons r t,.cons r' t'=>by rw [r.inj r',bN.inj t t']
section
variable {X:Cx} {pins:List (Addr×Obj)} {σ:St} {H:Hp} {s:Shared} {a:Addr} {xs ys:List V}
theorem cN.of {K:Frag} (h:H a=some (.lst xs)):cN K H a xs:=.inl (.inl h)
theorem fV.of {K:Frag} (h:H a=some (.tup xs)):fV K H a xs:=.inl (.inl h)
theorem bA.list (I:bA X pins σ H s) (h:cN X.K H a xs):∃ its:List Value,bN xs its/\PlainL s.heap a its.toArray/\xs.length<=sizeLine:=by
 rcases h with h|⟨o,its,n,hk,hc,hd,hs,hz,r⟩
 ·obtain ⟨z,its,n,r,e⟩:=h.ok I.hok
  exact ⟨its,r,⟨_,n,e,rfl,rfl,rfl⟩,z⟩
 ·refine ⟨its.toList,r,⟨o,n,I.kIn a o hk,hc,hd,by simpa using hs⟩,?_⟩
  have e:=r.length
  simp only [Array.length_toList] at e
  omega
theorem bA.tuple (I:bA X pins σ H s) (h:fV X.K H a xs):∃ its:List Value,bN xs its/\IsTup s.heap a its.toArray/\xs.length<=sizeLine:=by
 rcases h with h|⟨o,its,n,hk,hc,hs,hz,r⟩
 ·obtain ⟨z,its,r,p⟩:=h.ok I.hok
  exact ⟨its,r,p,z.1⟩
 ·refine ⟨its.toList,r,⟨o,I.kIn a o hk,hc,n,by simpa using hs⟩,?_⟩
  have e:=r.length
  simp only [Array.length_toList] at e
  omega
theorem bA.list_inj (I:bA X pins σ H s) (h:cN X.K H a xs) (h':cN X.K H a ys):xs=ys:=by
 obtain ⟨its,r,⟨o,n,e,_,_,d⟩,_⟩:=I.list h
 obtain ⟨its',r',⟨o',n',e',_,_,d'⟩,_⟩:=I.list h'
 rw [e] at e'; cases e'
 rw [d] at d'
 injection d' with d1 _
 have:its=its':=by simpa using congrArg Array.toList d1
 subst this
 exact r.inj r'
theorem bA.tuple_inj (I:bA X pins σ H s) (h:fV X.K H a xs) (h':fV X.K H a ys):xs=ys:=by
 obtain ⟨its,r,⟨o,e,_,n,d⟩,_⟩:=I.tuple h
 obtain ⟨its',r',⟨o',e',_,n',d'⟩,_⟩:=I.tuple h'
 rw [e] at e'; cases e'
 rw [d] at d'
 injection d' with d1 _
 have:its=its':=by simpa using congrArg Array.toList d1
 subst this
 exact r.inj r'
end
abbrev Cx.wish (X:Cx) (E:Value->Shared->Prop):Cx:={ X with xe:=E }
abbrev Cx.nox (X:Cx):Cx:=X.wish fun _ _=>False
theorem Cx.Ok.wish {X:Cx} (ok:X.Ok) (E:Value->Shared->Prop):(X.wish E).Ok:=
 ⟨ok.mod,ok.kind,ok.glob,ok.blt,ok.above,ok.inj,ok.has,ok.cab,ok.hd,ok.frames,ok.stk,ok.exf,ok.bs,ok.bsz,ok.noex,ok.exfs,ok.funs,ok.frf⟩
theorem Cx.Ok.unwish {X:Cx}{E:Value->Shared->Prop} (ok:(X.wish E).Ok):X.Ok:=
 ⟨ok.mod,ok.kind,ok.glob,ok.blt,ok.above,ok.inj,ok.has,ok.cab,ok.hd,ok.frames,ok.stk,ok.exf,ok.bs,ok.bsz,ok.noex,ok.exfs,ok.funs,ok.frf⟩
section
variable {X:Cx} {pins:List (Addr×Obj)} {σ:St} {H:Hp} {s:Shared} {E:Value -> Shared -> Prop}
theorem bA.wish (I:bA X pins σ H s) (E:Value->Shared->Prop):bA (X.wish E) pins σ H s:=⟨I.ok.wish E,I.os,I.bare,I.base,I.loc,I.cell,I.free,I.freeC,I.pin,I.hok,I.len⟩
theorem bA.unwish (I:bA (X.wish E) pins σ H s):bA X pins σ H s:=⟨I.ok.unwish,I.os,I.bare,I.base,I.loc,I.cell,I.free,I.freeC,I.pin,I.hok,I.len⟩
theorem SP.unwish {D:fQ}{f:Flow}{s':Shared} (h:SP (X.wish E) pins D f s'):SP X pins D f s':=by
 cases f with
|next=>obtain ⟨σ',H',I,q⟩:=h; exact ⟨σ',H',I.unwish,q⟩
|brk=>obtain ⟨σ',H',I,q⟩:=h; exact ⟨σ',H',I.unwish,q⟩
|cont=>obtain ⟨σ',H',I,q⟩:=h; exact ⟨σ',H',I.unwish,q⟩
|ret u=>obtain ⟨v,σ',H',I,r,q⟩:=h; exact ⟨v,σ',H',I.unwish,r,q⟩
theorem CH.nox {st:List Stmt}{t:TS} (h:CH X.nox st t):CH X st t:=fun pins s σ H D I hw =>
 wpAny_mono (h pins s σ H D (I.wish _) hw) (fun _ _ q=>q.unwish) fun _ _ z=>False.elim z
end
section
variable {X:Cx} {st:Stmt} {eK:List Stmt} {t u:TS} {e:Expr} {te:TE} {pos:Pos}
def SZ:TS:=fun D σ H=>D.nx σ H
def Bh (t u:TS):TS:=fun D σ H=>t { D with nx:=u D } σ H
theorem aS:CH X [] SZ:=fun _ _ σ H _ I h=>wpAny_execs_nil ⟨σ,H,I,h⟩
theorem aA (h1:PS X st t) (h2:CH X eK u):CH X (st::eK) (Bh t u):=by
 intro pins s σ H D I h
 refine wpAny_execs_cons (cJ (h1 pins s σ H { D with nx:=u D } I h) fun f s1 q=>?_)
 cases f with
|next =>
  obtain ⟨σ',H',I',q⟩:=q
  exact h2 pins s1 σ' H' D I' q
|ret v=>exact q
|brk=>exact q
|cont=>exact q
theorem aC (h1:PS X st t):CH X [st] t:=by
 intro pins s σ H D I h
 refine wpAny_execs_cons (cJ (h1 pins s σ H D I h) fun f s1 q=>?_)
 cases f with
|next=>exact wpAny_execs_nil q
|ret v=>exact q
|brk=>exact q
|cont=>exact q
theorem bA.quiet {pins:List (Addr×Obj)}{σ:St}{H:Hp}{s:Shared} (I:bA X pins σ H s):interactive X.env=false:=by simp [interactive,I.ok.kind]
def TF (te:TE):TS:=fun D σ H=>te σ H fun _ H1=>D.nx σ H1
theorem bO (he:PE X e te) (hs:swapsWith e none pos.line X.env=pure false:=by rfl):PS X (.Expr e pos) (TF te):=by
 intro pins s σ H D I h
 exact wpAny_Expr_any (cJ (he pins s σ H _ I h) fun v s1 ⟨x,H1,I1,r1,q1⟩=>⟨σ,H1,I1,q1⟩) I.quiet hs
def Bi (te:TE):TS:=fun D σ H=>te σ H D.rt
theorem aM (he:PE X e te):PS X (.Return (some e) pos) (Bi te):=by
 intro pins s σ H D I h
 exact wpAny_Return_some (cJ (he pins s σ H _ I h) fun v s1 ⟨x,H1,I1,r1,q1⟩=>⟨x,σ,H1,I1,r1,q1⟩)
def VL (c:TT) (t u:TS):TS:=fun D σ H=>c σ H fun b H1=>if b=true then t D σ H1 else u D σ H1
theorem bB {c:Expr}{a b:List Stmt}{tc:TT} (hc:PT X c tc) (ha:CH X a t) (hb:CH X b u):PS X (.If c a b pos) (VL tc t u):=by
 intro pins s σ H D I h
 refine wpAny_If (cJ (hc pins s σ H _ I h) fun d s1 ⟨H1,I1,q1⟩=>?_)
 cases d with
|true=>exact ha pins s1 σ H1 D I1 q1
|false=>exact hb pins s1 σ H1 D I1 q1
def VH:TS:=fun _ _ _=>False
theorem fA:PS X st VH:=fun _ _ _ _ _ _ h=>h.elim
end
abbrev TG:=V->St->Hp->(St->Hp->Prop)->Prop
abbrev GW:=List V->St->Hp->(St->Hp->Prop)->Prop
def PG (X:Cx) (target:Expr) (t:TG):Prop:=
 ∀ (pins:List (Addr×Obj)) (s:Shared) (σ:St) (H:Hp) (v:V) (u:Value) (Q:St->Hp->Prop),bA X pins σ H s->bL v u->t v σ H Q ->
  wpAny (model X.prog X.w) X.A (assign target X.env u) (fun _ s'=>∃ σ' H',bA X pins σ' H' s'/\Q σ' H') X.xe s
def Ay (X:Cx) (ts:List Expr) (t:GW):Prop:=
 ∀ (pins:List (Addr×Obj)) (s:Shared) (σ:St) (H:Hp) (vs:List V) (us:List Value) (Q:St->Hp->Prop),bA X pins σ H s->bN vs us->t vs σ H Q ->
  wpAny (model X.prog X.w) X.A (assignInOrder ((assignEach ts X.env).map (·.2)) us) (fun _ s'=>∃ σ' H',bA X pins σ' H' s'/\Q σ' H') X.xe s
abbrev SM:=V->V->V->Hp->(Hp->Prop)->Prop
def Fv (X:Cx) (t:SM):Prop:=
 ∀ (pins:List (Addr×Obj)) (s:Shared) (σ:St) (H:Hp) (o i v:V) (ov iv u:Value) (Q:Hp->Prop),bA X pins σ H s->bL o ov->bL i iv->bL v u->t o i v H Q ->
  wpAny (model X.prog X.w) X.A (setItem ov iv u) (fun _ s'=>∃ H',bA X pins σ H' s'/\Q H') X.xe s
abbrev Fu:=V->V->Hp->VK->Prop
def Jj (X:Cx) (op:Operator) (t:Fu):Prop:=
 ∀ (pins:List (Addr×Obj)) (s:Shared) (σ:St) (H:Hp) (x y:V) (v u:Value) (Q:VK),bA X pins σ H s->bL x v->bL y u->t x y H Q ->
  wpAny (model X.prog X.w) X.A (inplaceOp op v u) (EP X pins σ Q) X.xe s
section
variable {X:Cx} {pos:Pos}
def iC (i:Nat):TG:=fun v σ H Q=>Q (σ.set i (some v)) H
theorem aU {i:Nat}{x:Str} (hN:X.N.Nodup) (hi:X.N[i]?=some x) (hx:Ao X.env.scope x) (hf:X.fn x=true∨X.env.scope.names.lookup x=some .local:=by first|exact .inl rfl|exact .inr rfl|assumption):PG X (.Name x pos) (iC i):=by
 intro pins s σ H v u Q I r h
 exact wpAny_assign_Name (iR I hN hi hx r (fun s' I'=>⟨_,H,I',h⟩) hf)
def NI:GW:=fun vs σ H Q=>vs=[]/\Q σ H
def pF (t:TG) (u:GW):GW:=fun vs σ H Q=>∃ v r,vs=v::r/\t v σ H fun σ' H'=>u r σ' H' Q
theorem gW:Ay X [] NI:=by
 intro pins s σ H vs us Q I r h
 obtain ⟨e,h⟩:=h
 subst e
 cases r
 exact assignInOrder_nil ⟨σ,H,I,h⟩
theorem bP {e:Expr}{es:List Expr}{t:TG}{u:GW} (h1:PG X e t) (h2:Ay X es u)
  (hs:(assignEach (e::es) X.env).map (·.2)=assign e X.env::(assignEach es X.env).map (·.2):=by rfl):Ay X (e::es) (pF t u):=by
 intro pins s σ H vs us Q I r h
 obtain ⟨v,vr,e1,h⟩:=h
 subst e1
 cases r with
|cons r rr =>
  rw [hs]
  refine assignInOrder_cons (cJ (h1 pins s σ H _ _ _ I r h) fun _ s1 ⟨σ1,H1,I1,q1⟩=>?_)
  exact h2 pins s1 σ1 H1 _ _ Q I1 rr q1
def ED (K:Frag) (n:Nat) (t:GW):TG:=fun v σ H Q=>∃ a xs,v=.ref a/\fV K H a xs/\xs.length=n/\t xs σ H Q
theorem qI {es:List Expr}{k:Nat}{t:GW}{n:Nat} (hc:X.calm=true) (h:Ay X es t)
  (hn:(assignEach es X.env).length=n:=by rfl) (hst:(assignEach es X.env).findIdx? (·.1)=none:=by rfl):PG X (.Tuple es k pos) (ED X.K n t):=by
 intro pins s σ H v u Q I r hw
 obtain ⟨a,xs,e1,hq,hl,hw⟩:=hw
 subst e1
 cases r
 obtain ⟨its,rv,ht,hz⟩:=I.tuple hq
 refine assign_Tuple_tuple (I.ok.hd hc) ht (by simp [hn,← hl,rv.length]) hst fun h' hx=>?_
 have I1:bA X pins σ H { s with heap:=h' }:=I.kept (t':=s.toks) fun b o e=>hx b o (ne_of_lt (lt_size e)) e
 exact h pins _ σ H xs _ Q I1 (by simpa using rv) hw
def Fb (to ti:TE) (t:SM):TG:=fun v σ H Q=>to σ H fun o H1=>ti σ H1 fun i H2=>t o i v H2 fun H3=>Q σ H3
theorem YD {o i:Expr}{to ti:TE}{t:SM} (ho:PE X o to) (hi:PE X i ti) (hs:Fv X t)
  (ha:∀ v,assign (.Subscript o i pos) X.env v=(do
   let ov ← holding [v] (eval o X.env)
   let iv ← holding [v,ov] (eval i X.env)
   standAt pos
   holding [v,ov,iv] (setItem ov iv v)
   release [v,ov,iv] []):=by intro _; rfl):PG X (.Subscript o i pos) (Fb to ti t):=by
 intro pins s σ H v u Q I r h
 rw [ha]
 refine wpAny_bind (wpAny_holding (cJ (ho pins s σ H _ I h) fun ov s1 ⟨x,H1,I1,r1,q1⟩=>?_))
 refine wpAny_bind (wpAny_holding (cJ (hi pins s1 σ H1 _ I1 q1) fun iv s2 ⟨y,H2,I2,r2,q2⟩=>?_))
 refine wpAny_bind (wpAny_standAt (wpAny_bind (wpAny_holding (cJ (hs pins s2 σ H2 x y v ov iv u _ I2 r1 r2 r q2) fun _ s3 ⟨H3,I3,q3⟩=>?_))))
 exact wpAny_release ⟨σ,H3,I3,q3⟩
def PH (te:TE) (g:TG):TS:=fun D σ H=>te σ H fun x H1=>g x σ H1 D.nx
theorem tY {tg e:Expr}{te:TE}{g:TG} (he:PE X e te) (hg:PG X tg g) (hs:swapsWithSole [tg] e pos.line X.env=pure false:=by rfl) (hw:swappedStores [tg] e X.env=pure none:=by rfl)
  (h1:(assignEach [tg] X.env).map (·.2)=[assign tg X.env]:=by rfl):PS X (.Assign [tg] e pos) (PH te g):=by
 intro pins s σ H D I h
 refine wpAny_Assign_stores (cJ (he pins s σ H _ I h) fun v s1 ⟨x,H1,I1,r1,q1⟩=>?_) hs hw
 rw [h1]
 exact cJ (hg pins s1 σ H1 x v _ I1 r1 q1) fun _ s2 q=>q
theorem aO {i:Nat}{x:Str}{e:Expr}{te:TE}{pos':Pos} (hN:X.N.Nodup) (hi:X.N[i]?=some x) (hx:Ao X.env.scope x) (he:PE X e te) (hs:swapsWith e (some (.Name x pos')) pos.line X.env=pure false:=by rfl) (hf:X.fn x=true∨X.env.scope.names.lookup x=some .local:=by first|exact .inl rfl|exact .inr rfl|assumption) :
  PS X (.Assign [.Name x pos'] e pos) (PH te (iC i)):=by
 intro pins s σ H D I h
 refine wpAny_Assign_Name (cJ (he pins s σ H _ I h) fun v s1 ⟨y,H1,I1,r1,q1⟩=>?_) hs
 exact iR I1 hN hi hx r1 (fun s2 I2=>⟨_,H1,I2,q1⟩) hf
def Bj (i j:Nat) (ta:TA):TS:=fun D σ H=>ta σ H fun vs H1=>∃ v w,vs=[v,w]/\D.nx ((σ.set i (some v)).set j (some w)) H1
theorem YC {i j:Nat}{x y:Str}{a b:Expr}{ta:TA}{px py pt:Pos}{kt k2 pt2} (hc:X.calm=true) (hN:X.N.Nodup) (hi:X.N[i]?=some x) (hj:X.N[j]?=some y) (hij:i≠j)
  (hx:X.env.scope.names.lookup x=some .local) (hy:X.env.scope.names.lookup y=some .local) (ha:PA X [a,b] ta)
  (hw:swappedStores [.Tuple [.Name x px,.Name y py] kt pt] (.Tuple [a,b] k2 pt2) X.env=pure (some [x,y]))
  (hs:swapsWithSole [.Tuple [.Name x px,.Name y py] kt pt] (.Tuple [a,b] k2 pt2) pos.line X.env=pure false:=by rfl) :
  PS X (.Assign [.Tuple [.Name x px,.Name y py] kt pt] (.Tuple [a,b] k2 pt2) pos) (Bj i j ta):=by
 intro pins s σ H D I h
 rw [exec_Assign_arm]
 refine wpAny_bind (wpAny_standAt ?_)
 rw [hs]
 refine wpAny_bind (wpAny_pure ?_)
 rw [if_neg (by decide)]
 refine wpAny_bind (Tuple_ (cJ (ha _ pins s σ H _ I h) fun us s1 ⟨vs,H1,I1,r1,q1⟩=>?_))
 obtain ⟨v,w,e1,q1⟩:=q1
 subst e1
 obtain ⟨u1,u2,rfl,rv,rw'⟩:∃ u1 u2,us=[u1,u2]/\bL v u1/\bL w u2:=by
  cases r1 with
 |cons p q =>
   cases q with
  |cons p' q' =>
    cases q'
    exact ⟨_,_,rfl,p,p'⟩
 refine wpAny_newObj_type ?_ (by show 2<=sizeLine; decide)
 have I2:bA X pins σ H1 { s1 with heap:=s1.heap.push { cls:=.type "tuple",data:=.seq [u1,u2].toArray } }:=I1.kept (t':=s1.toks) fun b o e=>get?_push_of_some _ e
 rw [hw]
 refine wpAny_bind (wpAny_pure ?_)
 show wpAny (model X.prog X.w) X.A (do rule "assign.swapped-stores"; let items ← unpackItems (.ref s1.heap.objs.size) 2 none; assignInOrder [fun v=>bindName X.env y v,fun v=>bindName X.env x v] items.reverse; pure Flow.next) _ _ _
 refine wpAny_bind (wpAny_rule (wpAny_bind (unpackItems_tuple (items:=#[u1,u2]) (I.ok.hd hc) (IsTup.new s1.heap _) fun h' hx'=>?_)))
 have I3:=I2.kept (h':=h') (t':=s1.toks) fun b o e=>hx' b o (ne_of_lt (lt_size e)) e
 show wpAny _ _ (assignInOrder [fun v=>bindName X.env y v,fun v=>bindName X.env x v] [u2,u1] >>= fun _=>pure Flow.next) _ _ _
 refine wpAny_bind (assignInOrder_cons (wpAny_bindName (iR I3 hN hj (.inl hy) rw' (fun s2 I4=>?_) (.inr hy))))
 refine assignInOrder_cons (wpAny_bindName (iR I4 hN hi (.inl hx) rv (fun s3 I5=>assignInOrder_nil (wpAny_pure ?_)) (.inr hx)))
 rw [List.set_comm _ _ (Ne.symm hij)] at I5
 exact ⟨_,H1,I5,q1⟩
def Bs (i:Nat) (te:TE) (ti:Fu):TS:=fun D σ H=>∃ x,σ[i]?=some (some x)/\te σ H fun y H1=>ti x y H1 fun z H2=>D.nx (σ.set i (some z)) H2
theorem MF {i:Nat}{x:Str}{e:Expr}{te:TE}{op:Operator}{ti:Fu}{pos':Pos} (hN:X.N.Nodup) (hi:X.N[i]?=some x) (hx:Ao X.env.scope x) (he:PE X e te) (ho:Jj X op ti) (hf:X.fn x=true∨X.env.scope.names.lookup x=some .local:=by first|exact .inl rfl|exact .inr rfl|assumption) :
  PS X (.AugAssign (.Name x pos') op e pos) (Bs i te ti):=by
 intro pins s σ H D I h
 obtain ⟨v,e1,h⟩:=h
 obtain ⟨m,hn,hl⟩:=I.loc
 have vis:Fs X.env.scope x:=by rcases hx with k|k; exact .inl k; exact .inr (.inl k)
 obtain ⟨u,r,l⟩:=hl i x v hi e1 vis
 refine wpAny_AugAssign_Name ?_
 have go:wpAny (model X.prog X.w) X.A (eval e X.env) (fun w s₂=>wpAny (model X.prog X.w) X.A (inplaceOp op u w) (fun r s₃=>wpAny (model X.prog X.w) X.A (storeName X.env x r) (fun _=>SP X pins D .next) X.xe s₃) X.xe s₂) X.xe s:=by
  refine cJ (he pins s σ H _ I h) fun w s1 ⟨y,H1,I1,r1,q1⟩=>?_
  refine cJ (ho pins s1 σ H1 v y u w _ I1 r r1 q1) fun z s2 ⟨zv,H2,I2,r2,q2⟩=>?_
  exact iR I2 hN hi hx r2 (fun s3 I3=>⟨_,H2,I3,q2⟩) hf
 rcases l with ⟨hk,hm⟩|⟨hk,c,hc,hcell⟩
 ·exact wpAny_loadName_local I.ok.kind hk hn hm go
 ·rcases hk with hk|hk
  ·exact wpAny_loadName_cell I.ok.kind hk hc hcell go
  ·rcases hx with k|k
   ·have:X.env.scope.names.lookup x=some .free:=hk
    rw [k] at this; cases this
   ·have:X.env.scope.names.lookup x=some .free:=hk
    rw [k] at this; cases this
def ipI (f:Int->Int->Int):Fu:=fun x y H Q=>∃ i j,x=.int i/\y=.int j/\Q (.int (f i j)) H
theorem NC:Jj X .Add (ipI fun i j=>i+j):=by
 intro pins s σ H x y v u Q I r1 r2 h
 obtain ⟨i,j,e1,e2,q⟩:=h
 subst e1; subst e2
 obtain ⟨t,rfl⟩:=r1
 obtain ⟨t',rfl⟩:=r2
 exact iadd_int ⟨.int _,H,I.tok _,⟨_,rfl⟩,q⟩
end
section
variable {X:Cx} {pos:Pos}
def CQ (c:TT) (tb:TS):TS:=fun D σ H=>∃ W:Nat->St->Hp->Prop,(∃ m,W m σ H)/\∀ m σ H,W m σ H ->
 c σ H fun b H1=>if b=true then ∃ N:St->Hp->Prop,(∀ σ' H',N σ' H'->∃ m',m' < m/\W m' σ' H')/\tb { D with nx:=N,ct:=N,bk:=D.nx } σ H1 else D.nx σ H1
theorem oN {c:Expr}{body:List Stmt}{tc:TT}{tb:TS} (hp:PassesOwn (model X.prog X.w) X.A X.env X.xe) (hc:PT X c tc) (hb:CH X body tb):PS X (.While c body [] pos) (CQ tc tb):=by
 intro pins s σ H D I h
 obtain ⟨W,⟨m0,w0⟩,turn⟩:=h
 refine wpAny_While (codeAny_whileLoop (fun n s'=>∃ σ' H',bA X pins σ' H' s'/\W n σ' H') ?_ m0 ⟨σ,H,I,w0⟩)
 rintro n s1 ⟨σ1,H1,I1,w1⟩
 refine wpAny_passesOwn hp (cJ (hc pins s1 σ1 H1 _ I1 (turn n σ1 H1 w1)) fun b s2 ⟨H2,I2,q2⟩=>?_)
 cases b with
|true =>
  obtain ⟨N,hN,q2⟩:=q2
  rw [if_pos rfl]
  refine wpAny_passesOwn hp (cJ (hb pins s2 σ1 H2 _ I2 q2) fun f s3 q3=>?_)
  cases f with
 |next =>
   obtain ⟨σ3,H3,I3,n3⟩:=q3
   obtain ⟨m',hm,w3⟩:=hN σ3 H3 n3
   exact ⟨m',hm,σ3,H3,I3,w3⟩
 |cont =>
   obtain ⟨σ3,H3,I3,n3⟩:=q3
   obtain ⟨m',hm,w3⟩:=hN σ3 H3 n3
   exact ⟨m',hm,σ3,H3,I3,w3⟩
 |brk=>exact q3
 |ret v=>exact q3
|false =>
  rw [if_neg Bool.false_ne_true]
  exact wpAny_execs_nil ⟨σ1,H2,I2,q2⟩
end
structure It where
 go:Nat->Hp->Prop
 yld:Nat->Hp->V->Hp->Prop
 stop:Nat->Hp->Prop
def vE (X:Cx) (pins:List (Addr×Obj)) (H:Hp) (b:Addr):Prop:=
 H b=none/\b≠X.env.locals/\b∉X.fs/\(b∈X.ex∨X.s₀.heap.objs.size<=b)/\(∀ x c,X.env.cells.lookup x=some c->c≠b)/\∀ p∈X.pn++pins,p.1≠b
theorem bA.fpOk {X:Cx}{pins:List (Addr×Obj)}{σ:St}{H H':Hp}{s:Shared}{b:Addr} (I:bA X pins σ H s) (hb:s.heap.objs.size<=b) (hn:H' b=none):vE X pins H' b:=by
 refine ⟨hn,ne_of_gt (lt_of_lt_of_le I.lt hb),I.nofs hb,.inr (le_trans I.sz hb),fun x c e z=>?_,fun p hp z=>?_⟩
 ·obtain ⟨v,q⟩:=I.cell x c e
  exact absurd (lt_of_lt_of_le q.lt (by rw [z]; exact hb)) (lt_irrefl _)
 ·exact absurd (lt_of_lt_of_le (lt_size (I.pin p hp).1) (by rw [z]; exact hb)) (lt_irrefl _)
structure ER (P:Program) (w:World) (K:Frag) (tg:Expr) (J:It) (fp:List Addr) (it:Addr) (tn:Nat->Heap->Prop):Prop where
 mem:it∈fp
 obj:∀ i h,tn i h->∀ b∈fp,∃ o,h.get? b=some o/\∀ v,o.data≠.cell v
 keep:∀ i h h',tn i h->(∀ b∈fp,∀ o,h.get? b=some o->h'.get? b=some o)->tn i h'
 item:∀ (X:Cx),X.prog=P->X.w=w->X.K=K->X.calm=true->∀ (i:Nat) (pins:List (Addr×Obj)) (s:Shared) (σ:St) (H:Hp) (E:Value->Shared->Prop),bA X pins σ H s->(∀ b∈fp,vE X pins H b)->tn i s.heap->J.go i H ->
  wpAny (model P w) X.A (pyNext (.ref it)) (fun r s1=>∃ u,r=some u /\
   wpAny (model P w) X.A (letOwnedTupleGo tg (.ref it) u) (fun _ s2=>∃ x H',bA X pins σ H' s2/\bL x u/\J.yld i H x H'/\tn (i+1) s2.heap/\∀ b∈fp,H' b=none) E s1) E s
 done:∀ (X:Cx),X.prog=P->X.w=w->X.K=K->X.calm=true->∀ (i:Nat) (pins:List (Addr×Obj)) (s:Shared) (σ:St) (H:Hp) (E:Value->Shared->Prop),bA X pins σ H s->(∀ b∈fp,vE X pins H b)->tn i s.heap->J.stop i H ->
  wpAny (model P w) X.A (pyNext (.ref it)) (fun r s1=>r=none/\bA X pins σ H s1) E s
 self:∀ (A:Around) (i:Nat) (s:Shared) (Q:Value->Shared->Prop) (E:Value->Shared->Prop),tn i s.heap->Q (.ref it) s->wpAny (model P w) A (pyIter (.ref it)) Q E s
abbrev TI:=St->Hp->(It->Hp->Prop)->Prop
def Ig (X:Cx) (pins:List (Addr×Obj)) (σ:St) (tg:Expr) (R:It->Hp->Prop) (itv:Value) (s2:Shared):Prop:=
 ∃ (it:Addr) (fp:List Addr) (tn:Nat->Heap->Prop) (J:It) (H':Hp),itv=.ref it/\bA X pins σ H' s2/\ER X.prog X.w X.K tg J fp it tn/\tn 0 s2.heap/\(∀ b∈fp,vE X pins H' b)/\R J H'
def PI (X:Cx) (tg iter:Expr) (wi:TI):Prop:=
 ∀ (pins:List (Addr×Obj)) (s:Shared) (σ:St) (H:Hp) (R:It->Hp->Prop),bA X pins σ H s->wi σ H R ->
  wpAny (model X.prog X.w) X.A (eval iter X.env) (fun v s1=>wpAny (model X.prog X.w) X.A (pyIter v) (Ig X pins σ tg R) X.xe s1) X.xe s
theorem GM {M:Model}{A:Around}{E:Value->Shared->Prop}{s:Shared}{tg:Expr}{it:Addr}{u:Value}{o:Obj}{n:String}{vs:Array Value}{Q:Unit->Shared->Prop} (ho:s.heap.get? it=some o) (hc:o.cls=.type n) (hd:o.data=.fields vs)
    (hn:["enumerate","zip","dict_itemiterator","dict_reverseitemiterator","odict_iterator","itertools.zip_longest","itertools.pairwise"].contains n=false) (hQ:Q () s):wpAny M A (letOwnedTupleGo tg (.ref it) u) Q E s:=by
  unfold letOwnedTupleGo
  cases tg <;> first
   |exact wpAny_pure hQ
    | (cases u <;> first
       |exact wpAny_pure hQ
        | (refine wpAny_bind (wpAny_load ho ?_)
           rw [hc,hd]
           show wpAny M A (if (["enumerate","zip","dict_itemiterator","dict_reverseitemiterator","odict_iterator","itertools.zip_longest","itertools.pairwise"].contains n&&vs[0]?==some (rawInt _))=true then _ else _) Q E s
           rw [if_neg (by intro h; rw [hn,Bool.false_and] at h; cases h)]
           exact wpAny_pure hQ))
def JX (K:Frag) (a:Addr):It:=
 ⟨fun i H=>∃ xs x,cN K H a xs/\xs[i]?=some x,fun i H x H'=>H'=H/\∀ xs,cN K H a xs->xs[i]?=some x,fun i H=>∃ xs,cN K H a xs/\xs.length<=i⟩
def SR (K:Frag) (a:Addr):It:=
 ⟨fun i H=>∃ xs x,fV K H a xs/\xs[i]?=some x,fun i H x H'=>H'=H/\∀ xs,fV K H a xs->xs[i]?=some x,fun i H=>∃ xs,fV K H a xs/\xs.length<=i⟩
def JQ (lo:Int) (n:Nat):It:=⟨fun i _=>i < n,fun i H x H'=>H'=H/\x=.int (lo+i),fun i _=>n<=i⟩
theorem HF {P:Program}{w:World}{K:Frag}{tg:Expr} (a it:Addr):ER P w K tg (JX K a) [it] it (fun i h=>h.IsListIter it a i) where
 mem:=by simp
 obj:=fun i h st b hb=>by
  have e:b=it:=by simpa using hb
  subst e
  obtain ⟨o,e,c,d⟩:=st
  exact ⟨o,e,fun v z=>by rw [d] at z; cases z⟩
 keep:=fun i h h' st k=>st.at fun o e=>k it (by simp) o e
 item:=by
  intro X hP hw hK hc i pins s σ H E I hf st hg
  subst hP hw hK
  obtain ⟨xs,x,hq,hx⟩:=hg
  obtain ⟨its,rv,p,hz⟩:=I.list hq
  obtain ⟨u,hu,ru⟩:=rv.get hx
  obtain ⟨f0,f1,f2,f3,f4,f5⟩:=hf it (by simp)
  refine wpAny_pyNext_list_item st p.isList (x:=u) (by simpa using hu) fun h' st' sb=>?_
  have I1:bA X pins σ H { s with heap:=h' }:=I.turned (t':=s.toks) (fun b o hb e=>(sb.2 b hb).trans e) f0 f1 f3 f4 f5
  obtain ⟨o,e,c,d⟩:=id st'
  exact ⟨u,rfl,GM (s:={ s with heap:=h' }) e c d (by decide) ⟨x,H,I1,ru,⟨rfl,fun ys hy=>by rw [I.list_inj hy hq]; exact hx⟩,st',fun b hb=>(hf b hb).1⟩⟩
 done:=by
  intro X hP hw hK hc i pins s σ H E I hf st hg
  subst hP hw hK
  obtain ⟨xs,hq,hx⟩:=hg
  obtain ⟨its,rv,p,hz⟩:=I.list hq
  obtain ⟨f0,f1,f2,f3,f4,f5⟩:=hf it (by simp)
  have hl:=rv.length
  exact wpAny_pyNext_list_end (I.ok.hd hc) st p.isList (by simp; omega) fun h' eb=>⟨rfl,I.turned (t':=s.toks) (fun b o hb e=>eb b o hb e) f0 f1 f3 f4 f5⟩
 self:=fun _ _ _ _ _ st h=>wpAny_pyIter_listiter st h
theorem CM {P:Program}{w:World}{K:Frag}{tg:Expr} (a it:Addr):ER P w K tg (SR K a) [it] it (fun i h=>h.IsTupleIter it a i) where
 mem:=by simp
 obj:=fun i h st b hb=>by
  have e:b=it:=by simpa using hb
  subst e
  obtain ⟨o,e,c,d⟩:=st
  exact ⟨o,e,fun v z=>by rw [d] at z; cases z⟩
 keep:=fun i h h' st k=>st.at fun o e=>k it (by simp) o e
 item:=by
  intro X hP hw hK hc i pins s σ H E I hf st hg
  subst hP hw hK
  obtain ⟨xs,x,hq,hx⟩:=hg
  obtain ⟨its,rv,p,hz⟩:=I.tuple hq
  obtain ⟨u,hu,ru⟩:=rv.get hx
  obtain ⟨f0,f1,f2,f3,f4,f5⟩:=hf it (by simp)
  refine wpAny_pyNext_tuple_item st (show s.heap.IsTuple a its.toArray from p) (x:=u) (by simpa using hu) fun h' st' sb=>?_
  have I1:bA X pins σ H { s with heap:=h' }:=I.turned (t':=s.toks) (fun b o hb e=>(sb.2 b hb).trans e) f0 f1 f3 f4 f5
  obtain ⟨o,e,c,d⟩:=id st'
  exact ⟨u,rfl,GM (s:={ s with heap:=h' }) e c d (by decide) ⟨x,H,I1,ru,⟨rfl,fun ys hy=>by rw [I.tuple_inj hy hq]; exact hx⟩,st',fun b hb=>(hf b hb).1⟩⟩
 done:=by
  intro X hP hw hK hc i pins s σ H E I hf st hg
  subst hP hw hK
  obtain ⟨xs,hq,hx⟩:=hg
  obtain ⟨its,rv,p,hz⟩:=I.tuple hq
  obtain ⟨f0,f1,f2,f3,f4,f5⟩:=hf it (by simp)
  have hl:=rv.length
  exact wpAny_pyNext_tuple_end (I.ok.hd hc) st (show s.heap.IsTuple a its.toArray from p) (by simp; omega) fun h' eb=>⟨rfl,I.turned (t':=s.toks) (fun b o hb e=>eb b o hb e) f0 f1 f3 f4 f5⟩
 self:=fun _ _ _ _ _ st h=>wpAny_pyIter_tupleiter st h
theorem CO {P:Program}{w:World}{K:Frag}{tg:Expr} (it:Addr) (lo:Int) (n:Nat):ER P w K tg (JQ lo n) [it] it (fun i h=>IsRangeIter h it (lo+(i:Nat) * 1) ((n:Int) - (i:Nat)) 1) where
 mem:=by simp
 obj:=fun i h st b hb=>by
  have e:b=it:=by simpa using hb
  subst e
  exact ⟨_,st,fun v z=>by
   have z':Data.fields _=Data.cell v:=z
   cases z'⟩
 keep:=fun i h h' st k=>k it (by simp) _ st
 item:=by
  intro X hP hw hK hc i pins s σ H E I hf st hg
  subst hP hw hK
  obtain ⟨f0,f1,f2,f3,f4,f5⟩:=hf it (by simp)
  have W:=Walks.range (prog:=X.prog) (w:=X.w) (I.ok.hd hc) it lo 1 n
  refine W.item i s _ _ hg st fun v h' tk hv st' kk=>?_
  obtain ⟨t,rfl⟩:=hv
  have I1:bA X pins σ H { s with heap:=h',toks:=tk }:=I.turned (fun b o hb e=>kk b o (by simpa using hb) e) f0 f1 f3 f4 f5
  refine ⟨_,rfl,GM (s:={ s with heap:=h',toks:=tk }) (n:="range_iterator") st' rfl rfl (by decide) ⟨.int (lo+i),H,I1,⟨t,?_⟩,⟨rfl,rfl⟩,st',fun b hb=>(hf b hb).1⟩⟩
  rw [Int.mul_one]
 done:=by
  intro X hP hw hK hc i pins s σ H E I hf st hg
  subst hP hw hK
  obtain ⟨f0,f1,f2,f3,f4,f5⟩:=hf it (by simp)
  exact wpAny_pyNext_range_end (I.ok.hd hc) st (by have:n<=i:=hg; omega) fun h' eb=>⟨rfl,I.turned (t':=s.toks) (fun b o hb e=>eb b o hb e) f0 f1 f3 f4 f5⟩
 self:=fun _ _ _ _ _ st h=>wpAny_pyIter_rangeiter st h
end
section
section
variable {X:Cx} {tg:Expr}
def UV (K:Frag) (tl:TE):TI:=fun σ H R=>tl σ H fun x H1=>∃ a,x=.ref a/\(∃ xs,cN K H1 a xs)/\R (JX K a) H1
def Fa (K:Frag) (tl:TE):TI:=fun σ H R=>tl σ H fun x H1=>∃ a,x=.ref a/\(∃ xs,fV K H1 a xs)/\R (SR K a) H1
theorem dS {l:Expr}{tl:TE} (hl:PE X l tl):PI X tg l (UV X.K tl):=by
 intro pins s σ H R I h
 refine cJ (hl pins s σ H _ I h) fun v s1 ⟨x,H1,I1,r1,q1⟩=>?_
 obtain ⟨a,e,⟨xs,hq⟩,q⟩:=q1
 subst e
 cases r1
 obtain ⟨its,rv,p,hz⟩:=I1.list hq
 refine wpAny_pyIter_list p.isList ?_
 refine ⟨s1.heap.objs.size,[s1.heap.objs.size],_,_,H1,rfl,I1.kept (t':=s1.toks) fun b o e=>get?_push_of_some _ e,HF a _,⟨_,get?_push_size _ rfl,rfl,rfl⟩,fun b hb=>?_,q⟩
 have e:b=s1.heap.objs.size:=by simpa using hb
 subst e
 exact I1.fpOk (le_refl _) (I1.hok.fresh (le_refl _))
theorem qG {l:Expr}{tl:TE} (hl:PE X l tl):PI X tg l (Fa X.K tl):=by
 intro pins s σ H R I h
 refine cJ (hl pins s σ H _ I h) fun v s1 ⟨x,H1,I1,r1,q1⟩=>?_
 obtain ⟨a,e,⟨xs,hq⟩,q⟩:=q1
 subst e
 cases r1
 obtain ⟨its,rv,p,hz⟩:=I1.tuple hq
 refine wpAny_pyIter_tuple (show s1.heap.IsTuple a its.toArray from p) ?_
 refine ⟨s1.heap.objs.size,[s1.heap.objs.size],_,_,H1,rfl,I1.kept (t':=s1.toks) fun b o e=>get?_push_of_some _ e,CM a _,⟨_,get?_push_size _ rfl,rfl,rfl⟩,fun b hb=>?_,q⟩
 have e:b=s1.heap.objs.size:=by simpa using hb
 subst e
 exact I1.fpOk (le_refl _) (I1.hok.fresh (le_refl _))
theorem AK {pins:List (Addr×Obj)}{σ:St}{H:Hp}{s:Shared}{R:It->Hp->Prop}{E:Value->Shared->Prop}{lo hi:Int}{t u v:Tok}{tk:Nat} (I:bA X pins σ H s) (h1:-(2 ^ 62)<=lo) (h2:lo < 2 ^ 62) (h3:-(2 ^ 62)<=hi) (h4:hi < 2 ^ 62)
  (q:R (JQ lo (hi - lo).toNat) H):wpAny (model X.prog X.w) X.A (pyIter (.ref s.heap.objs.size)) (Ig X pins σ tg R) E { s with heap:=s.heap.push { cls:=.type "range",data:=.fields #[.int lo t,.int hi u,.int 1 v] },toks:=tk }:=by
 refine wpAny_pyIter_range (IsRange.new ..) (small_one h1 h2 h3 h4) ?_
 have I1:bA X pins σ H { s with heap:=s.heap.push { cls:=.type "range",data:=.fields #[.int lo t,.int hi u,.int 1 v] },toks:=tk }:=I.kept fun b o e=>get?_push_of_some _ e
 refine ⟨(s.heap.push { cls:=.type "range",data:=.fields #[.int lo t,.int hi u,.int 1 v] }).objs.size,[(s.heap.push { cls:=.type "range",data:=.fields #[.int lo t,.int hi u,.int 1 v] }).objs.size],_,_,H,rfl,
  I1.kept (t':=tk) fun b o e=>get?_push_of_some _ e,CO _ lo (hi - lo).toNat,?_,fun b hb=>?_,q⟩
 ·have e1:lo+((0:Nat):Int) * 1=lo:=by simp
  have e2:(((hi - lo).toNat:Nat):Int) - ((0:Nat):Int)=Builtin.Range.rangeSize lo hi 1:=by rw [rangeSize_one]; split <;> omega
  show IsRangeIter _ _ (lo+((0:Nat):Int) * 1) ((((hi - lo).toNat:Nat):Int) - ((0:Nat):Int)) 1
  rw [e1,e2]
  exact get?_push_size _ rfl
 ·have e:b=(s.heap.push { cls:=.type "range",data:=.fields #[.int lo t,.int hi u,.int 1 v] }).objs.size:=by simpa using hb
  subst e
  exact I1.fpOk (le_refl _) (I1.hok.fresh (le_refl _))
def UU (ta:TA):TI:=fun σ H R=>ta σ H fun vs H1=>∃ j:Int,vs=[.int j]/\-(2 ^ 62)<=j/\j < 2 ^ 62/\R (JQ 0 j.toNat) H1
def UT (ta:TA):TI:=fun σ H R=>ta σ H fun vs H1=>∃ i j:Int,vs=[.int i,.int j]/\(-(2 ^ 62)<=i/\i < 2 ^ 62/\-(2 ^ 62)<=j/\j < 2 ^ 62)/\R (JQ i (j - i).toNat) H1
theorem kI {a:Expr}{ta:TA}{p pos:Pos} (hg:Gl X "range") (hm:X.mg "range"=none) (ha:PA X [a] ta) (hs:starEach [a] X.env=[(false,eval a X.env)]:=by rfl):PI X tg (.Call (.Name "range" p) [a] [] pos) (UU ta):=by
 intro pins s σ H R I h
 refine Call_ (lF I hg hm boot_range (PyProof.Rows.callWith_type1 (cJ (ha pos pins s σ H _ I h) fun us s1 ⟨vs,H1,I1,r1,q1⟩=>?_) hs rfl))
 obtain ⟨j,e,q1,q2,q⟩:=q1
 subst e
 cases r1 with
|cons r rr =>
  cases rr
  obtain ⟨t,rfl⟩:=r
  exact call_range_1 (AK I1 (by omega) (by omega) q1 q2 (by simpa using q))
theorem qH {a b:Expr}{ta:TA}{p pos:Pos} (hg:Gl X "range") (hm:X.mg "range"=none) (ha:PA X [a,b] ta) (hs:starEach [a,b] X.env=[(false,eval a X.env),(false,eval b X.env)]:=by rfl) (hs2:starEach [b] X.env=[(false,eval b X.env)]:=by rfl) :
  PI X tg (.Call (.Name "range" p) [a,b] [] pos) (UT ta):=by
 intro pins s σ H R I h
 refine Call_ (lF I hg hm boot_range (PyProof.Rows.callWith_type1 (cJ (ha pos pins s σ H _ I h) fun us s1 ⟨vs,H1,I1,r1,q1⟩=>?_) (by rw [hs,hs2]) (by rw [hs2]; rfl)))
 obtain ⟨i,j,e,⟨q1,q2,q3,q4⟩,q⟩:=q1
 subst e
 cases r1 with
|cons r rr =>
  cases rr with
 |cons r' rr =>
   cases rr
   obtain ⟨t,rfl⟩:=r
   obtain ⟨t',rfl⟩:=r'
   exact call_range_2 (AK I1 q1 q2 q3 q4 q)
def Bp (wi:TI) (g:TG) (tb:TS):TS:=fun D σ H=>wi σ H fun J H1=>∃ W:Nat->Nat->St->Hp->Prop,(∃ m,W 0 m σ H1)/\∀ i m σ H,W i m σ H ->
 (J.stop i H/\D.nx σ H)∨(J.go i H/\∃ N:St->Hp->Prop,(∀ σ' H',N σ' H'->∃ m',m' < m/\W (i+1) m' σ' H')/\∀ x H',J.yld i H x H'->g x σ H' fun σ2 H2=>tb { D with nx:=N,ct:=N,bk:=D.nx } σ2 H2)
def nQ (fp:List Addr) (h:Heap):List (Addr×Obj):=fp.filterMap fun b=>(h.get? b).map fun o=>(b,o)
theorem lC {fp:List Addr}{h:Heap}{b:Addr}{o:Obj} (hb:b∈fp) (e:h.get? b=some o):(b,o)∈nQ fp h:=List.mem_filterMap.mpr ⟨b,hb,by rw [e]; rfl⟩
theorem IK {fp:List Addr}{h:Heap}{p:Addr×Obj} (hp:p∈nQ fp h):p.1∈fp/\h.get? p.1=some p.2:=by
 obtain ⟨b,hb,e⟩:=List.mem_filterMap.mp hp
 cases q:h.get? b with
|none=>rw [q] at e; cases e
|some o =>
  rw [q] at e
  have e':(b,o)=p:=Option.some.inj e
  subst e'
  exact ⟨hb,q⟩
theorem bA.pinned {pins:List (Addr×Obj)}{σ:St}{H:Hp}{s:Shared}{fp:List Addr} (I:bA X pins σ H s) (hf:∀ b∈fp,vE X pins H b) (ho:∀ b∈fp,∃ o,s.heap.get? b=some o/\∀ v,o.data≠.cell v):bA X (pins++nQ fp s.heap) σ H s:=
 I.pins_of fun p hp=>(mem_append.mp hp).elim (fun z=>I.pin p (mem_append_right _ z)) fun z=>by
  obtain ⟨hb,e⟩:=IK z
  obtain ⟨f0,f1,f2,_⟩:=hf p.1 hb
  obtain ⟨o,e',d⟩:=ho p.1 hb
  rw [e] at e'; cases e'
  exact ⟨e,f0,f1,f2,d⟩
theorem bA.unpinned {pins pl:List (Addr×Obj)}{σ:St}{H:Hp}{s:Shared} (I:bA X (pins++pl) σ H s):bA X pins σ H s:=I.pins_of fun p hp=>I.pin p (mem_append_right _ (mem_append_left _ hp))
theorem fH {iter:Expr}{body:List Stmt}{wi:TI}{g:TG}{tb:TS}{pos:Pos} (hp:PassesOwn (model X.prog X.w) X.A X.env X.xe) (hc:X.calm=true) (hi:PI X tg iter wi) (hg:PG X tg g) (hb:CH X body tb)
  (hs:∀ x,foldedSetIterable iter X.env x=pure x:=by intro _; rfl):PS X (.For tg iter body [] pos) (Bp wi g tb):=by
 intro pins s σ H D I h
 refine wpAny_For (cJ (hi pins s σ H _ I h) fun v s1 h1=>cJ h1 fun itv s2 h2=>?_) hs
 obtain ⟨it,fp,tn,J,H2,e,I2,T,st2,f2,W,⟨m0,w0⟩,turn⟩:=h2
 subst e
 -- what stays true of the iterator's objects through the loop
 have stat:∀ {H':Hp},(∀ b∈fp,H' b=none)->∀ b∈fp,vE X pins H' b:=fun hn b hb=>⟨hn b hb,(f2 b hb).2⟩
 refine codeAny_forLoop_any (fun n s'=>∃ i σ' H',bA X pins σ' H' s'/\tn i s'.heap/\(∀ b∈fp,H' b=none)/\W i n σ' H') ?_ m0 ⟨0,σ,H2,I2,st2,fun b hb=>(f2 b hb).1,w0⟩
 rintro n s3 ⟨i,σ3,H3,I3,st3,fr3,w3⟩
 rcases turn i n σ3 H3 w3 with ⟨stop,qn⟩|⟨go,N,hN,step⟩
 ·refine wpAny_passesOwn hp (cJ (T.done X rfl rfl rfl hc i pins s3 σ3 H3 X.xe I3 (stat fr3) st3 stop) fun r s4 ⟨hr,I4⟩=>?_)
  subst hr
  exact wpAny_execs_nil ⟨σ3,H3,I4,qn⟩
 ·refine wpAny_passesOwn hp (cJ (T.item X rfl rfl rfl hc i pins s3 σ3 H3 X.xe I3 (stat fr3) st3 go) fun r s4 ⟨u,hr,h4⟩=>?_)
  subst hr
  refine wpAny_passesOwn hp (cJ h4 fun _ s5 ⟨x,H5,I5,r5,y5,st5,fr5⟩=>?_)
  have I5':=I5.pinned (stat fr5) (T.obj _ _ st5)
  refine wpAny_passesOwn hp (cJ (hg _ s5 σ3 H5 x u _ I5' r5 (step x H5 y5)) fun _ s6 ⟨σ6,H6,I6,q6⟩=>?_)
  refine wpAny_passesOwn hp (cJ (hb _ s6 σ6 H6 _ I6 q6) fun f s7 q7=>?_)
  have again:∀ {σ7:St} {H7:Hp},bA X (pins++nQ fp s5.heap) σ7 H7 s7->N σ7 H7->∃ m,m < n/\∃ i σ' H',bA X pins σ' H' s7/\tn i s7.heap/\(∀ b∈fp,H' b=none)/\W i m σ' H':=fun {σ7 H7} I7 n7=>by
   obtain ⟨m',hm,w7⟩:=hN σ7 H7 n7
   refine ⟨m',hm,i+1,σ7,H7,I7.unpinned,T.keep _ _ _ st5 fun b hb o e=>(I7.pin (b,o) (mem_append_right _ (mem_append_right _ (lC hb e)))).1,fun b hb=>?_,w7⟩
   obtain ⟨o,e,d⟩:=T.obj _ _ st5 b hb
   exact (I7.pin (b,o) (mem_append_right _ (mem_append_right _ (lC hb e)))).2.1
  cases f with
 |next=>obtain ⟨σ7,H7,I7,n7⟩:=q7; exact again I7 n7
 |cont=>obtain ⟨σ7,H7,I7,n7⟩:=q7; exact again I7 n7
 |brk=>obtain ⟨σ7,H7,I7,q7⟩:=q7; exact ⟨σ7,H7,I7.unpinned,q7⟩
 |ret v=>obtain ⟨x7,σ7,H7,I7,r7,q7⟩:=q7; exact ⟨x7,σ7,H7,I7.unpinned,r7,q7⟩
end
theorem NJ {K:Frag}{a:Addr}{xs:List V}{g:TG}{tb:TS}{D:fQ}{σ:St}{H:Hp} (Pv:Nat->St->Hp->Prop) (h0:Pv 0 σ H) (hl:∀ i σ H,i<=xs.length->Pv i σ H->cN K H a xs)
  (hs:∀ i x σ H,xs[i]?=some x->Pv i σ H->g x σ H fun σ2 H2=>tb { D with nx:=Pv (i+1),ct:=Pv (i+1),bk:=D.nx } σ2 H2) (hd:∀ σ H,Pv xs.length σ H->D.nx σ H) :
  ∃ W:Nat->Nat->St->Hp->Prop,(∃ m,W 0 m σ H)/\∀ i m σ H,W i m σ H ->
   ((JX K a).stop i H/\D.nx σ H)∨((JX K a).go i H/\∃ N:St->Hp->Prop,(∀ σ' H',N σ' H'->∃ m',m' < m/\W (i+1) m' σ' H')/\∀ x H',(JX K a).yld i H x H'->g x σ H' fun σ2 H2=>tb { D with nx:=N,ct:=N,bk:=D.nx } σ2 H2):=by
 refine ⟨fun i m σ H=>m=xs.length - i/\i<=xs.length/\Pv i σ H,⟨xs.length,by simp,zero_le _,h0⟩,?_⟩
 rintro i m σ H ⟨rfl,hi,p⟩
 have q:=hl i σ H hi p
 by_cases hlt:i < xs.length
 ·refine .inr ⟨⟨xs,xs[i],q,by simp [hlt]⟩,Pv (i+1),fun σ' H' p'=>⟨xs.length - (i+1),by omega,rfl,hlt,p'⟩,fun x H' y=>?_⟩
  obtain ⟨e,y⟩:=y
  subst e
  exact hs i x σ _ (y xs q) p
 ·have e:i=xs.length:=by omega
  subst e
  exact .inl ⟨⟨xs,q,le_refl _⟩,hd σ H p⟩
theorem RT {K:Frag}{a:Addr}{xs:List V}{g:TG}{tb:TS}{D:fQ}{σ:St}{H:Hp} (Pv:Nat->St->Hp->Prop) (h0:Pv 0 σ H) (hl:∀ i σ H,i<=xs.length->Pv i σ H->fV K H a xs)
  (hs:∀ i x σ H,xs[i]?=some x->Pv i σ H->g x σ H fun σ2 H2=>tb { D with nx:=Pv (i+1),ct:=Pv (i+1),bk:=D.nx } σ2 H2) (hd:∀ σ H,Pv xs.length σ H->D.nx σ H) :
  ∃ W:Nat->Nat->St->Hp->Prop,(∃ m,W 0 m σ H)/\∀ i m σ H,W i m σ H ->
   ((SR K a).stop i H/\D.nx σ H)∨((SR K a).go i H/\∃ N:St->Hp->Prop,(∀ σ' H',N σ' H'->∃ m',m' < m/\W (i+1) m' σ' H')/\∀ x H',(SR K a).yld i H x H'->g x σ H' fun σ2 H2=>tb { D with nx:=N,ct:=N,bk:=D.nx } σ2 H2):=by
 refine ⟨fun i m σ H=>m=xs.length - i/\i<=xs.length/\Pv i σ H,⟨xs.length,by simp,zero_le _,h0⟩,?_⟩
 rintro i m σ H ⟨rfl,hi,p⟩
 have q:=hl i σ H hi p
 by_cases hlt:i < xs.length
 ·refine .inr ⟨⟨xs,xs[i],q,by simp [hlt]⟩,Pv (i+1),fun σ' H' p'=>⟨xs.length - (i+1),by omega,rfl,hlt,p'⟩,fun x H' y=>?_⟩
  obtain ⟨e,y⟩:=y
  subst e
  exact hs i x σ _ (y xs q) p
 ·have e:i=xs.length:=by omega
  subst e
  exact .inl ⟨⟨xs,q,le_refl _⟩,hd σ H p⟩
theorem IY {lo:Int}{n:Nat}{g:TG}{tb:TS}{D:fQ}{σ:St}{H:Hp} (Pv:Nat->St->Hp->Prop) (h0:Pv 0 σ H)
  (hs:∀ i σ H,i < n->Pv i σ H->g (.int (lo+i)) σ H fun σ2 H2=>tb { D with nx:=Pv (i+1),ct:=Pv (i+1),bk:=D.nx } σ2 H2) (hd:∀ σ H,Pv n σ H->D.nx σ H) :
  ∃ W:Nat->Nat->St->Hp->Prop,(∃ m,W 0 m σ H)/\∀ i m σ H,W i m σ H ->
   ((JQ lo n).stop i H/\D.nx σ H)∨((JQ lo n).go i H/\∃ N:St->Hp->Prop,(∀ σ' H',N σ' H'->∃ m',m' < m/\W (i+1) m' σ' H')/\∀ x H',(JQ lo n).yld i H x H'->g x σ H' fun σ2 H2=>tb { D with nx:=N,ct:=N,bk:=D.nx } σ2 H2):=by
 refine ⟨fun i m σ H=>m=n - i/\i<=n/\Pv i σ H,⟨n,by simp,zero_le _,h0⟩,?_⟩
 rintro i m σ H ⟨rfl,hi,p⟩
 by_cases hlt:i < n
 ·refine .inr ⟨hlt,Pv (i+1),fun σ' H' p'=>⟨n - (i+1),by omega,rfl,hlt,p'⟩,fun x H' y=>?_⟩
  obtain ⟨e,y⟩:=y
  subst e y
  exact hs i σ _ hlt p
 ·have e:i=n:=by omega
  subst e
  exact .inl ⟨le_refl _,hd σ H p⟩
theorem zH {c:TT}{tb:TS}{D:fQ}{σ:St}{H:Hp} (Pv:St->Hp->Prop) (μ:St->Hp->Nat) (h0:Pv σ H)
  (hs:∀ σ H,Pv σ H->c σ H fun b H1=>if b=true then tb { D with nx:=fun σ' H'=>Pv σ' H'/\μ σ' H' < μ σ H,ct:=fun σ' H'=>Pv σ' H'/\μ σ' H' < μ σ H,bk:=D.nx } σ H1 else D.nx σ H1)
  (mono:∀ σ H Q Q',(∀ b H1,Q b H1->Q' b H1)->c σ H Q->c σ H Q'):CQ c tb D σ H:=by
 refine ⟨fun m σ H=>m=μ σ H/\Pv σ H,⟨_,rfl,h0⟩,?_⟩
 rintro m σ H ⟨rfl,p⟩
 refine mono σ H _ _ (fun b H1 q=>?_) (hs σ H p)
 cases b with
|true=>exact ⟨_,fun σ' H' ⟨p',l⟩=>⟨_,l,rfl,p'⟩,q⟩
|false=>exact q
end
section
abbrev R2:=V->V->Hp->VK->Prop
def jJ (X:Cx) (f:Value->Value->Sem Value) (r:R2):Prop:=
 ∀ (pins:List (Addr×Obj)) (s:Shared) (σ:St) (H:Hp) (x y:V) (v u:Value) (Q:VK),bA X pins σ H s->bL x v->bL y u->r x y H Q ->
  wpAny (model X.prog X.w) X.A (f v u) (EP X pins σ Q) X.xe s
def Ic (X:Cx) (f:Value->Sem Value) (r:V->Hp->VK->Prop):Prop:=
 ∀ (pins:List (Addr×Obj)) (s:Shared) (σ:St) (H:Hp) (x:V) (v:Value) (Q:VK),bA X pins σ H s->bL x v->r x H Q ->
  wpAny (model X.prog X.w) X.A (f v) (EP X pins σ Q) X.xe s
def fD (X:Cx) (f:Value) (r:List V->Hp->VK->Prop):Prop:=
 ∀ (pins:List (Addr×Obj)) (s:Shared) (σ:St) (H:Hp) (xs:List V) (us:List Value) (Q:VK),bA X pins σ H s->bN xs us->r xs H Q ->
  wpAny (model X.prog X.w) X.A (call f us) (EP X pins σ Q) X.xe s
def As (r:R2) (ta tb:TE):TE:=fun σ H Q=>ta σ H fun x H1=>tb σ H1 fun y H2=>r x y H2 Q
def Ip (r:V->Hp->VK->Prop) (ta:TE):TE:=fun σ H Q=>ta σ H fun x H1=>r x H1 Q
def rI (C:Int->Int->Prop) (g:Int->Int->V):R2:=fun x y H Q=>∃ i j,x=.int i/\y=.int j/\C i j/\Q (g i j) H
def OV (g:Int->Int->V):R2:=fun x y H Q=>∃ i j,x=.int i/\y=.int j/\Q (g i j) H
def rU (g:Int->V):V->Hp->VK->Prop:=fun x H Q=>∃ i,x=.int i/\Q (g i) H
section
variable {X:Cx} {a b c:Expr} {ta tb tc:TE} {pos:Pos}
theorem Ag (ha:PE X a ta) (hb:PE X b tb) {pins:List (Addr×Obj)}{s:Shared}{σ:St}{H:Hp}{R:V->V->Hp->Prop} (I:bA X pins σ H s)
  (h:ta σ H fun x H1=>tb σ H1 fun y H2=>R x y H2) {Q:Value->Shared->Prop} {f:Value->Value->Sem Value}
  (hf:∀ v u s2 x y H2,bA X pins σ H2 s2->bL x v->bL y u->R x y H2->wpAny (model X.prog X.w) X.A (f v u) Q X.xe s2) :
  wpAny (model X.prog X.w) X.A (eval a X.env) (fun v s₁=>wpAny (model X.prog X.w) X.A (eval b X.env) (fun u s₂=>wpAny (model X.prog X.w) X.A (f v u) Q X.xe s₂) X.xe s₁) X.xe s:=by
 refine cJ (ha pins s σ H _ I h) fun v s1 ⟨x,H1,I1,r1,q1⟩=>?_
 refine cJ (hb pins s1 σ H1 _ I1 q1) fun u s2 ⟨y,H2,I2,r2,q2⟩=>?_
 exact hf v u s2 x y H2 I2 r1 r2 q2
theorem aJ {op:Operator}{r:R2} (ho:jJ X (binaryOp op) r) (ha:PE X a ta) (hb:PE X b tb):PE X (.BinOp a op b pos) (As r ta tb):=by
 intro pins s σ H Q I h
 exact wpAny_BinOp (Ag ha hb I h fun v u s2 x y H2 I2 rx ry q=>ho pins s2 σ H2 x y v u Q I2 rx ry q)
theorem UN {op:UnaryOp}{r:V->Hp->VK->Prop} (ho:Ic X (unaryOp op) r) (ha:PE X a ta):PE X (.UnaryOp op a pos) (Ip r ta):=by
 intro pins s σ H Q I h
 exact UnaryOp_ (cJ (ha pins s σ H _ I h) fun v s1 ⟨x,H1,I1,r1,q1⟩=>ho pins s1 σ H1 x v Q I1 r1 q1)
theorem Ej {f:Value->Value->Sem Value}{C:Int->Int->Prop}{g:Int->Int->Int}
  (rule:∀ (i j:Int) (t u:Tok) (s:Shared) (Q:Value->Shared->Prop) (E:Value->Shared->Prop),C i j->Q (.int (g i j) s.toks) { s with toks:=s.toks+1 }->wpAny (model X.prog X.w) X.A (f (.int i t) (.int j u)) Q E s) :
  jJ X f (rI C fun i j=>.int (g i j)):=by
 intro pins s σ H x y v u Q I rx ry h
 obtain ⟨i,j,rfl,rfl,hc,q⟩:=h
 obtain ⟨t,rfl⟩:=rx
 obtain ⟨t',rfl⟩:=ry
 exact rule i j t t' s _ _ hc ⟨.int (g i j),H,I.tok _,⟨_,rfl⟩,q⟩
theorem Ei {f:Value->Value->Sem Value}{g:Int->Int->Int}
  (rule:∀ (i j:Int) (t u:Tok) (s:Shared) (Q:Value->Shared->Prop) (E:Value->Shared->Prop),Q (.int (g i j) s.toks) { s with toks:=s.toks+1 }->wpAny (model X.prog X.w) X.A (f (.int i t) (.int j u)) Q E s) :
  jJ X f (OV fun i j=>.int (g i j)):=by
 intro pins s σ H x y v u Q I rx ry h
 obtain ⟨i,j,rfl,rfl,q⟩:=h
 obtain ⟨t,rfl⟩:=rx
 obtain ⟨t',rfl⟩:=ry
 exact rule i j t t' s _ _ ⟨.int (g i j),H,I.tok _,⟨_,rfl⟩,q⟩
theorem QZ {f:Value->Value->Sem Value}{g:Int->Int->Bool}
  (rule:∀ (i j:Int) (t u:Tok) (s:Shared) (Q:Value->Shared->Prop) (E:Value->Shared->Prop),Q (.bool (g i j)) s->wpAny (model X.prog X.w) X.A (f (.int i t) (.int j u)) Q E s) :
  jJ X f (OV fun i j=>.bl (g i j)):=by
 intro pins s σ H x y v u Q I rx ry h
 obtain ⟨i,j,rfl,rfl,q⟩:=h
 obtain ⟨t,rfl⟩:=rx
 obtain ⟨t',rfl⟩:=ry
 exact rule i j t t' s _ _ ⟨.bl (g i j),H,I,rfl,q⟩
def Aq (i j:Int):Prop:=0<=j/\j<=1000000/\i.natAbs < 2 ^ 64
def Ar (i j:Int):Prop:=(-(2 ^ 64) < i/\i < 2 ^ 64)∨(-(2 ^ 64) < j/\j < 2 ^ 64)
theorem Ar.ok {i j:Int} (h:Ar i j):IntMulOk i j:=by
 rcases h with ⟨h1,h2⟩|⟨h1,h2⟩
 ·exact .of_left (intBits_le_64 h1 h2)
 ·exact .of_right (intBits_le_64 h1 h2)
theorem YQ:jJ X (binaryOp .Add) (OV fun i j=>.int (i+j)):=Ei fun _ _ _ _ _ _ _ q=>add_int q
theorem xV:jJ X (binaryOp .Sub) (OV fun i j=>.int (i - j)):=Ei fun _ _ _ _ _ _ _ q=>sub_int q
theorem bR:jJ X (binaryOp .Mod) (rI (fun _ j=>0 < j) fun i j=>.int (i % j)):=Ej fun i j _ _ _ _ _ hc q=>by
 have h1:(0:Int) < j:=hc
 exact mod_int' (by omega) (by rw [Int.fmod_eq_emod_of_nonneg i (by omega)]; exact q)
theorem QV:jJ X (binaryOp .Mod) (rI (fun _ j=>j≠0) fun i j=>.int (i.fmod j)):=Ej fun _ _ _ _ _ _ _ hc q=>mod_int' hc q
theorem xW:jJ X (binaryOp .Pow) (rI Aq fun i j=>.int (i ^ j.toNat)):=Ej fun _ _ _ _ _ _ _ hc q=>pow_int_small hc.1 hc.2.1 hc.2.2 q
theorem unI {f:Value->Sem Value}{g:Int->Int}
  (rule:∀ (i:Int) (t:Tok) (s:Shared) (Q:Value->Shared->Prop) (E:Value->Shared->Prop),Q (.int (g i) s.toks) { s with toks:=s.toks+1 }->wpAny (model X.prog X.w) X.A (f (.int i t)) Q E s) :
  Ic X f (rU fun i=>.int (g i)):=by
 intro pins s σ H x v Q I rx h
 obtain ⟨i,rfl,q⟩:=h
 obtain ⟨t,rfl⟩:=rx
 exact rule i t s _ _ ⟨.int (g i),H,I.tok _,⟨_,rfl⟩,q⟩
theorem KC:Ic X (unaryOp .USub) (rU fun i=>.int (-i)):=unI fun _ _ _ _ _ q=>neg_int q
end
def Bu:V->V->Bool
|.non,.non=>true|.non,.int _=>true|.int _,.non=>true|.non,.bl _=>true|.bl _,.non=>true|.non,.str _=>true|.str _,.non=>true
|.int _,.int _=>true|.bl _,.bl _=>true|.str _,.str _=>true|.byt _,.byt _=>true
|.int _,.str _=>true|.str _,.int _=>true|.bl _,.str _=>true|.str _,.bl _=>true
|_,_=>false
def Gm:R2:=fun x y H Q=>Bu x y=true/\Q (.bl (decide (x=y))) H
def Hl:R2:=fun x y H Q=>Bu x y=true/\Q (.bl (!decide (x=y))) H
theorem sM {i j:Int}:decide (V.int i=V.int j)=(i==j):=by
 rw [Bool.eq_iff_iff]
 simp
theorem EI {i j:Bool}:decide (V.bl i=V.bl j)=(i==j):=by
 rw [Bool.eq_iff_iff]
 simp
theorem sL {i j:Str}:decide (V.str i=V.str j)=(i==j):=by
 rw [Bool.eq_iff_iff]
 simp
theorem GT {i j:Array UInt8}:decide (V.byt i=V.byt j)=(i.toList==j.toList):=by
 rw [Bool.eq_iff_iff]
 cases i
 cases j
 simp
section
variable {X:Cx} {a b c:Expr} {ta tb tc:TE} {pos:Pos}
theorem bZ {pins:List (Addr×Obj)}{σ:St}{H:Hp}{s:Shared}{Q:VK}{k k':Bool} (I:bA X pins σ H s) (q:Q (.bl k) H) (e:k=k'):EP X pins σ Q (.bool k') s:=by
 subst e
 exact ⟨.bl k,H,I,rfl,q⟩
theorem Eh:jJ X (compareOp .Eq) Gm:=by
 intro pins s σ H x y v u Q I rx ry h
 obtain ⟨hs,q⟩:=h
 cases x with
|non =>
  cases rx
  cases y with
 |non=>cases ry; exact PySem.EqNone.eq_none_none (bZ I q (by simp))
 |bl j=>cases ry; exact PySem.EqNone.eq_none_bool (bZ I q (by simp))
 |int j=>obtain ⟨t',rfl⟩:=ry; exact PySem.EqNone.eq_none_int (bZ I q (by simp))
 |str j=>obtain ⟨t',rfl⟩:=ry; exact PySem.EqNone.eq_none_str (bZ I q (by simp))
 |_=>exact absurd (show false=true from hs) Bool.false_ne_true
|bl i =>
  cases rx
  cases y with
 |non=>cases ry; exact PySem.EqNone.eq_bool_none (bZ I q (by simp))
 |bl j=>cases ry; exact eq_bool (bZ I q EI)
 |str j=>obtain ⟨t',rfl⟩:=ry; exact PySem.EqMixed.eq_bool_str (bZ I q (by simp))
 |_=>exact absurd (show false=true from hs) Bool.false_ne_true
|int i =>
  obtain ⟨t,rfl⟩:=rx
  cases y with
 |non=>cases ry; exact PySem.EqNone.eq_int_none (bZ I q (by simp))
 |int j=>obtain ⟨t',rfl⟩:=ry; exact eq_int (bZ I q sM)
 |str j=>obtain ⟨t',rfl⟩:=ry; exact PySem.EqMixed.eq_int_str (bZ I q (by simp))
 |_=>exact absurd (show false=true from hs) Bool.false_ne_true
|str i =>
  obtain ⟨t,rfl⟩:=rx
  cases y with
 |non=>cases ry; exact PySem.EqNone.eq_str_none (bZ I q (by simp))
 |bl j=>cases ry; exact PySem.EqMixed.eq_str_bool (bZ I q (by simp))
 |int j=>obtain ⟨t',rfl⟩:=ry; exact PySem.EqMixed.eq_str_int (bZ I q (by simp))
 |str j=>obtain ⟨t',rfl⟩:=ry; exact eq_str (bZ I q sL)
 |_=>exact absurd (show false=true from hs) Bool.false_ne_true
|byt i =>
  obtain ⟨t,rfl⟩:=rx
  cases y with
 |byt j=>obtain ⟨t',rfl⟩:=ry; exact PySem.W.eq_bytes (bZ I q GT)
 |_=>exact absurd (show false=true from hs) Bool.false_ne_true
|_=>cases y <;> exact absurd (show false=true from hs) Bool.false_ne_true
theorem Eg:jJ X (compareOp .NotEq) Hl:=by
 intro pins s σ H x y v u Q I rx ry h
 obtain ⟨hs,q⟩:=h
 cases x with
|non =>
  cases rx
  cases y with
 |non=>cases ry; exact PySem.EqNone.ne_none_none (bZ I q (by simp))
 |bl j=>cases ry; exact PySem.EqNone.ne_none_bool (bZ I q (by simp))
 |int j=>obtain ⟨t',rfl⟩:=ry; exact PySem.EqNone.ne_none_int (bZ I q (by simp))
 |str j=>obtain ⟨t',rfl⟩:=ry; exact PySem.EqNone.ne_none_str (bZ I q (by simp))
 |_=>exact absurd (show false=true from hs) Bool.false_ne_true
|bl i =>
  cases rx
  cases y with
 |non=>cases ry; exact PySem.EqNone.ne_bool_none (bZ I q (by simp))
 |bl j=>cases ry; exact ne_bool (bZ I q (congrArg not EI))
 |str j=>obtain ⟨t',rfl⟩:=ry; exact PySem.EqMixed.ne_bool_str (bZ I q (by simp))
 |_=>exact absurd (show false=true from hs) Bool.false_ne_true
|int i =>
  obtain ⟨t,rfl⟩:=rx
  cases y with
 |non=>cases ry; exact PySem.EqNone.ne_int_none (bZ I q (by simp))
 |int j=>obtain ⟨t',rfl⟩:=ry; exact ne_int (bZ I q (congrArg not sM))
 |str j=>obtain ⟨t',rfl⟩:=ry; exact PySem.EqMixed.ne_int_str (bZ I q (by simp))
 |_=>exact absurd (show false=true from hs) Bool.false_ne_true
|str i =>
  obtain ⟨t,rfl⟩:=rx
  cases y with
 |non=>cases ry; exact PySem.EqNone.ne_str_none (bZ I q (by simp))
 |bl j=>cases ry; exact PySem.EqMixed.ne_str_bool (bZ I q (by simp))
 |int j=>obtain ⟨t',rfl⟩:=ry; exact PySem.EqMixed.ne_str_int (bZ I q (by simp))
 |str j=>obtain ⟨t',rfl⟩:=ry; exact ne_str (bZ I q (congrArg not sL))
 |_=>exact absurd (show false=true from hs) Bool.false_ne_true
|byt i =>
  obtain ⟨t,rfl⟩:=rx
  cases y with
 |byt j=>obtain ⟨t',rfl⟩:=ry; exact PySem.W.ne_bytes (bZ I q (congrArg not GT))
 |_=>exact absurd (show false=true from hs) Bool.false_ne_true
|_=>cases y <;> exact absurd (show false=true from hs) Bool.false_ne_true
theorem wL:jJ X (compareOp .Lt) (OV fun i j=>.bl (decide (i < j))):=QZ fun _ _ _ _ _ _ _ q=>lt_int q
theorem oR:jJ X (compareOp .LtE) (OV fun i j=>.bl (decide (i<=j))):=QZ fun _ _ _ _ _ _ _ q=>le_int q
theorem oS:jJ X (compareOp .Gt) (OV fun i j=>.bl (decide (j < i))):=QZ fun _ _ _ _ _ _ _ q=>gt_int q
theorem wM:jJ X (compareOp .GtE) (OV fun i j=>.bl (decide (j<=i))):=QZ fun _ _ _ _ _ _ _ q=>ge_int q
theorem YL:jJ X (compareOp .Is) (fun x y H Q=>y=.non/\Q (.bl (decide (x=.non))) H):=by
 intro pins s σ H x y v u Q I rx ry h
 obtain ⟨rfl,q⟩:=h
 cases ry
 refine is_none_gen (bZ I q ?_)
 cases x <;> first
 |(cases rx; rfl)
 |(obtain ⟨t,rfl⟩:=rx; rfl)
theorem QT:jJ X (compareOp .IsNot) (fun x y H Q=>y=.non/\Q (.bl (!decide (x=.non))) H):=by
 intro pins s σ H x y v u Q I rx ry h
 obtain ⟨rfl,q⟩:=h
 cases ry
 refine isnot_none_gen (bZ I q ?_)
 cases x <;> first
 |(cases rx; rfl)
 |(obtain ⟨t,rfl⟩:=rx; rfl)
theorem jJ.or {f:Value->Value->Sem Value}{r r':R2} (h:jJ X f r) (h':jJ X f r'):jJ X f (fun x y H Q=>r x y H Q∨r' x y H Q):=by
 intro pins s σ H x y v u Q I rx ry q
 rcases q with q|q
 ·exact h pins s σ H x y v u Q I rx ry q
 ·exact h' pins s σ H x y v u Q I rx ry q
theorem aL (b:Expr) {op:CmpOp} (h:op≠.In:=by decide) (h2:op≠.NotIn:=by decide):behindInMarks op b=false:=by
 have e1:(op==CmpOp.In)=false:=by cases op <;> first|rfl|exact absurd rfl h
 have e2:(op==CmpOp.NotIn)=false:=by cases op <;> first|rfl|exact absurd rfl h2
 cases b <;> simp [behindInMarks,e1,e2]
theorem cO {op:CmpOp}{r:R2} (ho:jJ X (compareOp op) r) (ha:PE X a ta) (hb:PE X b tb) (hm:behindInMarks op b=false):PE X (.Compare a [op] [b] pos) (As r ta tb):=by
 intro pins s σ H Q I h
 exact wpAny_Compare1 (Ag ha hb I h fun v u s2 x y H2 I2 rx ry q=>ho pins s2 σ H2 x y v u Q I2 rx ry q) hm
def KI (t:TE):TT:=fun σ H Q=>t σ H fun x H'=>∃ k,x=.bl k/\Q k H'
theorem aK {op:CmpOp}{r:R2} (ho:jJ X (compareOp op) r) (ha:PE X a ta) (hb:PE X b tb) (hm:behindInMarks op b=false):PT X (.Compare a [op] [b] pos) (KI (As r ta tb)):=by
 intro pins s σ H Q I h
 refine wpAny_isTrue_Compare1 (cJ (ha pins s σ H _ I h) fun v s1 ⟨x,H1,I1,r1,q1⟩=>cJ (hb pins s1 σ H1 _ I1 q1) fun u s2 ⟨y,H2,I2,r2,q2⟩ =>
  cJ (ho pins s2 σ H2 x y v u _ I2 r1 r2 q2) fun c s3 ⟨z,H3,I3,r3,k,e,q3⟩=>?_) hm
 subst e
 cases r3
 exact wpAny_truthy_bool ⟨H3,I3,q3⟩
def CV (r r':R2) (ta tb tc:TE):TE:=fun σ H Q=>ta σ H fun x H1=>tb σ H1 fun y H2=>r x y H2 fun z H3=>∃ k,z=.bl k /\
 (if k=true then tc σ H3 fun w' H4=>r' y w' H4 Q else Q (.bl false) H3)
theorem uB {op op':CmpOp}{r r':R2} (ho:jJ X (compareOp op) r) (ho':jJ X (compareOp op') r') (ha:PE X a ta) (hb:PE X b tb) (hc:PE X c tc)
  (hm:lastMarks [op,op'] [b,c]=false:=by with_unfolding_all rfl):PE X (.Compare a [op,op'] [b,c] pos) (CV r r' ta tb tc):=by
 intro pins s σ H Q I h
 refine Compare_chain (cJ (ha pins s σ H _ I h) fun v s1 ⟨x,H1,I1,r1,q1⟩=>chain_link (cJ (hb pins s1 σ H1 _ I1 q1) fun u s2 ⟨y,H2,I2,r2,q2⟩ =>
  cJ (ho pins s2 σ H2 x y v u _ I2 r1 r2 q2) fun d s3 ⟨z,H3,I3,r3,k,e,q3⟩=>?_)) hm
 subst e
 cases r3
 refine wpAny_truthy_bool ?_
 cases k with
|false=>exact ite_ff ⟨.bl false,H3,I3,rfl,q3⟩
|true=>exact ite_tt (chain_last (cJ (hc pins s3 σ H3 _ I3 q3) fun w' s4 ⟨z',H4,I4,r4,q4⟩=>ho' pins s4 σ H4 y z' u w' Q I4 r2 r4 q4))
theorem MD {op op':CmpOp}{r r':R2} (ho:jJ X (compareOp op) r) (ho':jJ X (compareOp op') r') (ha:PE X a ta) (hb:PE X b tb) (hc:PE X c tc)
  (hm:lastMarks [op,op'] [b,c]=false:=by with_unfolding_all rfl):PT X (.Compare a [op,op'] [b,c] pos) (KI (CV r r' ta tb tc)):=by
 intro pins s σ H Q I h
 refine isTrue_chain (cJ (ha pins s σ H _ I h) fun v s1 ⟨x,H1,I1,r1,q1⟩=>test_link (cJ (hb pins s1 σ H1 _ I1 q1) fun u s2 ⟨y,H2,I2,r2,q2⟩ =>
  cJ (ho pins s2 σ H2 x y v u _ I2 r1 r2 q2) fun d s3 ⟨z,H3,I3,r3,k,e,q3⟩=>?_)) hm
 subst e
 cases r3
 refine wpAny_truthy_bool ?_
 cases k with
|false =>
  obtain ⟨k',e',q'⟩:=q3
  cases e'
  exact ite_ff ⟨H3,I3,q'⟩
|true =>
  refine ite_tt (test_last (cJ (hc pins s3 σ H3 _ I3 q3) fun w' s4 ⟨z',H4,I4,r4,q4⟩=>cJ (ho' pins s4 σ H4 y z' u w' _ I4 r2 r4 q4) fun d' s5 ⟨z2,H5,I5,r5,k2,e2,q5⟩=>?_))
  subst e2
  cases r5
  exact wpAny_truthy_bool ⟨H5,I5,q5⟩
theorem uK:(sizeLine:Nat) < 2 ^ 63:=by rw [sizeLine_eq]; decide
theorem DQ:jJ X (binaryOp .Add) (fun x y H Q=>∃ i j,x=.str i/\y=.str j/\i.length+j.length<=sizeLine/\Q (.str (i++j)) H):=by
 intro pins s σ H x y v u Q I rx ry h
 obtain ⟨i,j,rfl,rfl,hz,q⟩:=h
 obtain ⟨t,rfl⟩:=rx
 obtain ⟨t',rfl⟩:=ry
 exact add_str (fun t' tk=>⟨.str (i++j),H,I.tok _,⟨_,rfl⟩,q⟩) hz
theorem vV {x:V}{us:List Value} (r:bN [x] us):∃ u,us=[u]/\bL x u:=by
 cases r with
|cons r1 r2=>cases r2; exact ⟨_,rfl,r1⟩
theorem SW {x y:V}{us:List Value} (r:bN [x,y] us):∃ u w',us=[u,w']/\bL x u/\bL y w':=by
 cases r with
|cons r1 r2 =>
  cases r2 with
 |cons r3 r4=>cases r4; exact ⟨_,_,rfl,r1,r3⟩
theorem OI:fD X (.builtin "abs") (fun xs H Q=>∃ i,xs=[.int i]/\Q (.int (if i < 0 then -i else i)) H):=by
 intro pins s σ H xs us Q I r h
 obtain ⟨i,rfl,q⟩:=h
 obtain ⟨u,rfl,t,rfl⟩:=vV r
 exact call_abs_int fun u tk=>⟨.int (if i < 0 then -i else i),H,I.tok _,⟨_,rfl⟩,q⟩
theorem JM (hc:X.calm=true):fD X (.builtin "max") (fun xs H Q=>∃ i j,xs=[.int i,.int j]/\Q (.int (if j > i then j else i)) H):=by
 intro pins s σ H xs us Q I r h
 obtain ⟨i,j,rfl,q⟩:=h
 obtain ⟨u,w',rfl,⟨t,rfl⟩,⟨t',rfl⟩⟩:=SW r
 refine max_two_ints (I.ok.hd hc) fun h' tk k=>⟨_,H,I.kept k,?_,q⟩
 by_cases hj:j > i
 ·rw [if_pos hj,if_pos hj]; exact ⟨_,rfl⟩
 ·rw [if_neg hj,if_neg hj]; exact ⟨_,rfl⟩
theorem JL (hc:X.calm=true):fD X (.builtin "min") (fun xs H Q=>∃ i j,xs=[.int i,.int j]/\Q (.int (if j < i then j else i)) H):=by
 intro pins s σ H xs us Q I r h
 obtain ⟨i,j,rfl,q⟩:=h
 obtain ⟨u,w',rfl,⟨t,rfl⟩,⟨t',rfl⟩⟩:=SW r
 refine min_two_ints (I.ok.hd hc) fun h' tk k=>⟨_,H,I.kept k,?_,q⟩
 by_cases hj:j < i
 ·rw [if_pos hj,if_pos hj]; exact ⟨_,rfl⟩
 ·rw [if_neg hj,if_neg hj]; exact ⟨_,rfl⟩
theorem JN:fD X (.type "int") (fun xs H Q=>(∃ i,xs=[.int i]/\Q (.int i) H)∨∃ k,xs=[.bl k]/\Q (.int (if k then 1 else 0)) H):=by
 intro pins s σ H xs us Q I r h
 rcases h with ⟨i,rfl,q⟩|⟨k,rfl,q⟩
 ·obtain ⟨u,rfl,t,rfl⟩:=vV r
  exact call_int_int ⟨.int i,H,I,⟨_,rfl⟩,q⟩
 ·obtain ⟨u,rfl,r1⟩:=vV r
  cases r1
  exact call_int_bool ⟨.int (if k then 1 else 0),H,I.tok _,⟨_,rfl⟩,q⟩
def Fy (K:Frag) (x:V) (H:Hp) (n:Nat):Prop:=
 match x with
|.str y=>y.length<=sizeLine/\n=y.length
|.byt y=>y.size<=sizeLine/\n=y.size
|.ref p=>(∃ xs,cN K H p xs/\n=xs.length)∨∃ xs,fV K H p xs/\n=xs.length
|_=>False
theorem OH:fD X (.builtin "len") (fun xs H Q=>∃ x n,xs=[x]/\Fy X.K x H n/\Q (.int n) H):=by
 intro pins s σ H xs us Q I r h
 obtain ⟨x,n,rfl,e,q⟩:=h
 obtain ⟨u,rfl,rx⟩:=vV r
 have hl:=uK
 have hs:sizeLine=16777216:=sizeLine_eq
 cases x with
|str y =>
  obtain ⟨t,rfl⟩:=rx
  obtain ⟨hy,e'⟩:y.length<=sizeLine/\n=y.length:=e
  subst e'
  exact len_str (by omega) ⟨.int _,H,I.tok _,⟨_,rfl⟩,q⟩
|byt y =>
  obtain ⟨t,rfl⟩:=rx
  obtain ⟨hy,e'⟩:y.size<=sizeLine/\n=y.size:=e
  subst e'
  exact PySem.W.len_bytes (by omega) ⟨.int _,H,I.tok _,⟨_,rfl⟩,q⟩
|ref p =>
  cases rx
  have e':(∃ xs,cN X.K H p xs/\n=xs.length)∨∃ xs,fV X.K H p xs/\n=xs.length:=e
  rcases e' with ⟨xs,hx,e'⟩|⟨xs,hx,e'⟩
  ·subst e'
   obtain ⟨its,r',pl,hz⟩:=I.list hx
   have hlen:=r'.length
   exact Calls.call_len_list pl.isList (by simp only [size_toArray]; omega) ⟨.int xs.length,H,I.tok _,⟨_,by simp only [size_toArray]; rw [hlen]⟩,q⟩
  ·subst e'
   obtain ⟨its,r',pl,hz⟩:=I.tuple hx
   have hlen:=r'.length
   exact len_tuple pl (by simp only [size_toArray]; omega) ⟨.int xs.length,H,I.tok _,⟨_,by simp only [size_toArray]; rw [hlen]⟩,q⟩
|_=>exact (show False from e).elim
end
end
section
structure Ak (h:Heap) (x dx C:Addr) (mA:Str->Option Value):Prop where
 obj:h.get? x=some (instObj C dx)
 ns:h.Ns1 dx mA
 ne:dx≠x
theorem IP {h:Heap}{dx:Addr}{mA:Str->Option Value} (n:h.Ns1 dx mA):∃ od,h.get? dx=some od/\∀ name,lookIn name od=some (mA name):=by
 obtain ⟨o,es,ep,ho,hd,hk,_,hm⟩:=n
 refine ⟨o,ho,fun name=>?_⟩
 have e:=hm name
 unfold nsFind findBy at e
 rw [← Array.find?_toList] at e
 unfold lookIn
 rw [hd]
 dsimp only
 split
 ·rename_i y q
  rw [q] at e
  exact congrArg some e
 ·rename_i q
  rw [q] at e
  have a:es.toList.any (·.refKey)=false:=by
   rw [List.any_eq_false]
   intro y hy
   obtain ⟨z,t,hkey⟩:=hk y (Array.mem_toList_iff.mp hy)
   simp [DictEntry.refKey,hkey]
  have a':¬ es.toList.any (·.refKey)=true:=by rw [a]; exact Bool.false_ne_true
  rw [if_neg a']
  exact congrArg some e
theorem Ak.look {h:Heap}{x dx C:Addr}{mA:Str->Option Value} (I:Ak h x dx C mA):∃ od,InstAt h x (instObj C dx) C (some od)/\∀ name,lookIn name od=some (mA name):=
 let ⟨od,ho,hl⟩:=IP I.ns
 ⟨od,⟨I.obj,rfl,rfl,ho⟩,hl⟩
section
variable {prog:Program} {w:World} {A:Around} {E:Value -> Shared -> Prop} {s:Shared} {K:Frag} {x dx C f:Addr} {mA:Str -> Option Value} {name:Str} {v:Value}
end
theorem pO.some_of {v:V}{o:Option Value} (r:pO (some v) o):∃ u,o=some u/\bL v u:=by
 cases o with
|none=>exact (show False from r).elim
|some u=>exact ⟨u,rfl,r⟩
section
variable {P:Program} {w:World} {H H':Hp} {h h':Heap} {a C dx:Addr} {fs fs':List (Str×V)}
theorem RS (hok:lH P w H h) (e:H a=some (.ins C dx fs)):∃ mA,Ak h a dx C mA/\(∀ f,pO (fs.lookup f) (mA f))/\PySem.Within mA (fs.map (·.1))/\fs.length<=1000/\H dx=some (.own a):=by
 obtain ⟨d,z,ne,ob,mA,n,r,q⟩:=(show cS P w H h a (.ins C dx fs) from hok a _ e)
 exact ⟨mA,⟨ob,n,ne⟩,r,q,z,d⟩
end
structure Io (K:Frag) (C:Addr):Prop where
 pg:plainGet K C Str.empty=true
 hd:PySem.W.hasDictIn K C=true
 po:PySem.W.plainOver K C=true
 sa:PySem.W.findIn K (.ref C) "__setattr__"=some (some (.builtin "object.__setattr__"))
theorem Io.get {K:Frag}{C:Addr} (c:Io K C) (f:Str):plainGet K C f=true:=c.pg
section
variable {X:Cx} {pins:List (Addr×Obj)} {σ:St} {H:Hp} {s:Shared} {a C dx:Addr} {fs:List (Str×V)} {f:Str} {v:V} {A:Around} {E:Value -> Shared -> Prop}
end
section
variable {X:Cx} {o e value:Expr} {f:Str} {pos pos' tpos:Pos} {ta tv:TE}
end
section
variable {X:Cx} {pins:List (Addr×Obj)} {σ:St} {H:Hp} {s:Shared} {A:Around} {E:Value -> Shared -> Prop} {Q:Value -> Shared -> Prop} {c:Value} {b:Bool}
inductive iL (K:Frag) (H:Hp):V->Value->Prop where
|non:iL K H .non (.type "NoneType")
|bl (x:Bool):iL K H (.bl x) (.type "bool")
|int (i:Int):iL K H (.int i) (.type "int")
|str (x:Str):iL K H (.str x) (.type "str")
|flt (x:UInt64):iL K H (.flt x) (.type "float")
|lst {a:Addr} {xs:List V} (e:H a=some (.lst xs)):iL K H (.ref a) (.type "list")
|frz {a:Addr} {o:Obj} {xs:List V} (e:H a=some (.frz o (.lst xs))):iL K H (.ref a) (.type "list")
|tup {a:Addr} {xs:List V} (e:H a=some (.tup xs)):iL K H (.ref a) (.type "tuple")
|dK {a:Addr} {kvs:List (cB×V)} (e:H a=some (.dK kvs)):iL K H (.ref a) (.type "dict")
|dT {a:Addr} {kvs:List (List cB×V)} (e:H a=some (.dT kvs)):iL K H (.ref a) (.type "dict")
|ins {a C dx:Addr} {fs:List (Str×V)} (e:H a=some (.ins C dx fs)) (cl:Io K C) (ha:PySem.W.findIn K (.ref C) "__class__"=some (some (.builtin "object.__class__")))
   (hn:PySem.W.specialIn K (.builtin "object.__class__") "__get__"=some (some (.builtin "getset_descriptor.__get__"))) (htk:PySem.W.takesIn K (.builtin "object.__class__")=some true)
   (hm:mroIn K C (.type "object")=some true):iL K H (.ref a) (.ref C)
theorem IT {x:V}{u t:Value} (I:bA X pins σ H s) (rx:bL x u) (ty:iL X.K H x t) (e:kitOne X.K t c=some b) (h:∀ tk,Q (.bool b) { s with toks:=tk }) :
  wpAny (model X.prog X.w) A (call (.builtin "isinstance") [u,c]) Q E s:=by
 cases ty with
|non=>cases (show u=Value.none from rx); exact kia_one PySem.W.kitx_none I.kIn True.intro e (fun z=>nomatch z) h
|bl y=>cases (show u=Value.bool y from rx); exact kia_one PySem.W.kitx_bool I.kIn True.intro e (fun z=>nomatch z) h
|int i=>obtain ⟨t,q⟩:=(show ∃ t,u=Value.int i t from rx); cases q; exact kia_one PySem.W.kitx_int I.kIn True.intro e (fun z=>nomatch z) h
|str y=>obtain ⟨t,q⟩:=(show ∃ t,u=Value.str y t from rx); cases q; exact kia_one PySem.W.kitx_str I.kIn True.intro e (fun z=>nomatch z) h
|flt y=>obtain ⟨t,q⟩:=(show ∃ t,u=Value.float y t from rx); cases q; exact kia_one PySem.W.kitx_float I.kIn True.intro e (fun z=>nomatch z) h
|@lst a xs ea =>
  cases (show u=Value.ref a from rx)
  obtain ⟨_,_,n,_,h1⟩:=(show cS X.prog X.w H s.heap a (.lst xs) from I.hok a _ ea)
  exact kia_one kitx_list I.kIn ⟨_,h1,rfl⟩ e (fun z=>nomatch z) h
|@frz a ob xs ea =>
  cases (show u=Value.ref a from rx)
  obtain ⟨_,_,_,n,_,h1⟩:=(show cS X.prog X.w H s.heap a (.frz ob (.lst xs)) from I.hok a _ ea)
  exact kia_one kitx_list I.kIn ⟨_,h1,rfl⟩ e (fun z=>nomatch z) h
|@tup a xs ea =>
  cases (show u=Value.ref a from rx)
  obtain ⟨_,_,_,p⟩:=(show cS X.prog X.w H s.heap a (.tup xs) from I.hok a _ ea)
  obtain ⟨o,h1,h2,_⟩:=p
  exact kia_one PySem.W.kitx_tuple I.kIn ⟨o,h1,h2⟩ e (fun z=>nomatch z) h
|@dK a kvs ea =>
  cases (show u=Value.ref a from rx)
  obtain ⟨_,_,vs,_,p⟩:=(show cS X.prog X.w H s.heap a (.dK kvs) from I.hok a _ ea)
  obtain ⟨o,es,ep,h1,h2,_⟩:=p
  exact kia_one kitx_dict I.kIn ⟨o,h1,h2.1⟩ e (fun z=>nomatch z) h
|@dT a kvs ea =>
  cases (show u=Value.ref a from rx)
  obtain ⟨_,_,xs,_,o,es,ep,h1,h2,_⟩:=(show cS X.prog X.w H s.heap a (.dT kvs) from I.hok a _ ea)
  exact kia_one kitx_dict I.kIn ⟨o,h1,h2.1⟩ e (fun z=>nomatch z) h
|@ins a C dx fs ea cl ha hn htk hm =>
  cases (show u=Value.ref a from rx)
  obtain ⟨mA,O,_⟩:=RS I.hok ea
  obtain ⟨od,J,_⟩:=O.look
  exact kia_one (PySem.W.kitx_own (cl.get _) cl.hd ha hn htk hm) I.kIn J e (fun z=>nomatch z) h
end
end
section
structure iA (k:Nat) (A:Around):Prop where
 hd:A.handled=none
 dp:A.depth+3 * k+5 < recursionLimit
 un:A.units+16 * k+200 < cLine
theorem iA.mono {j k:Nat}{A:Around} (r:iA k A) (h:j<=k):iA j A:=⟨r.hd,by have:=r.dp; omega,by have:=r.un; omega⟩
theorem iA.deeper {k:Nat}{A:Around} (r:iA (k+1) A) (env:Env):iA k (A.deeper env):=
 ⟨r.hd,by have:=r.dp; show A.depth+1+3 * k+5 < _; omega,by have:=r.un; show A.units+3+16 * k+200 < _; omega⟩
theorem iA.depth {k:Nat}{A:Around} (r:iA k A):A.depth < recursionLimit:=by have:=r.dp; omega
theorem iA.units {k:Nat}{A:Around} (r:iA k A):A.units+64 < cLine:=by have:=r.un; omega
def KJ:TA:=fun _ H Q=>Q [] H
def qZ (ta:TE) (tr:TA):TA:=fun σ H Q=>ta σ H fun x H1=>tr σ H1 fun xs H2=>Q (x::xs) H2
section
variable {X:Cx} {e:Expr} {es:List Expr} {te:TE} {t:TA} {pos:Pos}
theorem dL:PA X [] KJ:=fun _ _ _ _ H Q I h=>Calls.spliced_nil ⟨[],H,I,.nil,h⟩
theorem eG (ha:PE X e te) (hr:PA X es t) (hs:starEach (e::es) X.env=(false,eval e X.env)::starEach es X.env:=by rfl):PA X (e::es) (qZ te t):=by
 intro pos pins s σ H Q I h
 rw [hs]
 show wpAny _ _ (spliced ((false,eval e X.env)::backTo pos (starEach es X.env))) _ _ s
 refine Calls.spliced_cons (cJ (ha pins s σ H _ I h) fun u s1 ⟨x,H1,I1,r1,q1⟩=>?_)
 exact cJ (hr pos pins s1 σ H1 _ I1 q1) fun us s2 ⟨xs,H2,I2,r2,q2⟩=>⟨x::xs,H2,I2,.cons r1 r2,q2⟩
def Bf (t:TA):TE:=fun σ H Q=>t σ H fun xs H1=>xs.length<=sizeLine/\∀ p,H1 p=none->Q (.ref p) (upd H1 p (.tup xs))
def Bm (t:TA):TE:=fun σ H Q=>t σ H fun xs H1=>xs.length<=sizeLine/\∀ p,H1 p=none->Q (.ref p) (upd H1 p (.lst xs))
theorem bM {x1} (h:PA X es t):PE X (.Tuple es x1 pos) (Bf t):=by
 intro pins s σ H Q I hq
 refine wpAny_Tuple_spliced (cJ (h pos pins s σ H _ I hq) fun us s1 ⟨xs,H1,I1,r,z,q⟩=>⟨by rw [← r.length]; exact z,?_⟩)
 have hf:H1 s1.heap.objs.size=none:=I1.hok.fresh (le_refl _)
 refine ⟨.ref s1.heap.objs.size,upd H1 s1.heap.objs.size (.tup xs),I1.laid (t':=s1.toks) (fun b u e=>get?_push_of_some _ e) (le_refl _) ?_,rfl,q _ hf⟩
 exact ⟨⟨z,_,get?_push_size _ rfl,rfl⟩,us,r,⟨_,get?_push_size _ rfl,rfl,_,rfl⟩⟩
theorem bC (h:PA X es t):PE X (.List es pos) (Bm t):=by
 intro pins s σ H Q I hq
 refine wpAny_List_spliced (cJ (h pos pins s σ H _ I hq) fun us s1 ⟨xs,H1,I1,r,z,q⟩=>⟨by rw [← r.length]; exact z,?_⟩)
 have hf:H1 s1.heap.objs.size=none:=I1.hok.fresh (le_refl _)
 refine ⟨.ref s1.heap.objs.size,upd H1 s1.heap.objs.size (.lst xs),I1.laid (t':=s1.toks) (fun b u e=>get?_push_of_some _ e) (le_refl _) ?_,rfl,q _ hf⟩
 exact ⟨z,us,0,r,get?_push_size _ rfl⟩
end
abbrev Sp:=List V->Hp->VK->XK->Prop
abbrev JU:=List Env->Hp->Shared->XK->Value->Shared->Prop
structure SS (P:Program) (w:World) (K:Frag) (mg:Str->Option Value) (base:Heap) (A:Around) (outer:List Env) (s:Shared) (H:Hp):Prop where
 frames:A.frames=some outer
 mod:Mod K mg base
 bs:∀ b o,base.get? b=some o->s.heap.get? b=some o/\H b=none
 bsz:base.objs.size<=s.heap.objs.size
 funs:s.heap.FunFrames base outer
 frf:∀ b∈nD outer,H b=none
 hok:lH P w H s.heap
 bare:AllBare s.gens
def CE (outer:List Env) (P:Program) (w:World) (H:Hp) (s:Shared) (Q:VK) (u:Value) (s':Shared):Prop:=
 ∃ v H',s'.os=s.os/\AllBare s'.gens/\Un (nD outer) [] H H' s.heap s'.heap/\lH P w H' s'.heap/\bL v u/\Q v H'
def CR (CX:JU) (outer:List Env) (P:Program) (w:World) (H:Hp) (s:Shared) (Q:VK) (E:XK) (r:Result) (s':Shared):Prop:=
 match r with
|.ok (.ret u)=>CE outer P w H s Q u s'
|.ok _=>False
|.error e=>CX outer H s E e s'
structure nY (P:Program) (w:World) (K:Frag) (mg:Str->Option Value) (base:Heap) (CX:JU) (k:Nat) (f:Addr) (fd:FuncData) (ps:List Str) (sp:Sp):Prop where
 len:∀ vs H Q E,sp vs H Q E->vs.length=ps.length
 run:∀ (A:Around) (outer:List Env) (s:Shared) (H:Hp) (args:Args) (us:List Value) (vs:List V) (Q:VK) (E:XK),iA k A->SS P w K mg base A outer s H->BindsTo s fd args (ps.zip us)->bN vs us->sp vs H Q E ->
  codeAny (model P w) A (.call (.ref f) args) (CR CX outer P w H s Q E) s
theorem nY.mono {P:Program}{w:World}{K:Frag}{mg:Str->Option Value}{base:Heap}{CX:JU}{j k:Nat}{f:Addr}{fd:FuncData}{ps:List Str}{sp:Sp} (F:nY P w K mg base CX j f fd ps sp) (h:j<=k) :
  nY P w K mg base CX k f fd ps sp:=⟨F.len,fun A outer s H args us vs Q E hr=>F.run A outer s H args us vs Q E (hr.mono h)⟩
section
variable {X:Cx} {pins:List (Addr×Obj)} {σ:St} {H:Hp} {s s':Shared}
theorem bA.env0 (I:bA X pins σ H s):SS X.prog X.w X.K X.mg X.base X.A X.stack s H:=
 ⟨I.ok.frames,I.ok.mod,I.bs,le_trans I.ok.bsz I.sz,I.stack,I.stkFree,I.hok,I.bare⟩
theorem bA.after {Q:VK}{u:Value} (I:bA X pins σ H s) (h:CE X.stack X.prog X.w H s Q u s'):EP X pins σ Q u s':=by
 obtain ⟨v,H',os,bare,un,hok,r,q⟩:=h
 obtain ⟨hh,g,d,t,os'⟩:=s'
 obtain rfl:os'=s.os:=os
 exact ⟨v,H',I.call (h':=hh) (g':=g) (d':=d) (t':=t) (ch:=[]) un hok bare (fun b z=>absurd z (by simp)),r,q⟩
end
def FB (sp:Sp) (dvs:List V) (E:XK) (t:TA):TE:=fun σ H Q=>t σ H fun vs H1=>sp (vs++dvs) H1 Q E
def pP (K:Frag) (fd:FuncData) (ps:List Str) (ds:List Value):Prop:=
 ∀ (s:Shared) (us:List Value),K.In s.heap->(us++ds).length=ps.length->BindsTo s fd ⟨us,[]⟩ (ps.zip (us++ds))
theorem pP.all {K:Frag}{fd:FuncData}{ps:List Str} (h:∀ us:List Value,us.length=ps.length->bindArgs fd ⟨us,[]⟩=pure (ps.zip us)):pP K fd ps []:=fun s us _ hl=>by
 rw [append_nil] at hl ⊢
 exact .of_eq (h us hl)
def vD (CX:JU) (X:Cx) (E:XK):Prop:=∀ (pins:List (Addr×Obj)) (σ:St) (H:Hp) (s:Shared) (e:Value) (s':Shared),bA X pins σ H s->CX X.stack H s E e s'->X.xe e s'
section
variable {X:Cx} {CX:JU} {k:Nat} {f C:Addr} {fd:FuncData} {ps:List Str} {sp:Sp} {dvs:List V} {ds:List Value} {E:XK} {x m:Str} {p pos apos:Pos} {e o:Expr} {es:List Expr} {ta:TE} {t:TA}
theorem VT {pins:List (Addr×Obj)}{σ:St}{H:Hp}{s:Shared}{Q:VK}{us:List Value}{vs:List V} (F:nY X.prog X.w X.K X.mg X.base CX k f fd ps sp) (hr:iA k X.A) (hb:pP X.K fd ps ds) (hd:bN dvs ds) (hx:vD CX X E)
  (I:bA X pins σ H s) (r:bN vs us) (h:sp (vs++dvs) H Q E):wpAny (model X.prog X.w) X.A (call (.ref f) us) (EP X pins σ Q) X.xe s:=by
 have r2:bN (vs++dvs) (us++ds):=r.append hd
 have hl:(us++ds).length=ps.length:=by rw [← r2.length]; exact F.len _ _ _ _ h
 refine wpAny_call (codeAny_mono (F.run X.A X.stack s H ⟨us,[]⟩ (us++ds) (vs++dvs) Q E hr I.env0 (hb s us I.kIn hl) r2 h) fun r s' hq=>?_)
 cases r with
|error e=>exact hx pins σ H s e s' I hq
|ok fl =>
  cases fl with
 |ret u=>exact I.after hq
 |next=>exact False.elim hq
 |brk=>exact False.elim hq
 |cont=>exact False.elim hq
theorem FY (F:nY X.prog X.w X.K X.mg X.base CX k f fd ps sp) (hr:iA k X.A) (hg:Gl X x) (hm:X.mg x=some (.ref f)) (hk:keepIn X.K (.ref f)=true) (hb:pP X.K fd ps ds) (hd:bN dvs ds) (hx:vD CX X E)
  (ha:PA X (e::es) t) (hdb:(x==("__debug__":Str))=false:=by decide) (he:starEach (e::es) X.env=(false,eval e X.env)::starEach es X.env:=by rfl) (hpl:(backTo pos (starEach es X.env)).any (·.1)=false:=by rfl) :
  PE X (.Call (.Name x p) (e::es) [] pos) (FB sp dvs E t):=by
 intro pins s σ H Q I h
 refine wpAny_Call_Name_kw (pB I hg hm ?_ hdb)
 refine callWith_K (h₀:=X.base) I.ok.mod.kin hk (cJ (ha pos pins s σ H _ I h) fun us s1 ⟨vs,H1,I1,r,q⟩=>⟨I1.kIn,?_⟩) he hpl
 exact VT F hr hb hd hx I1 r q
end
section
variable {X:Cx} {CX:JU} {k:Nat} {f C:Addr} {fd:FuncData} {ps ks:List Str} {sp:Sp} {E:XK} {x m:Str} {p pos apos kpos:Pos} {e o:Expr} {es:List Expr} {kws:List Keyword} {te ta:TE} {t tk:TA} {nm:Option Str}
variable {g:List Value -> List Value -> List Value} {gV:List V -> List V -> List V}
end
structure aT (N P:List Str) (sc:Scope):Prop where
 kind:sc.kind=.function
 co:sc.isCoroutine=false
 gen:sc.isGenerator=false
 nd:N.Nodup
 pre:N.take P.length=P
 par:∀ x∈P,sc.names.lookup x=some .local∨sc.names.lookup x=some .cell
 nofree:∀ y∈sc.names,y.2≠.free
theorem wV {kindOf:Str->Option NameKind}{x:Str}:∀ {binds:List (Str×Value)}{m:Str->Option Value},(∀ v,(x,v)∉binds)->bindL kindOf binds m x=m x
|[],_,_=>rfl
|(n,v)::r,m,h=>by
  unfold bindL
  rw [wV fun w hw=>h w (mem_cons_of_mem _ hw)]
  split
  ·have:x≠n:=by rintro rfl; exact h v mem_cons_self
   simp [this]
  ·rfl
theorem wX {kindOf:Str->Option NameKind}{x:Str}:∀ {binds:List (Str×Value)}{m:Str->Option Value},(∀ v,(x,v)∉binds)->bindC kindOf binds m x=m x
|[],_,_=>rfl
|(n,v)::r,m,h=>by
  unfold bindC
  rw [wX fun w hw=>h w (mem_cons_of_mem _ hw)]
  split
  ·rfl
  ·have:x≠n:=by rintro rfl; exact h v mem_cons_self
   simp [this]
theorem wW {kindOf:Str->Option NameKind}{x:Str}{v:Value}:∀ {P:List Str}{vs:List Value}{i:Nat}{m:Str->Option Value},P.Nodup->P[i]?=some x->vs[i]?=some v->kindOf x=some .local ->
  bindL kindOf (P.zip vs) m x=some v
|[],_,_,_,_,h,_,_=>by simp at h
|_::_,[],_,_,_,_,h,_=>by simp at h
|p::P,w::vs,0,m,nd,h1,h2,hk=>by
  simp at h1 h2; subst h1; subst h2
  show bindL kindOf ((p,w)::P.zip vs) m p=_
  unfold bindL
  rw [wV fun v hv=>(nodup_cons.mp nd).1 (of_mem_zip hv).1,if_pos hk]
  simp
|p::P,w::vs,i+1,m,nd,h1,h2,hk=>by
  show bindL kindOf ((p,w)::P.zip vs) m x=_
  unfold bindL
  exact wW (i:=i) (nodup_cons.mp nd).2 (by simpa using h1) (by simpa using h2) hk
theorem wY {kindOf:Str->Option NameKind}{x:Str}{v:Value}:∀ {P:List Str}{vs:List Value}{i:Nat}{m:Str->Option Value},P.Nodup->P[i]?=some x->vs[i]?=some v->kindOf x≠some .local ->
  bindC kindOf (P.zip vs) m x=some v
|[],_,_,_,_,h,_,_=>by simp at h
|_::_,[],_,_,_,_,h,_=>by simp at h
|p::P,w::vs,0,m,nd,h1,h2,hk=>by
  simp at h1 h2; subst h1; subst h2
  show bindC kindOf ((p,w)::P.zip vs) m p=_
  unfold bindC
  rw [wX fun v hv=>(nodup_cons.mp nd).1 (of_mem_zip hv).1,if_neg hk]
  simp
|p::P,w::vs,i+1,m,nd,h1,h2,hk=>by
  show bindC kindOf ((p,w)::P.zip vs) m x=_
  unfold bindC
  exact wY (i:=i) (nodup_cons.mp nd).2 (by simpa using h1) (by simpa using h2) hk
def nA (N:List Str) (vs:List V):St:=vs.map some++List.replicate (N.length - vs.length) none
def uU (CX:JU) (P:Program) (w:World) (K:Frag) (mg:Str->Option Value) (base:Heap) (N:List Str) (qual:Str) (scope:Scope) (f:Addr) (cd:Value) (A:Around) (outer:List Env) (s:Shared) (H:Hp) (E:XK):Cx where
 prog:=P
 w:=w
 K:=K
 mg:=mg
 base:=base
 A:=A.deeper (envOfC qual scope s.heap.objs.size f cd)
 N:=N
 s₀:=s
 H₀:=H
 env:=envOfC qual scope s.heap.objs.size f cd
 outer:=outer
 stack:=envOfC qual scope s.heap.objs.size f cd::outer
 ex:=[]
 calm:=true
 fn:=fun _=>true
 pn:=[]
 xe:=fun e s'=>wpAny (model P w) (A.deeper (envOfC qual scope s.heap.objs.size f cd)) (leaving (envOfC qual scope s.heap.objs.size f cd) e) (fun _ s''=>CX outer H s E e s'') (fun e' s''=>CX outer H s E e' s'') s'
theorem CB {sc:Scope}{n:Nat}{x:Str} (h:sc.names.lookup x=some .cell):∃ c,(cellsFrom n sc.names []).lookup x=some c:=by
 have q:=cellsFrom_some sc.names n [] (.inl h)
 exact Option.isSome_iff_exists.mp q
theorem IU {CX:JU}{P:Program}{w:World}{K:Frag}{mg:Str->Option Value}{base:Heap}{N ps:List Str}{qual:Str}{scope:Scope}{f:Addr}{cd:Value}{A:Around}{outer:List Env}{s s1:Shared}{H:Hp}{E:XK}{us:List Value}{vs:List V}
  (S:aT N ps scope) (hd:A.handled=none) (e0:SS P w K mg base A outer s H) (hl:vs.length=ps.length) (r:bN vs us)
  (x:InCallC s s.heap.objs.size (bindL (envOfC qual scope s.heap.objs.size f cd).kindOf (ps.zip us) fun _=>none) (cellsFrom (s.heap.objs.size+1) scope.names []) (bindC (envOfC qual scope s.heap.objs.size f cd).kindOf (ps.zip us) fun _=>none) s1) :
  bA (uU CX P w K mg base N qual scope f cd A outer s H E) [] (nA N vs) H s1:=by
 have hpl:ps.length<=N.length:=by have:=congrArg List.length S.pre; rw [length_take] at this; omega
 obtain ⟨h1,tk,rfl,hk⟩:=x.done
 have noA:∀ b:Addr,b∉(uU CX P w K mg base N qual scope f cd A outer s H E).ex:=fun b z=>absurd (show b∈([]:List Addr) from z) (by simp)
 refine ⟨⟨e0.mod,S.kind,rfl,rfl,le_refl _,fun y z c h1 h2=>?_,fun y hy=>?_,fun y c _ h=>?_,fun _=>hd,Around.frames_deeper e0.frames,.inr ⟨rfl,rfl⟩,fun b z=>absurd z (noA b),e0.bs,e0.bsz,fun b _ _=>noA b,fun b z=>absurd z (noA b),e0.funs,e0.frf⟩,
  rfl,e0.bare,Un.kept hk,⟨_,x.toInCall.ns,fun i y v h1 h2 h3=>?_⟩,fun y c h=>⟨_,x.cell y c h⟩,e0.hok.fresh (le_refl _),fun y c h=>?_,fun p hp=>absurd (show p∈([]:List (Addr×Obj)) from hp) (by simp),e0.hok.kept hk,?_⟩
 ·exact name_of_addr x.apart (PySem.mem_of_lookup h1) (PySem.mem_of_lookup h2)
 ·have hy:scope.names.lookup y=some .cell∨scope.names.lookup y=some .free:=hy
  rcases hy with hy|hy
  ·exact CB hy
  ·exact absurd rfl (S.nofree _ (PySem.mem_of_lookup hy))
 ·exact le_of_lt (x.above y c (PySem.mem_of_lookup h))
 ·have hi:i < vs.length:=by
   unfold nA at h2
   by_cases hi:i < vs.length
   ·exact hi
   ·rw [List.getElem?_append_right (by simpa using hi)] at h2
    rw [List.getElem?_replicate] at h2
    split at h2 <;> cases h2
  have ha:vs[i]?=some v:=by
   unfold nA at h2
   rw [List.getElem?_append_left (by simpa using hi),List.getElem?_map] at h2
   cases e:vs[i]? with
  |none=>rw [e] at h2; cases h2
  |some a=>rw [e] at h2; cases h2; rfl
  obtain ⟨u,hu,rv⟩:=r.get ha
  have hp:ps[i]?=some y:=by
   rw [← S.pre,List.getElem?_take_of_lt (by omega)]; exact h1
  have ndP:ps.Nodup:=by rw [← S.pre]; exact S.nd.sublist (List.take_sublist _ _)
  refine ⟨u,rv,?_⟩
  rcases S.par y (mem_of_getElem? hp) with k|k
  ·exact .inl ⟨k,wW ndP hp hu k⟩
  ·obtain ⟨c,e⟩:=CB (n:=s.heap.objs.size+1) k
   refine .inr ⟨.inl k,c,e,?_⟩
   have q:=x.cell y c e
   rw [wY ndP hp hu (by show scope.names.lookup y≠_; rw [k]; decide)] at q
   exact q
 ·exact e0.hok.fresh (le_of_lt (x.above y c (PySem.mem_of_lookup h)))
 ·unfold nA
  show _=N.length
  rw [length_append,length_map,length_replicate]
  omega
theorem NM {CX:JU}{P:Program}{w:World}{K:Frag}{mg:Str->Option Value}{base:Heap}{k:Nat}{f:Addr}{name qual:Str}{params:Arguments}{body:List Stmt}{scope:Scope}{dV kV doc pm cdv ct oc:Value}{an od:Option Addr}
  {osl:Array (Option Value)} {N ps:List Str} {sp:Sp} (lk:K.lookup f=some ⟨oc,od,.func (fnOf name qual params body scope dV kV doc pm an cdv ct),osl⟩) (hcd:PySem.W.codeIn K cdv qual=true) (S:aT N ps scope)
  (len:∀ vs H Q E,sp vs H Q E->vs.length=ps.length)
  (hbody:∀ (A:Around) (outer:List Env) (s:Shared) (H:Hp) (vs:List V) (Q:VK) (E:XK),iA k (A.deeper (envOfC qual scope s.heap.objs.size f cdv))->sp vs H Q E ->
   ∃ t,CH (uU CX P w K mg base N qual scope f cdv A outer s H E) body t/\t { nx:=fun _ H'=>Q .non H',rt:=Q } (nA N vs) H) :
  nY P w K mg base CX (k+1) f (fnOf name qual params body scope dV kV doc pm an cdv ct) ps sp:=by
 refine ⟨len,fun A outer s H args us vs Q E hr e0 hb r hsp=>?_⟩
 have hl:=len _ _ _ _ hsp
 have KX:K.In s.heap:=e0.mod.kin.keeps fun b o e=>(e0.bs b o e).1
 have lim:s.heap.NoLimit:=e0.mod.nolimit.keeps fun b o e=>(e0.bs b o e).1
 have hkind:∀ y∈ps.zip us,scope.names.lookup y.1=some .local∨(scope.names.lookup y.1=some .cell/\((cellsFrom (s.heap.objs.size+1) scope.names []).lookup y.1).isSome=true):=fun ⟨n,v⟩ hy=>by
  rcases S.par n (of_mem_zip hy).1 with q|q
  ·exact .inl q
  ·exact .inr ⟨q,cellsFrom_some _ _ _ (.inl q)⟩
 refine codeAny_call_function hr.depth (KX _ _ lk) rfl S.co S.gen rfl (PySem.W.codeRec_of KX hcd) (hb _ _ _ _ ?_)
 refine wpAny_newFunctionEnv_cells S.kind hkind fun env he s1 x=>?_
 subst he
 refine ⟨lim.keeps x.toInCall.keep,codeAny_func ?_⟩
 obtain ⟨t,ht,hq⟩:=hbody A outer s H vs Q E (hr.deeper _) hsp
 have I:bA (uU CX P w K mg base N qual scope f cdv A outer s H E) [] (nA N vs) H s1:=IU S hr.hd e0 hl r x
 refine wpAny_mono (ht [] s1 (nA N vs) H _ I hq) (fun fl s' hs=>?_) fun e s' hs=>hs
 have fin:∀ {σ':St} {H':Hp} {v:V} {u:Value},bA (uU CX P w K mg base N qual scope f cdv A outer s H E) [] σ' H' s'->bL v u->Q v H'->CE outer P w H s Q u s':=
  fun {σ' H' v u} J rv q=>⟨v,H',J.os,J.bare,J.base,J.hok,rv,q⟩
 cases fl with
|ret u =>
  obtain ⟨v,σ',H',J,rv,q⟩:=hs
  exact fin J rv q
|next =>
  obtain ⟨σ',H',J,q⟩:=hs
  exact fin (v:=V.non) (u:=Value.none) J rfl q
|brk =>
  obtain ⟨_,_,_,q⟩:=hs
  exact False.elim q
|cont =>
  obtain ⟨_,_,_,q⟩:=hs
  exact False.elim q
end
section
section
variable {X:Cx} {x:Str} {p pos:Pos} {e:Expr} {es:List Expr} {t:TA} {id T:String} {r:List V -> Hp -> VK -> Prop}
def Gi (r:List V->Hp->VK->Prop) (t:TA):TE:=fun σ H Q=>t σ H fun vs H1=>r vs H1 Q
theorem aP (hc:fD X (.builtin id) r) (hg:Gl X x) (hm:X.mg x=none) (hv:bootBuiltins x=some (.builtin id)) (ha:PA X (e::es) t) (hn:x≠"__name__":=by decide) (hdb:(x==("__debug__":Str))=false:=by decide)
  (he:starEach (e::es) X.env=(false,eval e X.env)::starEach es X.env:=by rfl) (hpl:(backTo pos (starEach es X.env)).any (·.1)=false:=by rfl):PE X (.Call (.Name x p) (e::es) [] pos) (Gi r t):=by
 intro pins s σ H Q I h
 refine wpAny_Call_Name_kw (lF I hg hm hv ?_ hn hdb)
 exact PyProof.Rows.callWith_builtin1 (cJ (ha pos pins s σ H _ I h) fun us s1 ⟨vs,H1,I1,r1,q1⟩=>hc pins s1 σ H1 vs us Q I1 r1 q1) he hpl
theorem bF (hc:fD X (.type T) r) (hg:Gl X x) (hm:X.mg x=none) (hv:bootBuiltins x=some (.type T)) (ha:PA X (e::es) t) (hn:x≠"__name__":=by decide) (hdb:(x==("__debug__":Str))=false:=by decide)
  (he:starEach (e::es) X.env=(false,eval e X.env)::starEach es X.env:=by rfl) (hpl:(backTo pos (starEach es X.env)).any (·.1)=false:=by rfl):PE X (.Call (.Name x p) (e::es) [] pos) (Gi r t):=by
 intro pins s σ H Q I h
 refine wpAny_Call_Name_kw (lF I hg hm hv ?_ hn hdb)
 exact PyProof.Rows.callWith_type1 (cJ (ha pos pins s σ H _ I h) fun us s1 ⟨vs,H1,I1,r1,q1⟩=>hc pins s1 σ H1 vs us Q I1 r1 q1) he hpl
end
end
end L2
namespace HT
open PySem PyProof.Rows
section
open PySem.SeqAt
open PySem.AutoSeq1 (wpAny_loadPart')
open PySem.MeetsSeq PySem.MeetsSeq2 PySem.MeetsSeq3
end
section
variable {prog:Program} {w:World} {A:Around} {E:Value -> Shared -> Prop} {s:Shared}
theorem cat_tup {t b:Addr}{vs ws:List Value}{Q:Value->Shared->Prop} (ht:IsTup s.heap t vs.toArray) (hb:IsTup s.heap b ws.toArray) (hv:vs≠[])
  (h1:ws=[]->Q (.ref t) s) (h2:ws≠[]->Q (.ref s.heap.objs.size) { s with heap:=s.heap.push { cls:=.type "tuple",data:=.seq (vs++ws).toArray } })
  (hsz:vs.length+ws.length<=sizeLine):wpAny (model prog w) A (binaryOp .Add (.ref t) (.ref b)) Q E s:=by
 obtain ⟨⟨cls,dd,data,sl⟩,ho,hc,n,hd⟩:=id ht
 obtain ⟨⟨cls2,dd2,data2,sl2⟩,ho2,hc2,n2,hd2⟩:=id hb
 simp only at hc hd hc2 hd2
 subst hc hd hc2 hd2
 have e:vs.toArray++ws.toArray=(vs++ws).toArray:=by simp
 by_cases hw:ws=[]
 ·exact concat_meets ⟨_,ho,rfl⟩ ⟨_,ho2,rfl⟩ noFill_tuple_add seq_tuple_add slot_tuple_add PySem.F.entry_tuple_add (PySem.F.args_tuple_add_2 _ _)
   (tuple_addW1 t b vs.toArray ws.toArray n n2 dd dd2 sl sl2 (by simpa using hv) (by simp [hw])) ⟨ho,ho2,h1 hw⟩
 ·refine concat_meets ⟨_,ho,rfl⟩ ⟨_,ho2,rfl⟩ noFill_tuple_add seq_tuple_add slot_tuple_add PySem.F.entry_tuple_add (PySem.F.args_tuple_add_2 _ _)
   (tuple_addW2 t b vs.toArray ws.toArray n n2 dd dd2 sl sl2 (by simpa using hv) (by simpa using hw) (by rw [size_toArray,size_toArray]; exact hsz)) ⟨ho,ho2,?_⟩
  rw [e]
  exact h2 hw
def sIx (n d:Nat):Option Int->Nat
|none=>d
|some v=>if v < 0 then (v+(n:Int)).toNat else min v.toNat n
theorem VR (n d:Nat) (hd:d<=n) (o:Option Int):sIx n d o<=n:=by
 cases o with
|none=>exact hd
|some v =>
  show (if v < 0 then (v+(n:Int)).toNat else min v.toNat n)<=n
  by_cases hv:v < 0
  ·rw [if_pos hv]; omega
  ·rw [if_neg hv]; exact Nat.min_le_right _ _
theorem GV (v:Int) (n d:Nat):(if v < 0 then max (v+(n:Int)) 0 else min v (n:Int))=((sIx n d (some v):Nat):Int):=by
 show (if v < 0 then max (v+(n:Int)) 0 else min v (n:Int))=(((if v < 0 then (v+(n:Int)).toNat else min v.toNat n):Nat):Int)
 by_cases hv:v < 0
 ·simp only [if_pos hv]; omega
 ·simp only [if_neg hv]; omega
theorem EQ (lo hi:Option Int) (n:Nat):Builtin.Slice.sliceAdjust lo hi 1 (n:Int)=(((sIx n 0 lo:Nat):Int),((sIx n n hi:Nat):Int)):=by
 have h1:¬ ((1:Int) < 0):=by omega
 unfold Builtin.Slice.sliceAdjust
 simp only [h1,if_false]
 refine Prod.ext ?_ ?_
 ·cases lo with
 |none=>rfl
 |some v=>exact GV v n 0
 ·cases hi with
 |none=>rfl
 |some v=>exact GV v n n
theorem DN (i j:Nat):Builtin.Slice.slicePlaces (i:Int) (j:Int) 1=j - i:=by
 unfold Builtin.Slice.slicePlaces
 have h1:(1:Int) > 0:=by omega
 simp only [h1,if_true,Int.ediv_one]
 split <;> omega
theorem tE {v:Value}{o:Option Int}{Q:Option Int->Shared->Prop} (p:IsPart v o) (h:Q o s):wpAny (model prog w) A (Builtin.Slice.slicePartIndex v) Q E s:=by
 cases p with
|none=>exact slicePart_none h
|int i t=>exact slicePart_int h
theorem pU {sl:Addr}{vl vu:Value}{lo hi:Option Int}{n:Nat}{Q:Int×Int×Nat->Shared->Prop} (hs:s.heap.IsSliceOf sl vl vu .none) (pl:IsPart vl lo) (pu:IsPart vu hi)
  (h:Q (((sIx n 0 lo:Nat):Int),1,sIx n n hi - sIx n 0 lo) s):wpAny (model prog w) A (Builtin.Slice.sliceApplied (.ref sl) (pure (n:Int))) Q E s:=by
 obtain ⟨os,hos,hcs,hds⟩:=id hs
 unfold Builtin.Slice.sliceApplied Builtin.Slice.sliceFields
 refine wpAny_bind (wpAny_bind (wpAny_field hos hds (x:=vl) rfl (wpAny_bind (wpAny_field hos hds (x:=vu) rfl (wpAny_bind (wpAny_field hos hds (x:=.none) rfl (wpAny_pure ?_)))))))
 refine wpAny_bind (slicePart_none ?_)
 show wpAny _ _ (if ((1:Int)==0)=true then _ else _) _ _ s
 rw [if_neg (by decide)]
 refine wpAny_bind (tE pl (wpAny_bind (tE pu (wpAny_bind (wpAny_pure ?_)))))
 show wpAny _ _ (match Builtin.Slice.sliceAdjust lo hi 1 (n:Int) with|(lo,hi)=>pure (lo,(1:Int),Builtin.Slice.slicePlaces lo hi 1)) _ _ s
 rw [EQ lo hi n]
 show wpAny _ _ (pure (((sIx n 0 lo:Nat):Int),(1:Int),Builtin.Slice.slicePlaces ((sIx n 0 lo:Nat):Int) ((sIx n n hi:Nat):Int) 1)) _ _ s
 rw [DN]
 exact wpAny_pure h
theorem MG (xs:Array Value) (i k:Nat):((List.range k).filterMap fun (m:Nat)=>xs[((i:Int)+(m:Int) * 1).toNat]?).toArray=((xs.toList.drop i).take k).toArray:=by
 have e:(fun (m:Nat)=>xs[((i:Int)+(m:Int) * 1).toNat]?)=fun m=>xs[i+m]?:=by
  funext m
  have:((i:Int)+(m:Int) * 1).toNat=i+m:=by omega
  rw [this]
 rw [e]
 have:=pick_run xs i k
 rw [List.filterMap_map] at this
 have e2:((fun x=>xs[x]?) ∘ fun x=>i+x)=fun m=>xs[i+m]?:=rfl
 rw [e2] at this
 rw [this]
theorem getItem_tuple_cut {t sl:Addr}{items:Array Value}{vl vu:Value}{lo hi:Option Int}{Q:Value->Shared->Prop} (ht:IsTup s.heap t items) (hs:s.heap.IsSliceOf sl vl vu .none) (pl:IsPart vl lo) (pu:IsPart vu hi)
  (hw:¬ (sIx items.size 0 lo=0/\sIx items.size items.size hi=items.size))
  (h:Q (.ref s.heap.objs.size) { s with heap:=s.heap.push { cls:=.type "tuple",data:=.seq ((items.toList.drop (sIx items.size 0 lo)).take (sIx items.size items.size hi - sIx items.size 0 lo)).toArray } })
  (hsz:items.size<=sizeLine):wpAny (model prog w) A (getItem (.ref t) (.ref sl)) Q E s:=by
 have htake:sizeOk (.seq ((items.toList.drop (sIx items.size 0 lo)).take (sIx items.size items.size hi - sIx items.size 0 lo)).toArray):=by
  show ((items.toList.drop (sIx items.size 0 lo)).take (sIx items.size items.size hi - sIx items.size 0 lo)).toArray.size<=sizeLine
  rw [size_toArray,length_take,length_drop,Array.length_toList]
  omega
 have hj:sIx items.size items.size hi<=items.size:=VR _ _ (le_refl _) hi
 obtain ⟨os,hos,hcs,hds⟩:=id hs
 have hTs:s.TypeIs (.ref sl) "slice":=⟨os,hos,hcs⟩
 unfold getItem
 try with_reducible refine wpAny_holding ?_
 first|refine wpAny_bind (wpAny_pure ?_)|skip
 refine wpAny_bind (wpAny_sequenceKey ht.typeIs (by decide) ?_)
 refine wpAny_bind (wpAny_callSpecial?_slot (name:=Str.ofString "__getitem__") ht.typeIs PyProof.Rows.slot_tuple_getitem
  (wpAny_call_entry PyProof.Rows.slot_tuple_getitem ht.typeIs entry_tuple_getitem ?_ (args_tuple_getitem _ _)))
 show wpAny _ _ (Builtin.Tuple.tupleItemsOf (.ref t) >>= _) _ _ s
 refine wpAny_bind (tupleItemsOf_ ht ?_)
 refine wpAny_bind (wpAny_typeOf hTs ?_)
 rw [if_pos (by decide)]
 refine wpAny_bind (pU hs pl pu ?_)
 have hno:¬ ((((sIx items.size 0 lo:Nat):Int)==0&&(1:Int)==1&&(sIx items.size items.size hi - sIx items.size 0 lo)==items.size)=true):=by
  intro q
  rw [Bool.and_eq_true,Bool.and_eq_true] at q
  have q1:((sIx items.size 0 lo:Nat):Int)=0:=eq_of_beq q.1.1
  have q2:sIx items.size items.size hi - sIx items.size 0 lo=items.size:=eq_of_beq q.2
  exact hw ⟨by omega,by omega⟩
 show wpAny _ _ (if (((sIx items.size 0 lo:Nat):Int)==0&&(1:Int)==1&&(sIx items.size items.size hi - sIx items.size 0 lo)==items.size)=true then _ else _) _ _ s
 rw [if_neg hno,MG]
 first
 |exact wpAny_bind (m:=Builtin.Tuple.tupleExact _) (wpAny_newObj_type (wpAny_pure ⟨_,rfl,wpAny_pure h⟩) htake)
 |exact wpAny_bind (m:=Builtin.Tuple.tupleExact _) (wpAny_newObj_type (wpAny_bind (wpAny_pure (wpAny_pure ⟨_,rfl,wpAny_pure h⟩))) htake)
 |exact wpAny_bind (wpAny_bind (m:=Builtin.Tuple.tupleExact _) (wpAny_newObj_type (wpAny_pure (wpAny_pure ⟨_,rfl,wpAny_pure h⟩)) htake))
 |exact wpAny_bind (wpAny_bind (m:=Builtin.Tuple.tupleExact _) (wpAny_newObj_type (wpAny_pure ⟨_,rfl,wpAny_pure h⟩) htake))
end
end HT
namespace L2
open PySem PySem.Spec PyProof.Rows
section
abbrev TO:=St->Hp->(Option Int->Hp->Prop)->Prop
def PO (X:Cx) (e:Option Expr) (t:TO):Prop:=
 ∀ (pins:List (Addr×Obj)) (s:Shared) (σ:St) (H:Hp) (Q:Option Int->Hp->Prop),bA X pins σ H s->t σ H Q ->
  wpAny (model X.prog X.w) X.A (evalPart e X.env) (fun u s'=>∃ o H',bA X pins σ H' s'/\IsPart u o/\Q o H') X.xe s
def EZ:TO:=fun _ H Q=>Q none H
def SX (t:TE):TO:=fun σ H Q=>t σ H fun x H1=>∃ i,x=.int i/\Q (some i) H1
section
variable {X:Cx} {e:Expr} {te:TE} {lo hi:Option Expr} {tl th:TO} {pos p2:Pos}
theorem cC:PO X none EZ:=by
 intro pins s σ H Q I h
 rw [evalPart_none]
 exact wpAny_pure ⟨none,H,I,.none,h⟩
theorem bV (h:PE X e te):PO X (some e) (SX te):=by
 intro pins s σ H Q I hw
 rw [evalPart_some]
 refine cJ (h pins s σ H _ I hw) fun u s1 ⟨x,H1,I1,r1,q1⟩=>?_
 obtain ⟨i,rfl,q⟩:=q1
 obtain ⟨t,rfl⟩:=r1
 exact ⟨some i,H1,I1,.int i t,q⟩
def SN (X:Cx) (r:V->Option Int->Option Int->Hp->VK->Prop):Prop:=
 ∀ (pins:List (Addr×Obj)) (s:Shared) (σ:St) (H:Hp) (x:V) (v vl vu:Value) (lo hi:Option Int) (sl:Addr) (Q:VK),bA X pins σ H s->bL x v->s.heap.IsSliceOf sl vl vu .none->IsPart vl lo->IsPart vu hi->r x lo hi H Q ->
  ∃ T id,typeLookup (.type T) "__getitem__"=pure (some (.builtin id))/\s.TypeIs v T/\wpAny (model X.prog X.w) X.A (getItem v (.ref sl)) (EP X pins σ Q) X.xe s
theorem SN.or {r r':V->Option Int->Option Int->Hp->VK->Prop} (h:SN X r) (h':SN X r'):SN X (fun x lo hi H Q=>r x lo hi H Q∨r' x lo hi H Q):=by
 intro pins s σ H x v vl vu lo hi sl Q I rx hs pl pu q
 rcases q with q|q
 ·exact h pins s σ H x v vl vu lo hi sl Q I rx hs pl pu q
 ·exact h' pins s σ H x v vl vu lo hi sl Q I rx hs pl pu q
def Iq (r:V->Option Int->Option Int->Hp->VK->Prop) (te:TE) (tl th:TO):TE:=fun σ H Q=>te σ H fun x H1=>tl σ H1 fun l H2=>th σ H2 fun u H3=>r x l u H3 Q
theorem bI {r:V->Option Int->Option Int->Hp->VK->Prop} (hr:SN X r) (he:PE X e te) (hl:PO X lo tl) (hu:PO X hi th):PE X (.Subscript e (.Slice lo hi none p2) pos) (Iq r te tl th):=by
 intro pins s σ H Q I h
 refine Subscript_ (cJ (he pins s σ H _ I h) fun v s1 ⟨x,H1,I1,r1,q1⟩=>?_)
 refine wpAny_Slice (cJ (hl pins s1 σ H1 _ I1 q1) fun vl s2 ⟨l,H2,I2,pl,q2⟩=>cJ (hu pins s2 σ H2 _ I2 q2) fun vu s3 ⟨u,H3,I3,pu,q3⟩=>?_)
 rw [evalPart_none]
 refine wpAny_pure ?_
 have I4:bA X pins σ H3 { s3 with heap:=s3.heap.push { cls:=.type "slice",data:=.fields #[vl,vu,.none] } }:=I3.kept (t':=s3.toks) fun b ob q=>get?_push_of_some _ q
 obtain ⟨T,id,hT,ht,hg⟩:=hr pins { s3 with heap:=s3.heap.push { cls:=.type "slice",data:=.fields #[vl,vu,.none] } } σ H3 x v vl vu l u s3.heap.objs.size Q I4 r1 (Heap.IsSliceOf.new ..) pl pu q3
 show wpAny (model X.prog X.w) X.A (subscriptTail e (.Slice lo hi none p2) v (.ref s3.heap.objs.size)) (EP X pins σ Q) X.xe { s3 with heap:=s3.heap.push { cls:=.type "slice",data:=.fields #[vl,vu,.none] } }
 exact tail_any (ops:=[.ref s3.heap.objs.size,v]) ht hT hg (by with_unfolding_all rfl)
def fP (xs:List V) (lo hi:Option Int):List V:=(xs.drop (HT.sIx xs.length 0 lo)).take (HT.sIx xs.length xs.length hi - HT.sIx xs.length 0 lo)
theorem rF (xs:List V) (lo hi:Option Int):(fP xs lo hi).length<=xs.length:=by
 unfold fP
 rw [length_take,length_drop]
 omega
def Dp (K:Frag):V->Option Int->Option Int->Hp->VK->Prop:=fun x lo hi H Q=>∃ a xs,x=.ref a/\fV K H a xs /\
 ¬ (HT.sIx xs.length 0 lo=0/\HT.sIx xs.length xs.length hi=xs.length)/\∀ p,H p=none->Q (.ref p) (upd H p (.tup (fP xs lo hi)))
theorem VN:SN X (Dp X.K):=by
 intro pins s σ H x v vl vu lo hi sl Q I rx hs pl pu h
 obtain ⟨a,xs,rfl,hx,hw,q⟩:=h
 cases rx
 obtain ⟨its,r,ht,hz⟩:=I.tuple hx
 have hlen:its.toArray.size=xs.length:=by rw [size_toArray]; exact r.length.symm
 refine ⟨"tuple",_,PyProof.Rows.slot_tuple_getitem.lookup,ht.typeIs,?_⟩
 refine HT.getItem_tuple_cut ht hs pl pu (by rw [hlen]; exact hw) ?_ (by rw [hlen]; exact hz)
 rw [hlen]
 refine ⟨.ref s.heap.objs.size,_,I.laid (t':=s.toks) (o:=.tup (fP xs lo hi)) (fun b ob q=>get?_push_of_some _ q) (le_refl _) ?_,rfl,q _ (I.hok.fresh (le_refl _))⟩
 exact ⟨⟨le_trans (rF xs lo hi) hz,_,get?_push_size _ rfl,rfl⟩,_,(r.drop (HT.sIx xs.length 0 lo)).take (HT.sIx xs.length xs.length hi - HT.sIx xs.length 0 lo),IsTup.new _ _⟩
def UJ (K:Frag):R2:=fun x y H Q=>∃ a b xs ys,x=.ref a/\y=.ref b/\fV K H a xs/\fV K H b ys/\xs≠[]/\xs.length+ys.length<=sizeLine /\
 (ys=[]->Q (.ref a) H)/\(ys≠[]->∀ p,H p=none->Q (.ref p) (upd H p (.tup (xs++ys))))
theorem bN.nil_iff {xs:List V}{us:List Value} (r:bN xs us):us=[] ↔ xs=[]:=by
 cases r with
|nil=>simp
|cons _ _=>simp
theorem QX:jJ X (binaryOp .Add) (UJ X.K):=by
 intro pins s σ H x y v u Q I rx ry h
 obtain ⟨a,b,xs,ys,rfl,rfl,ha,hb,hx,hz,q1,q2⟩:=h
 cases rx
 cases ry
 obtain ⟨its,r1,p1,_⟩:=I.tuple ha
 obtain ⟨its2,r2,p2,_⟩:=I.tuple hb
 refine HT.cat_tup p1 p2 (fun z=>hx (r1.nil_iff.mp z)) (fun z=>⟨.ref a,H,I,rfl,q1 (r2.nil_iff.mp z)⟩) (fun z=>?_) (by rw [← r1.length,← r2.length]; exact hz)
 refine ⟨.ref s.heap.objs.size,_,I.laid (t':=s.toks) (o:=.tup (xs++ys)) (fun b ob q=>get?_push_of_some _ q) (le_refl _) ?_,rfl,q2 (fun w=>z (r2.nil_iff.mpr w)) _ (I.hok.fresh (le_refl _))⟩
 exact ⟨⟨by rw [length_append]; exact hz,_,get?_push_size _ rfl,rfl⟩,_,r1.append r2,IsTup.new _ _⟩
end
end
section
def OX (n:Nat) (i:Int):Option Nat:=if 0<=i then (if i < n then some i.toNat else none) else if -(n:Int)<=i then some (i+n).toNat else none
def fM {α:Type} (xs:List α) (i:Int):Option α:=(OX xs.length i).bind fun j=>xs[j]?
theorem GJ {n:Nat}{i:Int}{j:Nat} (h:OX n i=some j):seqIndex? i n=some j/\j < n/\-(n:Int)<=i/\i < n:=by
 unfold OX at h
 by_cases h0:0<=i
 ·rw [if_pos h0] at h
  by_cases h1:i < n
  ·rw [if_pos h1] at h
   have e:i.toNat=j:=Option.some.inj h
   exact ⟨by rw [seqIndex_of h0 h1,e],by omega,by omega,h1⟩
  ·rw [if_neg h1] at h; cases h
 ·rw [if_neg h0] at h
  by_cases h1:-(n:Int)<=i
  ·rw [if_pos h1] at h
   have e:(i+n).toNat=j:=Option.some.inj h
   exact ⟨by rw [seqIndex_neg (by omega) h1,e],by omega,h1,by omega⟩
  ·rw [if_neg h1] at h; cases h
theorem yX {α:Type}{xs:List α}{i:Int}{v:α} (h:fM xs i=some v):∃ j,seqIndex? i xs.length=some j/\xs[j]?=some v/\j < xs.length/\-(xs.length:Int)<=i/\i < xs.length:=by
 unfold fM at h
 cases e:OX xs.length i with
|none=>rw [e] at h; cases h
|some j =>
  rw [e] at h
  obtain ⟨h1,h2,h3,h4⟩:=GJ e
  exact ⟨j,h1,h,h2,h3,h4⟩
theorem aX {α:Type}{xs:List α}{j:Nat}{v:α} (h:xs[j]?=some v):fM xs (j:Int)=some v:=by
 have hj:j < xs.length:=(List.getElem?_eq_some_iff.mp h).1
 have e:OX xs.length (j:Int)=some j:=by
  unfold OX
  rw [if_pos (by omega),if_pos (by omega)]; simp
 unfold fM; rw [e]; exact h
def SQ (b:Expr):Prop:=∀ o i,subscripted b false o i=operate [o,i] (getItem o i)
def OT (X:Cx) (r:R2):Prop:=
 ∀ (value slice:Expr) (pins:List (Addr×Obj)) (s:Shared) (σ:St) (H:Hp) (x y:V) (v u:Value) (Q:VK),bA X pins σ H s->bL x v->bL y u->r x y H Q ->
  subscripted slice false v u=operate [v,u] (getItem v u)->wpAny (model X.prog X.w) X.A (subscriptTail value slice v u) (EP X pins σ Q) X.xe s
def OS (X:Cx) (id:String) (r:V->List V->Hp->VK->Prop):Prop:=
 ∀ (pins:List (Addr×Obj)) (s:Shared) (σ:St) (H:Hp) (x:V) (xs:List V) (v:Value) (us:List Value) (Q:VK),bA X pins σ H s->bL x v->bN xs us->r x xs H Q ->
  wpAny (model X.prog X.w) X.A (call (.builtin id) (v::us)) (EP X pins σ Q) X.xe s
section
variable {X:Cx} {a b:Expr} {ta tb:TE} {pos:Pos}
theorem OT.or {r r':R2} (h:OT X r) (h':OT X r'):OT X (fun x y H Q=>r x y H Q∨r' x y H Q):=by
 intro value slice pins s σ H x y v u Q I rx ry q hs
 rcases q with q|q
 ·exact h value slice pins s σ H x y v u Q I rx ry q hs
 ·exact h' value slice pins s σ H x y v u Q I rx ry q hs
theorem cD {r:R2} (hr:OT X r) (ha:PE X a ta) (hb:PE X b tb) (hs:SQ b):PE X (.Subscript a b pos) (As r ta tb):=by
 intro pins s σ H Q I h
 exact Subscript_ (Ag ha hb I h fun v u s2 x y H2 I2 rx ry q=>hr a b pins s2 σ H2 x y v u Q I2 rx ry q (hs _ _))
def QJ (K:Frag):R2:=fun x y H Q=>∃ p xs i v,x=.ref p/\y=.int i/\cN K H p xs/\fM xs i=some v/\Q v H
def QI (K:Frag):R2:=fun x y H Q=>∃ p xs i v,x=.ref p/\y=.int i/\fV K H p xs/\fM xs i=some v/\Q v H
def XU:R2:=fun x y H Q=>∃ z i c,x=.str z/\y=.int i/\z.length<=sizeLine/\fM z.cps.toList i=some c/\Q (.str ⟨#[c]⟩) H
theorem RQ:OT X (QJ X.K):=by
 intro value slice pins s σ H x y v u Q I rx ry h hs
 obtain ⟨p,xs,i,z,rfl,rfl,hq,he,q⟩:=h
 cases rx
 obtain ⟨t,rfl⟩:=ry
 obtain ⟨its,r,pl,hz⟩:=I.list hq
 obtain ⟨j,h1,h2,h3,h4,h5⟩:=yX he
 obtain ⟨w,ew,rw'⟩:=r.get h2
 have hl:=r.length
 have hn:=uK
 have fin:EP X pins σ Q w s:=⟨z,H,I,rw',q⟩
 by_cases h0:0<=i
 ·have hj:i.toNat=j:=by
   rw [seqIndex_of h0 h5] at h1
   exact Option.some.inj h1
  exact item_listR pl.isList h0 (by omega) (by rw [hj]; simpa using ew) fin hs
 ·have hj:(i+(its.toArray.size:Int)).toNat=j:=by
   rw [seqIndex_neg (by omega) h4] at h1
   rw [size_toArray,← hl]
   exact Option.some.inj h1
  exact subscriptTail_builtinR (x:=w) pl.isList.typeIs slot_list_getitem.lookup
   (wpAny_getItem_list_neg (Q:=fun r s'=>r=w/\EP X pins σ Q r s') pl.isList (by omega) (by rw [size_toArray] <;> omega) (by omega) (by rw [hj]; simpa using ew) ⟨rfl,fin⟩) hs
theorem ZE:OT X (QI X.K):=by
 intro value slice pins s σ H x y v u Q I rx ry h hs
 obtain ⟨p,xs,i,z,rfl,rfl,hq,he,q⟩:=h
 cases rx
 obtain ⟨t,rfl⟩:=ry
 obtain ⟨its,r,pl,hz⟩:=I.tuple hq
 obtain ⟨j,h1,h2,h3,h4,h5⟩:=yX he
 obtain ⟨w,ew,rw'⟩:=r.get h2
 have hl:=r.length
 have hn:=uK
 have fin:EP X pins σ Q w s:=⟨z,H,I,rw',q⟩
 exact subscriptTail_builtinR (x:=w) pl.typeIs slot_tuple_getitem.lookup
  (getItem_tuple (j:=j) (Q:=fun r s'=>r=w/\EP X pins σ Q r s') pl (by omega) (by omega) (by rw [size_toArray,← hl]; exact h1) (by simpa using ew) ⟨rfl,fin⟩) hs
theorem ZF:OT X XU:=by
 intro value slice pins s σ H x y v u Q I rx ry h hs
 obtain ⟨z,i,c,rfl,rfl,hz,he,q⟩:=h
 obtain ⟨t,rfl⟩:=rx
 obtain ⟨t',rfl⟩:=ry
 obtain ⟨j,h1,h2,h3,h4,h5⟩:=yX he
 have hl:z.cps.toList.length=z.length:=by simp [Str.length]
 rw [hl] at h1 h4 h5
 have hn:=uK
 exact tail_any (typeIs_str s z t) slot_str_getitem.lookup (getItem_str (c:=c) (by
  have e1:decide (i < -(2 ^ 63:Int))=false:=decide_eq_false (by omega)
  have e2:decide (i ≥ 2 ^ 63)=false:=decide_eq_false (by omega)
  rw [e1,e2,Bool.or_false]) (by rw [h1]; simpa using h2) ⟨.str ⟨#[c]⟩,H,I.tok _,⟨_,rfl⟩,q⟩) hs
def rIx (K:Frag):R2:=fun x y H Q=>QJ K x y H Q∨QI K x y H Q∨XU x y H Q
theorem ZG:OT X (rIx X.K):=RQ.or (ZE.or ZF)
theorem EA (its:List Value) (n j:Nat) (u:Value):Obj.mapSeq (·.setIfInBounds j u) { cls:=.type "list",data:=.seq its.toArray n }={ cls:=.type "list",data:=.seq (its.set j u).toArray n }:=by
 simp [Obj.mapSeq]
theorem bA.lst {pins:List (Addr×Obj)}{σ:St}{H:Hp}{s:Shared}{p:Addr}{xs:List V} (I:bA X pins σ H s) (h:H p=some (.lst xs)) :
  ∃ (its:List Value) (n:Nat),bN xs its/\s.heap.get? p=some { cls:=.type "list",data:=.seq its.toArray n }/\xs.length<=sizeLine:=by
 obtain ⟨z,its,n,r,e⟩:=I.hok p _ h
 exact ⟨its,n,r,e,z⟩
theorem bA.lstUpd {pins:List (Addr×Obj)}{σ:St}{H:Hp}{s:Shared}{p:Addr}{xs ys:List V}{its its':List Value}{n n':Nat}{f:Obj->Obj} (I:bA X pins σ H s) (h:H p=some (.lst xs))
  (ho:s.heap.get? p=some { cls:=.type "list",data:=.seq its.toArray n }) (hf:f { cls:=.type "list",data:=.seq its.toArray n }={ cls:=.type "list",data:=.seq its'.toArray n' }) (r:bN ys its') (hz:ys.length<=sizeLine) (t:Nat) :
  bA X pins σ (upd H p (.lst ys)) { s with heap:=s.heap.update p f,toks:=t }:=by
 have e:(s.heap.update p f).get? p=some { cls:=.type "list",data:=.seq its'.toArray n' }:=by
  rw [get?_update_self f ho (by rw [hf] <;> rfl),hf]
 refine I.write (x:=p) (e:=p) (by rw [h]; trivial) (.inl rfl) (fun b u hb q=>(get?_update_other _ _ (Ne.symm hb)).trans q) ⟨_,e⟩ ?_
 exact ⟨hz,its',n',r,e⟩
def UC:V->V->V->Hp->(Hp->Prop)->Prop:=fun o i v H Q=>∃ p xs k j,o=.ref p/\i=.int k/\H p=some (.lst xs)/\OX xs.length k=some j/\Q (upd H p (.lst (xs.set j v)))
theorem LC:Fv X UC:=by
 intro pins s σ H o i v ov iv u Q I ro ri rv h
 obtain ⟨p,xs,k,j,rfl,rfl,hp,hj,q⟩:=h
 cases ro
 obtain ⟨t,rfl⟩:=ri
 obtain ⟨its,n,r,ho,hz⟩:=I.lst hp
 obtain ⟨h1,h2,h3,h4⟩:=GJ hj
 have hl:=r.length
 have hn:=uK
 have I':bA X pins σ (upd H p (.lst (xs.set j v))) { s with heap:=s.heap.update p (Obj.mapSeq (·.setIfInBounds j u)) }:=
  I.lstUpd hp ho (EA its n j u) (r.set rv j) (by rw [List.length_set]; exact hz) s.toks
 by_cases h0:0<=k
 ·have hk:k.toNat=j:=by
   rw [seqIndex_of h0 h4] at h1
   exact Option.some.inj h1
  exact PySem.W.ki_setAt ho h0 (by omega) (by rw [size_toArray,← hl]; exact h4) (by rw [hk]; exact ⟨_,I',q⟩)
 ·have hk:(k+(its.toArray.size:Int)).toNat=j:=by
   rw [seqIndex_neg (by omega) h3] at h1
   rw [size_toArray,← hl]
   exact Option.some.inj h1
  exact PySem.W.ki_setBack ho (by omega) (by rw [size_toArray,← hl]; exact h3) (by omega) (by rw [hk]; exact ⟨_,I',q⟩)
theorem xD (lo hi:Option Int) (n:Nat):(sliceBounds lo hi none n).1=((HT.sIx n 0 lo:Nat):Int)/\(sliceBounds lo hi none n).2.1=((HT.sIx n n hi:Nat):Int)/\(sliceBounds lo hi none n).2.2=1:=by
 refine ⟨?_,?_,rfl⟩
 ·cases lo with
 |none=>simp [sliceBounds,HT.sIx]
 |some i =>
   simp only [sliceBounds,HT.sIx,Option.getD_none,show (1:Int) > 0 by decide,if_true]
   by_cases h:i < 0
   ·simp only [h,if_true] <;> omega
   ·simp only [h,if_false] <;> omega
 ·cases hi with
 |none=>simp [sliceBounds,HT.sIx]
 |some i =>
   simp only [sliceBounds,HT.sIx,Option.getD_none,show (1:Int) > 0 by decide,if_true]
   by_cases h:i < 0
   ·simp only [h,if_true] <;> omega
   ·simp only [h,if_false] <;> omega
theorem vH (its:List Value) (lo hi:Option Int):slicePick its.toArray lo hi none=((its.drop (HT.sIx its.length 0 lo)).take (HT.sIx its.length its.length hi - HT.sIx its.length 0 lo)).toArray:=by
 obtain ⟨h1,h2,h3⟩:=xD lo hi its.toArray.size
 unfold slicePick
 rw [h1,h2,h3]
 simp only [sliceRange_one,pick_run,size_toArray] <;> rfl
def Dr (K:Frag):V->Option Int->Option Int->Hp->VK->Prop:=fun x lo hi H Q=>∃ a xs,x=.ref a/\cN K H a xs/\∀ p,H p=none->Q (.ref p) (upd H p (.lst (fP xs lo hi)))
theorem PL:SN X (Dr X.K):=by
 intro pins s σ H x v vl vu lo hi sl Q I rx hs pl pu h
 obtain ⟨a,xs,rfl,hx,q⟩:=h
 cases rx
 obtain ⟨its,r,ht,hz⟩:=I.list hx
 have hlen:=r.length
 refine ⟨"list",_,slot_list_getitem.lookup,ht.isList.typeIs,?_⟩
 refine wpAny_getItem_list_slice ht.isList hs pl pu .none (by simp) ?_ (by rw [size_toArray] <;> omega)
 rw [vH,← hlen]
 refine ⟨.ref s.heap.objs.size,_,I.laid (t':=s.toks) (o:=.lst (fP xs lo hi)) (fun b ob q=>get?_push_of_some _ q) (le_refl _) ?_,rfl,q _ (I.hok.fresh (le_refl _))⟩
 exact ⟨le_trans (rF xs lo hi) hz,_,0,(r.drop (HT.sIx xs.length 0 lo)).take (HT.sIx xs.length xs.length hi - HT.sIx xs.length 0 lo),get?_push_size _ rfl⟩
def lK:V->Bool
|.non=>true
|.bl _=>true
|.int _=>true
|.str _=>true
|_=>false
def UX:V->V->Bool
|.non,.non=>true
|.bl a,.bl b=>a==b
|.bl a,.int b=>(if a then 1 else 0)==b
|.int a,.bl b=>a==(if b then 1 else 0)
|.int a,.int b=>a==b
|.str a,.str b=>a==b
|_,_=>false
theorem ZO {A:Around}{s:Shared}{y x:V}{u v:Value} (ry:bL y u) (rx:bL x v) (fy:lK y=true) (fx:lK x=true):SeqAt.EqAt A s u v (UX y x):=by
 cases y with
|non =>
  cases ry
  cases x with
 |non=>cases rx; exact SeqAt.EqAt.same _
 |bl b=>cases rx; exact SeqAt.EqAt.none_bool b
 |int b=>obtain ⟨t,rfl⟩:=rx; exact SeqAt.EqAt.none_int b t
 |str b=>obtain ⟨t,rfl⟩:=rx; exact SeqAt.EqAt.none_str b t
 |_=>exact absurd (show false=true from fx) Bool.false_ne_true
|bl a =>
  cases ry
  cases x with
 |non=>cases rx; exact SeqAt.EqAt.bool_none a
 |bl b=>cases rx; exact SeqAt.EqAt.bool_bool a b
 |int b=>obtain ⟨t,rfl⟩:=rx; exact SeqAt.EqAt.bool_int a b t
 |str b=>obtain ⟨t,rfl⟩:=rx; exact SeqAt.EqAt.bool_str a b t
 |_=>exact absurd (show false=true from fx) Bool.false_ne_true
|int a =>
  obtain ⟨t',rfl⟩:=ry
  cases x with
 |non=>cases rx; exact SeqAt.EqAt.int_none a t'
 |bl b=>cases rx; exact SeqAt.EqAt.int_bool a t' b
 |int b=>obtain ⟨t,rfl⟩:=rx; exact SeqAt.EqAt.int_int a t' b t
 |str b=>obtain ⟨t,rfl⟩:=rx; exact SeqAt.EqAt.int_str a t' b t
 |_=>exact absurd (show false=true from fx) Bool.false_ne_true
|str a =>
  obtain ⟨t',rfl⟩:=ry
  cases x with
 |non=>cases rx; exact SeqAt.EqAt.str_none a t'
 |bl b=>cases rx; exact SeqAt.EqAt.str_bool a t' b
 |int b=>obtain ⟨t,rfl⟩:=rx; exact SeqAt.EqAt.str_int a t' b t
 |str b=>obtain ⟨t,rfl⟩:=rx; exact SeqAt.EqAt.str_str a t' b t
 |_=>exact absurd (show false=true from fx) Bool.false_ne_true
|_=>exact absurd (show false=true from fy) Bool.false_ne_true
def EG (x:V) (u:Value):Bool:=match u with
|.none=>UX .non x
|.bool b=>UX (.bl b) x
|.int i _=>UX (.int i) x
|.str z _=>UX (.str z) x
|_=>false
theorem NW {x y:V}{u:Value} (r:bL y u) (f:lK y=true):EG x u=UX y x:=by
 cases y with
|non=>cases r; rfl
|bl b=>cases r; rfl
|int i=>obtain ⟨t,rfl⟩:=r; rfl
|str z=>obtain ⟨t,rfl⟩:=r; rfl
|_=>exact absurd (show false=true from f) Bool.false_ne_true
theorem pM {x:V}:∀ {xs:List V}{us:List Value},bN xs us->xs.all lK=true->us.any (EG x)=xs.any fun y=>UX y x
|_,_,.nil,_=>rfl
|y::xs,u::us,.cons r t,f=>by
  rw [all_cons,Bool.and_eq_true] at f
  rw [any_cons,any_cons,NW r f.1,pM t f.2]
theorem lY {A:Around}{s:Shared}{x:V}{v:Value} (rx:bL x v) (fx:lK x=true):∀ {xs:List V}{us:List Value},bN xs us->xs.all lK=true->∀ u∈us,SeqAt.EqAt A s u v (EG x u)
|_,_,.nil,_=>fun u hu=>by cases hu
|y::xs,u::us,.cons r t,f=>fun u' hu=>by
  rw [all_cons,Bool.and_eq_true] at f
  rcases mem_cons.mp hu with rfl|hu
  ·rw [NW r f.1]; exact ZO r rx f.1 fx
  ·exact lY rx fx t f.2 u' hu
def Gn (x:V) (xs:List V):Bool:=xs.any fun y=>UX y x
def Gk (K:Frag) (neg:Bool):R2:=fun x y H Q=>∃ p xs,y=.ref p/\(cN K H p xs∨fV K H p xs)/\lK x=true/\xs.all lK=true/\Q (.bl (if neg then !Gn x xs else Gn x xs)) H
theorem HY:jJ X (compareOp .In) (Gk X.K false):=by
 intro pins s σ H x y v u Q I rx ry h
 obtain ⟨p,xs,rfl,hq,fx,fs,q⟩:=h
 cases ry
 rcases hq with hq|hq
 ·obtain ⟨its,r,pl,hz⟩:=I.list hq
  refine SeqAt.in_listAt (EG x) pl.isList (fun w hw=>lY rx fx r fs w (by simpa using hw)) ⟨.bl _,H,I,rfl,?_⟩
  rw [show its.toArray.any (EG x)=its.any (EG x) by simp,pM r fs]
  exact q
 ·obtain ⟨its,r,pl,hz⟩:=I.tuple hq
  refine SeqAt.in_tupleAt (EG x) pl (fun w hw=>lY rx fx r fs w (by simpa using hw)) ⟨.bl _,H,I,rfl,?_⟩
  rw [show its.toArray.any (EG x)=its.any (EG x) by simp,pM r fs]
  exact q
theorem xX:jJ X (compareOp .NotIn) (Gk X.K true):=by
 intro pins s σ H x y v u Q I rx ry h
 obtain ⟨p,xs,rfl,hq,fx,fs,q⟩:=h
 cases ry
 rcases hq with hq|hq
 ·obtain ⟨its,r,pl,hz⟩:=I.list hq
  refine SeqAt.notIn_listAt (EG x) pl.isList (fun w hw=>lY rx fx r fs w (by simpa using hw)) ⟨.bl _,H,I,rfl,?_⟩
  rw [show its.toArray.any (EG x)=its.any (EG x) by simp,pM r fs]
  exact q
 ·obtain ⟨its,r,pl,hz⟩:=I.tuple hq
  refine SeqAt.notIn_tupleAt (EG x) pl (fun w hw=>lY rx fx r fs w (by simpa using hw)) ⟨.bl _,H,I,rfl,?_⟩
  rw [show its.toArray.any (EG x)=its.any (EG x) by simp,pM r fs]
  exact q
theorem yU:fD X (.type "list") (fun xs H Q=>∃ p ys,xs=[.ref p]/\(cN X.K H p ys∨fV X.K H p ys)/\∀ l,H l=none->Q (.ref l) (upd H l (.lst ys))):=by
 intro pins s σ H xs us Q I r h
 obtain ⟨p,ys,rfl,hq,q⟩:=h
 obtain ⟨u,rfl,rx⟩:=vV r
 cases rx
 have fin:∀ (its:List Value),bN ys its->ys.length<=sizeLine->∀ (h':Heap) (c':Nat),(∀ b o',s.heap.get? b=some o'->h'.get? b=some o') ->
   h'.get? s.heap.objs.size=some { cls:=.type "list",dict:=none,data:=.seq its.toArray c',slots:=#[] }->EP X pins σ Q (.ref s.heap.objs.size) { s with heap:=h' }:=fun its r' hz h' c' kp e =>
  ⟨.ref s.heap.objs.size,_,I.laid (t':=s.toks) kp (le_refl _) (show cS X.prog X.w _ h' _ (.lst ys) from ⟨hz,its,c',r',e⟩),rfl,q _ (I.hok.fresh (le_refl _))⟩
 rcases hq with hq|hq
 ·obtain ⟨its,r',pl,hz⟩:=I.list hq
  have hlen:=r'.length
  obtain ⟨o,ho,hc,n,hd⟩:=pl.isList
  exact call_list_seq p (.inl rfl) ho hc hd (fun h' c' kp e=>fin its r' hz h' c' kp e) (by simp only [size_toArray] <;> omega)
 ·obtain ⟨its,r',pl,hz⟩:=I.tuple hq
  have hlen:=r'.length
  obtain ⟨o,ho,hc,n,hd⟩:=pl
  exact call_list_seq p (.inr rfl) ho hc hd (fun h' c' kp e=>fin its r' hz h' c' kp e) (by simp only [size_toArray] <;> omega)
theorem dE:fD X (.type "tuple") (fun xs H Q=>∃ p ys,xs=[.ref p]/\((cN X.K H p ys/\∀ l,H l=none->Q (.ref l) (upd H l (.tup ys)))∨(fV X.K H p ys/\Q (.ref p) H))):=by
 intro pins s σ H xs us Q I r h
 obtain ⟨p,ys,rfl,h⟩:=h
 obtain ⟨u,rfl,rx⟩:=vV r
 cases rx
 rcases h with ⟨hq,q⟩|⟨hq,q⟩
 ·obtain ⟨its,r',pl,hz⟩:=I.list hq
  have hlen:=r'.length
  refine call_tuple_list pl.isList (fun h' kp=>?_) (by simp only [size_toArray] <;> omega)
  have I1:bA X pins σ H { s with heap:=h' }:=I.kept (t':=s.toks) kp
  have I2:bA X pins σ (upd H h'.objs.size (.tup ys)) { s with heap:=h'.push { cls:=.type "tuple",data:=.seq its.toArray } }:=
   I1.laid (t':=s.toks) (fun b o e=>get?_push_of_some _ e) (le_refl _) (show cS X.prog X.w _ _ _ (.tup ys) from ⟨⟨hz,_,get?_push_size _ rfl,rfl⟩,its,r',IsTup.new _ _⟩)
  exact ⟨.ref h'.objs.size,_,I2,rfl,q _ (I1.hok.fresh (le_refl _))⟩
 ·obtain ⟨its,r',pl,hz⟩:=I.tuple hq
  exact call_tuple_same pl ⟨.ref p,H,I,rfl,q⟩
def Gw (K:Frag) (T:String) (x:V) (H:Hp):Prop:=match x with
|.str _=>T="str"
|.int _=>T="int"
|.ref p=>(T="list"/\∃ xs,cN K H p xs)∨(T="tuple"/\∃ o,K.lookup p=some o/\o.cls=.type "tuple"/\o.dict=none) ∨
   (T="dict"/\((∃ kvs,H p=some (.dK kvs))∨∃ kvs,H p=some (.dT kvs)))∨(T="set"/\∃ S n,H p=some (.set S n))
|_=>False
theorem KD {pins:List (Addr×Obj)}{σ:St}{H:Hp}{s:Shared}{T:String}{x:V}{v:Value} (I:bA X pins σ H s) (r:bL x v) (ty:Gw X.K T x H) :
  s.TypeIs v T/\∀ a,v=.ref a->∃ ob,s.heap.get? a=some ob/\ob.dict=none:=by
 cases x with
|str z =>
  obtain ⟨t,rfl⟩:=r
  cases (show T="str" from ty)
  exact ⟨typeIs_str s z t,fun _ e=>nomatch e⟩
|int i =>
  obtain ⟨t,rfl⟩:=r
  cases (show T="int" from ty)
  exact ⟨typeIs_int s i t,fun _ e=>nomatch e⟩
|ref p =>
  cases r
  rcases ty with ⟨rfl,xs,hq⟩|⟨rfl,o,hk,hc,hd⟩|⟨rfl,hk⟩|⟨rfl,S,n,hk⟩
  ·obtain ⟨its,_,pl,_⟩:=I.list hq
   refine ⟨pl.isList.typeIs,fun a e=>?_⟩
   cases e
   obtain ⟨o,n,e,c,hd,_⟩:=pl
   exact ⟨o,e,hd⟩
  ·refine ⟨⟨o,I.kIn p o hk,hc⟩,fun a e=>?_⟩
   cases e
   exact ⟨o,I.kIn _ o hk,hd⟩
  ·have z:∃ o,s.heap.get? p=some o/\o.ExactDict:=by
    rcases hk with ⟨kvs,hk⟩|⟨kvs,hk⟩
    ·obtain ⟨_,_,_,_,o,_,_,e,ex,_⟩:=I.hok p _ hk
     exact ⟨o,e,ex⟩
    ·obtain ⟨_,_,_,_,o,_,_,e,ex,_⟩:=I.hok p _ hk
     exact ⟨o,e,ex⟩
   obtain ⟨o,e,ex⟩:=z
   refine ⟨⟨o,e,ex.1⟩,fun a e2=>?_⟩
   cases e2
   exact ⟨o,e,ex.2.1⟩
  ·obtain ⟨o,_,_,_,e,ex,_⟩:=I.hok p _ hk
   refine ⟨⟨o,e,ex.1⟩,fun a e2=>?_⟩
   cases e2
   exact ⟨o,e,ex.2.1⟩
|_=>exact False.elim ty
def Gx (K:Frag) (T:String) (r:V->List V->Hp->VK->Prop) (to:TE) (t:TA):TE:=fun σ H Q=>to σ H fun x H1=>Gw K T x H1/\t σ H1 fun xs H2=>r x xs H2 Q
variable {o e:Expr} {es:List Expr} {to:TE} {t:TA} {name:Str} {apos cpos:Pos} {T id:String} {r:V -> List V -> Hp -> VK -> Prop}
theorem cP (pa:PlainAttrs T) (slot:Slot T name id) (hty:typeOf (.builtin id)=pure (.type "method_descriptor")) (hm:OS X id r) (ho:PE X o to) (ha:PA X (e::es) t)
  (hbase:attributeBase o name X.env (eval o X.env)=eval o X.env:=by rfl)
  (hfew:((backTo cpos (starEach (e::es) X.env)).all (fun x=>!x.1)&&(backToKw cpos (keywordEach [] X.env)).all (fun x=>x.1.isSome)
   && decide ((e::es).length+([]:List Keyword).length+(if ([]:List Keyword).isEmpty then 0 else 1) < 30))=true:=by rfl)
  (hline:(apos.endLine==cpos.line)=true:=by rfl) (hs:starEach (e::es) X.env=(false,eval e X.env)::starEach es X.env:=by rfl) (hplain:(backTo cpos (starEach es X.env)).any (·.1)=false:=by rfl) :
  PE X (.Call (.Attribute o name apos) (e::es) [] cpos) (Gx X.K T r to t):=by
 intro pins s σ H Q I h
 refine wpAny_Call_method_late hbase hfew hline rfl (cJ (ho pins s σ H _ I h) fun v s1 ⟨x,H1,I1,r1,ty,q1⟩=>?_)
 obtain ⟨h1,h2⟩:=KD I1 r1 ty
 refine ⟨T,id,pa,slot,hty,h1,h2,?_⟩
 have hA:=ha cpos pins s1 σ H1 _ I1 q1
 rw [hs] at hA ⊢
 refine Calls.callWith_builtin (by show (false || (backTo cpos (starEach es X.env)).any (·.1))=false; rw [hplain] <;> rfl) (Calls.evalArgs_plain ?_)
 exact cJ hA fun us s2 ⟨vs,H2,I2,r2,q2⟩=>hm pins s2 σ H2 x vs v us Q I2 r1 r2 q2
/- xs.append(e),list.index on a module's tuple .. are OS facts of 06m -/
end
end
section
def Jk (X:Cx) (id:String) (r:V->List V->Hp->VK->Prop):Prop:=
 ∀ (pins:List (Addr×Obj)) (s:Shared) (σ:St) (H:Hp) (x:V) (xs:List V) (v:Value) (us:List Value) (Q:VK),bA X pins σ H s->bL x v->bN xs us->r x xs H Q ->
  wpAny (model X.prog X.w) X.A (call (.builtin id) (v::us)) (EP X pins σ Q) X.xe s
theorem bN.one:∀ {x:V}{us:List Value},bN [x] us->∃ u,us=[u]/\bL x u
 :=fun h=>by cases h with|cons r h=>cases h; exact ⟨_,rfl,r⟩
theorem bN.two:∀ {x y:V}{us:List Value},bN [x,y] us->∃ u v,us=[u,v]/\bL x u/\bL y v
 :=fun h=>by cases h with|cons r h=>cases h with|cons q h=>cases h; exact ⟨_,_,rfl,r,q⟩
section
variable {X:Cx} {pins:List (Addr×Obj)} {σ:St} {H:Hp} {s:Shared} {l b:Addr} {xs ys zs:List V}
theorem bA.lset {its its':List Value}{n:Nat}{f:Array Value->Array Value}{t':Nat} (I:bA X pins σ H s) (hH:H l=some (.lst xs))
  (e:s.heap.get? l=some { cls:=.type "list",data:=.seq its.toArray n }) (hf:f its.toArray=its'.toArray) (hv:bN ys its') (hz:ys.length<=sizeLine) :
  bA X pins σ (upd H l (.lst ys)) { s with heap:=s.heap.update l (Obj.mapSeq f),toks:=t' }:=by
 have q:=PySem.IsL.update e f
 rw [hf] at q
 refine I.write (x:=l) (e:=l) (by rw [hH]; exact trivial) (.inl rfl) (fun b' u hb hu=>(get?_update_other s.heap (Obj.mapSeq f) (Ne.symm hb)).trans hu) ⟨_,q⟩ ?_
 exact ⟨hz,its',_,hv,q⟩
theorem bA.lnew {its:List Value}{t':Nat} (I:bA X pins σ H s) (hv:bN ys its) (hz:ys.length<=sizeLine) :
  bA X pins σ (upd H s.heap.objs.size (.lst ys)) { s with heap:=s.heap.push { cls:=.type "list",data:=.seq its.toArray },toks:=t' }:=
 I.laid (fun _ _ q=>get?_push_of_some _ q) (le_refl _) ⟨hz,its,0,hv,get?_push_size _ rfl⟩
theorem bA.fresh (I:bA X pins σ H s):H s.heap.objs.size=none:=I.hok.fresh (le_refl _)
theorem bA.lstM (I:bA X pins σ H s) (hH:H l=some (.lst xs)):xs.length<=sizeLine/\∃ (its:List Value) (n:Nat),bN xs its/\xs.length=its.length/\s.heap.get? l=some { cls:=.type "list",data:=.seq its.toArray n }:=by
 obtain ⟨z,its,n,r,e⟩:=I.hok l _ hH
 exact ⟨z,its,n,r,r.length,e⟩
theorem MT {n:Nat} (h:n<=sizeLine):Builtin.List.listTooLong n=false:=by
 unfold Builtin.List.listTooLong
 exact decide_eq_false (by omega)
end
section
variable {X:Cx}
def FX:V->List V->Hp->VK->Prop:=fun x vs H Q=>∃ l xs y,x=.ref l/\vs=[y]/\H l=some (.lst xs)/\xs.length < sizeLine/\Q .non (upd H l (.lst (xs++[y])))
theorem cK:Jk X "list.append" FX:=by
 intro pins s σ H x vs v us Q I rx rv h
 obtain ⟨l,xs,y,rfl,rfl,hH,hz,q⟩:=h
 cases rx
 obtain ⟨u,rfl,ru⟩:=rv.one
 obtain ⟨z,its,n,r,hl,e⟩:=I.lstM hH
 refine call_meets F.slot_list_append ⟨_,e,rfl⟩ F.entry_list_append (F.args_list_append_2 _ _) (PySem.list_append l its.toArray n u (by rw [size_toArray]; omega)) ⟨e,?_⟩
 refine ⟨.non,_,I.lset (its':=its++[u]) hH e (by simp) (r.append (.cons ru .nil)) ?_,rfl,q⟩
 rw [length_append,List.length_singleton]
 omega
def FW:V->List V->Hp->VK->Prop:=fun x vs H Q=>∃ l b xs zs,x=.ref l/\vs=[.ref b]/\H l=some (.lst xs)/\H b=some (.lst zs)/\xs.length+zs.length<=sizeLine/\Q .non (upd H l (.lst (xs++zs)))
theorem wO:Jk X "list.extend" FW:=by
 intro pins s σ H x vs v us Q I rx rv h
 obtain ⟨l,b,xs,zs,rfl,rfl,hH,hB,hz,q⟩:=h
 cases rx
 obtain ⟨u,rfl,ru⟩:=rv.one
 cases ru
 obtain ⟨z,its,n,r,hl,e⟩:=I.lstM hH
 obtain ⟨z2,its2,n2,r2,hl2,e2⟩:=I.lstM hB
 have hsz:its.toArray.size+its2.toArray.size<=sizeLine:=by rw [size_toArray,size_toArray]; omega
 have hlong:¬ (!its.toArray.isEmpty&&Builtin.List.listTooLong (its.toArray.size+its2.toArray.size))=true:=by
  rw [MT hsz,Bool.and_false]
  exact Bool.false_ne_true
 refine call_meets F.slot_list_extend ⟨_,e,rfl⟩ F.entry_list_extend (F.args_list_extend_2 _ _)
  (AutoSeq1.list_extend_list_list_0 l its.toArray n b its2.toArray n2 hlong (by rw [size_toArray]; omega) (by omega)) ⟨e,e2,?_⟩
 refine ⟨.non,_,I.lset (its':=its++its2) hH e (by simp) (r.append r2) ?_,rfl,q⟩
 rw [length_append]
 omega
def Eb:R2:=fun x y H Q=>∃ l b xs zs,x=.ref l/\y=.ref b/\H l=some (.lst xs)/\H b=some (.lst zs)/\xs.length+zs.length<=sizeLine/\∀ p,H p=none->Q (.ref p) (upd H p (.lst (xs++zs)))
theorem YO:jJ X (binaryOp .Add) Eb:=by
 intro pins s σ H x y v u Q I rx ry h
 obtain ⟨l,b,xs,zs,rfl,rfl,hH,hB,hz,q⟩:=h
 cases rx
 cases ry
 obtain ⟨z,its,n,r,hl,e⟩:=I.lstM hH
 obtain ⟨z2,its2,n2,r2,hl2,e2⟩:=I.lstM hB
 refine PySem.P.add_list e e2 ?_ (by rw [size_toArray,size_toArray]; omega)
 have ea:its.toArray++its2.toArray=(its++its2).toArray:=by simp
 rw [ea]
 exact ⟨.ref _,_,I.lnew (t':=s.toks) (r.append r2) (by rw [length_append]; omega),rfl,q _ I.fresh⟩
end
section
variable {prog:Program} {w:World} {A:Around} {E:Value -> Shared -> Prop} {s:Shared}
end
section
variable {X:Cx}
end
end
end L2
namespace Att
open PySem PySem.W PySem.Calls PyProof.Rows
theorem rP {P:Params}{h:Heap}:∀ (ns:List Int) (vs:List Value),WellAll P h vs (ns.map WData.int)->IntsAre vs ns:=by
 intro ns
 induction ns with
|nil =>
  intro vs w
  rw [map_nil] at w
  cases w
  exact .nil
|cons n ns ih =>
  intro vs w
  rw [map_cons] at w
  cases w with
 |cons a b =>
   cases a
   exact .cons _ _ (ih _ b)
theorem HL {l:OpenLaw}{n:Nat} (hn:l.most=some n) {P:Params}{h:Heap}{args:List WData}{vals:List Value}
  (hpre:l.row.toRowW.claim.pre args=true) (hwl:WellAll P h vals args) :
  ∃ a vs ns,vals=[Value.ref a]/\args=[WData.list (ns.map WData.int)]/\h.get? a=some { cls:=.type "list",data:=.seq vs.toArray }/\IntsAre vs ns/\ns.length<=n:=by
 have hsh:WShape.hasAll [] args [.list .int]=true:=(pre_splitW hpre).1
 have hc:l.pre.holds [] { args:=args }=true:=(pre_splitW hpre).2
 obtain ⟨d,r,rfl,h1,h2⟩:=hasAllW_cons hsh
 obtain rfl:=hasAllW_nil h2
 obtain ⟨xs,rfl,h3⟩:=hasW_list h1
 obtain ⟨ns,rfl⟩:=items_int h3
 have hlen:ns.length<=n:=by
  unfold OpenLaw.pre at hc
  have h4:(WTm.not (.lt (.lit (.int (n:Int))) (.len (.arg 0)))).holds [] { args:=[.list (ns.map .int)] }=true:=by
   have h4:=(holds_andW hc).1
   rw [hn] at h4
   exact h4
  have h5:=condW_of h4 (w_not (w_lt w_lit (w_len_list (w_arg rfl))))
  rw [length_map] at h5
  refine Nat.le_of_not_lt fun q=>?_
  have q':(n:Int) < ((ns.length:Nat):Int):=by omega
  first
  |(rw [decide_eq_true q'] at h5; exact absurd h5 (by decide))
  |(simp at h5; omega)
 cases hwl with
|cons w1 w2 =>
  cases w2
  cases w1 with
 |list ho hall=>exact ⟨_,_,ns,rfl,rfl,ho,rP ns _ hall,hlen⟩
theorem HU (l:OpenLaw) (args:List WData):l.row.toRowW.claim.post args (.bool true) args=true:=
 postW_of (r:=l.row.toRowW) (X:=(true==true))
  (show WShape.has [] (.bool true) .bool=true by first|rfl|decide|simp [WShape.has,WShape.arms,WShape.armsAll])
  (show (WTm.eq .res (.lit (.bool true))).value [] { args:=args,res:=some (.bool true),after:=args }=some (.bool (true==true)) from w_eq_bool (w_res rfl) w_lit) rfl
theorem attach_call {l:OpenLaw}{n:Nat}{q:Program}{loose:List Str}{XP:(Str->Option Value)->Heap->Prop}{YP:World->Heap->Prop}{d:DefRec}
  (hn:l.most=some n) (hdf:d.params.defaults=[])
  (call:∀ (w:World) (s₀ s₁:Shared) (mg mb:Str->Option Value) (fa:Addr) (o:Obj) (pm cd doc:Value) (a:Addr) (vs:List Value) (ns:List Int),
   Ground q loose [] XP w s₀ mg mb s₁.heap->YP w s₁.heap ->
   s₁.heap.get? fa=some o->o.data=.func (docDef d.name d.params d.body d.scope pm cd doc)->s₁.heap.CodeRec cd d.name->mg d.name=some (.ref fa) ->
   s₁.heap.get? a=some { cls:=.type "list",data:=.seq vs.toArray }->IntsAre vs ns->ns.length<=n->s₁.gens=#[] ->
   codeAny (model l.prog w) callerA (.call (.ref fa) ⟨[.ref a],[]⟩) (fun r s'=>r=.ok (.ret (.bool true))/\OldK s₁.heap s'.heap/\s'.os=s₁.os/\AllBare s'.gens) s₁) :
  WalkO q loose XP YP l.row.toRowW d [] (fun f vs=>PySem.call f vs):=by
 intro w s₀ s₁ mg mb G Y fa o pm cd doc dV kV ho hd hcd hD hmg hg args vals as hpre hlay hrd hwl hlo
 obtain rfl:dV=.none:=Dflts.none hD hdf
 obtain rfl:kV=.none:=Dflts.noKw hD
 obtain ⟨a,vs,ns,rfl,rfl,hobj,hints,hlen⟩:=HL hn hpre hwl
 refine enter_call (codeAny_mono (call w s₀ s₁ mg mb fa o pm cd doc a vs ns G Y ho (fd_plain hd) hcd hmg hobj hints hlen hg) fun r s' hq=>?_)
 obtain ⟨rfl,h2,h3,h4⟩:=hq
 exact ⟨.inl ⟨.bool true,.bool true,[],rfl,fun _=>rfl,.bool true,HU l _,fun _=>⟨List.Pairwise.nil,fun _ hm=>(nomatch hm)⟩⟩,h2,h3,h4⟩
section
variable {prog:Program} {w:World} {A:Around} {E:Value -> Shared -> Prop} {s:Shared} {K:Frag}
end
end Att
namespace L2
open PySem PySem.Spec PyProof.Rows
section
theorem vU:∀ {vs:List Value}{ns:List Int},IntsAre vs ns->bN (ns.map V.int) vs
|_,_,.nil=>.nil
|_,_,.cons n t h=>.cons ⟨t,rfl⟩ (vU h)
def Aj (H:Hp):Prop:=∀ b,H b=none∨∃ o xs,H b=some (.frz o (.lst xs))
theorem MY {P:Program}{w:World}{K:Frag}{mg mb:Str->Option Value}{CX:JU}{k:Nat}{fa a:Addr}{fd:FuncData}{x:Str}{sp:Sp}{s₁:Shared}{vs:List Value}{ns:List Int}
  (KX:K.In s₁.heap) (hns:s₁.heap.Ns mainGlobals mg) (hb:s₁.heap.Ns builtinsNs mb) (hbb:∀ x:Str,x≠"__name__"->mb x=bootBuiltins x) (hlim:s₁.heap.NoLimit) (hg:s₁.gens=#[])
  (ha:s₁.heap.get? a=some { cls:=.type "list",data:=.seq vs.toArray }) (hi:IntsAre vs ns) (hl:ns.length<=sizeLine) (hr:iA k callerA)
  (F:∀ base:Heap,K.In base->base.Ns mainGlobals mg->nY P w K mg base CX k fa fd [x] sp) (hbind:∀ (s:Shared) (u:Value),BindsTo s fd ⟨[u],[]⟩ [(x,u)])
  (hsp:∀ H:Hp,Aj H->cN K H a (ns.map V.int)->sp [.ref a] H (fun v _=>v=.bl true) fun _ _ _=>False)
  (hCX:∀ H e s',CX [] H s₁ (fun _ _ _=>False) e s'->False) :
  codeAny (model P w) callerA (.call (.ref fa) ⟨[.ref a],[]⟩) (fun r s'=>r=.ok (.ret (.bool true))/\OldK s₁.heap s'.heap/\s'.os=s₁.os/\AllBare s'.gens) s₁:=by
 have rv:=vU hi
 have lenV:=hi.length
 -- from an abstract heap in which nothing but the script may be tracked
 have core:∀ H:Hp,Aj H->cN K H a (ns.map V.int)->lH P w H s₁.heap->(∀ b,H b≠none->b=a)->(H a≠none->K.lookup a=none) ->
   codeAny (model P w) callerA (.call (.ref fa) ⟨[.ref a],[]⟩) (fun r s'=>r=.ok (.ret (.bool true))/\OldK s₁.heap s'.heap/\s'.os=s₁.os/\AllBare s'.gens) s₁:=by
  intro H hO hS hok hA hK
  have base_of:∀ {b:Addr} {o:Obj},s₁.heap.get? b=some o->H b=none->(yL s₁.heap H).get? b=some o:=fun e n=>NF e n
  have noA:∀ {b:Addr} {o:Obj} {es:Array DictEntry} {ep:Nat},s₁.heap.get? b=some o->o.data=.dict es ep->H b=none:=fun {b o es ep} e d=>by
   cases q:H b with
  |none=>rfl
  |some u =>
    have e':b=a:=hA b (by rw [q]; simp)
    subst e'
    rw [ha] at e; cases e
    have d':Data.seq vs.toArray _=Data.dict es ep:=d
    cases d'
  have nsK:∀ {b:Addr} {m:Str->Option Value},s₁.heap.Ns b m->(yL s₁.heap H).Ns b m:=fun {b m} ⟨o,es,ep,e,d,r⟩=>⟨o,es,ep,base_of e (noA e d),d,r⟩
  have hKb:K.In (yL s₁.heap H):=fun b o e=>base_of (KX b o e) (by
   cases q:H b with
  |none=>rfl
  |some u =>
    have e':b=a:=hA b (by rw [q]; simp)
    subst e'
    rw [hK (by rw [q]; simp)] at e; cases e)
  have hM:Mod K mg (yL s₁.heap H):=⟨hKb,nsK hns,⟨mb,nsK hb,hbb⟩,let ⟨mc,h1,h2⟩:=hlim; ⟨mc,nsK h1,h2⟩⟩
  have e0:SS P w K mg (yL s₁.heap H) callerA [] s₁ H:=⟨rfl,hM,fun b o e=>RG e,Nat.le_of_eq (IW _ _),trivial,fun b hb=>absurd (show b∈([]:List Addr) from hb) (by simp),hok,.of_eq hg⟩
  refine codeAny_mono ((F _ hKb (nsK hns)).run callerA [] s₁ H ⟨[.ref a],[]⟩ [.ref a] [.ref a] _ _ hr e0 (hbind s₁ (.ref a)) (.cons rfl .nil) (hsp H hO hS)) fun r s' h=>?_
  cases r with
 |error e=>exact (hCX H e s' h).elim
 |ok fl =>
   cases fl with
  |next=>exact False.elim h
  |brk=>exact False.elim h
  |cont=>exact False.elim h
  |ret u =>
    obtain ⟨v,H',os,bare,un,hok',r',q⟩:=h
    have q':v=.bl true:=q
    subst q'
    obtain rfl:u=Value.bool true:=r'
    refine ⟨rfl,OldK.of_keep fun b o e=>?_,os,bare⟩
    cases q:H b with
   |none=>exact un.keep b o e q (by intro z; exact absurd (show b∈([]:List Addr) from z) (by simp)) (by simp)
   |some u =>
     rcases hO b with z|⟨ob,xs,z⟩
     ·rw [q] at z; cases z
     ·have z2:=un.frzs b ob _ z
      obtain ⟨e1,_⟩:=hok b _ z
      obtain ⟨e2,_⟩:=hok' b _ z2
      rw [e] at e1; cases e1
      exact e2
 cases hk:K.lookup a with
|some o =>
  -- the script is one of the module's own objects
  have e:=KX a o hk
  rw [ha] at e
  cases e
  refine core (fun _=>none) (fun _=>.inl rfl) (.inr ⟨_,vs.toArray,_,hk,rfl,rfl,rfl,by rw [size_toArray,lenV]; exact hl,by simpa using rv⟩) (fun b u z=>by have z':(none:Option HO)=some u:=z; cases z') (fun b z=>absurd rfl z) fun z=>absurd rfl z
|none =>
  refine core (fun b=>if b=a then some (.frz { cls:=.type "list",data:=.seq vs.toArray } (.lst (ns.map V.int))) else none) (fun b=>?_) (.inl (.inr ⟨{ cls:=.type "list",data:=.seq vs.toArray },if_pos rfl⟩)) (fun b u z=>?_) (fun b z=>?_) fun _=>hk
  ·by_cases hb:b=a
   ·exact .inr ⟨_,_,if_pos hb⟩
   ·exact .inl (if_neg hb)
  ·by_cases hb:b=a
   ·have z':=(if_pos hb).symm.trans z
    cases z'
    subst hb
    exact ⟨ha,by rw [length_map]; exact hl,vs,_,rv,ha⟩
   ·have z':=(if_neg hb).symm.trans z
    cases z'
  ·by_cases hb:b=a
   ·exact hb
   ·exact absurd (if_neg hb) z
end
section
theorem walk_of {l:PySem.W.OpenLaw}{n k:Nat}{q:Program}{loose:List Str}{XP:(Str->Option Value)->Heap->Prop}{YP:World->Heap->Prop}{d:DefRec}{K:Params->Frag}{CX:World->JU}{sp:World->Sp}{x:Str}
  (hn:l.most=some n) (hn2:n<=sizeLine) (hdf:d.params.defaults=[]) (hr:iA k callerA)
  (hY:∀ (w:World) (h:Heap),YP w h->(K w.params).In h)
  (F:∀ (w:World) (mg:Str->Option Value) (fa:Addr) (h:Heap),(K w.params).In h->h.Ns mainGlobals mg->mg d.name=some (.ref fa) ->
   ∃ fd:FuncData,(∀ (s:Shared) (u:Value),BindsTo s fd ⟨[u],[]⟩ [(x,u)]) /\
    ∀ base:Heap,(K w.params).In base->base.Ns mainGlobals mg->nY l.prog w (K w.params) mg base (CX w) k fa fd [x] (sp w))
  (hsp:∀ (w:World) (H:Hp) (a:Addr) (ns:List Int),ns.length<=n->Aj H->cN (K w.params) H a (ns.map V.int)->sp w [.ref a] H (fun v _=>v=.bl true) fun _ _ _=>False)
  (hCX:∀ (w:World) (H:Hp) (s:Shared) (e:Value) (s':Shared),CX w [] H s (fun _ _ _=>False) e s'->False) :
  PySem.W.WalkO q loose XP YP l.row.toRowW d [] (fun f vs=>PySem.call f vs):=by
 refine Att.attach_call hn hdf fun w s₀ s₁ mg mb fa o pm cd doc a vs ns G Y ho hd hcd hmg hobj hints hlen hg=>?_
 have KX:=hY w _ Y
 obtain ⟨fd,hb,hF⟩:=F w mg fa _ KX G.T.g hmg
 exact MY KX G.T.g G.T.b G.T.builtins G.T.nolimit hg hobj hints (le_trans hlen hn2) hr hF hb (fun H hO hS=>hsp w H a ns hlen hO hS) fun H e s'=>hCX w H s₁ e s'
end
end L2
/- THE LAST THEOREM (shape; LID,My.* are yours):
   My.Adr: a structure of the addresses that your layer names (classes,functions); My.Txt K t: a structure (Prop) of the equations over K;
   My.txt_mk:{K} {implicit addresses ..} (e1:nsIn K mainGlobals "law"=some (some (.ref f))) (e2:K.lookup f=some ⟨oc,od,.func (fnOf "law" "law" params body scope dV kV doc pm an cdv ct),sl⟩) (e3:codeIn K cdv "law"=true) ..:∃ t,My.Txt K t
(the tactic k_is has no namespace: write k_is) -/
namespace L2
open PySem PySem.Spec PyProof.Rows
section
def gE (s:Stmt):Arguments:=match s with
|.FunctionDef _ a _ _ _ _ _ _ _ _=>a
|_=>{ posonlyargs:=[],args:=[],vararg:=none,kwonlyargs:=[],kw_defaults:=[],kwarg:=none,defaults:=[] }
def eX (s:Stmt):List Stmt:=match s with
|.FunctionDef _ _ b _ _ _ _ _ _ _=>b
|_=>[]
def aG (s:Stmt):Scope:=match s with
|.FunctionDef _ _ _ _ _ _ sc _ _ _=>sc
|_=>{ kind:=.function,names:=[],isGenerator:=false,isCoroutine:=false }
abbrev SU:JU:=fun _ _ _ _ _ _=>False
abbrev E0:XK:=fun _ _ _=>False
theorem Ef {X:Cx}:vD SU X E0:=fun _ _ _ _ _ _ _ h=>h.elim
structure Gu (K:Frag) (x qual:Str) (st:Stmt) (f:Addr) (fd:FuncData):Prop where
 ex:∃ (oc:Value) (od:Option Addr) (kV doc pm:Value) (an:Option Addr) (cdv ct:Value) (osl:Array (Option Value)),
  fd=fnOf x qual (gE st) (eX st) (aG st) .none kV doc pm an cdv ct/\K.lookup f=some ⟨oc,od,.func fd,osl⟩/\PySem.W.codeIn K cdv qual=true
 kp:keepIn K (.ref f)=true
section
variable {P:Program} {w:World} {K:Frag} {mg:Str -> Option Value} {base:Heap}
theorem Gu.ok {x qual:Str}{st:Stmt}{f:Addr}{fd:FuncData}{N ps:List Str}{k:Nat}{sp:Sp} (F:Gu K x qual st f fd) (S:aT N ps (aG st)) (len:∀ vs H Q E,sp vs H Q E->vs.length=ps.length)
  (hbody:∀ (cdv:Value) (A:Around) (outer:List Env) (s:Shared) (H:Hp) (vs:List V) (Q:VK) (E:XK),iA k (A.deeper (envOfC qual (aG st) s.heap.objs.size f cdv))->sp vs H Q E ->
   ∃ t,CH (uU SU P w K mg base N qual (aG st) f cdv A outer s H E).nox (eX st) t/\t { nx:=fun _ H'=>Q .non H',rt:=Q } (nA N vs) H):nY P w K mg base SU (k+1) f fd ps sp:=by
 obtain ⟨oc,od,kV,doc,pm,an,cdv,ct,osl,rfl,lk,hcd⟩:=F.ex
 refine NM lk hcd S len fun A outer s H vs Q E hr hsp=>?_
 obtain ⟨t,h,q⟩:=hbody cdv A outer s H vs Q E hr hsp
 exact ⟨t,h.nox,q⟩
theorem ZK {x qual:Str}{st:Stmt}{f:Addr}{oc:Value}{od an:Option Addr}{osl:Array (Option Value)}{kV doc pm cdv ct:Value} (l:K.lookup f=some ⟨oc,od,.func (fnOf x qual (gE st) (eX st) (aG st) .none kV doc pm an cdv ct),osl⟩)
  (c:PySem.W.codeIn K cdv qual=true) (k:keepIn K (.ref f)=true):Gu K x qual st f (fnOf x qual (gE st) (eX st) (aG st) .none kV doc pm an cdv ct):=⟨⟨oc,od,kV,doc,pm,an,cdv,ct,osl,rfl,l,c⟩,k⟩
end
theorem eI {n:Nat} (h:n<=1000):n < sizeLine:=lt_of_le_of_lt h (by decide)
section
variable {X:Cx}
theorem pv (i:Nat) {x:Str}{pos:Pos} (hN:X.N[i]?=some x:=by rfl) (hv:Fs X.env.scope x:=by first|exact Or.inl rfl|exact Or.inr (Or.inl rfl)|exact Or.inr (Or.inr rfl)) (hd:(x==("__debug__":Str))=false:=by decide)
  (hcd:(x==("__classdict__":Str))=false:=by decide):PE X (.Name x pos) (VG i):=YF hN hv hd hcd
end
theorem Ew {A B:Prop} (h:B):if false=true then A else B:=by
 rw [if_neg Bool.false_ne_true]
 exact h
theorem Ev {A B:Prop} (h:A):if true=true then A else B:=by
 rw [if_pos rfl]
 exact h
def aI (H H':Hp):Prop:=∀ b o,H b=some o->H' b=some o
theorem aI.refl (H:Hp):aI H H:=fun _ _ h=>h
theorem aI.trans {H H1 H2:Hp} (a:aI H H1) (b:aI H1 H2):aI H H2:=fun c o h=>b c o (a c o h)
theorem aI.free {H H':Hp} (e:aI H H') {l:Addr} (h:H' l=Option.none):H l=Option.none:=by
 cases q:H l with
|none=>rfl
|some o =>
  rw [e l o q] at h
  cases h
theorem aI.seq {K:Frag}{H H':Hp}{a:Addr}{xs:List V} (e:aI H H') (h:cN K H a xs):cN K H' a xs:=by
 rcases h with (h|⟨o,h⟩)|h
 ·exact .inl (.inl (e _ _ h))
 ·exact .inl (.inr ⟨o,e _ _ h⟩)
 ·exact .inr h
end
section
section
variable {κ:Type} [DecidableEq κ]
def dA (kvs:List (κ×V)) (k:κ):Option V:=(kvs.find? fun kv=>decide (kv.1=k)).map (·.2)
def dY (kvs:List (κ×V)) (k:κ) (v:V):List (κ×V):=
 if (kvs.any fun kv=>decide (kv.1=k))=true then kvs.map (fun kv=>if kv.1=k then (kv.1,v) else kv) else kvs++[(k,v)]
theorem eO {p:κ×V}{r:List (κ×V)}{k:κ} (e:p.1=k):dA (p::r) k=some p.2:=by simp [dA,find?_cons,e]
theorem eP {p:κ×V}{r:List (κ×V)}{k:κ} (e:¬ p.1=k):dA (p::r) k=dA r k:=by simp [dA,find?_cons,e]
theorem nZ (k:κ):∀ kvs:List (κ×V),(kvs.any fun kv=>decide (kv.1=k))=(dA kvs k).isSome
|[]=>rfl
|p::r=>by
  rw [any_cons]
  by_cases e:p.1=k
  ·simp only [eO e,decide_eq_true e,Bool.true_or,Option.isSome_some]
  ·rw [eP e,decide_eq_false e,Bool.false_or]; exact nZ k r
theorem zI (k j:κ) (y:V):∀ kvs:List (κ×V),dA (kvs.map fun kv=>if kv.1=k then (kv.1,y) else kv) j=(dA kvs j).map fun x=>if j=k then y else x
|[]=>rfl
|p::r=>by
  have ih:=zI k j y r
  rw [map_cons]
  by_cases h:p.1=k
  ·rw [if_pos h]
   by_cases e:p.1=j
   ·rw [eO (p:=(p.1,y)) e,eO e,Option.map_some,if_pos (e.symm.trans h)]
   ·rw [eP (p:=(p.1,y)) e,eP e,ih]
  ·rw [if_neg h]
   by_cases e:p.1=j
   ·rw [eO (p:=p) e,eO e,Option.map_some,if_neg (fun z=>h (e.trans z))]
   ·rw [eP (p:=p) e,eP e,ih]
theorem vW (k j:κ) (y:V):∀ kvs:List (κ×V),dA kvs k=none->dA (kvs++[(k,y)]) j=if j=k then some y else dA kvs j
|[],_=>by
  by_cases e:k=j
  ·rw [if_pos e.symm]; exact eO (p:=(k,y)) e
  ·rw [if_neg (fun z=>e z.symm)]; exact eP (p:=(k,y)) e
|p::r,hn=>by
  rw [List.cons_append]
  have hk:¬ p.1=k:=fun z=>by rw [eO z] at hn; cases hn
  rw [eP hk] at hn
  have ih:=vW k j y r hn
  by_cases e:p.1=j
  ·rw [eO e,eO e,if_neg (fun z=>hk (e.trans z))]
  ·rw [eP e,eP e,ih]
theorem lO (kvs:List (κ×V)) (k j:κ) (y:V):dA (dY kvs k y) j=if j=k then some y else dA kvs j:=by
 unfold dY
 by_cases a:(kvs.any fun kv=>decide (kv.1=k))=true
 ·rw [if_pos a,zI]
  rw [nZ] at a
  by_cases e:j=k
  ·obtain ⟨x,hx⟩:=Option.isSome_iff_exists.mp a
   rw [if_pos e,e,hx,Option.map_some,if_pos rfl]
  ·rw [if_neg e]
   cases dA kvs j with
  |none=>rfl
  |some x=>rw [Option.map_some,if_neg e]
 ·rw [if_neg a]
  refine vW k j y kvs ?_
  rw [nZ] at a
  cases q:dA kvs k with
 |none=>rfl
 |some x=>rw [q] at a; exact (a rfl).elim
theorem lZ (kvs:List (κ×V)) (k:κ) (v:V):(dY kvs k v).length<=kvs.length+1:=by
 unfold dY
 split
 ·rw [length_map]; omega
 ·rw [length_append,length_cons,length_nil]; omega
theorem pO.isSome_eq {o:Option V}{u:Option Value} (r:pO o u):o.isSome=u.isSome:=by
 cases o with
|none=>cases u with
 |none=>rfl
 |some _=>exact (show False from r).elim
|some _=>cases u with
 |none=>exact (show False from r).elim
 |some _=>rfl
theorem pO.getD {o:Option V}{u:Option Value}{d:V}{d':Value} (r:pO o u) (rd:bL d d'):bL (o.getD d) (u.getD d'):=by
 cases o with
|none=>cases u with
 |none=>exact rd
 |some _=>exact (show False from r).elim
|some _=>cases u with
 |none=>exact (show False from r).elim
 |some _=>exact r
theorem KV.val {kvs:List (κ×V)}{vs:List (κ×Value)} (r:KV kvs vs) (k:κ):pO (dA kvs k) (valueAt vs k):=by
 unfold KV at r
 induction r with
|nil=>exact True.intro
|@cons p q ps qs h t ih =>
  obtain ⟨h1,h2⟩:=h
  by_cases e:p.1=k
  ·have e':q.1=k:=h1.symm.trans e
   have b:valueAt (q::qs) k=some q.2:=by simp [valueAt,find?_cons,e']
   rw [eO e,b]; exact h2
  ·have e':¬ q.1=k:=fun z=>e (h1.trans z)
   have b:valueAt (q::qs) k=valueAt qs k:=by simp [valueAt,find?_cons,e']
   rw [eP e,b]; exact ih
theorem KV.any {kvs:List (κ×V)}{vs:List (κ×Value)} (r:KV kvs vs) (k:κ):(kvs.any fun kv=>decide (kv.1=k))=vs.any fun kv=>decide (kv.1=k):=by
 unfold KV at r
 induction r with
|nil=>rfl
|cons h t ih=>rw [any_cons,any_cons,ih,h.1]
theorem KV.repl {kvs:List (κ×V)}{vs:List (κ×Value)} (r:KV kvs vs) (k:κ) {y:V}{u:Value} (ry:bL y u) :
  KV (kvs.map fun kv=>if kv.1=k then (kv.1,y) else kv) (vs.map fun kv=>if kv.1=k then (kv.1,u) else kv):=by
 unfold KV at r ⊢
 induction r with
|nil=>exact .nil
|@cons p q ps qs h t ih =>
  rw [map_cons,map_cons]
  refine .cons ?_ ih
  obtain ⟨h1,h2⟩:=h
  by_cases e:p.1=k
  ·rw [if_pos e,if_pos (h1.symm.trans e)]; exact ⟨h1,ry⟩
  ·rw [if_neg e,if_neg (fun z=>e (h1.trans z))]; exact ⟨h1,h2⟩
theorem KV.put {kvs:List (κ×V)}{vs:List (κ×Value)} (r:KV kvs vs) (k:κ) {y:V}{u:Value} (ry:bL y u):KV (dY kvs k y) (stored vs k u):=by
 unfold dY stored
 rw [r.any k]
 by_cases e:(vs.any fun kv=>decide (kv.1=k))=true
 ·rw [if_pos e,if_pos e]; exact r.repl k ry
 ·rw [if_neg e,if_neg e]; exact Paired.snoc r ⟨rfl,ry⟩
theorem KV.length {kvs:List (κ×V)}{vs:List (κ×Value)} (r:KV kvs vs):kvs.length=vs.length:=Paired.length r
end
theorem nC {P:Program}{w:World}{k:cB}{u:Value} (r:bL (kV k) u):(cQ P w).is k u=true:=by
 cases k with
|inl i=>obtain ⟨t,e⟩:=(show ∃ t,u=Value.int i t from r); subst e; exact BG P w i t
|inr x=>obtain ⟨t,e⟩:=(show ∃ t,u=Value.str x t from r); subst e; exact BF P w x t
theorem wS {P:Program}{w:World}:∀ {ks:List cB}{us:List Value},bN (ks.map kV) us->ItemsAre (cQ P w) ks us
|[],_,r=>by rw [map_nil] at r; cases r; exact .nil
|k::ks,_,r=>by
  rw [map_cons] at r
  cases r with
 |cons h t=>exact .cons (nC h) (wS t)
abbrev KT (H:Hp):List (List cB×V)->List (List cB×Addr×Value)->Prop:=Paired fun p q=>p.1=q.1/\H q.2.1=some (.tup (p.1.map kV))/\bL p.2 q.2.2
theorem KT.val {H:Hp}{kvs:List (List cB×V)}{xs:List (List cB×Addr×Value)} (r:KT H kvs xs) (k:List cB):pO (dA kvs k) ((atKey xs k).map (·.2)):=by
 induction r with
|nil=>exact True.intro
|@cons p q ps qs h t ih =>
  obtain ⟨h1,_,h2⟩:=h
  by_cases e:p.1=k
  ·have e':q.1=k:=h1.symm.trans e
   have b:atKey (q::qs) k=some q.2:=by simp [atKey,find?_cons,e']
   rw [eO e,b]; exact h2
  ·have e':¬ q.1=k:=fun z=>e (h1.trans z)
   have b:atKey (q::qs) k=atKey qs k:=by simp [atKey,find?_cons,e']
   rw [eP e,b]; exact ih
theorem KT.repl {H:Hp}{kvs:List (List cB×V)}{xs:List (List cB×Addr×Value)} (r:KT H kvs xs) (k:List cB) {y:V}{u:Value} (ry:bL y u) :
  KT H (kvs.map fun kv=>if kv.1=k then (kv.1,y) else kv) (xs.map (putAt k u)):=by
 induction r with
|nil=>exact .nil
|@cons p q ps qs h t ih =>
  rw [map_cons,map_cons]
  refine .cons ?_ ih
  obtain ⟨h1,h2,h3⟩:=h
  unfold putAt
  by_cases e:p.1=k
  ·rw [if_pos e,if_pos (h1.symm.trans e)]; exact ⟨h1,h2,ry⟩
  ·rw [if_neg e,if_neg (fun z=>e (h1.trans z))]; exact ⟨h1,h2,h3⟩
theorem KT.put {H:Hp}{kvs:List (List cB×V)}{xs:List (List cB×Addr×Value)} (r:KT H kvs xs) (k:List cB) {b:Addr}{y:V}{u:Value} (hb:H b=some (.tup (k.map kV))) (ry:bL y u) :
  KT H (dY kvs k y) (storedH xs k b u):=by
 have e:(kvs.any fun kv=>decide (kv.1=k))=(atKey xs k).isSome:=by
  rw [nZ,(r.val k).isSome_eq,Option.isSome_map]
 unfold dY storedH
 rw [e]
 by_cases q:(atKey xs k).isSome=true
 ·rw [if_pos q,if_pos q]; exact r.repl k ry
 ·rw [if_neg q,if_neg q]; exact Paired.snoc r ⟨rfl,hb,ry⟩
theorem KT.keeps {H H':Hp}{kvs:List (List cB×V)}{xs:List (List cB×Addr×Value)} (r:KT H kvs xs) (ht:∀ b ys,H b=some (.tup ys)->H' b=some (.tup ys)):KT H' kvs xs:=
 Paired.mapP r fun _ _ z=>⟨z.1,ht _ _ z.2.1,z.2.2⟩
section
variable {P:Program} {w:World} {H:Hp} {h:Heap} {a:Addr}
theorem TU {u:HO} (ok:lH P w H h) (e:Rd H a u):cS P w H h a u:=e.ok ok
theorem uP {kvs:List (cB×V)} (ok:lH P w H h) (e:Rd H a (.dK kvs)):kvs.length<=sizeLine/\(a==sysModules)=false/\∃ vs,KV kvs vs/\h.DictOf (cQ P w) a vs:=
 show cS P w H h a (.dK kvs) from TU ok e
theorem UZ {kvs:List (cB×V)} (ok:lH P w H h) (e:H a=some (.dK kvs)):kvs.length<=sizeLine/\(a==sysModules)=false/\∃ vs,KV kvs vs/\h.DictOf (cQ P w) a vs:=uP ok (.inl e)
theorem qM {ks:List cB} (ok:lH P w H h) (e:H a=some (.tup (ks.map kV))):(tupleKind (cQ P w)).is h ks a:=by
 obtain ⟨_,its,r,o,h1,h2,n,h3⟩:=(show cS P w H h a (.tup (ks.map kV)) from ok a _ e)
 exact ⟨o,its.toArray,n,h1,h2,h3,by simpa using wS r⟩
theorem uN {kvs:List (List cB×V)} (ok:lH P w H h) (e:Rd H a (.dT kvs)):kvs.length<=sizeLine/\(a==sysModules)=false /\
  ∃ xs,KT H kvs xs/\h.DictOfH (tupleKind (cQ P w)) a xs:=by
 obtain ⟨z,y,xs,r,o,es,ep,h1,h2,h3,h4,h5⟩:=(show cS P w H h a (.dT kvs) from TU ok e)
 refine ⟨z,y,xs,r,o,es,ep,h1,h2,h3,h4,fun x hx=>?_,h5⟩
 have all:∀ {l:List (List cB×V)} {m:List (List cB×Addr×Value)},KT H l m->∀ x∈m,(tupleKind (cQ P w)).is h x.1 x.2.1:=by
  intro l m q
  induction q with
 |nil=>intro x hx; exact nomatch hx
 |@cons p q ps qs hq t ih =>
   intro x hx
   rcases mem_cons.mp hx with e|hx
   ·subst e
    exact qM ok (by rw [← hq.1]; exact hq.2.1)
   ·exact ih x hx
 exact all r x hx
theorem Fh {kvs:List (List cB×V)} (ok:lH P w H h) (e:H a=some (.dT kvs)):kvs.length<=sizeLine/\(a==sysModules)=false /\
  ∃ xs,KT H kvs xs/\h.DictOfH (tupleKind (cQ P w)) a xs:=uN ok (.inl e)
end
def qY (H:Hp) (a:Addr) (y:V) (r:Option V):Prop:=
 (∃ kvs k,Rd H a (.dK kvs)/\y=kV k/\r=dA kvs k)∨∃ kvs k b,Rd H a (.dT kvs)/\y=.ref b/\H b=some (.tup (k.map kV))/\r=dA kvs k
def JT (H:Hp) (a:Addr) (y v:V) (H':Hp):Prop:=
 (∃ kvs k,H a=some (.dK kvs)/\y=kV k/\kvs.length < sizeLine/\H'=upd H a (.dK (dY kvs k v))) ∨
 ∃ kvs k b,H a=some (.dT kvs)/\y=.ref b/\H b=some (.tup (k.map kV))/\kvs.length < sizeLine/\H'=upd H a (.dT (dY kvs k v))
theorem JT.k {H:Hp}{a:Addr}{kvs:List (cB×V)}{k:cB}{v:V} (e:H a=some (.dK kvs)) (hl:kvs.length < sizeLine):JT H a (kV k) v (upd H a (.dK (dY kvs k v))):=.inl ⟨kvs,k,e,rfl,hl,rfl⟩
section
variable {X:Cx} {pins:List (Addr×Obj)} {σ:St} {H:Hp} {s:Shared} {a:Addr} {y v:V} {u r:Value} {o:Option V} {A:Around} {E:Value -> Shared -> Prop}
theorem bA.big (I:bA X pins σ H s):sysModules < s.heap.objs.size:=by
 have h:mainGlobals < s.heap.objs.size:=(I.mod.glob.keeps I.bk).lt
 exact lt_trans (by decide) h
theorem JG {Q:Value->Shared->Prop} (hu:A.units+1 < cLine) (I:bA X pins σ H s) (g:qY H a y (some v)) (ry:bL y u) (h:∀ w' s',bA X pins σ H s'->bL v w'->Q w' s') :
  wpAny (model X.prog X.w) A (getItem (.ref a) u) Q E s:=by
 rcases g with ⟨kvs,k,e,ey,l⟩|⟨kvs,k,b,e,ey,eb,l⟩
 ·subst ey
  obtain ⟨z,hd,vs,rel,dd⟩:=uP I.hok e
  obtain ⟨w',hw,rw'⟩:=pO.some_of (v:=v) (o:=valueAt vs k) (by rw [l]; exact rel.val k)
  exact wpAny_getItem_of (nC ry) dd.mapOf hw (h w' _ (I.tok _) rw')
 ·subst ey
  cases (show u=Value.ref b from ry)
  obtain ⟨z,hd,xs,rel,dd⟩:=uN I.hok e
  obtain ⟨w',hw,rw'⟩:=pO.some_of (v:=v) (o:=(atKey xs k).map (·.2)) (by rw [l]; exact rel.val k)
  obtain ⟨p,hp,hp2⟩:=Option.map_eq_some_iff.mp hw
  refine wpAny_getItem_heap (tupleKind_room_in1 hu) (qM I.hok eb) dd hp ?_
  rw [hp2]
  exact h w' _ (I.tok _) rw'
theorem Hz {Q:Value->Shared->Prop} (hu:A.units+1 < cLine) (I:bA X pins σ H s) (g:qY H a y o) (ry:bL y u) (h:∀ s',bA X pins σ H s'->Q (.bool o.isSome) s') :
  wpAny (model X.prog X.w) A (compareOp .In u (.ref a)) Q E s:=by
 rcases g with ⟨kvs,k,e,ey,l⟩|⟨kvs,k,b,e,ey,eb,l⟩
 ·subst ey
  obtain ⟨z,hd,vs,rel,dd⟩:=uP I.hok e
  refine wpAny_in_of (nC ry) hd dd.mapOf ?_
  rw [← (rel.val k).isSome_eq,← l]
  exact h _ (I.tok _)
 ·subst ey
  cases (show u=Value.ref b from ry)
  obtain ⟨z,hd,xs,rel,dd⟩:=uN I.hok e
  refine wpAny_in_heap (tupleKind_room_in1 hu) (qM I.hok eb) hd dd ?_
  have q:=(rel.val k).isSome_eq
  rw [Option.isSome_map] at q
  rw [← q,← l]
  exact h _ (I.tok _)
theorem SB {Q:Value->Shared->Prop} (hu:A.units+1 < cLine) (I:bA X pins σ H s) (g:qY H a y o) (ry:bL y u) (h:∀ s',bA X pins σ H s'->Q (.bool (!o.isSome)) s') :
  wpAny (model X.prog X.w) A (compareOp .NotIn u (.ref a)) Q E s:=by
 rcases g with ⟨kvs,k,e,ey,l⟩|⟨kvs,k,b,e,ey,eb,l⟩
 ·subst ey
  obtain ⟨z,hd,vs,rel,dd⟩:=uP I.hok e
  refine wpAny_notIn_of (nC ry) hd dd.mapOf ?_
  rw [← (rel.val k).isSome_eq,← l]
  exact h _ (I.tok _)
 ·subst ey
  cases (show u=Value.ref b from ry)
  obtain ⟨z,hd,xs,rel,dd⟩:=uN I.hok e
  refine wpAny_notIn_heap (tupleKind_room_in1 hu) (qM I.hok eb) hd dd ?_
  have q:=(rel.val k).isSome_eq
  rw [Option.isSome_map] at q
  rw [← q,← l]
  exact h _ (I.tok _)
theorem yR {h':Heap}{t':Nat}{ob:HO} (I:bA X pins σ H s) (mu:Fx (H a)) (hs:Heap.SameBut a s.heap h') (he:∃ q,h'.get? a=some q) (new:cS X.prog X.w (upd H a ob) h' a ob) :
  bA X pins σ (upd H a ob) { s with heap:=h',toks:=t' }:=
 I.write (x:=a) (e:=a) mu (.inl rfl) (fun b q hb z=>(hs.2 b hb).trans z) he new
theorem EH {P:Program}{w:World}{H':Hp}{h':Heap}{kvs:List (cB×V)}{vs:List (cB×Value)} (z:kvs.length<=sizeLine) (hd:(a==sysModules)=false) (rel:KV kvs vs) (dd:h'.DictOf (cQ P w) a vs) :
  cS P w H' h' a (.dK kvs):=⟨z,hd,vs,rel,dd⟩
theorem JF {H':Hp}{Q:Unit->Shared->Prop} (hu:A.units+1 < cLine) (I:bA X pins σ H s) (g:JT H a y v H') (ry:bL y u) (rv:bL v r) (h:∀ s',bA X pins σ H' s'->Q () s') :
  wpAny (model X.prog X.w) A (setItem (.ref a) u r) Q E s:=by
 rcases g with ⟨kvs,k,e,ey,l,eH⟩|⟨kvs,k,b,e,ey,eb,l,eH⟩
 ·subst ey eH
  obtain ⟨z,hd,vs,rel,dd⟩:=UZ I.hok e
  have hz:vs.length<=sizeLine:=by rw [← rel.length]; exact z
  have hl:(dY kvs k v).length<=sizeLine:=by have:=lZ kvs k v; omega
  refine wpAny_setItem_pairs (hsz:=hz) (nC ry) dd fun h' dd' hs=>h _ ?_
  have he:∃ q,h'.get? a=some q:=let ⟨q,_,_,hq,_⟩:=dd'; ⟨q,hq⟩
  exact yR I (by rw [e]; exact True.intro) hs he (EH hl hd (rel.put k rv) dd')
 ·subst ey eH
  cases (show u=Value.ref b from ry)
  obtain ⟨z,hd,xs,rel,dd⟩:=Fh I.hok e
  have hz:xs.length<=sizeLine:=by rw [← Paired.length rel]; exact z
  have hl:(dY kvs k v).length<=sizeLine:=by have:=lZ kvs k v; omega
  refine wpAny_setItem_heap (hsz:=hz) (tupleKind_room_in1 hu) (qM I.hok eb) dd fun h' dd' hs=>h _ ?_
  obtain ⟨q,es,ep,hq,h2,h3,h4,_,h5⟩:=dd'
  refine yR I (by rw [e]; exact True.intro) hs ⟨q,hq⟩ ⟨hl,hd,_,(rel.put k eb rv).keeps fun c ys ec=>?_,q,es,ep,hq,h2,h3,h4,h5⟩
  rw [aZ (MU ec e (fun z=>nomatch z))]
  exact ec
end
section
variable {X:Cx} {pins:List (Addr×Obj)} {σ:St} {H:Hp} {s:Shared} {a:Addr} {kvs:List (cB×V)} {k:cB} {u:Value} {A:Around} {E:Value -> Shared -> Prop}
end
def Am (i:Expr):Prop:=∀ ov iv,subscripted i false ov iv=operate [ov,iv] (getItem ov iv)
theorem FC {prog:Program}{w:World}{A:Around}{E:Value->Shared->Prop}{s:Shared}{env:Env}{value slice:Expr}{pos:Pos}{T id:String}{Q:Value->Shared->Prop}
  (hl:typeLookup (.type T) "__getitem__"=pure (some (.builtin id))) (hs:Am slice)
  (h:wpAny (model prog w) A (eval value env) (fun o s₁=>wpAny (model prog w) A (eval slice env) (fun i s₂=>s₂.TypeIs o T/\wpAny (model prog w) A (getItem o i) Q E s₂) E s₁) E s) :
  wpAny (model prog w) A (eval (.Subscript value slice pos) env) Q E s:=by
 refine Subscript_ (wpAny_mono h (fun o s₁ h₁=>wpAny_mono h₁ (fun i s₂ h₂=>?_) fun _ _ x=>x) fun _ _ x=>x)
 obtain ⟨hT,h₂⟩:=h₂
 unfold subscriptTail
 refine wpAny_bind ?_
 rw [getitemInPython_of_ne hT.not_modules]
 refine wpAny_bind (wpAny_specialOf hT hl ?_)
 have fin:wpAny (model prog w) A (subscripted slice false o i) (fun r s₃=>wpAny (model prog w) A (letTemporaryGo value o r >>= fun _=>pure r) Q E s₃) E s₂:=by
  rw [hs o i]
  exact wpAny_operating (wpAny_mono h₂ (fun r s₃ h₃=>wpAny_bind (wpAny_letTemporaryGo (wpAny_pure h₃))) fun _ _ x=>x)
 first
 |exact wpAny_pure (wpAny_bind fin)
 |exact wpAny_bind (wpAny_pure (wpAny_bind fin))
 |exact wpAny_bind fin
theorem BY {X:Cx}{pins:List (Addr×Obj)}{σ:St}{H:Hp}{s:Shared}{a:Addr}{y:V}{o:Option V} (I:bA X pins σ H s) (g:qY H a y o):s.TypeIs (.ref a) "dict":=by
 rcases g with ⟨kvs,k,e,_,_⟩|⟨kvs,k,b,e,_,_,_⟩
 ·obtain ⟨_,_,vs,_,dd⟩:=uP I.hok e
  exact dd.typeIs
 ·obtain ⟨_,_,xs,_,dd⟩:=uN I.hok e
  exact dd.typeIs
def TJ (td ty:TE):TE:=fun σ H Q=>td σ H fun x H1=>ty σ H1 fun y H2=>∃ a v,x=.ref a/\qY H2 a y (some v)/\Q v H2
def Bq (ty td:TE):TE:=fun σ H Q=>ty σ H fun y H1=>td σ H1 fun x H2=>∃ a o,x=.ref a/\qY H2 a y o/\Q (.bl o.isSome) H2
def FA (ty td:TE):TE:=fun σ H Q=>ty σ H fun y H1=>td σ H1 fun x H2=>∃ a o,x=.ref a/\qY H2 a y o/\Q (.bl (!o.isSome)) H2
def TN (td ty tv:TE):TS:=fun D σ H=>tv σ H fun v H1=>td σ H1 fun x H2=>ty σ H2 fun y H3=>∃ a H4,x=.ref a/\JT H3 a y v H4/\D.nx σ H4
section
variable {X:Cx} {o i e value:Expr} {pos pos' tpos:Pos} {td ty tv:TE}
theorem cH (hu:X.A.units+1 < cLine) (ho:PE X o td) (hi:PE X i ty) (hs:Am i):PE X (.Subscript o i pos) (TJ td ty):=by
 intro pins s σ H Q I h
 refine FC PySem.F.slot_dict_getitem.lookup hs (cJ (ho pins s σ H _ I h) fun u s1 ⟨x,H1,I1,rx,q1⟩=>cJ (hi pins s1 σ H1 _ I1 q1) fun iv s2 ⟨y,H2,I2,ry,a,v,ex,g,q2⟩=>?_)
 subst ex
 obtain rfl:u=Value.ref a:=rx
 exact ⟨BY I2 g,JG hu I2 g ry fun w' s3 I3 rw'=>⟨v,H2,I3,rw',q2⟩⟩
theorem YJ (hu:X.A.units+1 < cLine) (hi:PE X i ty) (ho:PE X o td):PC X .In i o (Bq ty td):=by
 intro pins s σ H Q I h
 refine cJ (hi pins s σ H _ I h) fun iv s1 ⟨y,H1,I1,ry,q1⟩=>cJ (ho pins s1 σ H1 _ I1 q1) fun u s2 ⟨x,H2,I2,rx,a,ov,ex,g,q2⟩=>?_
 subst ex
 obtain rfl:u=Value.ref a:=rx
 exact Hz hu I2 g ry fun s3 I3=>⟨.bl ov.isSome,H2,I3,rfl,q2⟩
theorem HX (hu:X.A.units+1 < cLine) (hi:PE X i ty) (ho:PE X o td):PC X .NotIn i o (FA ty td):=by
 intro pins s σ H Q I h
 refine cJ (hi pins s σ H _ I h) fun iv s1 ⟨y,H1,I1,ry,q1⟩=>cJ (ho pins s1 σ H1 _ I1 q1) fun u s2 ⟨x,H2,I2,rx,a,ov,ex,g,q2⟩=>?_
 subst ex
 obtain rfl:u=Value.ref a:=rx
 exact SB hu I2 g ry fun s3 I3=>⟨.bl (!ov.isSome),H2,I3,rfl,q2⟩
theorem gR (hu:X.A.units+1 < cLine) (ho:PE X o td) (hi:PE X i ty) (hv:PE X value tv) (hs:swapsWith value (some (.Subscript o i pos')) pos.line X.env=pure false) :
  PS X (.Assign [.Subscript o i pos'] value pos) (TN td ty tv):=by
 intro pins s σ H D I h
 refine wpAny_Assign_Subscript (cJ (hv pins s σ H _ I h) fun r s1 ⟨v,H1,I1,rv,q1⟩=>cJ (ho pins s1 σ H1 _ I1 q1) fun u s2 ⟨x,H2,I2,rx,q2⟩=>cJ (hi pins s2 σ H2 _ I2 q2) fun iv s3 ⟨y,H3,I3,ry,a,H4,ex,g,q3⟩=>?_) hs
 subst ex
 obtain rfl:u=Value.ref a:=rx
 exact JF hu I3 g ry rv fun s4 I4=>⟨σ,H4,I4,q3⟩
end
theorem BX {P:Program}{w:World}{H:Hp} (h:Heap) (hb:sysModules < h.objs.size):cS P w H (h.push { cls:=.type "dict",data:=.dict #[] }) h.objs.size (.dK []):=
 ⟨zero_le _,beq_eq_false_iff_ne.mpr (Ne.symm (ne_of_lt hb)),[],.nil,Heap.DictOf.new h⟩
def KK:TE:=fun _ H Q=>∀ p,H p=none->Q (.ref p) (upd H p (.dK []))
section
variable {X:Cx} {pos:Pos}
theorem kJ:PE X (.Dict [] [] pos) KK:=fun pins s σ H Q I h =>
 wpAny_Dict_empty ⟨.ref s.heap.objs.size,_,I.laid (a:=s.heap.objs.size) (o:=.dK []) (t':=s.toks) (fun _ _ q=>get?_push_of_some _ q) (le_refl _) (BX s.heap I.big),rfl,h _ (I.hok.fresh (le_refl _))⟩
end
def CU:List (TE×TE)->St->Hp->(List (V×V)->Hp->Prop)->Prop
|[],_,H,Q=>Q [] H
|(tk,tv)::r,σ,H,Q=>tk σ H fun x H1=>tv σ H1 fun y H2=>CU r σ H2 fun ps H3=>Q ((x,y)::ps) H3
abbrev VV:List (V×V)->List (Value×Value)->Prop:=Paired fun p q=>bL p.1 q.1/\bL p.2 q.2
def Gs (X:Cx) (pos:Pos) (keys:List (Option Expr)) (values:List Expr) (trs:List (TE×TE)):Prop:=
 ∀ (pins:List (Addr×Obj)) (s:Shared) (σ:St) (H:Hp) (Q:List (V×V)->Hp->Prop),bA X pins σ H s->CU trs σ H Q ->
  wpAny (model X.prog X.w) X.A (evalPairs (pairTrees keys values X.env pos)) (fun vs s'=>∃ ps H',bA X pins σ H' s'/\VV ps vs/\Q ps H') X.xe s
theorem QM {X:Cx}{pos:Pos}:Gs X pos [] [] []:=fun pins s σ H Q I h=>pairTrees_nil_walk ⟨[],H,I,.nil,h⟩
theorem oO {X:Cx}{pos:Pos}{k v:Expr}{ks:List (Option Expr)}{vs:List Expr}{tk tv:TE}{trs:List (TE×TE)} (hk:PE X k tk) (hv:PE X v tv) (hr:Gs X pos ks vs trs) :
  Gs X pos (some k::ks) (v::vs) ((tk,tv)::trs):=fun pins s σ H Q I h =>
 pairTrees_cons_walk (cJ (hk pins s σ H _ I h) fun u s1 ⟨x,H1,I1,rx,q1⟩=>cJ (hv pins s1 σ H1 _ I1 q1) fun w2 s2 ⟨y,H2,I2,ry,q2⟩ =>
  cJ (hr pins s2 σ H2 _ I2 q2) fun ws s3 ⟨ps,H3,I3,rel,q3⟩=>⟨(x,y)::ps,H3,I3,.cons ⟨rx,ry⟩ rel,q3⟩)
def gC (kvs more:List (cB×V)):List (cB×V):=more.foldl (fun acc kv=>dY acc kv.1 kv.2) kvs
theorem KV.merge:∀ {more:List (cB×V)}{rs:List (cB×Value)}{kvs:List (cB×V)}{vs:List (cB×Value)},KV more rs->KV kvs vs->KV (gC kvs more) (merged vs rs):=by
 intro more rs kvs vs r
 unfold KV at r
 induction r generalizing kvs vs with
|nil=>intro q; exact q
|@cons p q ps qs h t ih =>
  intro r0
  have e:KV (dY kvs p.1 p.2) (stored vs q.1 q.2):=by
   have:=r0.put p.1 h.2
   rw [← h.1]; exact this
  exact ih e
theorem kA:∀ (more kvs:List (cB×V)),(gC kvs more).length<=kvs.length+more.length
|[],kvs=>by show kvs.length<=kvs.length+0; omega
|p::r,kvs=>by
  have h1:=kA r (dY kvs p.1 p.2)
  have h2:=lZ kvs p.1 p.2
  show (gC (dY kvs p.1 p.2) r).length<=_
  rw [length_cons]; omega
theorem uW {P:Program}{w:World}:∀ {kvs:List (cB×V)}{ws:List (Value×Value)},VV (kvs.map fun kv=>(kV kv.1,kv.2)) ws->∃ rs,Carries (cQ P w) ws rs/\KV kvs rs
|[],_,r=>by rw [map_nil] at r; cases r; exact ⟨[],True.intro,.nil⟩
|p::kvs,_,r=>by
  rw [map_cons] at r
  cases r with
 |@cons a b as bs h t =>
   obtain ⟨rs,c,q⟩:=uW (P:=P) (w:=w) t
   obtain ⟨b1,b2⟩:=b
   exact ⟨(p.1,b2)::rs,⟨nC h.1,rfl,c⟩,.cons ⟨rfl,h.2⟩ q⟩
def TH (trs:List (TE×TE)):TE:=fun σ H Q=>∀ p,H p=none->CU trs σ (upd H p (.dK [])) fun ps H2=>H2 p=some (.dK [])/\∃ kvs:List (cB×V),ps=kvs.map (fun kv=>(kV kv.1,kv.2))/\kvs.length<=15/\Q (.ref p) (upd H2 p (.dK (gC [] kvs)))
theorem QS {X:Cx}{pos:Pos}{keys:List (Option Expr)}{values:List Expr}{trs:List (TE×TE)} (h:Gs X pos keys values trs) (hall:keys.all (·.isSome)=true) (hl:keys.length=values.length) (h0:keys≠[])
  (h15:keys.length<=15):PE X (.Dict keys values pos) (TH trs):=by
 intro pins s σ H Q I q
 have hn:=I.hok.fresh (le_refl s.heap.objs.size)
 have I1:=I.laid (a:=s.heap.objs.size) (o:=.dK []) (h':=s.heap.push { cls:=.type "dict",data:=.dict #[] }) (t':=s.toks) (fun _ _ q=>get?_push_of_some _ q) (le_refl _) (BX s.heap I.big)
 refine wpAny_Dict_walk (knd:=cQ X.prog X.w) hall hl h0 h15 (cJ (h pins _ σ _ _ I1 (q _ hn)) fun ws s2 ⟨ps,H2,I2,rel,e,kvs,ep,lk,q2⟩=>?_)
 subst ep
 obtain ⟨rs,c,rk⟩:=uW (P:=X.prog) (w:=X.w) rel
 obtain ⟨z,hd,vs0,r0,dd⟩:=UZ I2.hok e
 cases r0
 refine ⟨rs,c,dd,fun h' dd' hs=>⟨.ref s.heap.objs.size,_,?_,rfl,q2⟩⟩
 have hz:(gC [] kvs).length<=sizeLine:=by
  have h1:=kA kvs []
  rw [length_nil] at h1
  rw [sizeLine_eq]; omega
 have he:∃ q,h'.get? s.heap.objs.size=some q:=let ⟨q,_,_,hq,_⟩:=dd'; ⟨q,hq⟩
 exact yR I2 (by rw [e]; exact True.intro) hs he (EH hz hd (rk.merge .nil) dd')
structure M2 (X:Cx) (o:Expr) (m:Str) (apos:Pos) (e f:Expr) (cpos:Pos):Prop where
 base:attributeBase o m X.env (eval o X.env)=eval o X.env
 few:((backTo cpos (starEach [e,f] X.env)).all (fun x=>!x.1)&&(backToKw cpos (keywordEach [] X.env)).all (fun x=>x.1.isSome)
  && decide (([e,f]:List Expr).length+([]:List Keyword).length+(if ([]:List Keyword).isEmpty then 0 else 1) < 30))=true
 line:(apos.endLine==cpos.line)=true
 trees:backTo cpos (starEach [e,f] X.env)=[(false,eval e X.env),(false,eval f X.env)]
def Ij (H:Hp) (a:Addr):Prop:=(∃ kvs,Rd H a (.dK kvs))∨∃ kvs,Rd H a (.dT kvs)
theorem ZH {X:Cx}{pins:List (Addr×Obj)}{σ:St}{H:Hp}{s:Shared}{a:Addr} (I:bA X pins σ H s) (d:Ij H a) :
  s.TypeIs (.ref a) "dict"/\(∀ b,Value.ref a=.ref b->∃ ob,s.heap.get? b=some ob/\ob.dict=none)/\(a==sysModules)=false:=by
 rcases d with ⟨kvs,e⟩|⟨kvs,e⟩
 ·obtain ⟨_,hd,vs,_,dd⟩:=uP I.hok e
  refine ⟨dd.typeIs,fun b q=>?_,hd⟩
  cases q
  obtain ⟨ob,_,_,h1,h2,_⟩:=dd
  exact ⟨ob,h1,h2.2.1⟩
 ·obtain ⟨_,hd,xs,_,dd⟩:=uN I.hok e
  refine ⟨dd.typeIs,fun b q=>?_,hd⟩
  cases q
  obtain ⟨ob,_,_,h1,h2,_⟩:=dd
  exact ⟨ob,h1,h2.2.1⟩
section
variable {X:Cx} {pins:List (Addr×Obj)} {σ:St} {H:Hp} {s:Shared} {a:Addr} {y d:V} {u r:Value} {o:Option V} {A:Around} {E:Value -> Shared -> Prop}
theorem ZU {Q:Value->Shared->Prop} (hu:A.units+1 < cLine) (I:bA X pins σ H s) (g:qY H a y o) (ry:bL y u) (rd:bL d r) (h:∀ w' s',bA X pins σ H s'->bL (o.getD d) w'->Q w' s') :
  wpAny (model X.prog X.w) A (call (.builtin "dict.get") [.ref a,u,r]) Q E s:=by
 rcases g with ⟨kvs,k,e,ey,l⟩|⟨kvs,k,b,e,ey,eb,l⟩
 ·subst ey
  obtain ⟨z,hd,vs,rel,dd⟩:=uP I.hok e
  refine call_meetsIn slot_dict_get dd.typeIs entry_dict_get (PySem.F.args_dict_get_3 _ _ _) (meets_dict_get_default (cQ X.prog X.w) a (nC ry) hd r) ⟨_,dd.mapOf,h _ _ (I.tok _) ?_⟩
  rw [l]
  exact (rel.val k).getD rd
 ·subst ey
  cases (show u=Value.ref b from ry)
  obtain ⟨z,hd,xs,rel,dd⟩:=uN I.hok e
  refine call_meetsIn slot_dict_get dd.typeIs entry_dict_get (PySem.F.args_dict_get_3 _ _ _) (meetsH_dict_get_default (tupleKind (cQ X.prog X.w)) a b hd r) ⟨tupleKind_room_in1 hu,k,xs,qM I.hok eb,dd,h _ _ (I.tok _) ?_⟩
  rw [l]
  exact (rel.val k).getD rd
end
def KL (td ty tx:TE):TE:=fun σ H Q=>td σ H fun x H1=>∃ a,x=.ref a/\Ij H1 a/\ty σ H1 fun y H2=>tx σ H2 fun z H3=>∃ o,qY H3 a y o/\Q (o.getD z) H3
section
variable {X:Cx} {o e f:Expr} {apos cpos:Pos} {td ty tx:TE}
theorem MK (hu:X.A.units+1 < cLine) (ho:PE X o td) (he:PE X e ty) (hf:PE X f tx) (m:M2 X o "get" apos e f cpos):PE X (.Call (.Attribute o "get" apos) [e,f] [] cpos) (KL td ty tx):=by
 intro pins s σ H Q I h
 refine wpAny_Call_method m.base m.few m.line PySem.F.plainAttrs_dict slot_dict_get PySem.F.type_dict_get (cJ (ho pins s σ H _ I h) fun u s1 ⟨x,H1,I1,rx,a,ex,d,q1⟩=>?_)
 subst ex
 obtain rfl:u=Value.ref a:=rx
 obtain ⟨t1,t2,_⟩:=ZH I1 d
 refine ⟨t1,t2,?_⟩
 rw [m.trees]
 refine Calls.callWith_builtin rfl (Calls.evalArgs_plain (Calls.spliced_cons (cJ (he pins s1 σ H1 _ I1 q1) fun iv s2 ⟨y,H2,I2,ry,q2⟩ =>
  Calls.spliced_cons (cJ (hf pins s2 σ H2 _ I2 q2) fun fv s3 ⟨z,H3,I3,rz,ov,g,q3⟩=>Calls.spliced_nil ?_))))
 exact ZU hu I3 g ry rz fun w' s4 I4 rw'=>⟨_,H3,I4,rw',q3⟩
end
section
variable {X:Cx} {pins:List (Addr×Obj)} {σ:St} {H:Hp} {s:Shared} {a:Addr} {kvs:List (cB×V)} {A:Around} {E:Value -> Shared -> Prop}
end
section
variable {X:Cx} {pins:List (Addr×Obj)} {σ:St} {H:Hp} {s:Shared} {a:Addr} {y:V} {u:Value} {A:Around} {E:Value -> Shared -> Prop}
end
end
section
section
variable {κ:Type} [DecidableEq κ]
end
end
section
def Sm (n:Nat) (x:Int):Prop:=x.natAbs < 2 ^ n
theorem Sm.mono {m n:Nat}{x:Int} (h:Sm m x) (l:m<=n):Sm n x:=lt_of_lt_of_le h (Nat.pow_le_pow_right (by decide) l)
theorem Sm.bits {n:Nat}{x:Int} (h:Sm n x):Builtin.Int.intBits x<=n:=by
  unfold Builtin.Int.intBits
  split
  . exact zero_le _
  . have hn:x.natAbs < 2 ^ n:=h
    rename_i hx
    have h0 : x.natAbs ≠ 0 := fun e => hx (by have : x = 0 := by omega
                                              rw [this]; rfl)
    have:x.natAbs.log2 < n:=(Nat.log2_lt h0).mpr hn
    omega
theorem Sm.mulOk {a b:Int}{m n:Nat} (ha:Sm m a) (hb:Sm n b) (h:m+n<=134217728):IntMulOk a b:=PyProof.Rows.mulOk_of_bits ha.bits hb.bits h
theorem Sm.log2 {n:Nat}{x:Int} (h:Sm n x):x.natAbs.log2 < n+1:=by
 have hn:x.natAbs < 2 ^ n:=h
 by_cases h0:x.natAbs=0
 ·rw [h0,Nat.log2_zero]; omega
 ·have:=(Nat.log2_lt h0).mpr hn
  omega
theorem Sm.of {n:Nat}{x:Int} (h1:-(2 ^ n:Nat) < x) (h2:x < (2 ^ n:Nat)):Sm n x:=by
 unfold Sm
 generalize 2 ^ n=k at *
 omega
theorem Sm.le {a b:Int}{n:Nat} (h:a.natAbs<=b.natAbs) (hb:Sm n b):Sm n a:=lt_of_le_of_lt h hb
section
variable {X:Cx}
def rH (_ j:Int):Prop:=j≠0/\Sm 8000 j
theorem bG:jJ X (binaryOp .FloorDiv) (rI rH fun i j=>.int (i.fdiv j)):=Ej fun _ _ _ _ _ _ _ hc q=>floordiv_int hc.1 q (.inl (PyProof.noPylong_of_log2 (lt_trans hc.2.log2 (by decide))))
def hV (i j:Int):Prop:=Ar i j∨(Sm 60000000 i/\Sm 60000000 j)
theorem hV.ok {i j:Int} (h:hV i j):IntMulOk i j:=by
 rcases h with h|⟨h1,h2⟩
 ·exact h.ok
 ·exact h1.mulOk h2 (by decide)
theorem hV.l {i j:Int} (h1:-(2 ^ 64) < i) (h2:i < 2 ^ 64):hV i j:=.inl (.inl ⟨h1,h2⟩)
theorem hV.r {i j:Int} (h1:-(2 ^ 64) < j) (h2:j < 2 ^ 64):hV i j:=.inl (.inr ⟨h1,h2⟩)
theorem eV:jJ X (binaryOp .Mult) (rI hV fun i j=>.int (i * j)):=Ej fun _ _ _ _ _ _ _ hc q=>mul_int q hc.ok
def UF (K:Frag) (T:String):List V->Hp->VK->Prop:=fun xs H Q=>∃ x t b,xs=[x,.ty T]/\iL K H x t/\kitOne K t (.type T)=some b/\Q (.bl b) H
theorem fU {T:String}:fD X (.builtin "isinstance") (UF X.K T):=by
 intro pins s σ H xs us Q I r h
 obtain ⟨x,t,b,rfl,ty,e,q⟩:=h
 obtain ⟨u,v,rfl,ru,rv⟩:=bN.two r
 obtain rfl:v=Value.type T:=rv
 exact IT I ru ty e fun tk=>⟨.bl b,H,I.tok tk,rfl,q⟩
end
section
variable {σ:St} {H H':Hp} {Q:VK} {D:fQ} {t u:TS} {te ta tb:TE} {v w x:V} {i j:Int} {b c:Bool} {X:Cx} {K:Frag}
theorem Bx {n:Nat} (h:σ[n]?=some (some v)) (k:Q v H):VG n σ H Q:=⟨v,h,k⟩
theorem r_c (k:Q v H):tC v σ H Q:=k
theorem LM (k:t ⟨u D,D.rt,D.bk,D.ct⟩ σ H):Bh t u D σ H:=k
theorem PY {n r b' c'} (k:n σ H):fQ.nx ⟨n,r,b',c'⟩ σ H:=k
theorem Hb {n r b' c'} (k:r v H):fQ.rt ⟨n,r,b',c'⟩ v H:=k
theorem WL (k:D.nx σ H):SZ D σ H:=k
theorem Di {g:TG} (k:te σ H fun x H1=>g x σ H1 D.nx):PH te g D σ H:=k
theorem xM {n:Nat}{R:St->Hp->Prop} (k:R (σ.set n (some v)) H):iC n v σ H R:=k
theorem Hd {r:R2} (k:ta σ H fun x H1=>tb σ H1 fun y H2=>r x y H2 Q):As r ta tb σ H Q:=k
theorem Gy {r} (k:ta σ H fun x H1=>r x H1 Q):Ip r ta σ H Q:=k
theorem Dl {g} (k:Q (g i j) H):OV g (.int i) (.int j) H Q:=⟨i,j,rfl,rfl,k⟩
theorem Au {C g} (c:C i j) (k:Q (g i j) H):rI C g (.int i) (.int j) H Q:=⟨i,j,rfl,rfl,c,k⟩
theorem r_U {g} (k:Q (g i) H):rU g (.int i) H Q:=⟨i,rfl,k⟩
def bK (R:Bool->Hp->Prop):VK:=fun x H=>∃ k,x=.bl k/\R k H
theorem Hi {R:Bool->Hp->Prop} (k:R b H):bK R (.bl b) H:=⟨b,rfl,k⟩
theorem VY {R:Bool->Hp->Prop} (k:te σ H (bK R)):KI te σ H R:=k
theorem Gz {R:Bool->Hp->Prop} (k:te σ H (bK R)):tB te σ H R:=k
theorem Cs {tc:TT} (k:tc σ H fun b H1=>if b=true then t D σ H1 else u D σ H1):VL tc t u D σ H:=k
theorem Hg {tc:TT} (k:tc σ H fun b H1=>if b=true then ta σ H1 Q else tb σ H1 Q):Iu tc ta tb σ H Q:=k
theorem Dj {ca cb:TT}{R:Bool->Hp->Prop} (k:ca σ H fun c H1=>if c=true then cb σ H1 R else R false H1):Bt ca cb σ H R:=k
theorem Hc {ca cb:TT}{R:Bool->Hp->Prop} (k:ca σ H fun c H1=>if c=true then R true H1 else cb σ H1 R):Ir ca cb σ H R:=k
theorem Cf {ca:TT}{R:Bool->Hp->Prop} (k:ca σ H fun c H1=>R (!c) H1):Bk ca σ H R:=k
def Fq (tb:TE) (σ:St) (Q:VK):VK:=fun x H1=>∃ c,x=.bl c/\if c=true then tb σ H1 Q else Q (.bl false) H1
def El (Q:VK):VK:=fun x H1=>∃ c,x=.bl c/\Q (.bl (!c)) H1
theorem XQ (k:ta σ H (Fq tb σ Q)):TL ta tb σ H Q:=k
theorem WG (k:ta σ H (El Q)):SY ta σ H Q:=k
theorem XR (k:if c=true then tb σ H Q else Q (.bl false) H):Fq tb σ Q (.bl c) H:=⟨c,rfl,k⟩
theorem WH (k:Q (.bl (!c)) H):El Q (.bl c) H:=⟨c,rfl,k⟩
theorem Cc (k:te σ H D.rt):Bi te D σ H:=k
theorem XB (k:te σ H fun _ H1=>D.nx σ H1):TF te D σ H:=k
theorem Cg {R:List V->Hp->Prop} (k:R [] H):KJ σ H R:=k
theorem XF {tr:TA}{R:List V->Hp->Prop} (k:ta σ H fun x H1=>tr σ H1 fun xs H2=>R (x::xs) H2):qZ ta tr σ H R:=k
def VF (Q:VK):List V->Hp->Prop:=fun xs H1=>xs.length<=sizeLine/\∀ p,H1 p=none->Q (.ref p) (upd H1 p (.tup xs))
def YZ (Q:VK):List V->Hp->Prop:=fun xs H1=>xs.length<=sizeLine/\∀ p,H1 p=none->Q (.ref p) (upd H1 p (.lst xs))
theorem pA {n:Nat} (h:n<=1000):n<=sizeLine:=le_of_lt (eI h)
theorem Bz {tr:TA} (k:tr σ H (VF Q)):Bf tr σ H Q:=k
theorem Ck {tr:TA} (k:tr σ H (YZ Q)):Bm tr σ H Q:=k
theorem dJ {xs:List V} (k:∀ p,H p=none->Q (.ref p) (upd H p (.tup xs))) (h:xs.length<=1000:=by exact le_of_ble_eq_true rfl):VF Q xs H:=⟨pA h,k⟩
theorem cG {xs:List V} (k:∀ p,H p=none->Q (.ref p) (upd H p (.lst xs))) (h:xs.length<=1000:=by exact le_of_ble_eq_true rfl):YZ Q xs H:=⟨pA h,k⟩
theorem XM {sp:Sp}{E:XK}{tr:TA} (k:tr σ H fun vs H1=>sp vs H1 Q E):FB sp [] E tr σ H Q:=by
 show tr σ H fun vs H1=>sp (vs++[]) H1 Q E
 have e:(fun (vs:List V) H1=>sp (vs++[]) H1 Q E)=fun vs H1=>sp vs H1 Q E:=by
  funext vs H1
  rw [append_nil]
 rw [e]; exact k
theorem Hj {r}{tr:TA} (k:tr σ H fun vs H1=>r vs H1 Q):Gi r tr σ H Q:=k
theorem Cd {n m:Nat}{ta:TA} (k:ta σ H fun vs H1=>∃ v w,vs=[v,w]/\D.nx ((σ.set n (some v)).set m (some w)) H1):Bj n m ta D σ H:=k
theorem Cw (k:Q (.bl (decide (i=j))) H):Gm (.int i) (.int j) H Q:=⟨rfl,by rw [sM,Bool.beq_eq_decide_eq]; exact k⟩
theorem Ch (k:Q (.bl (!decide (i=j))) H):Hl (.int i) (.int j) H Q:=⟨rfl,by rw [sM,Bool.beq_eq_decide_eq]; exact k⟩
theorem Cy (k:Q (.bl (b==c)) H):Gm (.bl b) (.bl c) H Q:=⟨rfl,by rw [EI]; exact k⟩
theorem TY {p:Addr}{xs:List V} (h:cN K H p xs) (e:fM xs i=some v) (k:Q v H):QJ K (.ref p) (.int i) H Q:=⟨p,xs,i,v,rfl,rfl,h,e,k⟩
theorem Cr {p:Addr}{xs:List V} (h:fV K H p xs) (e:fM xs i=some v) (k:Q v H):QI K (.ref p) (.int i) H Q:=⟨p,xs,i,v,rfl,rfl,h,e,k⟩
def tV (K:Frag):R2:=fun x y H Q=>QJ K x y H Q∨QI K x y H Q∨XU x y H Q
theorem eB:OT X (tV X.K):=ZG
theorem bH {p:Addr}{xs:List V} (h:H p=some (.lst xs)) (e:fM xs i=some v) (k:Q v H):tV K (.ref p) (.int i) H Q:=.inl (TY (cN.of h) e k)
theorem fG {p:Addr}{xs:List V} (h:H p=some (.tup xs)) (e:fM xs i=some v) (k:Q v H):tV K (.ref p) (.int i) H Q:=.inr (.inl (Cr (fV.of h) e k))
theorem Ja {A B:Prop} (h:A):if true=true then A else B:=Ev h
theorem Jb {A B:Prop} (h:B):if false=true then A else B:=Ew h
theorem Ex {p A B:Prop} [Decidable p] (hp:p) (h:A):if decide p=true then A else B:=by rw [decide_eq_true hp]; exact Ev h
theorem Ey {p A B:Prop} [Decidable p] (hp:¬ p) (h:B):if decide p=true then A else B:=by rw [decide_eq_false hp]; exact Ew h
theorem lJ {p A B:Prop} [Decidable p] (h1:p->A) (h2:¬ p->B):if decide p=true then A else B:=by
 by_cases h:p
 ·exact Ex h (h1 h)
 ·exact Ey h (h2 h)
theorem ZI {A B:Prop} (h:if b=true then B else A):if (!b)=true then A else B:=by cases b <;> exact h
theorem Ez {A B:Prop} (hb:b=true) (h:A):if b=true then A else B:=by rw [hb]; exact Ja h
theorem IV {A B:Prop} (hb:b=false) (h:B):if b=true then A else B:=by rw [hb]; exact Jb h
end
def Kp (p:Addr) (H H':Hp):Prop:=∀ b o,b≠p->H b=some o->H' b=some o
theorem Kp.refl (p:Addr) (H:Hp):Kp p H H:=fun _ _ _ h=>h
theorem Kp.trans {p:Addr}{H H1 H2:Hp} (a:Kp p H H1) (b:Kp p H1 H2):Kp p H H2:=fun c o n h=>b c o n (a c o n h)
theorem Kp.upd {p:Addr}{H:Hp}{o:HO}:Kp p H (upd H p o):=fun c u n h=>by rw [aZ n]; exact h
theorem Kp.new {p q:Addr}{H:Hp}{o:HO} (hq:H q=none):Kp p H (L2.upd H q o):=fun c u n h=>by rw [aZ (aB h hq)]; exact h
theorem aI.new {q:Addr}{H:Hp}{o:HO} (hq:H q=none):aI H (upd H q o):=fun c u h=>by rw [aZ (aB h hq)]; exact h
theorem aI.kp {p:Addr}{H H':Hp} (s:aI H H'):Kp p H H':=fun c o _ h=>s c o h
theorem aI.kpn {p:Addr}{H H2 H3:Hp} (h:H p=none) (a:aI H H2) (k:Kp p H2 H3):aI H H3:=fun c o e=>k c o (aB e h) (a c o e)
def Jl (H:Hp) (v:V) (a b:Int):Prop:=∃ q,v=.ref q/\H q=some (.tup [.int a,.int b])
def Ji (H:Hp) (p:Addr) (n:Int):Prop:=∃ a b c:Int,H p=some (.lst [.int a,.int b,.int c])/\0<=a/\0<=b/\b<=n
structure Df (K:Frag) (mg:Str->Option Value) (x:Str) (st:Stmt) (ps:List Str):Prop where
 ex:∃ (f:Addr) (fd:FuncData),(∃ (oc:Value) (od:Option Addr) (dV kV doc pm:Value) (an:Option Addr) (cdv ct:Value) (osl:Array (Option Value)),
  fd=fnOf x x (gE st) (eX st) (aG st) dV kV doc pm an cdv ct/\K.lookup f=some ⟨oc,od,.func fd,osl⟩/\PySem.W.codeIn K cdv x=true)/\keepIn K (.ref f)=true/\mg x=some (.ref f)/\pP K fd ps []
structure bD (P:Program) (w:World) (K:Frag) (mg:Str->Option Value) (base:Heap) (k:Nat) (x:Str) (ps:List Str) (sp:Sp):Prop where
 ex:∃ (f:Addr) (fd:FuncData),mg x=some (.ref f)/\keepIn K (.ref f)=true/\pP K fd ps []/\nY P w K mg base SU k f fd ps sp
theorem bD.mono {P:Program}{w:World}{K:Frag}{mg:Str->Option Value}{base:Heap}{j k:Nat}{x:Str}{ps:List Str}{sp:Sp} (o:bD P w K mg base j x ps sp) (h:j<=k):bD P w K mg base k x ps sp:=
 let ⟨f,fd,a,b,c,d⟩:=o.ex; ⟨f,fd,a,b,c,d.mono h⟩
theorem bD.of {P:Program}{w:World}{K:Frag}{mg:Str->Option Value}{base:Heap}{k:Nat}{x:Str}{st:Stmt}{N ps:List Str}{sp:Sp} (d:Df K mg x st ps) (S:aT N ps (aG st)) (len:∀ vs H Q E,sp vs H Q E->vs.length=ps.length)
  (hbody:∀ (f:Addr) (cdv:Value) (A:Around) (outer:List Env) (s:Shared) (H:Hp) (vs:List V) (Q:VK) (E:XK),iA k (A.deeper (envOfC x (aG st) s.heap.objs.size f cdv))->sp vs H Q E ->
   ∃ t,CH (uU SU P w K mg base N x (aG st) f cdv A outer s H E).nox (eX st) t/\t { nx:=fun _ H'=>Q .non H',rt:=Q } (nA N vs) H):bD P w K mg base (k+1) x ps sp:=by
 obtain ⟨f,fd,⟨oc,od,dV,kV,doc,pm,an,cdv,ct,osl,rfl,lk,hcd⟩,kp,a,b⟩:=d.ex
 refine ⟨f,_,a,kp,b,NM lk hcd S len fun A outer s H vs Q E hr hsp=>?_⟩
 obtain ⟨t,h,q⟩:=hbody f cdv A outer s H vs Q E hr hsp
 exact ⟨t,h.nox,q⟩
theorem Fj {K:Frag}{mg:Str->Option Value}{h:Heap}{x:Str}{st:Stmt}{ps:List Str}{f:Addr}{oc:Value}{od an:Option Addr}{osl:Array (Option Value)}{dV kV doc pm cdv ct:Value} (X:K.In h) (G:h.Ns mainGlobals mg)
  (a:nsIn K mainGlobals x=some (some (.ref f))) (l:K.lookup f=some ⟨oc,od,.func (fnOf x x (gE st) (eX st) (aG st) dV kV doc pm an cdv ct),osl⟩)
  (c:PySem.W.codeIn K cdv x=true) (k:keepIn K (.ref f)=true)
  (b:∀ us:List Value,us.length=ps.length->bindArgs (fnOf x x (gE st) (eX st) (aG st) dV kV doc pm an cdv ct) ⟨us,[]⟩=pure (ps.zip us)):Df K mg x st ps:=
 ⟨f,_,⟨oc,od,dV,kV,doc,pm,an,cdv,ct,osl,rfl,l,c⟩,k,mg_of X G a,.all b⟩
section
variable {X:Cx} {k:Nat} {x:Str} {ps:List Str} {dvs:List V} {sp:Sp} {p pos:Pos} {e:Expr} {es:List Expr} {t:TA}
end
section
variable {X:Cx} {k:Nat} {x:Str} {ps:List Str} {sp:Sp} {p pos:Pos} {e:Expr} {es:List Expr} {t:TA}
theorem aF (o:bD X.prog X.w X.K X.mg X.base k x ps sp) (hr:iA k X.A) (hg:Gl X x) (ha:PA X (e::es) t) (hdb:(x==("__debug__":Str))=false:=by decide)
  (he:starEach (e::es) X.env=(false,eval e X.env)::starEach es X.env:=by rfl) (hpl:(backTo pos (starEach es X.env)).any (·.1)=false:=by rfl) :
  PE X (.Call (.Name x p) (e::es) [] pos) (FB sp [] E0 t):=by
 obtain ⟨f,fd,a,b,c,d⟩:=o.ex
 exact FY d hr hg a b c .nil Ef ha hdb he hpl
end
section
variable {σ:St} {H:Hp} {Q:VK} {D:fQ} {v:V} {i j:Int} {K:Frag}
theorem Cq {p:Addr}{xs:List V} (h:cN K H p xs) (e:fM xs i=some v) (k:Q v H):tV K (.ref p) (.int i) H Q:=.inl (TY h e k)
theorem TV (h:0 < j) (k:Q (.int (i % j)) H):rI (fun _ j=>0 < j) (fun i j=>.int (i % j)) (.int i) (.int j) H Q:=Au h k
theorem LO (h:hV i j) (k:Q (.int (i * j)) H):rI hV (fun i j=>.int (i * j)) (.int i) (.int j) H Q:=Au h k
theorem rH.of (h0:0 < j) (h1:j < 2 ^ 64):rH i j:=⟨by omega,Sm.mono (m:=64) (Sm.of (by omega) (by omega)) (by decide)⟩
theorem DM (h:rH i j) (k:Q (.int (i.fdiv j)) H):rI rH (fun i j=>.int (i.fdiv j)) (.int i) (.int j) H Q:=Au h k
theorem PU (k:Q (.int 1000000000000000000) H):rI Aq (fun i j=>.int (i ^ j.toNat)) (.int 10) (.int 18) H Q:=Au ⟨by decide,by decide,by decide⟩ k
theorem WX {to ti:TE}{t:SM}{R:St->Hp->Prop} (k:to σ H fun o H1=>ti σ H1 fun i H2=>t o i v H2 fun H3=>R σ H3):Fb to ti t v σ H R:=k
theorem WF {n m:Nat}{w:V} (k:D.nx ((σ.set n (some v)).set m (some w)) H):∃ v' w',[v,w]=[v',w']/\D.nx ((σ.set n (some v')).set m (some w')) H:=⟨v,w,rfl,k⟩
end
theorem mF:bootBuiltins "int"=some (.type "int"):=by decide +kernel
theorem SH:bootBuiltins "bool"=some (.type "bool"):=by decide +kernel
theorem qS:bootBuiltins "str"=some (.type "str"):=by decide +kernel
theorem mY:bootBuiltins "list"=some (.type "list"):=by decide +kernel
theorem fL:bootBuiltins "tuple"=some (.type "tuple"):=by decide +kernel
theorem SG:bootBuiltins "dict"=some (.type "dict"):=by decide +kernel
theorem Ad:bootBuiltins "set"=some (.type "set"):=by decide +kernel
theorem pL:bootBuiltins "enumerate"=some (.type "enumerate"):=by decide +kernel
theorem Ab:bootBuiltins "zip"=some (.type "zip"):=by decide +kernel
theorem bX:bootBuiltins "len"=some (.builtin "len"):=by decide +kernel
theorem EL:bootBuiltins "abs"=some (.builtin "abs"):=by decide +kernel
theorem OK:bootBuiltins "max"=some (.builtin "max"):=by decide +kernel
theorem Ae:bootBuiltins "min"=some (.builtin "min"):=by decide +kernel
theorem bU:bootBuiltins "isinstance"=some (.builtin "isinstance"):=by decide +kernel
theorem qT:bootBuiltins "all"=some (.builtin "all"):=by decide +kernel
theorem Ac:bootBuiltins "sum"=some (.builtin "sum"):=by decide +kernel
structure Bl (mg:Str->Option Value):Prop where
 z_int:mg "int"=none
 z_bool:mg "bool"=none
 z_str:mg "str"=none
 z_list:mg "list"=none
 z_tuple:mg "tuple"=none
 z_dict:mg "dict"=none
 z_set:mg "set"=none
 z_range:mg "range"=none
 z_enumerate:mg "enumerate"=none
 z_zip:mg "zip"=none
 z_reversed:mg "reversed"=none
 z_len:mg "len"=none
 z_abs:mg "abs"=none
 z_max:mg "max"=none
 z_min:mg "min"=none
 z_isinstance:mg "isinstance"=none
 z_sorted:mg "sorted"=none
 z_all:mg "all"=none
 z_any:mg "any"=none
 z_sum:mg "sum"=none
section
variable {K:Frag} {H:Hp} {Q:VK}
theorem vP:kitOne K (.type "bool") (.type "bool")=some true:=by first|rfl|with_unfolding_all rfl|decide
theorem yH:kitOne K (.type "bool") (.type "int")=some true:=by first|rfl|with_unfolding_all rfl|decide
theorem yG:kitOne K (.type "int") (.type "bool")=some false:=by first|rfl|with_unfolding_all rfl|decide
theorem BN:kitOne K (.type "int") (.type "int")=some true:=by first|rfl|with_unfolding_all rfl|decide
theorem yF:kitOne K (.type "str") (.type "bool")=some false:=by first|rfl|with_unfolding_all rfl|decide
theorem BM:kitOne K (.type "str") (.type "int")=some false:=by first|rfl|with_unfolding_all rfl|decide
theorem rE:kitOne K (.type "str") (.type "str")=some true:=by first|rfl|with_unfolding_all rfl|decide
theorem pD:kitOne K (.type "str") (.type "list")=some false:=by first|rfl|with_unfolding_all rfl|decide
theorem cF:kitOne K (.type "tuple") (.type "tuple")=some true:=by first|rfl|with_unfolding_all rfl|decide
theorem kB:kitOne K (.type "list") (.type "list")=some true:=by first|rfl|with_unfolding_all rfl|decide
theorem pE:kitOne K (.type "NoneType") (.type "bool")=some false:=by first|rfl|with_unfolding_all rfl|decide
theorem qL:kitOne K (.type "NoneType") (.type "int")=some false:=by first|rfl|with_unfolding_all rfl|decide
theorem dX {T:String}{x:V}{t:Value}{b:Bool} (ty:iL K H x t) (e:kitOne K t (.type T)=some b) (k:Q (.bl b) H):UF K T [x,.ty T] H Q:=⟨x,t,b,rfl,ty,e,k⟩
end
section
variable {X:Cx} {K:Frag} {σ:St} {H:Hp} {Q:VK} {D:fQ} {i j:Int} {b:Bool}
def Ec:List V->Hp->VK->Prop:=fun xs H Q=>∃ i,xs=[.int i]/\Q (.int (if i < 0 then -i else i)) H
theorem OJ:fD X (.builtin "abs") Ec:=OI
theorem Dk (k:Q (.int (if i < 0 then -i else i)) H):Ec [.int i] H Q:=⟨i,rfl,k⟩
def UE:List V->Hp->VK->Prop:=fun xs H Q=>∃ i j,xs=[.int i,.int j]/\Q (.int (if j > i then j else i)) H
theorem VA (hc:X.calm=true):fD X (.builtin "max") UE:=JM hc
theorem Cj (k:Q (.int (if j > i then j else i)) H):UE [.int i,.int j] H Q:=⟨i,j,rfl,k⟩
def UD:List V->Hp->VK->Prop:=fun xs H Q=>∃ i j,xs=[.int i,.int j]/\Q (.int (if j < i then j else i)) H
theorem Fm (hc:X.calm=true):fD X (.builtin "min") UD:=JL hc
theorem Ci (k:Q (.int (if j < i then j else i)) H):UD [.int i,.int j] H Q:=⟨i,j,rfl,k⟩
def MB (K:Frag):List V->Hp->VK->Prop:=fun xs H Q=>∃ x n,xs=[x]/\Fy K x H n/\Q (.int n) H
theorem dF:fD X (.builtin "len") (MB X.K):=OH
theorem DL {p:Addr}{xs:List V} (h:cN K H p xs) (k:Q (.int xs.length) H):MB K [.ref p] H Q:=⟨_,_,rfl,.inl ⟨xs,h,rfl⟩,k⟩
theorem WO {p:Addr}{xs:List V} (h:H p=some (.lst xs)) (k:Q (.int xs.length) H):MB K [.ref p] H Q:=DL (cN.of h) k
theorem WN {p:Addr}{xs:List V} (h:H p=some (.tup xs)) (k:Q (.int xs.length) H):MB K [.ref p] H Q:=⟨_,_,rfl,.inr ⟨xs,fV.of h,rfl⟩,k⟩
theorem xL {x:Str} (h:x.length<=sizeLine) (k:Q (.int x.length) H):MB K [.str x] H Q:=⟨_,_,rfl,⟨h,rfl⟩,k⟩
def UG:List V->Hp->VK->Prop:=fun xs H Q=>(∃ i,xs=[.int i]/\Q (.int i) H)∨∃ k,xs=[.bl k]/\Q (.int (if k then 1 else 0)) H
theorem VB:fD X (.type "int") UG:=JN
theorem WS (k:Q (.int (if b then 1 else 0)) H):UG [.bl b] H Q:=.inr ⟨b,rfl,k⟩
def NK (g:TG) (tb:TS) (D:fQ) (σ:St):It->Hp->Prop:=fun J H1=>∃ W:Nat->Nat->St->Hp->Prop,(∃ m,W 0 m σ H1)/\∀ i m σ H,W i m σ H ->
 (J.stop i H/\D.nx σ H)∨(J.go i H/\∃ N:St->Hp->Prop,(∀ σ' H',N σ' H'->∃ m',m' < m/\W (i+1) m' σ' H')/\∀ x H',J.yld i H x H'->g x σ H' fun σ2 H2=>tb { D with nx:=N,ct:=N,bk:=D.nx } σ2 H2)
theorem Ct {wi:TI}{g:TG}{tb:TS} (k:wi σ H (NK g tb D σ)):Bp wi g tb D σ H:=k
def TR (R:It->Hp->Prop):List V->Hp->Prop:=fun vs H1=>∃ j:Int,vs=[.int j]/\-(2 ^ 62)<=j/\j < 2 ^ 62/\R (JQ 0 j.toNat) H1
def TQ (R:It->Hp->Prop):List V->Hp->Prop:=fun vs H1=>∃ i j:Int,vs=[.int i,.int j]/\(-(2 ^ 62)<=i/\i < 2 ^ 62/\-(2 ^ 62)<=j/\j < 2 ^ 62)/\R (JQ i (j - i).toNat) H1
theorem WD {ta:TA}{R:It->Hp->Prop} (k:ta σ H (TR R)):UU ta σ H R:=k
theorem WC {ta:TA}{R:It->Hp->Prop} (k:ta σ H (TQ R)):UT ta σ H R:=k
theorem kX {R:It->Hp->Prop} (h1:-(2 ^ 62)<=j) (h2:j < 2 ^ 62) (k:R (JQ 0 j.toNat) H):TR R [.int j] H:=⟨j,rfl,h1,h2,k⟩
theorem oK {R:It->Hp->Prop} (h1:-(2 ^ 62)<=i) (h2:i < 2 ^ 62) (h3:-(2 ^ 62)<=j) (h4:j < 2 ^ 62) (k:R (JQ i (j - i).toNat) H):TQ R [.int i,.int j] H:=⟨i,j,rfl,⟨h1,h2,h3,h4⟩,k⟩
theorem jY {lo:Int}{n:Nat}{g:TG}{tb:TS} (Pv:Nat->St->Hp->Prop) (h0:Pv 0 σ H)
  (hs:∀ i σ H,i < n->Pv i σ H->g (.int (lo+i)) σ H fun σ2 H2=>tb ⟨Pv (i+1),D.rt,D.nx,Pv (i+1)⟩ σ2 H2) (hd:∀ σ H,Pv n σ H->D.nx σ H):NK g tb D σ (JQ lo n) H:=IY Pv h0 hs hd
def UQ (K:Frag) (R:It->Hp->Prop):VK:=fun x H1=>∃ a,x=.ref a/\(∃ xs,cN K H1 a xs)/\R (JX K a) H1
theorem PZ {tl:TE}{R:It->Hp->Prop} (k:tl σ H (UQ K R)):UV K tl σ H R:=k
theorem dR {a:Addr}{xs:List V}{R:It->Hp->Prop} (h:cN K H a xs) (k:R (JX K a) H):UQ K R (.ref a) H:=⟨a,rfl,⟨xs,h⟩,k⟩
theorem nO {a:Addr}{xs:List V}{g:TG}{tb:TS} (Pv:Nat->St->Hp->Prop) (h0:Pv 0 σ H) (hl:∀ i σ H,i<=xs.length->Pv i σ H->cN K H a xs)
  (hs:∀ i x σ H,xs[i]?=some x->Pv i σ H->g x σ H fun σ2 H2=>tb ⟨Pv (i+1),D.rt,D.nx,Pv (i+1)⟩ σ2 H2) (hd:∀ σ H,Pv xs.length σ H->D.nx σ H):NK g tb D σ (JX K a) H:=NJ Pv h0 hl hs hd
end
end
end L2
namespace L2
open PySem
def sg (t b:Int):Int:=if b < 0 then 0 - (Int.gcd t b:Int) else (Int.gcd t b:Int)
def lD (t b:Int):Int:=t.fdiv (sg t b)
def kL (t b:Int):Int:=b.fdiv (sg t b)
theorem yO {t b:Int} (h:b≠0):0 < Int.gcd t b:=Nat.pos_of_ne_zero fun e=>h (Int.gcd_eq_zero_iff.mp e).2
theorem AB {t b:Int} (h:b≠0):sg t b≠0:=by
 have:=yO (t:=t) h
 unfold sg
 split <;> omega
theorem LA (t b:Int):sg t b ∣ t:=by
 unfold sg
 split
 ·exact (Int.zero_sub _ ▸ Int.neg_dvd.mpr (Int.gcd_dvd_left ..))
 ·exact Int.gcd_dvd_left ..
theorem KZ (t b:Int):sg t b ∣ b:=by
 unfold sg
 split
 ·exact (Int.zero_sub _ ▸ Int.neg_dvd.mpr (Int.gcd_dvd_right ..))
 ·exact Int.gcd_dvd_right ..
theorem GR {a g:Int} (hg:g≠0) (h:g ∣ a):a.fdiv g * g=a:=by
 obtain ⟨c,rfl⟩:=h
 rw [Int.mul_fdiv_cancel_left _ hg,Int.mul_comm]
theorem uH {t b:Int} (h:b≠0):lD t b * sg t b=t:=GR (AB h) (LA t b)
theorem oY {t b:Int} (h:b≠0):kL t b * sg t b=b:=GR (AB h) (KZ t b)
theorem wH (t b:Int):(sg t b).natAbs=Int.gcd t b:=by
 unfold sg
 split <;> omega
theorem BJ {t b:Int} (h:b≠0):0 < kL t b:=by
 have e:=oY (t:=t) h
 have hp:=yO (t:=t) h
 by_cases hb:b < 0
 ·have hs:sg t b < 0:=by unfold sg; rw [if_pos hb]; omega
  rcases Int.lt_or_le 0 (kL t b) with q|q
  ·exact q
  ·have:0<=kL t b * sg t b:=Int.mul_nonneg_of_nonpos_of_nonpos q (Int.le_of_lt hs)
   omega
 ·have hs:0 < sg t b:=by unfold sg; rw [if_neg hb]; omega
  rcases Int.lt_or_le 0 (kL t b) with q|q
  ·exact q
  ·have:kL t b * sg t b<=0:=Int.mul_nonpos_of_nonpos_of_nonneg q (Int.le_of_lt hs)
   omega
theorem RL {t b:Int} (h:b≠0):Int.gcd (lD t b) (kL t b)=1:=by
 have e1:=uH (t:=t) h
 have e2:=oY (t:=t) h
 have hp:=yO (t:=t) h
 have e:Int.gcd (lD t b * sg t b) (kL t b * sg t b)=Int.gcd (lD t b) (kL t b) * (sg t b).natAbs:=Int.gcd_mul_right ..
 rw [e1,e2,wH] at e
 have:1 * Int.gcd t b=Int.gcd (lD t b) (kL t b) * Int.gcd t b:=by omega
 exact (Nat.eq_of_mul_eq_mul_right hp this).symm
theorem IN {t b:Int} (h:b≠0):t * kL t b=b * lD t b:=by
 have e1:=uH (t:=t) h
 have e2:=oY (t:=t) h
 calc t * kL t b=(lD t b * sg t b) * kL t b:=by rw [e1]
  _=(kL t b * sg t b) * lD t b:=by rw [Int.mul_assoc,Int.mul_comm (sg t b),← Int.mul_assoc,Int.mul_comm (lD t b),Int.mul_assoc,Int.mul_comm (lD t b),← Int.mul_assoc]
  _=b * lD t b:=by rw [e2]
theorem kK {a g c:Int} (hg:g≠0) (e:a * g=c):a.natAbs<=c.natAbs:=by
 rw [← e,Int.natAbs_mul]
 exact Nat.le_mul_of_pos_right _ (by omega)
theorem RM {t b:Int} (h:b≠0):(lD t b).natAbs<=t.natAbs:=kK (AB h) (uH h)
theorem RN {t b:Int} (h:b≠0):(kL t b).natAbs<=b.natAbs:=kK (AB h) (oY h)
theorem NH {one other:Int} (h:0 < other):Int.gcd other (one % other)=Int.gcd one other:=by
 have e:one % other=one - (one / other) * other:=by rw [Int.emod_def,Int.mul_comm]
 rw [e,Int.gcd_comm other,Int.gcd_sub_mul_right_left]
theorem IX {one other:Int} (h:other≠0):Int.gcd other (one.fmod other)=Int.gcd one other:=by
 have e:one.fmod other=one - (one.fdiv other) * other:=by rw [Int.fmod_def,Int.mul_comm]
 rw [e,Int.gcd_comm other,Int.gcd_sub_mul_right_left]
theorem Hn {ns:List Int}{i:Int} (h0:0<=i) (h1:i < ns.length):∃ z,z∈ns/\fM (ns.map V.int) i=some (.int z):=by
 have hk:i.toNat < ns.length:=by omega
 have ek:i=((i.toNat:Nat):Int):=by omega
 have q:fM (ns.map V.int) ((i.toNat:Nat):Int)=some (.int ns[i.toNat]):=aX (by rw [List.getElem?_map,List.getElem?_eq_getElem hk] <;> rfl)
 rw [← ek] at q
 exact ⟨ns[i.toNat],List.getElem_mem hk,q⟩
theorem cR {a b:Int} (ha:0<=a) (hb:0 < b):0<=a.fdiv b:=by
 rw [Int.fdiv_eq_ediv_of_nonneg _ (Int.le_of_lt hb)]
 exact Int.ediv_nonneg ha (Int.le_of_lt hb)
theorem WM {i j:Int}{H:Hp}{Q:VK} (h:j≠0) (k:Q (.int (i.fmod j)) H):rI (fun _ j=>j≠0) (fun i j=>.int (i.fmod j)) (.int i) (.int j) H Q:=Au h k
theorem RU {a b:Int} (h:b≠0):(a.fmod b).natAbs < b.natAbs:=by
 have e:=Int.fmod_eq_emod (a:=a) (b:=b)
 have h1:=Int.emod_nonneg a h
 have h2:=Int.emod_lt a h
 rw [e]
 by_cases hc:0<=b∨b ∣ a
 ·rw [if_pos hc]
  omega
 ·rw [if_neg hc]
  have h3:a % b≠0:=fun z=>hc (.inr (Int.dvd_of_emod_eq_zero z))
  omega
def Fd:V->V->Bool
|.int a,.int b=>decide (1<=b)&&decide (Int.gcd a b=1)
|_,_=>false
theorem wP {t b:Int} (h:b≠0):lD t b * b=t * kL t b:=by rw [IN h,Int.mul_comm]
end L2
namespace L2
open PySem PySem.Spec PyProof.Rows
section
inductive Dt where
|non|bl (b:Bool)|int (i:Int)|str (x:Str)|tup (xs:List Dt)|lst (xs:List Dt)
mutual
def rR (H:Hp):Dt->V->Prop
|.non,v=>v=.non
|.bl b,v=>v=.bl b
|.int i,v=>v=.int i
|.str x,v=>v=.str x
|.tup ds,v=>∃ p vs,v=.ref p/\H p=some (.tup vs)/\kM H ds vs
|.lst ds,v=>∃ p vs,v=.ref p/\H p=some (.lst vs)/\kM H ds vs
def kM (H:Hp):List Dt->List V->Prop
|[],vs=>vs=[]
|d::ds,vs=>∃ v r,vs=v::r/\rR H d v/\kM H ds r
end
mutual
def JV:Dt->Dt->Bool
|.non,.non=>true
|.bl a,.bl b=>a==b
|.bl a,.int b=>(if a then 1 else 0)==b
|.int a,.bl b=>a==(if b then 1 else 0)
|.int a,.int b=>a==b
|.str a,.str b=>a==b
|.tup xs,.tup ys=>pG xs ys
|.lst xs,.lst ys=>pG xs ys
|_,_=>false
def pG:List Dt->List Dt->Bool
|[],[]=>true
|x::xs,y::ys=>JV x y&&pG xs ys
|_,_=>false
end
mutual
def sK:Dt->Nat
|.tup xs=>gD xs+1
|.lst xs=>gD xs+1
|_=>0
def gD:List Dt->Nat
|[]=>0
|x::xs=>max (sK x) (gD xs)
end
theorem kM.length {H:Hp}:∀ {ds:List Dt}{vs:List V},kM H ds vs->ds.length=vs.length
|[],vs,h=>by rw [show vs=[] from h]; rfl
|d::ds,vs,h=>by
  obtain ⟨v,r,rfl,_,t⟩:=h
  rw [length_cons,length_cons,kM.length t]
mutual
theorem rR.same_eq {H:Hp}:∀ (d e:Dt) {x:V},rR H d x->rR H e x->JV d e=true
|.tup ds,.tup es,x,h1,h2=>by
  obtain ⟨p,vs,rfl,a,b⟩:=h1
  obtain ⟨q,ws,e1,c,d⟩:=h2
  cases e1
  rw [a] at c
  cases c
  exact kM.same_eq ds es b d
|.lst ds,.lst es,x,h1,h2=>by
  obtain ⟨p,vs,rfl,a,b⟩:=h1
  obtain ⟨q,ws,e1,c,d⟩:=h2
  cases e1
  rw [a] at c
  cases c
  exact kM.same_eq ds es b d
|.tup ds,.lst es,x,h1,h2=>by
  obtain ⟨p,vs,rfl,a,b⟩:=h1
  obtain ⟨q,ws,e1,c,d⟩:=h2
  cases e1
  rw [a] at c
  cases c
|.lst ds,.tup es,x,h1,h2=>by
  obtain ⟨p,vs,rfl,a,b⟩:=h1
  obtain ⟨q,ws,e1,c,d⟩:=h2
  cases e1
  rw [a] at c
  cases c
|.non,e,x,h1,h2=>by
  have h1:x=.non:=h1
  subst h1
  cases e <;> first|rfl|(have h2:V.non=_:=h2; cases h2)|(obtain ⟨_,_,z,_⟩:=h2; cases z)
|.bl b,e,x,h1,h2=>by
  have h1:x=.bl b:=h1
  subst h1
  cases e <;> first|(have h2:V.bl b=_:=h2; cases h2; exact beq_self_eq_true b)|(have h2:V.bl b=_:=h2; cases h2; done)|(obtain ⟨_,_,z,_⟩:=h2; cases z)
|.int b,e,x,h1,h2=>by
  have h1:x=.int b:=h1
  subst h1
  cases e <;> first|(have h2:V.int b=_:=h2; cases h2; exact beq_self_eq_true b)|(have h2:V.int b=_:=h2; cases h2; done)|(obtain ⟨_,_,z,_⟩:=h2; cases z)
|.str b,e,x,h1,h2=>by
  have h1:x=.str b:=h1
  subst h1
  cases e <;> first|(have h2:V.str b=_:=h2; cases h2; exact beq_self_eq_true b)|(have h2:V.str b=_:=h2; cases h2; done)|(obtain ⟨_,_,z,_⟩:=h2; cases z)
|.tup ds,.non,x,h1,h2=>by obtain ⟨p,vs,rfl,_⟩:=h1; have h2:V.ref p=_:=h2; cases h2
|.tup ds,.bl _,x,h1,h2=>by obtain ⟨p,vs,rfl,_⟩:=h1; have h2:V.ref p=_:=h2; cases h2
|.tup ds,.int _,x,h1,h2=>by obtain ⟨p,vs,rfl,_⟩:=h1; have h2:V.ref p=_:=h2; cases h2
|.tup ds,.str _,x,h1,h2=>by obtain ⟨p,vs,rfl,_⟩:=h1; have h2:V.ref p=_:=h2; cases h2
|.lst ds,.non,x,h1,h2=>by obtain ⟨p,vs,rfl,_⟩:=h1; have h2:V.ref p=_:=h2; cases h2
|.lst ds,.bl _,x,h1,h2=>by obtain ⟨p,vs,rfl,_⟩:=h1; have h2:V.ref p=_:=h2; cases h2
|.lst ds,.int _,x,h1,h2=>by obtain ⟨p,vs,rfl,_⟩:=h1; have h2:V.ref p=_:=h2; cases h2
|.lst ds,.str _,x,h1,h2=>by obtain ⟨p,vs,rfl,_⟩:=h1; have h2:V.ref p=_:=h2; cases h2
theorem kM.same_eq {H:Hp}:∀ (ds es:List Dt) {xs:List V},kM H ds xs->kM H es xs->pG ds es=true
|[],[],xs,_,_=>rfl
|[],e::es,xs,h1,h2=>by
  have h1:xs=[]:=h1
  subst h1
  obtain ⟨_,_,z,_⟩:=h2
  cases z
|d::ds,[],xs,h1,h2=>by
  have h2:xs=[]:=h2
  subst h2
  obtain ⟨_,_,z,_⟩:=h1
  cases z
|d::ds,e::es,xs,h1,h2=>by
  obtain ⟨v,r,rfl,a,b⟩:=h1
  obtain ⟨v',r',z,a',b'⟩:=h2
  cases z
  show (JV d e&&pG ds es)=true
  rw [rR.same_eq d e a a',kM.same_eq ds es b b']
  rfl
end
def MS (ds es:List Dt) (j:Nat):Bool:=match ds[j]?,es[j]? with
|some d,some e=>JV d e
|_,_=>false
theorem fK:∀ (ds es:List Dt),((List.range (min ds.length es.length)).all (MS ds es)&&ds.length==es.length)=pG ds es
|[],[]=>rfl
|[],e::es=>by show (_&&(0==es.length+1))=false; simp
|d::ds,[]=>by show (_&&(ds.length+1==0))=false; simp
|d::ds,e::es=>by
  have ih:=fK ds es
  show _=(JV d e&&pG ds es)
  rw [← ih]
  have h1:min (d::ds).length (e::es).length=min ds.length es.length+1:=by simp only [length_cons]; omega
  rw [h1,List.range_succ_eq_map,all_cons,all_map]
  have h2:(MS (d::ds) (e::es)) ∘ Nat.succ=MS ds es:=by funext j; rfl
  rw [h2]
  have h3:MS (d::ds) (e::es) 0=JV d e:=rfl
  rw [h3]
  have h4:((d::ds).length==(e::es).length)=(ds.length==es.length):=by simp
  rw [h4,Bool.and_assoc]
section
variable {X:Cx} {pins:List (Addr×Obj)} {σ:St} {H:Hp} {s:Shared}
theorem iQ (I:bA X pins σ H s) {p:Addr}{vs:List V} (h:H p=some (.tup vs)):∃ its:List Value,bN vs its/\s.heap.IsTuple p its.toArray:=by
 obtain ⟨_,its,r,q⟩:=(show cS X.prog X.w H s.heap p (.tup vs) from I.hok p _ h)
 exact ⟨its,r,q⟩
theorem hZ (I:bA X pins σ H s) {p:Addr}{vs:List V} (h:H p=some (.lst vs)):∃ its:List Value,bN vs its/\s.heap.IsList p its.toArray:=by
 obtain ⟨_,its,n,r,q⟩:=(show cS X.prog X.w H s.heap p (.lst vs) from I.hok p _ h)
 exact ⟨its,r,_,q,rfl,_,rfl⟩
theorem yJ {A:Around}{ds:List Dt} (h:A.units+sK (.tup ds) < cLine):A.in1.units+gD ds < cLine:=by
 have e:sK (.tup ds)=gD ds+1:=by simp [sK]
 show A.units+1+gD ds < cLine
 omega
theorem yK {A:Around}{ds:List Dt} (h:A.units+sK (.lst ds) < cLine):A.in1.units+gD ds < cLine:=by
 have e:sK (.lst ds)=gD ds+1:=by simp [sK]
 show A.units+1+gD ds < cLine
 omega
mutual
theorem ZP (I:bA X pins σ H s):∀ (d e:Dt) {x y:V}{u v:Value}{A:Around},rR H d x->rR H e y->bL x u->bL y v->A.units+sK d < cLine->SeqAt.EqAt A s u v (JV d e)
|.tup ds,e,x,y,u,v,A,h1,h2,rx,ry,hu=>by
  obtain ⟨p,vs,rfl,a,b⟩:=h1
  cases rx
  obtain ⟨its,r,t⟩:=iQ I a
  have hu':A.units < cLine:=by omega
  cases e with
 |tup es =>
   obtain ⟨q,ws,rfl,a',b'⟩:=id h2
   cases ry
   by_cases hne:p=q
   ·subst hne
    have:=rR.same_eq (.tup ds) (.tup es) (x:=.ref p) ⟨p,vs,rfl,a,b⟩ h2
    rw [this]
    exact SeqAt.EqAt.same _
   ·obtain ⟨its',r',t'⟩:=iQ I a'
    have z:=SeqAt.RcAt.tuples (e:=MS ds es) t t' hu' (fun j g1 g2=>nU I ds es b b' r r' (yJ hu) j (by simpa using g1) (by simpa using g2))
    have l1:its.length=ds.length:=by rw [b.length,r.length]
    have l2:its'.length=es.length:=by rw [b'.length,r'.length]
    rw [size_toArray,size_toArray,l1,l2,fK] at z
    exact SeqAt.EqAt.of_refs hne z
 |lst es =>
   obtain ⟨q,ws,rfl,a',b'⟩:=id h2
   cases ry
   obtain ⟨its',r',t'⟩:=hZ I a'
   exact SeqAt.EqAt.tuple_list t t' hu'
 |non=>cases (show y=.non from h2); cases ry; exact SeqAt.EqAt.tuple_none t hu'
 |bl b=>cases (show y=.bl b from h2); cases ry; exact SeqAt.EqAt.tuple_bool b t hu'
 |int b=>cases (show y=.int b from h2); obtain ⟨tk,rfl⟩:=ry; exact SeqAt.EqAt.tuple_int b tk t hu'
 |str b=>cases (show y=.str b from h2); obtain ⟨tk,rfl⟩:=ry; exact SeqAt.EqAt.tuple_str b tk t hu'
|.lst ds,e,x,y,u,v,A,h1,h2,rx,ry,hu=>by
  obtain ⟨p,vs,rfl,a,b⟩:=h1
  cases rx
  obtain ⟨its,r,t⟩:=hZ I a
  have hu':A.units < cLine:=by omega
  cases e with
 |lst es =>
   obtain ⟨q,ws,rfl,a',b'⟩:=id h2
   cases ry
   by_cases hne:p=q
   ·subst hne
    have:=rR.same_eq (.lst ds) (.lst es) (x:=.ref p) ⟨p,vs,rfl,a,b⟩ h2
    rw [this]
    exact SeqAt.EqAt.same _
   ·obtain ⟨its',r',t'⟩:=hZ I a'
    have l1:its.length=ds.length:=by rw [b.length,r.length]
    have l2:its'.length=es.length:=by rw [b'.length,r'.length]
    by_cases hl:ds.length=es.length
    ·have z:=SeqAt.RcAt.lists (e:=MS ds es) t t' (by rw [size_toArray,size_toArray,l1,l2,hl]) hu' (fun j g1 g2=>nU I ds es b b' r r' (yK hu) j (by simpa using g1) (by simpa using g2))
     have e1:=fK ds es
     rw [hl,min_self,beq_self_eq_true,Bool.and_true] at e1
     rw [size_toArray,l1,hl,e1] at z
     exact SeqAt.EqAt.of_refs hne z
    ·have z:=SeqAt.RcAt.lists_lengths t t' (by rw [size_toArray,size_toArray,l1,l2]; simpa using hl) hu'
     have e1:=fK ds es
     rw [show (ds.length==es.length)=false from by simpa using hl,Bool.and_false] at e1
     have e2:JV (.lst ds) (.lst es)=false:=by show pG ds es=false; exact e1.symm
     rw [e2]
     exact SeqAt.EqAt.of_refs hne z
 |tup es =>
   obtain ⟨q,ws,rfl,a',b'⟩:=id h2
   cases ry
   obtain ⟨its',r',t'⟩:=iQ I a'
   exact SeqAt.EqAt.list_tuple t t' hu'
 |non=>cases (show y=.non from h2); cases ry; exact SeqAt.EqAt.list_none t hu'
 |bl b=>cases (show y=.bl b from h2); cases ry; exact SeqAt.EqAt.list_bool b t hu'
 |int b=>cases (show y=.int b from h2); obtain ⟨tk,rfl⟩:=ry; exact SeqAt.EqAt.list_int b tk t hu'
 |str b=>cases (show y=.str b from h2); obtain ⟨tk,rfl⟩:=ry; exact SeqAt.EqAt.list_str b tk t hu'
|.non,e,x,y,u,v,A,h1,h2,rx,ry,hu=>by
  cases (show x=.non from h1); cases rx
  have hu':A.units < cLine:=by omega
  cases e with
 |tup es=>obtain ⟨q,ws,rfl,a',b'⟩:=id h2; cases ry; obtain ⟨its',r',t'⟩:=iQ I a'; exact SeqAt.EqAt.none_tuple t' hu'
 |lst es=>obtain ⟨q,ws,rfl,a',b'⟩:=id h2; cases ry; obtain ⟨its',r',t'⟩:=hZ I a'; exact SeqAt.EqAt.none_list t' hu'
 |non=>cases (show y=.non from h2); cases ry; exact SeqAt.EqAt.same _
 |bl b=>cases (show y=.bl b from h2); cases ry; exact SeqAt.EqAt.none_bool b
 |int b=>cases (show y=.int b from h2); obtain ⟨tk,rfl⟩:=ry; exact SeqAt.EqAt.none_int b tk
 |str b=>cases (show y=.str b from h2); obtain ⟨tk,rfl⟩:=ry; exact SeqAt.EqAt.none_str b tk
|.bl c,e,x,y,u,v,A,h1,h2,rx,ry,hu=>by
  cases (show x=.bl c from h1); cases rx
  have hu':A.units < cLine:=by omega
  cases e with
 |tup es=>obtain ⟨q,ws,rfl,a',b'⟩:=id h2; cases ry; obtain ⟨its',r',t'⟩:=iQ I a'; exact SeqAt.EqAt.bool_tuple c t' hu'
 |lst es=>obtain ⟨q,ws,rfl,a',b'⟩:=id h2; cases ry; obtain ⟨its',r',t'⟩:=hZ I a'; exact SeqAt.EqAt.bool_list c t' hu'
 |non=>cases (show y=.non from h2); cases ry; exact SeqAt.EqAt.bool_none c
 |bl b=>cases (show y=.bl b from h2); cases ry; exact SeqAt.EqAt.bool_bool c b
 |int b=>cases (show y=.int b from h2); obtain ⟨tk,rfl⟩:=ry; exact SeqAt.EqAt.bool_int c b tk
 |str b=>cases (show y=.str b from h2); obtain ⟨tk,rfl⟩:=ry; exact SeqAt.EqAt.bool_str c b tk
|.int c,e,x,y,u,v,A,h1,h2,rx,ry,hu=>by
  cases (show x=.int c from h1); obtain ⟨tc,rfl⟩:=rx
  have hu':A.units < cLine:=by omega
  cases e with
 |tup es=>obtain ⟨q,ws,rfl,a',b'⟩:=id h2; cases ry; obtain ⟨its',r',t'⟩:=iQ I a'; exact SeqAt.EqAt.int_tuple c tc t' hu'
 |lst es=>obtain ⟨q,ws,rfl,a',b'⟩:=id h2; cases ry; obtain ⟨its',r',t'⟩:=hZ I a'; exact SeqAt.EqAt.int_list c tc t' hu'
 |non=>cases (show y=.non from h2); cases ry; exact SeqAt.EqAt.int_none c tc
 |bl b=>cases (show y=.bl b from h2); cases ry; exact SeqAt.EqAt.int_bool c tc b
 |int b=>cases (show y=.int b from h2); obtain ⟨tk,rfl⟩:=ry; exact SeqAt.EqAt.int_int c tc b tk
 |str b=>cases (show y=.str b from h2); obtain ⟨tk,rfl⟩:=ry; exact SeqAt.EqAt.int_str c tc b tk
|.str c,e,x,y,u,v,A,h1,h2,rx,ry,hu=>by
  cases (show x=.str c from h1); obtain ⟨tc,rfl⟩:=rx
  have hu':A.units < cLine:=by omega
  cases e with
 |tup es=>obtain ⟨q,ws,rfl,a',b'⟩:=id h2; cases ry; obtain ⟨its',r',t'⟩:=iQ I a'; exact SeqAt.EqAt.str_tuple c tc t' hu'
 |lst es=>obtain ⟨q,ws,rfl,a',b'⟩:=id h2; cases ry; obtain ⟨its',r',t'⟩:=hZ I a'; exact SeqAt.EqAt.str_list c tc t' hu'
 |non=>cases (show y=.non from h2); cases ry; exact SeqAt.EqAt.str_none c tc
 |bl b=>cases (show y=.bl b from h2); cases ry; exact SeqAt.EqAt.str_bool c tc b
 |int b=>cases (show y=.int b from h2); obtain ⟨tk,rfl⟩:=ry; exact SeqAt.EqAt.str_int c tc b tk
 |str b=>cases (show y=.str b from h2); obtain ⟨tk,rfl⟩:=ry; exact SeqAt.EqAt.str_str c tc b tk
theorem nU (I:bA X pins σ H s):∀ (ds es:List Dt) {xs ys:List V}{us vs:List Value}{A:Around},kM H ds xs->kM H es ys->bN xs us->bN ys vs->A.units+gD ds < cLine ->
  ∀ (j:Nat) (g1:j < us.length) (g2:j < vs.length),SeqAt.EqAt A s us[j] vs[j] (MS ds es j)
|[],es,xs,ys,us,vs,A,h1,h2,r1,r2,hu=>fun j g1 g2=>by
  have h1:xs=[]:=h1
  subst h1
  cases r1
  exact absurd g1 (not_lt_zero _)
|d::ds,[],xs,ys,us,vs,A,h1,h2,r1,r2,hu=>fun j g1 g2=>by
  have h2:ys=[]:=h2
  subst h2
  cases r2
  exact absurd g2 (not_lt_zero _)
|d::ds,e::es,xs,ys,us,vs,A,h1,h2,r1,r2,hu=>fun j g1 g2=>by
  obtain ⟨x,xr,rfl,a,b⟩:=h1
  obtain ⟨y,yr,rfl,a',b'⟩:=h2
  cases r1 with
 |cons rx r1 =>
   cases r2 with
  |cons ry r2 =>
    have hd:gD (d::ds)=max (sK d) (gD ds):=by simp [gD]
    cases j with
   |zero=>exact ZP I d e a a' rx ry (by omega)
   |succ j=>exact nU I ds es b b' r1 r2 (by omega) j (by simpa using g1) (by simpa using g2)
end
def Dy:R2:=fun x y H Q=>∃ d e,rR H d x/\rR H e y/\sK d<=60/\((∃ ds es,d=.tup ds/\e=.tup es)∨∃ ds es,d=.lst ds/\e=.lst es)/\Q (.bl (JV d e)) H
def Ds:R2:=fun x y H Q=>∃ d e,rR H d x/\rR H e y/\sK d<=60/\((∃ ds es,d=.tup ds/\e=.tup es)∨∃ ds es,d=.lst ds/\e=.lst es)/\Q (.bl (!JV d e)) H
theorem YN (hu:X.A.units+64 < cLine):jJ X (compareOp .Eq) Dy:=by
 intro pins s σ H x y v u Q I rx ry h
 obtain ⟨d,e,h1,h2,hd,k,q⟩:=h
 rcases k with ⟨ds,es,rfl,rfl⟩|⟨ds,es,rfl,rfl⟩
 ·obtain ⟨p,vs,rfl,a,b⟩:=h1
  obtain ⟨p',ws,rfl,a',b'⟩:=h2
  cases rx
  cases ry
  obtain ⟨its,r,t⟩:=iQ I a
  obtain ⟨its',r',t'⟩:=iQ I a'
  have z:=SeqAt.RcAt.tuples (A:=X.A) (e:=MS ds es) t t' (by omega) (fun j g1 g2=>nU I ds es b b' r r' (yJ (by omega)) j (by simpa using g1) (by simpa using g2))
  have l1:its.length=ds.length:=by rw [b.length,r.length]
  have l2:its'.length=es.length:=by rw [b'.length,r'.length]
  rw [size_toArray,size_toArray,l1,l2,fK] at z
  exact z _ _ _ _ ⟨.bl _,H,I,rfl,q⟩
 ·obtain ⟨p,vs,rfl,a,b⟩:=h1
  obtain ⟨p',ws,rfl,a',b'⟩:=h2
  cases rx
  cases ry
  obtain ⟨its,r,t⟩:=hZ I a
  obtain ⟨its',r',t'⟩:=hZ I a'
  have l1:its.length=ds.length:=by rw [b.length,r.length]
  have l2:its'.length=es.length:=by rw [b'.length,r'.length]
  by_cases hl:ds.length=es.length
  ·have z:=SeqAt.RcAt.lists (A:=X.A) (e:=MS ds es) t t' (by rw [size_toArray,size_toArray,l1,l2,hl]) (by omega) (fun j g1 g2=>nU I ds es b b' r r' (yK (by omega)) j (by simpa using g1) (by simpa using g2))
   have e1:=fK ds es
   rw [hl,min_self,beq_self_eq_true,Bool.and_true] at e1
   rw [size_toArray,l1,hl,e1] at z
   exact z _ _ _ _ ⟨.bl _,H,I,rfl,q⟩
  ·have z:=SeqAt.RcAt.lists_lengths (A:=X.A) t t' (by rw [size_toArray,size_toArray,l1,l2]; simpa using hl) (by omega)
   have e1:=fK ds es
   rw [show (ds.length==es.length)=false from by simpa using hl,Bool.and_false] at e1
   have e2:JV (.lst ds) (.lst es)=false:=by show pG ds es=false; exact e1.symm
   rw [e2] at q
   exact z _ _ _ _ ⟨.bl _,H,I,rfl,q⟩
theorem YK (hu:X.A.units+64 < cLine):jJ X (compareOp .NotEq) Ds:=by
 intro pins s σ H x y v u Q I rx ry h
 obtain ⟨d,e,h1,h2,hd,k,q⟩:=h
 rcases k with ⟨ds,es,rfl,rfl⟩|⟨ds,es,rfl,rfl⟩
 ·obtain ⟨p,vs,rfl,a,b⟩:=h1
  obtain ⟨p',ws,rfl,a',b'⟩:=h2
  cases rx
  cases ry
  obtain ⟨its,r,t⟩:=iQ I a
  obtain ⟨its',r',t'⟩:=iQ I a'
  have z:=SeqAt.RcNeAt.tuples (A:=X.A) (e:=MS ds es) t t' (by omega) (fun j g1 g2=>nU I ds es b b' r r' (yJ (by omega)) j (by simpa using g1) (by simpa using g2))
  have l1:its.length=ds.length:=by rw [b.length,r.length]
  have l2:its'.length=es.length:=by rw [b'.length,r'.length]
  rw [size_toArray,size_toArray,l1,l2,fK] at z
  exact z _ _ _ _ ⟨.bl _,H,I,rfl,q⟩
 ·obtain ⟨p,vs,rfl,a,b⟩:=h1
  obtain ⟨p',ws,rfl,a',b'⟩:=h2
  cases rx
  cases ry
  obtain ⟨its,r,t⟩:=hZ I a
  obtain ⟨its',r',t'⟩:=hZ I a'
  have l1:its.length=ds.length:=by rw [b.length,r.length]
  have l2:its'.length=es.length:=by rw [b'.length,r'.length]
  by_cases hl:ds.length=es.length
  ·have z:=SeqAt.RcNeAt.lists (A:=X.A) (e:=MS ds es) t t' (by rw [size_toArray,size_toArray,l1,l2,hl]) (by omega) (fun j g1 g2=>nU I ds es b b' r r' (yK (by omega)) j (by simpa using g1) (by simpa using g2))
   have e1:=fK ds es
   rw [hl,min_self,beq_self_eq_true,Bool.and_true] at e1
   rw [size_toArray,l1,hl,e1] at z
   exact z _ _ _ _ ⟨.bl _,H,I,rfl,q⟩
  ·have z:=SeqAt.RcNeAt.lists_lengths (A:=X.A) t t' (by rw [size_toArray,size_toArray,l1,l2]; simpa using hl) (by omega)
   have e1:=fK ds es
   rw [show (ds.length==es.length)=false from by simpa using hl,Bool.and_false] at e1
   have e2:JV (.lst ds) (.lst es)=false:=by show pG ds es=false; exact e1.symm
   rw [e2] at q
   exact z _ _ _ _ ⟨.bl _,H,I,rfl,q⟩
def rL:R2:=fun x y H Q=>Gm x y H Q∨Dy x y H Q
def AR:R2:=fun x y H Q=>Hl x y H Q∨Ds x y H Q
theorem aY (hu:X.A.units+64 < cLine):jJ X (compareOp .Eq) rL:=Eh.or (YN hu)
theorem jB (hu:X.A.units+64 < cLine):jJ X (compareOp .NotEq) AR:=Eg.or (YK hu)
end
section
variable {H:Hp} {Q:VK} {i j:Int} {b c:Bool} {x y:Str} {u v:V}
theorem Ff (k:Q (.bl (decide (i=j))) H):rL (.int i) (.int j) H Q:=.inl (Cw k)
theorem Ep (k:Q (.bl (!decide (i=j))) H):AR (.int i) (.int j) H Q:=.inl (Ch k)
theorem Hy (k:Q (.bl (b==c)) H):rL (.bl b) (.bl c) H Q:=.inl (Cy k)
theorem NZ (k:Q (.bl (x==y)) H):rL (.str x) (.str y) H Q:=.inl ⟨rfl,by rw [sL]; exact k⟩
theorem MV (k:Q (.bl (!(x==y))) H):AR (.str x) (.str y) H Q:=.inl ⟨rfl,by rw [sL]; exact k⟩
theorem BW {ds es:List Dt} (h1:rR H (.lst ds) u) (h2:rR H (.lst es) v) (hd:gD ds<=50) (k:Q (.bl (pG ds es)) H):rL u v H Q:=
 .inr ⟨_,_,h1,h2,by simp [sK]; omega,.inr ⟨_,_,rfl,rfl⟩,k⟩
theorem MW {ds es:List Dt} (h1:rR H (.lst ds) u) (h2:rR H (.lst es) v) (hd:gD ds<=50) (k:Q (.bl (!pG ds es)) H):AR u v H Q:=
 .inr ⟨_,_,h1,h2,by simp [sK]; omega,.inr ⟨_,_,rfl,rfl⟩,k⟩
theorem Fk {p:Addr}{a b:Int} (h:H p=some (.tup [.int a,.int b])):rR H (.tup [.int a,.int b]) (.ref p):=⟨p,_,rfl,h,_,_,rfl,rfl,_,_,rfl,rfl,rfl⟩
end
end
section
section
variable {X:Cx} {K:Frag} {H H':Hp} {Q:VK} {i j:Int} {σ:St}
def UL:R2:=fun x y H Q=>∃ i j,x=.str i/\y=.str j/\i.length+j.length<=sizeLine/\Q (.str (i++j)) H
theorem QY:jJ X (binaryOp .Add) UL:=DQ
def tW (K:Frag):R2:=fun x y H Q=>OV (fun i j=>.int (i+j)) x y H Q∨Eb x y H Q∨UJ K x y H Q∨UL x y H Q
theorem aV:jJ X (binaryOp .Add) (tW X.K):=YQ.or (YO.or (QX.or QY))
theorem Fr (k:Q (.int (i+j)) H):tW K (.int i) (.int j) H Q:=.inl (Dl k)
theorem jH {p q:Addr}{xs ys:List V} (h1:H p=some (.lst xs)) (h2:H q=some (.lst ys)) (hl:xs.length+ys.length<=1000) (k:∀ l,H l=none->Q (.ref l) (upd H l (.lst (xs++ys)))):tW K (.ref p) (.ref q) H Q:=
 .inr (.inl ⟨p,q,xs,ys,rfl,rfl,h1,h2,pA hl,k⟩)
theorem wZ {p q:Addr}{xs ys:List V} (h1:H p=some (.tup xs)) (h2:H q=some (.tup ys)) (hl:xs.length+ys.length<=1000) (hx:xs≠[]) (hy:ys≠[]) (k:∀ l,H l=none->Q (.ref l) (upd H l (.tup (xs++ys)))):tW K (.ref p) (.ref q) H Q:=
 .inr (.inr (.inl ⟨p,q,xs,ys,rfl,rfl,fV.of h1,fV.of h2,hx,pA hl,fun e=>absurd e hy,fun _=>k⟩))
def FV (K:Frag):List V->Hp->VK->Prop:=fun xs H Q=>∃ p ys,xs=[.ref p]/\(cN K H p ys∨fV K H p ys)/\∀ l,H l=none->Q (.ref l) (upd H l (.lst ys))
theorem yW:fD X (.type "list") (FV X.K):=yU
theorem Et {p:Addr}{xs:List V} (h:H p=some (.lst xs)) (k:∀ l,H l=none->Q (.ref l) (upd H l (.lst xs))):FV K [.ref p] H Q:=⟨p,xs,rfl,.inl (cN.of h),k⟩
def AQ (K:Frag):V->Option Int->Option Int->Hp->VK->Prop:=fun x lo hi H Q=>Dr K x lo hi H Q∨Dp K x lo hi H Q
theorem dB:SN X (AQ X.K):=PL.or VN
def UO (R:Option Int->Hp->Prop):VK:=fun x H1=>∃ i,x=.int i/\R (some i) H1
theorem WE {t:TE}{R:Option Int->Hp->Prop} (k:t σ H (UO R)):SX t σ H R:=k
theorem PV {R:Option Int->Hp->Prop} (k:R (some i) H):UO R (.int i) H:=⟨i,rfl,k⟩
theorem LN {R:Option Int->Hp->Prop} (k:R none H):EZ σ H R:=k
theorem Ha {r:V->Option Int->Option Int->Hp->VK->Prop}{te:TE}{tl th:TO} (k:te σ H fun x H1=>tl σ H1 fun l H2=>th σ H2 fun u H3=>r x l u H3 Q):Iq r te tl th σ H Q:=k
theorem iY {p:Addr}{xs:List V}{lo hi:Option Int} (h:H p=some (.lst xs)) (k:∀ l,H l=none->Q (.ref l) (upd H l (.lst (fP xs lo hi)))):AQ K (.ref p) lo hi H Q:=.inl ⟨p,xs,rfl,cN.of h,k⟩
theorem AH {p:Addr}{xs:List V}{lo hi:Option Int} (h:H p=some (.tup xs)) (hn:¬ (HT.sIx xs.length 0 lo=0/\HT.sIx xs.length xs.length hi=xs.length)) (k:∀ l,H l=none->Q (.ref l) (upd H l (.tup (fP xs lo hi)))):AQ K (.ref p) lo hi H Q:=
 .inr ⟨p,xs,rfl,fV.of h,hn,k⟩
theorem fE {H:Hp}{q b:Addr}{o u:HO} (hq:H q=none) (h:H b=some u):upd H q o b=some u:=by rw [aZ (aB h hq)]; exact h
theorem Ed {xs:List V}{i:Int} (h0:0<=i) (h1:i < xs.length):∃ z,z∈xs/\fM xs i=some z:=by
 have hk:i.toNat < xs.length:=by omega
 have ek:i=((i.toNat:Nat):Int):=by omega
 have q:fM xs ((i.toNat:Nat):Int)=some xs[i.toNat]:=aX (List.getElem?_eq_getElem hk)
 rw [← ek] at q
 exact ⟨xs[i.toNat],List.getElem_mem hk,q⟩
def isI:V->Bool
|.int _=>true
|_=>false
theorem GQ {v:V} (h:lK v=true):∃ t b c,iL K H v t/\kitOne K t (.type "int")=some b/\kitOne K t (.type "bool")=some c/\(b&&!c)=isI v:=by
 cases v with
|non=>exact ⟨_,_,_,.non,qL,pE,rfl⟩
|bl b=>exact ⟨_,_,_,.bl b,yH,vP,rfl⟩
|int b=>exact ⟨_,_,_,.int b,BN,yG,rfl⟩
|str b=>exact ⟨_,_,_,.str b,BM,yF,rfl⟩
|_=>exact absurd (show false=true from h) Bool.false_ne_true
def NT (K:Frag) (H:Hp) (x:V):Prop:=∃ t,iL K H x t/\kitOne K t (.type "tuple")=some false
def Il (K:Frag) (H:Hp) (x:V) (r:Bool):Prop:=
 (NT K H x/\r=false)∨(∃ p xs,x=.ref p/\H p=some (.tup xs)/\xs.length≠2/\r=false) ∨
  ∃ p v w,x=.ref p/\H p=some (.tup [v,w])/\lK v=true/\lK w=true/\(∀ a b,v=.int a->w=.int b->Sm 8000 a/\Sm 8000 b)/\r=Fd v w
end
end
section
def bS (X:Cx) (scope:Scope) (cl:List (Str×Addr)) (N:List Str) (C:Addr) (s0:Shared) (H0:Hp) (ex:List Addr):Cx:=
 { X with N:=N,s₀:=s0,H₀:=H0,env:=compEnvC scope cl C X.env,outer:=X.stack,stack:=X.stack,ex:=ex,fn:=fun _=>false,pn:=[],xe:=fun _ _=>False }
def cU (env:Env) (names:List Str):List (Str×Addr):=names.filterMap fun n=>(env.cells.lookup n).map fun c=>(n,c)
theorem lG {env:Env}:∀ {names:List Str}{x:Str}{c:Addr},(cU env names).lookup x=some c->env.cells.lookup x=some c
|[],x,c,h=>by simp [cU] at h
|n::r,x,c,h=>by
  unfold cU at h
  rw [filterMap_cons] at h
  cases e:env.cells.lookup n with
 |none =>
   rw [e] at h
   exact lG (names:=r) h
 |some d =>
   rw [e] at h
   have h':List.lookup x ((n,d)::cU env r)=some c:=h
   rw [lookup_cons] at h'
   by_cases hx:x=n
   ·subst hx
    rw [beq_self_eq_true] at h'
    cases h'
    exact e
   ·rw [beq_eq_false_iff_ne.mpr hx] at h'
    exact lG (names:=r) h'
theorem nW {env:Env}:∀ {names:List Str}{x:Str}{c:Addr},x∈names->env.cells.lookup x=some c->(cU env names).lookup x=some c
|[],x,c,h,_=>by cases h
|n::r,x,c,h,e=>by
  unfold cU
  rw [filterMap_cons]
  by_cases hx:x=n
  ·subst hx
   rw [e]
   show List.lookup x ((x,c)::_)=some c
   rw [lookup_cons,beq_self_eq_true]
  ·have hr:x∈r:=(mem_cons.mp h).resolve_left hx
   have ih:=nW (env:=env) hr e
   cases e2:env.cells.lookup n with
  |none=>exact ih
  |some d =>
    show List.lookup x ((n,d)::cU env r)=some c
    rw [lookup_cons,beq_eq_false_iff_ne.mpr hx]
    exact ih
def pJ (σ:St) (is:List Nat):St:=is.map fun i=>(σ[i]?).join
def mE (te:TE) (tc:Option TT) (g:TG) (ts:St) (caps:St) (Q:VK):It->Hp->Prop:=fun J H1=>∀ acc,H1 acc=none ->
 ∃ W:Nat->Nat->List V->Hp->Prop,(∃ m,W 0 m [] (upd H1 acc (.lst [])))/\∀ i m ys H,W i m ys H ->
  H acc=some (.lst ys)/\((J.stop i H/\Q (.ref acc) H)∨(ys.length < sizeLine/\J.go i H/\∀ (us:St) x H',us.length=ts.length->J.yld i H x H'->g x (us++caps) H' fun σ2 H2 =>
   (∃ us2,us2.length=ts.length/\σ2=us2++caps) /\
   let made:=te σ2
   let next:=fun y H3=>H3 acc=some (.lst ys)/\∃ m',m' < m/\W (i+1) m' (ys++[y]) (upd H3 acc (.lst (ys++[y])))
   match tc with
  |none=>made H2 next
   | some c=>c σ2 H2 fun b H3=>if b=true then made H3 next else ∃ m',m' < m/\W (i+1) m' ys H3))
def KM (wi:TI) (te:TE) (tc:Option TT) (g:TG) (k:Nat) (is:List Nat):TE:=fun σ H Q=>wi σ H (mE te tc g (List.replicate k none) (pJ σ is) Q)
section
variable {X:Cx} {scope:Scope} {N tn names:List Str} {is:List Nat} {elt iter tg:Expr} {ifs:List Expr} {pos:Pos} {wi:TI} {te:TE} {tc:Option TT} {g:TG}
structure vF (X:Cx) (scope:Scope) (tn names:List Str) (is:List Nat):Prop where
 cls:(∀ x∈names,∃ c,X.env.cells.lookup x=some c)->closureFor scope X.env=pure (cU X.env names)
 nocell:∀ y∈scope.names,y.2≠.cell
 kind:scope.kind=.function
 nms:∀ y∈scope.names,y.2=.local->scope.names.lookup y.1=some .local
 slots:∀ (j i:Nat) (x:Str),is[j]?=some i->names[j]?=some x->X.N[i]?=some x
 len:is.length=names.length
 outk:∀ x∈names,X.env.kindOf x=some .cell∨X.env.kindOf x=some .free
 ink:∀ x∈names,(relabel scope X.env).names.lookup x=some .cell∨(relabel scope X.env).names.lookup x=some .free
 free:∀ x,((relabel scope X.env).names.lookup x=some .cell∨(relabel scope X.env).names.lookup x=some .free)->x∈names
theorem nV {env:Env}:∀ (l:List (Str×NameKind)) (acc:List (Str×Addr)),(∀ x∈(l.filter fun y=>y.2==.free).map (·.1),∃ c,env.cells.lookup x=some c) ->
  (forIn l acc fun (x:Str×NameKind) (cs:List (Str×Addr))=>(if (x.2==.free)=true then (do let a ← cellOf env x.1; pure (ForInStep.yield ((x.1,a)::cs))) else pure (ForInStep.yield cs)):Sem (List (Str×Addr)))
   = pure ((((l.filter fun y=>y.2==.free).map (·.1)).reverse.filterMap fun n=>(env.cells.lookup n).map fun c=>(n,c))++acc)
|[],acc,_=>rfl
|(n,k)::r,acc,h=>by
  rw [forIn_cons]
  by_cases hk:(k==NameKind.free)=true
  ·have hf:((n,k)::r).filter (fun y=>y.2==.free)=(n,k)::r.filter fun y=>y.2==.free:=by rw [List.filter_cons]; exact if_pos hk
   rw [hf] at h ⊢
   obtain ⟨c,e⟩:=h n (by simp)
   have e1:cellOf env n=pure c:=by unfold cellOf; rw [e]
   show (((if (k==NameKind.free)=true then (do let a ← cellOf env n; pure (ForInStep.yield ((n,a)::acc))) else pure (ForInStep.yield acc)):Sem _) >>= _)=_
   rw [if_pos hk,e1]
   have ih:=nV r ((n,c)::acc) fun x hx=>h x (by simp at hx ⊢; exact .inr hx)
   have e2:(((n,k)::r.filter fun y=>y.2==.free).map (·.1)).reverse.filterMap (fun n=>(env.cells.lookup n).map fun c=>(n,c))=((r.filter fun y=>y.2==.free).map (·.1)).reverse.filterMap (fun n=>(env.cells.lookup n).map fun c=>(n,c))++[(n,c)]:=by
    rw [map_cons,List.reverse_cons,List.filterMap_append,filterMap_cons,e]
    rfl
   rw [e2,append_assoc]
   exact ih
  ·have hf:((n,k)::r).filter (fun y=>y.2==.free)=r.filter fun y=>y.2==.free:=by rw [List.filter_cons]; exact if_neg hk
   rw [hf] at h ⊢
   show (((if (k==NameKind.free)=true then (do let a ← cellOf env n; pure (ForInStep.yield ((n,a)::acc))) else pure (ForInStep.yield acc)):Sem _) >>= _)=_
   rw [if_neg hk]
   exact nV r acc h
theorem rQ {scope:Scope}{env:Env}{names:List Str} (hn:((scope.names.filter fun y=>y.2==.free).map (·.1)).reverse=names) (h:∀ x∈names,∃ c,env.cells.lookup x=some c) :
  closureFor scope env=pure (cU env names):=by
 unfold closureFor cU
 have q:=nV (env:=env) scope.names [] fun x hx=>h x (by rw [← hn]; exact mem_reverse.mpr hx)
 rw [hn,append_nil] at q
 show (_ >>= fun r=>pure r)=_
 have q2:(forIn scope.names ([]:List (Str×Addr)) fun (x:Str×NameKind) (cs:List (Str×Addr))=>match x with
   | (name,kind)=>(if (kind==.free)=true then (do let a ← cellOf env name; pure (ForInStep.yield ((name,a)::cs))) else pure (ForInStep.yield cs)):Sem (List (Str×Addr)))=pure (names.filterMap fun n=>(env.cells.lookup n).map fun c=>(n,c)):=q
 first
 |exact (congrArg (fun z=>z >>= fun r=>pure r) q2)
 |simpa using q2
def FR (scope sc:Scope):Scope:={ scope with names:=scope.names.map fun (n,k)=>if (k==.free&&sc.kind==.function&&sc.names.lookup n==some .cell) then (n,.cell) else (n,k) }
theorem dD {X:Cx}{scope sc:Scope}{N tn names:List Str}{is:List Nat} (hsc:X.env.scope=sc) (hN:X.N=N) (h1:((scope.names.filter fun y=>y.2==.free).map (·.1)).reverse=names) (h2:∀ y∈scope.names,y.2≠.cell) (h3:scope.kind=.function)
  (h4:∀ y∈scope.names,y.2=.local->scope.names.lookup y.1=some .local) (h5:(is.map fun i=>N[i]?)=names.map some) (h6:∀ x∈names,sc.names.lookup x=some .cell∨sc.names.lookup x=some .free)
  (h7:∀ x∈names,(FR scope sc).names.lookup x=some .cell∨(FR scope sc).names.lookup x=some .free) (h8:∀ y∈(FR scope sc).names,(y.2=.cell∨y.2=.free)->y.1∈names):vF X scope tn names is:=by
 subst hsc hN
 have hr:relabel scope X.env=FR scope X.env.scope:=rfl
 refine ⟨rQ h1,h2,h3,h4,fun j i x e1 e2=>?_,?_,h6,?_,fun x hx=>?_⟩
 ·have q:=congrArg (fun l=>l[j]?) h5
  simp only [List.getElem?_map,e1,e2,Option.map_some] at q
  exact Option.some.inj q
 ·have q:=congrArg List.length h5
  simpa using q
 ·rw [hr]; exact h7
 ·rw [hr] at hx
  have mem:∀ {l:List (Str×NameKind)} {k:NameKind},l.lookup x=some k->(x,k)∈l:=fun {l} {k}=>by
   induction l with
  |nil=>intro e; cases e
  |cons y r ih =>
    intro e
    obtain ⟨n,k'⟩:=y
    rw [lookup_cons] at e
    by_cases hx:x=n
    ·subst hx
     rw [beq_self_eq_true] at e
     cases e
     exact mem_cons_self
    ·rw [beq_eq_false_iff_ne.mpr hx] at e
     exact mem_cons_of_mem _ (ih e)
  rcases hx with hx|hx
  ·exact h8 _ (mem hx) (.inl rfl)
  ·exact h8 _ (mem hx) (.inr rfl)
theorem SF {X:Cx}{scope:Scope}{tn names:List Str}{is:List Nat} (C:vF X scope tn names is) {pins:List (Addr×Obj)}{σ:St}{H:Hp}{s:Shared} (I:bA X pins σ H s) {acc:Addr}{fp:List Addr}
  {s3:Shared} {h1:Heap} {t4:Nat} (I3:bA X pins σ (upd H acc (.lst [])) s3) (hf:∀ b∈fp,vE X pins H b) (hfl:∀ b∈fp,b < s3.heap.objs.size) (hacc:∀ b∈fp,b≠acc)
  (ns:h1.Ns s3.heap.objs.size fun _=>none) (kp:∀ b o,s3.heap.get? b=some o->h1.get? b=some o) :
  bA (bS X scope (cU X.env names) (tn++names) s3.heap.objs.size s3 (upd H acc (.lst [])) fp) [] (List.replicate tn.length none++pJ σ is) (upd H acc (.lst [])) { s3 with heap:=h1,toks:=t4 }:=by
 have ok:=I3.ok
 have hC:∀ x c,(cU X.env names).lookup x=some c->X.env.cells.lookup x=some c:=fun x c h=>lG h
 have cellLt:∀ x c,X.env.cells.lookup x=some c->c < s3.heap.objs.size:=fun x c e=>let ⟨v,z⟩:=I3.cell x c e; z.lt
 refine ⟨⟨ok.mod,?_,ok.glob,ok.blt,le_refl _,fun x y c a b=>ok.inj x y c (hC _ _ a) (hC _ _ b),fun x hx=>?_,fun _ _ z=>absurd z (by simp [bS]),ok.hd,ok.frames,.inl rfl,fun b hb=>?_,fun b o e=>I3.bs b o e,le_trans ok.bsz I3.sz,fun b o e hb=>?_,fun b hb z=>?_,I3.stack,fun b hb=>I3.stkFree b hb⟩,
  rfl,I3.bare,Un.kept kp,⟨_,ns,fun i x v e1 e2 e3=>?_⟩,fun x c e=>?_,?_,fun x c e=>I3.freeC x c (hC _ _ e),fun p hp=>absurd hp (by simp [bS]),I3.hok.kept kp,?_⟩
 ·show (relabel scope X.env).kind=.function
  exact C.kind
 ·have hm:=C.free x hx
  obtain ⟨c,e⟩:=ok.has x (C.outk x hm)
  exact ⟨c,nW hm e⟩
 ·refine ⟨ne_of_lt (hfl b hb),fun x c e=>(hf b hb).2.2.2.2.1 x c (hC _ _ e)⟩
 ·rcases (hf b hb).2.2.2.1 with z|z
  ·exact ok.noex b o e z
  ·have:=lt_of_lt_of_le (lt_size e) ok.bsz
   omega
 ·have:=I3.stkSub b z
  rcases mem_cons.mp this with q|q
  ·exact (hf b hb).2.1 q
  ·exact (hf b hb).2.2.1 q
 ·by_cases hi:i < tn.length
  ·rw [List.getElem?_append_left (by rw [length_replicate]; exact hi),List.getElem?_replicate] at e2
   rw [if_pos hi] at e2
   cases e2
  ·have e1:(tn++names)[i]?=some x:=e1
   rw [List.getElem?_append_right (by omega)] at e1
   rw [List.getElem?_append_right (by rw [length_replicate]; omega),length_replicate] at e2
   generalize hj:i - tn.length=j at e1 e2
   unfold pJ at e2
   rw [List.getElem?_map] at e2
   cases e4:is[j]? with
  |none=>rw [e4] at e2; cases e2
  |some i0 =>
    rw [e4] at e2
    have e5:(σ[i0]?).join=some v:=Option.some.inj e2
    have e6:σ[i0]?=some (some v):=by
     cases q:σ[i0]? with
    |none=>rw [q] at e5; cases e5
    |some o=>rw [q] at e5; exact congrArg some e5
    have hx:x∈names:=mem_of_getElem? e1
    obtain ⟨m,hm,look⟩:=I3.loc
    have hv:Fs X.env.scope x:=by
     rcases C.outk x hx with q|q
     ·exact .inr (.inl q)
     ·exact .inr (.inr q)
    obtain ⟨u,ru,lk⟩:=look i0 x v (C.slots j i0 x e4 e1) e6 hv
    refine ⟨u,ru,.inr ⟨C.ink x hx,?_⟩⟩
    rcases lk with ⟨q,_⟩|⟨_,c,ec,z⟩
    ·rcases C.outk x hx with q'|q' <;> (rw [q] at q'; cases q')
    ·exact ⟨c,nW hx ec,let ⟨o,a,b⟩:=z; ⟨o,kp _ _ a,b⟩⟩
 ·obtain ⟨v,o,a,b⟩:=I3.cell x c (hC _ _ e)
  exact ⟨v,o,kp _ _ a,b⟩
 ·exact I3.hok.fresh (le_refl _)
 ·show (List.replicate tn.length none++pJ σ is).length=(tn++names).length
  rw [length_append,length_append,length_replicate]
  unfold pJ
  rw [length_map,C.len]
theorem yT {prog:Program}{w:World}{A:Around}{R:Result->Shared->Prop}{s:Shared}{elt target iter:Expr}{ifs:List Expr}{scope:Scope}{pos:Pos}{it acc:Value}{env:Env} (I:Nat->Shared->Prop)
  (turn:∀ n s,I n s->wpAny (model prog w) A (pyNext it) (fun r s₁=>match r with
  |none=>R (.ok .next) s₁
   | some v=>wpAny (model prog w) A (letOwnedTupleGo target it v) (fun _ s₁'=>wpAny (model prog w) A (assign target env v) (fun _ s₂ =>
     wpAny (model prog w) A (forIn ifs true fun c r=>if r=true then do let ok ← isTrue c env (eval c env); pure (ForInStep.yield ok) else pure (ForInStep.yield r)) (fun ok s₃ =>
      if ok=true then wpAny (model prog w) A (eval elt env) (fun x s₄ =>
       wpAny (model prog w) A (call (.builtin "list.append") [acc,x]) (fun _ s₅=>∃ m,m < n/\I m s₅) (fun _ _=>False) s₄) (fun _ _=>False) s₃
      else ∃ m,m < n/\I m s₃) (fun _ _=>False) s₂) (fun _ _=>False) s₁') (fun _ _=>False) s₁) (fun _ _=>False) s)
  (n:Nat) (h:I n s) :
  codeAny (model prog w) A (.compLoop (.ListComp elt [⟨target,iter,ifs,0⟩] scope pos) 0 it acc env) R s:=by
 refine codeAny_loop rfl I (fun n s hI=>?_) n h
 show wpAny _ A ((compTurn (.ListComp elt [⟨target,iter,ifs,0⟩] scope pos) 0 it acc env).onRaise (fun x=>do noteFrame x env; theTreesLotGoes x)) _ _ s
 refine wpAny_noted ?_
 rw [compTurn_list]
 refine wpAny_bind (wpAny_standAt (wpAny_bind (wpAny_mono (turn n s hI) (fun r s₁ h₁=>?_) fun _ _ h'=>h'.elim)))
 cases r with
|none=>exact wpAny_pure h₁
|some v =>
  refine wpAny_bind (wpAny_mono h₁ (fun _ s₁' h₁'=>?_) fun _ _ h'=>h'.elim)
  refine wpAny_bind (wpAny_mono h₁' (fun _ s₂ h₂=>wpAny_bind (wpAny_mono h₂ (fun ok s₃ h₃=>?_) fun _ _ h'=>h'.elim)) fun _ _ h'=>h'.elim)
  cases ok with
 |false=>exact wpAny_pure ⟨rfl,h₃⟩
 |true =>
   exact wpAny_bind (wpAny_bind (wpAny_mono h₃ (fun x s₄ h₄=>wpAny_bind (wpAny_mono h₄ (fun _ s₅ h₅=>wpAny_pure (wpAny_pure ⟨rfl,h₅⟩)) fun _ _ h'=>h'.elim)) fun _ _ h'=>h'.elim))
def Ax (X':Cx) (ifs:List Expr) (tc:Option TT):Prop:=match ifs,tc with
|[],none=>True
|[c],some t=>PT X' c t
|_,_=>False
theorem cI {X':Cx}:Ax X' [] none:=trivial
theorem QK {X':Cx}{c:Expr}{t:TT} (h:PT X' c t):Ax X' [c] (some t):=h
structure Ft (ok:Cx->Prop) (P:Program) (w:World) (K:Frag) (tg:Expr) (J:It) (fp:List Addr) (it:Addr) (tn:Nat->Heap->Prop):Prop where
 mem:it∈fp
 obj:∀ i h,tn i h->∀ b∈fp,∃ o,h.get? b=some o/\∀ v,o.data≠.cell v
 keep:∀ i h h',tn i h->(∀ b∈fp,∀ o,h.get? b=some o->h'.get? b=some o)->tn i h'
 item:∀ (X:Cx),X.prog=P->X.w=w->X.K=K->ok X->∀ (i:Nat) (pins:List (Addr×Obj)) (s:Shared) (σ:St) (H:Hp) (E:Value->Shared->Prop),bA X pins σ H s->(∀ b∈fp,vE X pins H b)->tn i s.heap->J.go i H ->
  wpAny (model P w) X.A (pyNext (.ref it)) (fun r s1=>∃ u,r=some u/\wpAny (model P w) X.A (letOwnedTupleGo tg (.ref it) u) (fun _ s2=>∃ x H',bA X pins σ H' s2/\bL x u/\J.yld i H x H'/\tn (i+1) s2.heap/\∀ b∈fp,H' b=none) E s1) E s
 done:∀ (X:Cx),X.prog=P->X.w=w->X.K=K->ok X->∀ (i:Nat) (pins:List (Addr×Obj)) (s:Shared) (σ:St) (H:Hp) (E:Value->Shared->Prop),bA X pins σ H s->(∀ b∈fp,vE X pins H b)->tn i s.heap->J.stop i H ->
  wpAny (model P w) X.A (pyNext (.ref it)) (fun r s1=>r=none/\bA X pins σ H s1) E s
 self:∀ (A:Around) (i:Nat) (s:Shared) (Q:Value->Shared->Prop) (E:Value->Shared->Prop),tn i s.heap->Q (.ref it) s->wpAny (model P w) A (pyIter (.ref it)) Q E s
def Fw (ok:Cx->Prop) (X:Cx) (pins:List (Addr×Obj)) (σ:St) (tg:Expr) (R:It->Hp->Prop) (itv:Value) (s2:Shared):Prop:=
 ∃ (it:Addr) (fp:List Addr) (tn:Nat->Heap->Prop) (J:It) (H':Hp),itv=.ref it/\bA X pins σ H' s2/\Ft ok X.prog X.w X.K tg J fp it tn/\tn 0 s2.heap/\(∀ b∈fp,vE X pins H' b)/\R J H'
theorem UM {X:Cx}{pins:List (Addr×Obj)}{σ:St}{tg:Expr}{R:It->Hp->Prop}{itv:Value}{s2:Shared} (h:Ig X pins σ tg R itv s2):Fw (fun X=>X.calm=true) X pins σ tg R itv s2:=
 let ⟨it,fp,tn,J,H',a,b,T,c,d,e⟩:=h; ⟨it,fp,tn,J,H',a,b,⟨T.mem,T.obj,T.keep,T.item,T.done,T.self⟩,c,d,e⟩
theorem CA {X:Cx}{ok:Cx->Prop}{scope:Scope}{tn names:List Str}{is:List Nat} (ck:vF X scope tn names is) (hc:∀ C s0 H0 ex,ok (bS X scope (cU X.env names) (tn++names) C s0 H0 ex)) {elt tg iter:Expr}{ifs:List Expr}{pos:Pos}{te:TE}{tc:Option TT}{g:TG}
  (hg:∀ C s0 H0 ex,PG (bS X scope (cU X.env names) (tn++names) C s0 H0 ex) tg g) (he:∀ C s0 H0 ex,PE (bS X scope (cU X.env names) (tn++names) C s0 H0 ex) elt te)
  (ht:∀ C s0 H0 ex,Ax (bS X scope (cU X.env names) (tn++names) C s0 H0 ex) ifs tc)
  {pins:List (Addr×Obj)} {σ:St} {Q:VK} {s2:Shared} {itv:Value} {E:Value->Shared->Prop} (h2:Fw ok X pins σ tg (mE te tc g (List.replicate tn.length none) (pJ σ is) Q) itv s2) {RR:Value->Addr->Result->Shared->Prop}
  (fin:∀ (acc C:Addr) (H':Hp) (s':Shared) (m:Str->Option Value),bA X pins σ H' s'->s'.heap.Ns C m->H' C=none->C≠X.env.locals->(∀ x c,X.env.cells.lookup x=some c->c≠C)->(∀ p∈X.pn++pins,p.1≠C)->X.s₀.heap.objs.size<=C->Q (.ref acc) H' ->
   RR (.ref acc) C (.ok .next) s') :
  wpAny (model X.prog X.w) X.A (newList []) (fun acc s₃=>wpAny (model X.prog X.w) X.A (newFunctionEnv scope X.env.globals (cU X.env names) [] X.env.qual none .none (some X.env)) (fun cenv s₄ =>
   codeAny (model X.prog X.w) X.A (.compStart (.ListComp elt [⟨tg,iter,ifs,0⟩] scope pos) 0 itv acc { cenv with scope:=relabel scope X.env }) (RR acc cenv.locals) s₄) E s₃) E s2:=by
 obtain ⟨it,fp,tnx,J,H2,rfl,I2,T,st2,f2,hK⟩:=h2
 have facc:H2 s2.heap.objs.size=none:=I2.hok.fresh (le_refl _)
 refine wpAny_newObj_type ?_ (by show 0<=sizeLine; decide)
 have fpl:∀ b∈fp,b < s2.heap.objs.size:=fun b hb=>let ⟨o,e,_⟩:=T.obj 0 _ st2 b hb; lt_size e
 generalize hs3:({ s2 with heap:=s2.heap.push { cls:=.type "list",data:=.seq ([]:List Value).toArray } }:Shared)=s3
 have hsz3:s3.heap.objs.size=s2.heap.objs.size+1:=by rw [← hs3]; exact size_push ..
 have keep23:∀ b o,s2.heap.get? b=some o->s3.heap.get? b=some o:=fun b o e=>by rw [← hs3]; exact get?_push_of_some _ e
 have I3:bA X pins σ (upd H2 s2.heap.objs.size (.lst [])) s3:=by
  rw [← hs3]
  exact I2.laid (t':=s2.toks) (fun b u e=>get?_push_of_some _ e) (le_refl _) ⟨zero_le _,[],0,.nil,get?_push_size _ rfl⟩
 refine wpAny_newFunctionEnv ck.nocell (by intro y hy; simp at hy) (fun h1 ns sb=>?_) ck.kind
 have kp:∀ b o,s3.heap.get? b=some o->h1.get? b=some o:=fun b o e=>sb.extBut b o (ne_of_lt (lt_size e)) (get?_push_of_some _ e)
 have lt3:∀ b:Addr,b < s2.heap.objs.size->b < s3.heap.objs.size:=fun b hb=>lt_of_lt_of_le hb (by rw [hsz3]; exact le_succ _)
 have ns':h1.Ns s3.heap.objs.size fun _=>none:=ns
 have I4:=SF (t4:=s3.toks+([]:List (Str×Value)).length) ck I2 I3 f2 (fun b hb=>lt3 b (fpl b hb)) (fun b hb=>ne_of_lt (fpl b hb)) ns' kp
 generalize hX':bS X scope (cU X.env names) (tn++names) s3.heap.objs.size s3 (upd H2 s2.heap.objs.size (.lst [])) fp=X' at I4
 have hA:X'.A=X.A:=by rw [← hX']; rfl
 have hP:X'.prog=X.prog:=by rw [← hX']; rfl
 have hW:X'.w=X.w:=by rw [← hX']; rfl
 have hKK:X'.K=X.K:=by rw [← hX']; rfl
 have hcm:ok X':=by rw [← hX']; exact hc _ _ _ _
 have hfs:X'.fs=nD X.stack:=by rw [← hX']; rfl
 have hex:X'.ex=fp:=by rw [← hX']; rfl
 have hloc:X'.env.locals=s3.heap.objs.size:=by rw [← hX']; rfl
 have hs0:X'.s₀=s3:=by rw [← hX']; rfl
 have hH0:X'.H₀=upd H2 s2.heap.objs.size (.lst []):=by rw [← hX']; rfl
 have hxe:X'.xe=fun _ _=>False:=by rw [← hX']; rfl
 have henv:X'.env=compEnvC scope (cU X.env names) s3.heap.objs.size X.env:=by rw [← hX']; rfl
 have hg':PG X' tg g:=by rw [← hX']; exact hg _ _ _ _
 have he':PE X' elt te:=by rw [← hX']; exact he _ _ _ _
 have ht':Ax X' ifs tc:=by rw [← hX']; exact ht _ _ _ _
 have cells':∀ x c,X'.env.cells.lookup x=some c->X.env.cells.lookup x=some c:=fun x c e=>by rw [henv] at e; exact lG e
 obtain ⟨W,⟨m0,w0⟩,turn⟩:=hK _ facc
 have stat:∀ {H':Hp},(∀ b∈fp,H' b=none)->∀ b∈fp,vE X' [] H' b:=fun {H'} hn b hb=>by
  refine ⟨hn b hb,?_,?_,.inl (by rw [hex]; exact hb),fun x c e=>(f2 b hb).2.2.2.2.1 x c (cells' x c e),fun p hp=>?_⟩
  ·rw [hloc]; exact ne_of_lt (lt3 b (fpl b hb))
  ·rw [hfs]
   intro z
   rcases mem_cons.mp (I2.stkSub b z) with q|q
   ·exact (f2 b hb).2.1 q
   ·exact (f2 b hb).2.2.1 q
  ·rw [← hX'] at hp
   exact absurd hp (by simp [bS])
 have loop:∀ s4:Shared,bA X' [] (List.replicate tn.length none++pJ σ is) (upd H2 s2.heap.objs.size (.lst [])) s4->tnx 0 s4.heap ->
   codeAny (model X.prog X.w) X.A (.compLoop (.ListComp elt [⟨tg,iter,ifs,0⟩] scope pos) 0 (.ref it) (.ref s2.heap.objs.size) X'.env) (RR (.ref s2.heap.objs.size) s3.heap.objs.size) s4:=by
  intro s4 J4 st4
  refine yT (fun n s'=>∃ i ys ts H',bA X' [] (ts++pJ σ is) H' s'/\ts.length=tn.length/\tnx i s'.heap/\(∀ b∈fp,H' b=none)/\W i n ys H') ?_ m0
   ⟨0,[],_,_,J4,length_replicate ..,st4,fun b hb=>by rw [aZ (ne_of_lt (fpl b hb))]; exact (f2 b hb).1,w0⟩
  rintro n s5 ⟨i,ys,ts,H5,I5,hts,st5,fr5,w5⟩
  obtain ⟨hacc5,hcase⟩:=turn i n ys H5 w5
  have hrun:∀ {α:Type} {m:Sem α} {Q':α->Shared->Prop} {s':Shared},wpAny (model X'.prog X'.w) X'.A m Q' (fun _ _=>False) s'->wpAny (model X.prog X.w) X.A m Q' (fun _ _=>False) s':=fun {α m Q' s'} z=>by
   rw [hP,hW,hA] at z; exact z
  rcases hcase with ⟨stop,qn⟩|⟨hlen,go,step⟩
  ·have z:=T.done X' hP hW hKK hcm i [] s5 _ H5 (fun _ _=>False) I5 (stat fr5) st5 stop
   rw [hA] at z
   refine cJ z fun r s6 ⟨hr,I6⟩=>?_
   subst hr
   -- the frame around,behind the block
   have u23:Un (nD X.stack) fp H2 (upd H2 s2.heap.objs.size (.lst [])) s2.heap s3.heap:=Un.laid keep23 (le_refl _) facc
   have u36:Un (nD X.stack) fp (upd H2 s2.heap.objs.size (.lst [])) H5 s3.heap s6.heap:=by
    have b:=I6.base
    rw [hfs,hex,hs0,hH0] at b
    exact b
   have hos:s6.os=s2.os:=by
    have b:=I6.os
    rw [hs0,← hs3] at b
    exact b
   have IO:bA X pins σ H5 s6:=I2.call' hos (u23.trans u36) (by have b:=I6.hok; rw [hP,hW] at b; exact b) I6.bare fun b hb=>by
    obtain ⟨_,f1,f2',f3,f4,f5⟩:=f2 b hb
    exact ⟨f3,f1,fun x c e=>f4 x c e,fun p hp=>f5 p hp⟩
   obtain ⟨m,hm,_⟩:=I6.loc
   rw [hloc] at hm
   have fC:H5 s3.heap.objs.size=none:=by have b:=I6.free; rw [hloc] at b; exact b
   refine fin _ _ H5 s6 m IO hm fC ?_ (fun x c e=>?_) (fun p hp=>?_) ?_ qn
   ·exact ne_of_gt (lt_of_lt_of_le I2.lt (by omega))
   ·obtain ⟨v,z⟩:=I2.cell x c e
    exact ne_of_lt (lt3 c z.lt)
   ·exact ne_of_lt (lt3 p.1 (lt_size (I2.pin p hp).1))
   ·exact le_trans I2.sz (by omega)
  ·have z:=T.item X' hP hW hKK hcm i [] s5 _ H5 (fun _ _=>False) I5 (stat fr5) st5 go
   rw [hA] at z
   refine cJ z fun r s6 ⟨u,hr,h6⟩=>?_
   subst hr
   refine cJ h6 fun _ s7 ⟨x,H7,I7,r7,y7,st7,fr7⟩=>?_
   have I7':=I7.pinned (stat fr7) (T.obj _ _ st7)
   have zg:=hg' _ s7 _ H7 x u _ I7' r7 (step ts x H7 (by rw [hts,length_replicate]) y7)
   rw [hxe] at zg
   refine cJ (hrun zg) fun _ s8 ⟨σ8,H8,I8,⟨us2,hus,e8⟩,q8⟩=>?_
   subst e8
   rw [length_replicate] at hus
   have back:∀ {s9:Shared} {H9:Hp},bA X' ([]++nQ fp s7.heap) (us2++pJ σ is) H9 s9->tnx (i+1) s9.heap/\∀ b∈fp,H9 b=none:=fun {s9 H9} I9=>by
    refine ⟨T.keep _ _ _ st7 fun b hb o e=>(I9.pin (b,o) (mem_append_right _ (mem_append_right _ (lC hb e)))).1,fun b hb=>?_⟩
    obtain ⟨o,e,d⟩:=T.obj _ _ st7 b hb
    exact (I9.pin (b,o) (mem_append_right _ (mem_append_right _ (lC hb e)))).2.1
   have made:∀ {s9:Shared} {H9:Hp},bA X' ([]++nQ fp s7.heap) (us2++pJ σ is) H9 s9->te (us2++pJ σ is) H9 (fun y H3=>H3 s2.heap.objs.size=some (.lst ys)/\∃ m',m' < n/\W (i+1) m' (ys++[y]) (upd H3 s2.heap.objs.size (.lst (ys++[y])))) ->
     wpAny (model X.prog X.w) X.A (eval elt X'.env) (fun x s₄=>wpAny (model X.prog X.w) X.A (call (.builtin "list.append") [.ref s2.heap.objs.size,x]) (fun _ s₅=>∃ m,m < n/\∃ i ys ts H',bA X' [] (ts++pJ σ is) H' s₅/\ts.length=tn.length/\tnx i s₅.heap/\(∀ b∈fp,H' b=none)/\W i m ys H') (fun _ _=>False) s₄) (fun _ _=>False) s9:=fun {s9 H9} I9 q9=>by
    have ze:=he' _ s9 _ H9 _ I9 q9
    rw [hxe] at ze
    refine cJ (hrun ze) fun y s10 ⟨yv,H10,I10,ry,ha10,m',hm',w10⟩=>?_
    have za:=(cK (X:=X')) ([]++nQ fp s7.heap) s10 (us2++pJ σ is) H10 (.ref s2.heap.objs.size) [yv] (.ref s2.heap.objs.size) [y] (fun v H'=>v=.non/\H'=upd H10 s2.heap.objs.size (.lst (ys++[yv]))) I10 rfl (.cons ry .nil)
     ⟨_,ys,yv,rfl,rfl,ha10,hlen,rfl,rfl⟩
    rw [hxe] at za
    refine cJ (hrun za) fun _ s11 ⟨_,H11,I11,_,_,e11⟩=>?_
    subst e11
    obtain ⟨b1,b2⟩:=back I11
    exact ⟨m',hm',i+1,_,us2,_,I11.unpinned,hus,b1,b2,w10⟩
   cases ifs with
  |nil =>
    cases tc with
   |some t=>exact ht'.elim
   |none=>exact wpAny_tests_nil (by rw [if_pos rfl]; exact made I8 q8)
  |cons c0 eK =>
    cases eK with
   |cons _ _=>cases tc <;> exact ht'.elim
   |nil =>
     cases tc with
    |none=>exact ht'.elim
    |some t =>
      have zt:=(show PT X' c0 t from ht') _ s8 _ H8 _ I8 q8
      rw [hxe] at zt
      refine wpAny_tests_one (cJ (hrun zt) fun ok s9 ⟨H9,I9,q9⟩=>?_)
      cases ok with
     |true=>rw [if_pos rfl]; rw [if_pos rfl] at q9; exact made I9 q9
     |false =>
       rw [if_neg Bool.false_ne_true]
       rw [if_neg Bool.false_ne_true] at q9
       obtain ⟨m',hm',w9⟩:=q9
       obtain ⟨b1,b2⟩:=back I9
       exact ⟨m',hm',i+1,_,us2,_,I9.unpinned,hus,b1,b2,w9⟩
 have st4:tnx 0 h1:=T.keep _ _ _ st2 fun b hb o e=>kp b o (keep23 b o e)
 have goal0:=loop _ I4 st4
 rw [henv] at goal0
 refine codeAny_compStart_list goal0 (T.self X.A 0 _ _ _ st4 goal0)
theorem eF (ck:vF X scope tn names is) (hc:X.calm=true) (hi:PI X tg iter wi)
  (hg:∀ C s0 H0 ex,PG (bS X scope (cU X.env names) (tn++names) C s0 H0 ex) tg g) (he:∀ C s0 H0 ex,PE (bS X scope (cU X.env names) (tn++names) C s0 H0 ex) elt te)
  (ht:∀ C s0 H0 ex,Ax (bS X scope (cU X.env names) (tn++names) C s0 H0 ex) ifs tc) (hs:∀ x,foldedSetIterable iter X.env x=pure x:=by intro _; rfl) :
  PE X (.ListComp elt [⟨tg,iter,ifs,0⟩] scope pos) (KM wi te tc g tn.length is):=by
 intro pins s σ H Q I h
 rw [eval_ListComp]
 refine wpAny_comprehension_free (use:=none) rfl hs (ck.cls fun x hx=>I.ok.has x (ck.outk x hx)) ck.kind ck.nms (cJ (hi pins s σ H _ I h) fun v s1 h1=>cJ h1 fun itv s2 h2=>?_)
 refine CA (RR:=fun acc C=>compPost (model X.prog X.w) X.A X.xe none (EP X pins σ Q) acc C) (ok:=fun X=>X.calm=true) ck (fun _ _ _ _=>hc) hg he ht (UM h2) fun acc C H' s' m I' hn hC hL hcl hpn hsz q=>?_
 refine ⟨m,hn,fun h' sb=>⟨.ref acc,H',?_,rfl,q⟩⟩
 exact I'.turned (t':=s'.toks) (fun b o hb e=>sb.extBut b o hb e) hC hL (.inr hsz) hcl hpn
theorem xQ {i:Nat}{x:Str}{pos' spos:Pos} (hN:X.N.Nodup) (hi':X.N[i]?=some x) (hx:Ao X.env.scope x) (ck:vF X scope tn names is) (hc:X.calm=true) (hi:PI X tg iter wi)
  (hg:∀ C s0 H0 ex,PG (bS X scope (cU X.env names) (tn++names) C s0 H0 ex) tg g) (he:∀ C s0 H0 ex,PE (bS X scope (cU X.env names) (tn++names) C s0 H0 ex) elt te)
  (ht:∀ C s0 H0 ex,Ax (bS X scope (cU X.env names) (tn++names) C s0 H0 ex) ifs tc) (hs:∀ x,foldedSetIterable iter X.env x=pure x:=by intro _; rfl)
  (hsw:swapsWith (.ListComp elt [⟨tg,iter,ifs,0⟩] scope pos) (some (.Name x pos')) spos.line X.env=pure true:=by rfl) (hf:X.fn x=true∨X.env.scope.names.lookup x=some .local:=by first|exact .inl rfl|exact .inr rfl|assumption) :
  PS X (.Assign [.Name x pos'] (.ListComp elt [⟨tg,iter,ifs,0⟩] scope pos) spos) (PH (KM wi te tc g tn.length is) (iC i)):=by
 intro pins s σ H D I h
 rw [exec_Assign_Name_used _ _ _ _ hsw]
 refine wpAny_bind (wpAny_standAt (wpAny_bind ?_))
 show wpAny _ X.A (do let _ ← comprehension (.ListComp elt [⟨tg,iter,ifs,0⟩] scope pos) scope X.env _ (newList []) false (eval iter X.env) (some (assign (.Name x pos') X.env))) _ _ s
 refine wpAny_bind (wpAny_mono (wpAny_comprehension_free (use:=some (assign (.Name x pos') X.env)) (Q:=fun _ s'=>SP X pins D .next s') rfl hs (ck.cls fun x hx=>I.ok.has x (ck.outk x hx)) ck.kind ck.nms
  (cJ (hi pins s σ H _ I h) fun v s1 h1=>cJ h1 fun itv s2 h2=>?_)) (fun _ s' hq=>wpAny_pure (wpAny_pure hq)) fun _ _ e=>e)
 refine CA (RR:=fun acc C=>compPost (model X.prog X.w) X.A X.xe (some (assign (.Name x pos') X.env)) (fun _ s'=>SP X pins D .next s') acc C) (ok:=fun X=>X.calm=true) ck (fun _ _ _ _=>hc) hg he ht (UM h2) fun acc C H' s' m I' hn hC hL hcl hpn hsz q=>?_
 show wpAny _ X.A (assign (.Name x pos') X.env (.ref acc)) _ _ s'
 refine wpAny_assign_Name (vZ I' hN hi' hx (v:=.ref acc) rfl (fun s'' I'' sb=>?_) hf)
 obtain ⟨a,sb,ha⟩:=sb
 have hne:C≠a:=by
  rcases ha with rfl|ha
  ·exact hL
  ·exact fun z=>hcl x a ha z.symm
 refine ⟨m,hn.sameBut sb hne,fun h' sb'=>⟨_,H',I''.turned (t':=s''.toks) (fun b o hb e=>sb'.extBut b o hb e) hC hL (.inr hsz) hcl hpn,q⟩⟩
end
section
variable {te:TE} {Q:VK} {H:Hp} {σ caps:St} {wi:TI} {tc:TT} {K:Frag}
theorem XG {o:Option TT}{g:TG}{k:Nat}{is:List Nat} (h:wi σ H (mE te o g (List.replicate k none) (pJ σ is) Q)):KM wi te o g k is σ H Q:=h
theorem MX {us:St} (h:us.length=1):∃ o,us=[o]:=by
 cases us with
|nil=>cases h
|cons o r =>
  cases r with
 |nil=>exact ⟨o,rfl⟩
 |cons _ _=>simp at h
def cW (n:Nat) (acc:Addr) (Pv:Nat->List V->Hp->Prop):Nat->Nat->List V->Hp->Prop:=fun i m ys H1=>m=n - i/\i<=n/\ys.length=i/\H1 acc=some (.lst ys)/\Pv i ys H1
def rG (n:Nat) (acc:Addr) (Pv:Nat->List V->Hp->Prop) (ys:List V) (i:Nat):VK:=fun y H3=>H3 acc=some (.lst ys)/\∃ m',m' < n - i/\cW n acc Pv (i+1) m' (ys++[y]) (upd H3 acc (.lst (ys++[y])))
theorem eS {n:Nat}{acc:Addr}{Pv:Nat->List V->Hp->Prop}{ys:List V}{i:Nat}{y:V}{H3:Hp} (hlt:i < n) (hl:ys.length=i) (ha:H3 acc=some (.lst ys)) (p:Pv (i+1) (ys++[y]) (upd H3 acc (.lst (ys++[y])))):rG n acc Pv ys i y H3:=
 ⟨ha,n - (i+1),by omega,rfl,hlt,by rw [length_append,hl]; rfl,aE,p⟩
theorem xP {lo:Int}{n:Nat} (hn:n<=1000) (Pv:Addr->Nat->List V->Hp->Prop) (h0:∀ acc,H acc=none->Pv acc 0 [] (upd H acc (.lst [])))
  (hs:∀ acc i ys H1,H acc=none->i < n->ys.length=i->H1 acc=some (.lst ys)->Pv acc i ys H1->te (some (.int (lo+i))::caps) H1 (rG n acc (Pv acc) ys i))
  (hd:∀ acc ys H1,H acc=none->H1 acc=some (.lst ys)->ys.length=n->Pv acc n ys H1->Q (.ref acc) H1):mE te none (iC 0) (List.replicate 1 none) caps Q (JQ lo n) H:=by
 intro acc hacc
 refine ⟨cW n acc (Pv acc),⟨n,by simp,zero_le _,rfl,aE,h0 acc hacc⟩,?_⟩
 rintro i m ys H1 ⟨rfl,hi,hl,ha,p⟩
 refine ⟨ha,?_⟩
 by_cases hlt:i < n
 ·refine .inr ⟨eI (by omega),hlt,fun us x H' hu y=>?_⟩
  obtain ⟨e,y⟩:=y
  subst e y
  obtain ⟨o,rfl⟩:=MX hu
  exact ⟨⟨[some (.int (lo+i))],rfl,rfl⟩,hs acc i ys _ hacc hlt hl ha p⟩
 ·have e:i=n:=by omega
  subst e
  exact .inl ⟨le_refl _,hd acc ys H1 hacc ha hl p⟩
theorem mV {a:Addr}{xs:List V} (hn:xs.length<=1000) (Pv:Addr->Nat->List V->Hp->Prop) (h0:∀ acc,H acc=none->Pv acc 0 [] (upd H acc (.lst []))) (hl':∀ acc i ys H1,H acc=none->i<=xs.length->Pv acc i ys H1->cN K H1 a xs)
  (hs:∀ acc i ys H1 x,H acc=none->xs[i]?=some x->ys.length=i->H1 acc=some (.lst ys)->Pv acc i ys H1->te (some x::caps) H1 (rG xs.length acc (Pv acc) ys i))
  (hd:∀ acc ys H1,H acc=none->H1 acc=some (.lst ys)->ys.length=xs.length->Pv acc xs.length ys H1->Q (.ref acc) H1):mE te none (iC 0) (List.replicate 1 none) caps Q (JX K a) H:=by
 intro acc hacc
 refine ⟨cW xs.length acc (Pv acc),⟨xs.length,by simp,zero_le _,rfl,aE,h0 acc hacc⟩,?_⟩
 rintro i m ys H1 ⟨rfl,hi,hl,ha,p⟩
 have q:=hl' acc i ys H1 hacc hi p
 refine ⟨ha,?_⟩
 by_cases hlt:i < xs.length
 ·refine .inr ⟨eI (by omega),⟨xs,xs[i],q,by simp [hlt]⟩,fun us x H' hu y=>?_⟩
  obtain ⟨e,y⟩:=y
  subst e
  obtain ⟨o,rfl⟩:=MX hu
  exact ⟨⟨[some x],rfl,rfl⟩,hs acc i ys _ x hacc (y xs q) hl ha p⟩
 ·have e:i=xs.length:=by omega
  subst e
  exact .inl ⟨⟨xs,q,le_refl _⟩,hd acc ys H1 hacc ha hl p⟩
end
end
end L2
namespace L2
open PySem
section
variable {H:Hp} {Q:VK} {u v:V} {a b c d:Int} {m n:Nat} {K:Frag}
end
end L2
namespace L2
theorem DK {t b f g:Int} (hb:b≠0) (hg:0 < g) (hc:Int.gcd f g=1) (e:f * b=t * g):(Rat.divInt t b).num=f/\((Rat.divInt t b).den:Int)=g:=by
 obtain ⟨n,rfl⟩:∃ n:Nat,g=n:=⟨g.toNat,by omega⟩
 have h1:Rat.divInt t b=Rat.divInt f n:=(Rat.divInt_eq_divInt_iff hb (by omega)).mpr e.symm
 have h2:Rat.divInt f n=Rat.mk' f n (by omega) hc:=Rat.num_divInt_den (Rat.mk' f n (by omega) hc)
 rw [h1,h2]
 exact ⟨rfl,rfl⟩
end L2
namespace L2
end L2
namespace L2
open PySem
def JP (xs:Array Nat):Prop:=xs.toList.Pairwise (· < ·)
theorem JP.lt {xs:Array Nat} (h:JP xs) {i j:Nat} (hij:i < j) (hj:j < xs.size):xs[i]'(lt_trans hij hj) < xs[j]:=by
 have:=List.pairwise_iff_getElem.mp h i j (by simpa using lt_trans hij hj) (by simpa using hj) hij
 simpa using this
theorem JP.le {xs:Array Nat} (h:JP xs) {i j:Nat} (hij:i<=j) (hj:j < xs.size):xs[i]'(lt_of_le_of_lt hij hj)<=xs[j]:=by
 rcases Nat.lt_or_eq_of_le hij with h1|h1
 ·exact le_of_lt (h.lt h1 hj)
 ·subst h1
  exact le_refl _
def OQ (xs:Array Nat) (j r:Nat):Prop:=r<=xs.size/\(∀ k (hk:k < xs.size),k < r->xs[k] < j)/\∀ k (hk:k < xs.size),r<=k->j<=xs[k]
theorem uY {xs:Array Nat}{j:Nat} (h:JP xs):∀ (fuel lo hi:Nat),hi - lo<=fuel->lo<=hi->hi<=xs.size->(∀ k (hk:k < xs.size),k < lo->xs[k] < j)->(∀ k (hk:k < xs.size),hi<=k->j<=xs[k])->OQ xs j (SetTable.below.go xs j fuel lo hi)
|0,lo,hi,hf,hl,hh,h1,h2=>by
  have:lo=hi:=by omega
  subst this
  unfold SetTable.below.go
  exact ⟨hh,h1,h2⟩
|fuel+1,lo,hi,hf,hl,hh,h1,h2=>by
  unfold SetTable.below.go
  by_cases hlt:lo < hi
  ·rw [if_pos hlt]
   have hm:(lo+hi) / 2 < xs.size:=by omega
   have eg:xs.getD ((lo+hi) / 2) j=xs[(lo+hi) / 2]:=by simp [Array.getD,hm]
   show OQ xs j (if xs.getD ((lo+hi) / 2) j < j then SetTable.below.go xs j fuel ((lo+hi) / 2+1) hi else SetTable.below.go xs j fuel lo ((lo+hi) / 2))
   rw [eg]
   by_cases c:xs[(lo+hi) / 2] < j
   ·rw [if_pos c]
    exact uY h fuel ((lo+hi) / 2+1) hi (by omega) (by omega) hh (fun k hk hk'=>lt_of_le_of_lt (h.le (show k<=(lo+hi) / 2 by omega) hm) c) h2
   ·rw [if_neg c]
    exact uY h fuel lo ((lo+hi) / 2) (by omega) (by omega) (by omega) h1 fun k hk hk'=>le_trans (Nat.le_of_not_lt c) (h.le hk' hk)
  ·rw [if_neg hlt]
   have:lo=hi:=by omega
   subst this
   exact ⟨hh,h1,h2⟩
theorem CC {xs:Array Nat} (j:Nat) (h:JP xs):OQ xs j (SetTable.below xs j):=
 uY h xs.size 0 xs.size (by omega) (zero_le _) (le_refl _) (fun _ _ z=>absurd z (not_lt_zero _)) fun k hk z=>absurd hk (Nat.not_lt.mpr z)
theorem PN {xs:Array Nat}{j:Nat} (h:JP xs) (hn:xs[SetTable.below xs j]?≠some j):JP (SetTable.insertAt xs (SetTable.below xs j) j):=by
 have st:=CC j h
 generalize SetTable.below xs j=p at st hn
 unfold JP
 rw [SetTable.toList_insertAt]
 have h1:∀ a∈xs.toList.take p,a < j:=fun a ha=>by
  obtain ⟨k,hk,e⟩:=List.getElem_of_mem ha
  rw [length_take] at hk
  rw [List.getElem_take,Array.getElem_toList] at e
  rw [← e]
  exact st.2.1 k (by simp at hk; omega) (by omega)
 have h2:∀ a∈xs.toList.drop p,j < a:=fun a ha=>by
  obtain ⟨k,hk,e⟩:=List.getElem_of_mem ha
  rw [length_drop,Array.length_toList] at hk
  rw [List.getElem_drop,Array.getElem_toList] at e
  have hp:p < xs.size:=by omega
  have h0:=st.2.2 p hp (le_refl _)
  have h3:xs[p]≠j:=fun z=>hn (by rw [Array.getElem?_eq_getElem hp,z])
  have h4:=h.le (show p<=p+k by omega) (by omega)
  rw [← e]
  omega
 refine List.pairwise_append.mpr ⟨h.sublist (List.take_sublist ..),List.pairwise_cons.mpr ⟨h2,h.sublist (List.drop_sublist ..)⟩,fun a ha b hb=>?_⟩
 rcases mem_cons.mp hb with rfl|hb
 ·exact h1 a ha
 ·exact lt_trans (h1 a ha) (h2 b hb)
def Tb (w:World) (t:SetTable) (_n:Nat):Prop:=t.led=!(w.params.followText "set-order")/\JP t.place/\t.dummies=#[]
theorem mT (n:Nat):JP (Array.range n):=by
 unfold JP
 rw [Array.toList_range]
 exact List.pairwise_lt_range
theorem GK (j:Nat):SetTable.has #[] j=false:=by
 unfold SetTable.has
 simp
theorem tZ {t:SetTable}{f:Nat->Int}{h:Int} (ht:t.dummies=#[]):∀ (fuel:Nat) (p:SetTable.Probe) (j:Nat) (d:Option Nat),SetTable.probe.go t f h fuel p=some (.empty j d)->p.dummy=none->t.slot j=.empty/\d=none
|0,p,j,d,e,hd=>nomatch e
|fuel+1,p,j,d,e,hd=>by
  have adv:(t.advance p).dummy=none:=by
   unfold SetTable.advance
   split
   ·exact hd
   ·exact hd
  unfold SetTable.probe.go at e
  cases hs:t.slot p.j with
 |empty =>
   rw [hs] at e
   have e:=Option.some.inj e
   injection e with e1 e2
   exact ⟨by rw [← e1]; exact hs,by rw [← e2]; exact hd⟩
 |dummy =>
   exfalso
   unfold SetTable.slot at hs
   dsimp only at hs
   rw [ht,GK,if_neg Bool.false_ne_true] at hs
   split at hs <;> cases hs
 |live i =>
   rw [hs] at e
   dsimp only at e
   split at e
   ·exact nomatch Option.some.inj e
   ·exact tZ ht fuel _ j d e adv
theorem HJ {t:SetTable}{j:Nat} (h:t.slot j=.empty):t.place[SetTable.below t.place j]?≠some j:=fun e=>by
 unfold SetTable.slot at h
 dsimp only at h
 rw [e,if_pos (by simp)] at h
 cases h
theorem IR {w:World}{t:SetTable}{n m:Nat} (es:Array (Int×Value)) (h:Int) (x:Value) (ht:Tb w t n):Tb w (layNew t es h x).2.1 m:=by
 obtain ⟨h1,h2,h3⟩:=ht
 unfold layNew
 split
 ·rename_i slot wd e
  dsimp only
  have hp:Tb w (t.put slot).1 m:=by
   have hs:t.place[SetTable.below t.place slot]?≠some slot:=by
    unfold SetTable.freeSlot at e
    split at e
    ·rename_i j d e'
     have:=tZ h3 _ _ _ _ e' rfl
     rw [this.2] at e
     have e:=Option.some.inj e
     have e1:j=slot:=congrArg Prod.fst e
     rw [← e1]
     exact HJ this.1
    ·cases e
   unfold SetTable.put
   refine ⟨h1,PN h2 hs,?_⟩
   show (if SetTable.has t.dummies slot then _ else t.dummies)=#[]
   rw [h3,GK,if_neg Bool.false_ne_true]
  unfold SetTable.orStandIn
  split
  ·exact hp
  ·exact ⟨h1,mT _,rfl⟩
 ·exact ⟨h1,mT _,rfl⟩
theorem LK {w:World}{t:SetTable}{n m:Nat} (es:Array (Int×Value)) (k:Nat) (ht:Tb w t n):Tb w (relayAll t es k).2.1 m:=by
 obtain ⟨h1,h2,h3⟩:=ht
 unfold relayAll
 split
 ·rename_i t' order e
  unfold SetTable.relaid SetTable.laid at e
  cases hc:SetTable.layClean (SetTable.sizeAbove k - 1) (Array.map (fun x=>x.fst) es) with
 |none =>
   rw [hc] at e
   exact nomatch e
 |some ow =>
  rw [hc] at e
  have e3:=congrArg Prod.fst (Option.some.inj e)
  dsimp only at e3
  subst e3
  dsimp only
  split
  ·refine ⟨h1,?_,rfl⟩
   unfold JP
   dsimp only
   refine pairwise_map.mpr (List.pairwise_filterMap.mpr (List.pairwise_lt_range.imp fun {a b} hab x hx y hy=>?_))
   simp only [Option.map_eq_some_iff] at hx hy
   obtain ⟨_,_,rfl⟩:=hx
   obtain ⟨_,_,rfl⟩:=hy
   exact hab
  ·exact ⟨h1,mT _,rfl⟩
 ·exact ⟨h1,mT _,rfl⟩
section
variable {prog:Program} {w:World} {K:Type} [DecidableEq K] {knd:KeyKind prog w K} {A:Around} {E:Value -> Shared -> Prop} {s:Shared}
theorem OO {a:Addr}{o:Obj}{es:Array (Int×Value)}{ep:Nat}{t:SetTable}{x:Value}{k:K}{Q:Bool->Shared->Prop} (hsc:x.scannable=true) (hkey:knd.is k x=true) (ho:s.heap.get? a=some o) (hex:o.ExactSet) (hd:o.data=.set es ep t)
  (hel:ElemsOf knd es.toList) (hb:es.size+1 < scanBound) (hf:t.fits es.size=true) (ht:Tb w t es.size)
  (h1:(∃ e∈es.toList,knd.is k e.2=true)->Q false s)
  (h2:(∀ e∈es.toList,knd.is k e.2=false)->∀ (h':Heap) (es':Array (Int×Value)) (t':SetTable) (ep':Nat),Heap.SameBut a s.heap h'->h'.get? a=some { o with data:=.set es' ep' t' }->List.Perm es'.toList (es.toList++[(knd.hash k,x)]) ->
   t'.fits es'.size=true->Tb w t' es'.size->Q true { s with heap:=h' }):wpAny (model prog w) A (setAddHashed a x (knd.hash k)) Q E s:=by
 unfold setAddHashed setAddHashedIn
 refine wpAny_holding (wpAny_bind (wpAny_setState_of ho hd hf ?_))
 dsimp only
 rw [byScan_of hsc (by omega) hel,if_pos rfl]
 unfold setAddByScan
 refine wpAny_bind (wpAny_bind (wpAny_rule (wpAny_bind (wpAny_setScan_of hkey ho hd hf hel ?_))))
 cases hr:List.findIdx? (fun e=>knd.is k e.2) es.toList with
|some j =>
  obtain ⟨hj,hpj,_⟩:=List.findIdx?_eq_some_iff_getElem.mp hr
  exact wpAny_pure (wpAny_pure (h1 ⟨_,List.getElem_mem hj,hpj⟩))
|none =>
  have hno:=List.findIdx?_eq_none_iff.mp hr
  have gw:∀ (b:Bool) {s₁:Shared} {Q':Unit->Shared->Prop},Q' () s₁->wpAny (model prog w) A (match b with|true=>rule "set.scan.the-table-gave-way"|false=>pure ()) Q' E s₁:=fun b _ _ hq=>by
   cases b
   ·exact wpAny_pure hq
   ·exact wpAny_rule hq
  dsimp only
  have p1:=layNew_perm t es (knd.hash k) x
  have f1:=layNew_fits t es (knd.hash k) x
  have l1:=fun m=>IR (m:=m) es (knd.hash k) x ht
  generalize layNew t es (knd.hash k) x=L at p1 f1 l1 ⊢
  obtain ⟨es1,t1,wd,gave⟩:=L
  dsimp only at p1 f1 l1 ⊢
  rw [Array.toList_push] at p1
  have hz:es1.size=es.size+1:=by
   have:=p1.length_eq
   simpa using this
  refine wpAny_bind (gw _ ?_)
  have fin:∀ t2:SetTable,t2.fits es1.size=true->(∀ m,Tb w t2 m)->wpAny (model prog w) A (do
    storeSet a es1 t2
    if (!wd&&t2.tooFull)=true then do
      (match (relayAll t2 es1 (SetTable.grown es1.size)).2.2 with|true=>rule "set.scan.the-table-gave-way"|false=>pure ())
      storeSet a (relayAll t2 es1 (SetTable.grown es1.size)).1 (relayAll t2 es1 (SetTable.grown es1.size)).2.1
      pure (some true)
     else pure (some true)) (fun r s₁=>wpAny (model prog w) A (match r with | some added=>pure added | none=>setAddHashedIn a x (knd.hash k) 99999) Q E s₁) E s:=by
   intro t2 f2 l2
   refine wpAny_bind (wpAny_storeSet_of ho hd ?_ (fits_of_scanBound (by omega)))
   have g1:(s.heap.update a (Obj.putSet es1 t2)).get? a=some { o with data:=.set es1 (ep+1) t2 }:=by
    have z:=get?_update_self (Obj.putSet es1 t2) ho (by rw [putSet_of es1 t2 hd]; rfl)
    rw [putSet_of es1 t2 hd] at z
    exact z
   have sb1:=Heap.SameBut.update s.heap a (Obj.putSet es1 t2)
   split
   ·have p2:=relayAll_perm t2 es1 (SetTable.grown es1.size)
    have f3:=relayAll_fits t2 es1 (SetTable.grown es1.size)
    have l3:=fun m=>LK (m:=m) es1 (SetTable.grown es1.size) (l2 0)
    generalize relayAll t2 es1 (SetTable.grown es1.size)=R at p2 f3 l3 ⊢
    obtain ⟨es2,t3,gave2⟩:=R
    dsimp only at p2 f3 l3 ⊢
    have hz2:es2.size=es1.size:=by
     have:=p2.length_eq
     simpa using this
    refine wpAny_bind (gw _ ?_)
    refine wpAny_bind (wpAny_storeSet_of g1 rfl ?_ (fits_of_scanBound (by omega)))
    have g2:((s.heap.update a (Obj.putSet es1 t2)).update a (Obj.putSet es2 t3)).get? a=some { o with data:=.set es2 (ep+1+1) t3 }:=by
     have z:=get?_update_self (Obj.putSet es2 t3) g1 (by rw [putSet_of es2 t3 rfl]; rfl)
     rw [putSet_of es2 t3 rfl] at z
     exact z
    exact wpAny_pure (wpAny_pure (h2 hno _ es2 t3 _ (sb1.trans (Heap.SameBut.update _ a _)) g2 (p2.trans p1) f3 (l3 _)))
   ·exact wpAny_pure (wpAny_pure (h2 hno _ es1 t2 _ sb1 g1 p1 f2 (l2 _)))
  split
  ·refine wpAny_bind ?_
   rw [hashByValue_scannable 8 hsc]
   refine wpAny_pure ?_
   cases plainKind x with
  |true =>
    rw [if_pos rfl]
    exact fin t1 f1 l1
  |false =>
    rw [if_neg Bool.false_ne_true]
    exact fin _ (SetTable.fits_plain_off f1) l1
  ·refine wpAny_bind (wpAny_pure ?_)
   rw [if_pos rfl]
   exact fin t1 f1 l1
end
end L2
namespace L2
open PySem
section
variable {prog:Program} {w:World} {A:Around} {E:Value -> Shared -> Prop} {s:Shared}
end
end L2
namespace L2
open PySem
def LD (es:Array (Int×Value)) (ep:Nat) (t:SetTable):Obj:={ cls:=.type "set",dict:=none,data:=.set es ep t,slots:=#[] }
section
variable {prog:Program} {w:World} {A:Around} {E:Value -> Shared -> Prop} {s:Shared}
variable {a it:Addr} {es:Array (Int×Value)} {ep i n:Nat} {t:SetTable} {first:Value}
end
end L2
namespace L2
open PySem
section
variable {prog:Program} {w:World} {A:Around} {E:Value -> Shared -> Prop} {s:Shared} {a it:Addr} {es:Array (Int×Value)} {ep i n:Nat} {t:SetTable}
end
section
variable {prog:Program} {w:World} {A:Around} {E:Value -> Shared -> Prop} {s:Shared} {a it:Addr} {es:Array (Int×Value)} {ep i n:Nat} {t:SetTable}
end
end L2
namespace L2
open PySem
section
variable {prog:Program} {w:World} {A A₂:Around} {E:Value -> Shared -> Prop} {s:Shared} {a it:Addr} {es:Array (Int×Value)} {ep i n:Nat} {t:SetTable}
end
end L2
namespace L2
open PySem
section
variable {prog:Program} {w:World} {A A₂:Around} {E:Value -> Shared -> Prop} {s:Shared} {a it:Addr} {es:Array (Int×Value)} {ep i n:Nat} {t:SetTable}
end
end L2
namespace L2
open PySem
def CL (prog:Program) (w:World):KeyKind prog w Str where
 is:=Value.isStrOf
 hash:=hashStr w
 inj:=Value.isStrOf_inj
 byValue:=fun k v h=>by obtain ⟨t,rfl⟩:=Value.isStrOf_shape h; rfl
 pyHash:=fun hv h=>by obtain ⟨t,rfl⟩:=Value.isStrOf_shape hv; exact wpAny_pyHash_str h
 eqBool:=fun hu hv h=>by
  obtain ⟨t,rfl⟩:=Value.isStrOf_shape hu
  obtain ⟨u,rfl⟩:=Value.isStrOf_shape hv
  exact wpAny_eqBool_str h
 «strs»:=fun k x t v h=>by
  obtain ⟨u,e⟩:=Value.isStrOf_shape h
  cases e
  cases v <;> rfl
def HE:Value->Str
|.str x _=>x
|_=>⟨#[]⟩
def jT (w:World) (h:Heap) (a:Addr) (xs:List Str):Prop:=
 ∃ es ep t,h.get? a=some (LD es ep t)/\(∀ e∈es.toList,∃ y u,e=(hashStr w y,Value.str y u))/\es.toList.map (fun e=>HE e.2)=xs/\xs.Nodup/\es.size < scanBound/\t.fits es.size=true/\Tb w t es.size
theorem jT.at {w:World}{h h':Heap}{a:Addr}{xs:List Str} (x:jT w h a xs) (e:∀ o,h.get? a=some o->h'.get? a=some o):jT w h' a xs:=
 let ⟨es,ep,t,g,r⟩:=x; ⟨es,ep,t,e _ g,r⟩
section
variable {prog:Program} {w:World} {A:Around} {E:Value -> Shared -> Prop} {s:Shared} {a:Addr}
theorem Ai {xs:List Str}{y:Str}{tk:Tok}{Q:Bool->Shared->Prop} (hx:jT w s.heap a xs) (hb:xs.length+1 < scanBound)
  (h1:y∈xs->Q false s) (h2:y∉xs->∀ h' xs',Heap.SameBut a s.heap h'->xs'.Perm (xs++[y])->jT w h' a xs'->Q true { s with heap:=h' }):wpAny (model prog w) A (setAddHashed a (.str y tk) (hashStr w y)) Q E s:=by
 obtain ⟨es,ep,t,g,hel,hxs,hnd,hsz,hf,ht⟩:=hx
 have hl:xs.length=es.size:=by rw [← hxs]; simp
 have hE:ElemsOf (CL prog w) es.toList:=fun e he=>by
  obtain ⟨z,u,rfl⟩:=hel e he
  exact ⟨⟨z,by show Value.isStrOf z (.str z u)=true; simp [Value.isStrOf],rfl⟩,rfl⟩
 have his:∀ e∈es.toList,((CL prog w).is y e.2=true ↔ HE e.2=y):=fun e he=>by
  obtain ⟨z,u,rfl⟩:=hel e he
  constructor
  ·intro q
   obtain ⟨u',q'⟩:=Value.isStrOf_shape (show Value.isStrOf y (.str z u)=true from q)
   cases q'
   rfl
  ·intro q
   have q:z=y:=q
   subst q
   show Value.isStrOf z (.str z u)=true
   simp [Value.isStrOf]
 refine OO (knd:=CL prog w) (k:=y) rfl (by show Value.isStrOf y (.str y tk)=true; simp [Value.isStrOf]) g ⟨rfl,rfl,rfl⟩ rfl hE (by omega) hf ht (fun ⟨e,he,q⟩=>h1 ?_) fun hno h' es' t' ep' sb g' hp hf' ht'=>h2 ?_ h' (es'.toList.map fun e=>HE e.2) sb ?_ ⟨es',ep',t',g',?_,rfl,?_,?_,hf',ht'⟩
 ·rw [← hxs]
  exact mem_map.mpr ⟨e,he,(his e he).mp q⟩
 ·intro hm
  rw [← hxs] at hm
  obtain ⟨e,he,q⟩:=mem_map.mp hm
  have:=hno e he
  rw [(his e he).mpr q] at this
  cases this
 ·have q:=hp.map fun e=>HE e.2
  rw [map_append,hxs] at q
  exact q
 ·intro e he
  rcases mem_append.mp (hp.mem_iff.mp he) with q|q
  ·exact hel e q
  ·rw [mem_singleton] at q
   exact ⟨y,tk,q⟩
 ·have q:=hp.map fun e=>HE e.2
  rw [map_append,hxs] at q
  refine q.nodup_iff.mpr (List.nodup_append.mpr ⟨hnd,by simp,fun z hz z' hz'=>?_⟩)
  have hz':z'=y:=by simpa [HE] using hz'
  subst hz'
  rintro rfl
  rw [← hxs] at hz
  obtain ⟨e,he,q⟩:=mem_map.mp hz
  have:=hno e he
  rw [(his e he).mpr q] at this
  cases this
 ·have:=hp.length_eq
  simp at this
  omega
end
section
variable {prog:Program} {w:World} {A:Around} {R:Result -> Shared -> Prop} {I:Addr} {fp wr:List Addr} {G:Array GenState -> Array GenState -> Prop} {n:Nat} {P:Nat -> Value -> Prop} {St:Nat -> Shared -> Prop}
theorem nE:entryFor table "set.update.loop"=some Builtin.«set.update.loop»:=entryFor_of_tree (by kernel_rfl)
theorem gS:plainId "set.update.loop"=true:=by decide +kernel
theorem RV (W:WalksS prog w A.in1 I fp wr G n P St) (S:Addr) (hSf:S∉fp) (val:Nat->Str) (hval:∀ i v,P i v->∃ t,v=.str (val i) t) (hb:n+1 < scanBound) :
  ∀ (k i:Nat) (s:Shared) (xs:List Str),n - i=k->i<=n->St i s->jT w s.heap S xs->xs.length<=i->(∀ z,z∈xs ↔ ∃ j,j < i/\val j=z) ->
   (∀ s' xs',Moved (S::wr) G s s'->jT w s'.heap S xs'->(∀ z,z∈xs' ↔ ∃ j,j < n/\val j=z)->R (.ok (.ret .none)) s') ->
   codeAny (model prog w) A (.builtin "set.update.loop" ⟨[.ref S,.ref I],[]⟩) R s:=by
 have hSw:S∉wr:=fun h=>hSf (W.sub _ h)
 have sub:∀ b∈wr,b∈S::wr:=fun b hb=>mem_cons_of_mem _ hb
 intro k
 induction k with
|zero =>
  intro i s xs hk hi hst hS hl hm hR
  have:i=n:=by omega
  subst this
  refine codeAny_builtin nE ?_
  rw [Around.under_plainId gS _]
  show wpAny _ A.in1 (pyNext (.ref I) >>= _) _ _ s
  refine wpAny_bind (W.done s _ _ hst fun s' mv=>wpAny_pure (hR s' xs (mv.mono sub) (hS.at fun o e=>mv.heap S _ hSw e) hm))
|succ k ih =>
  intro i s xs hk hi hst hS hl hm hR
  have hlt:i < n:=by omega
  refine codeAny_builtin nE ?_
  rw [Around.under_plainId gS _]
  show wpAny _ A.in1 (pyNext (.ref I) >>= _) _ _ s
  refine wpAny_bind (W.item i s _ _ hlt hst fun v s' hP hst' mv=>?_)
  obtain ⟨tk,rfl⟩:=hval i v hP
  have hS':jT w s'.heap S xs:=hS.at fun o e=>mv.heap S _ hSw e
  show wpAny _ A.in1 (holding [Value.str (val i) tk] (setAdd S (.str (val i) tk)) >>= _) _ _ s'
  refine wpAny_bind (wpAny_holding ?_)
  unfold setAdd
  refine wpAny_holding (wpAny_bind (wpAny_pyHash_str ?_))
  have go:∀ (s2:Shared) (xs2:List Str),Moved (S::wr) G s s2->St (i+1) s2->jT w s2.heap S xs2->xs2.length<=i+1->(∀ z,z∈xs2 ↔ z∈xs∨z=val i)->codeAny (model prog w) A (.builtin "set.update.loop" ⟨[.ref S,.ref I],[]⟩) R s2:=fun s2 xs2 mv2 st2 t2 l2 m2=>by
   refine ih (i+1) s2 xs2 (by omega) (by omega) st2 t2 l2 (fun z=>?_) fun s3 xs3 mv3 t3 m3=>hR s3 xs3 (Moved.trans W.gtrans mv2 mv3) t3 m3
   rw [m2,hm]
   constructor
   ·rintro (⟨j,hj,e⟩|rfl)
    ·exact ⟨j,by omega,e⟩
    ·exact ⟨i,by omega,rfl⟩
   ·rintro ⟨j,hj,e⟩
    by_cases q:j < i
    ·exact .inl ⟨j,q,e⟩
    ·have:j=i:=by omega
     subst this
     exact .inr e.symm
  refine Ai (s:={ s' with toks:=s'.toks+1 }) hS' (by omega) (fun hin=>?_) fun hout h' xs' sb hp ht=>?_
  ·refine wpAny_pure ⟨plainId_quiet gS _,go _ xs ((mv.mono sub).then_heap (le_succ _) fun b o _ e=>e) ?_ hS' (by omega) fun z=>⟨.inl,fun q=>q.elim id fun e=>e ▸ hin⟩⟩
   exact W.frame _ s' _ _ hst' (le_succ _) fun b _ o e=>e
  ·refine wpAny_pure ⟨plainId_quiet gS _,go _ xs' ((mv.mono sub).then_heap (le_succ _) fun b o hb e=>?_) ?_ ht ?_ fun z=>?_⟩
   ·rw [sb.2 b (fun q:b=S=>hb (by rw [q]; exact mem_cons_self))]; exact e
   ·exact W.frame _ s' _ _ hst' (le_succ _) fun b hb o e=>by rw [sb.2 b (fun q:b=S=>hSf (by rw [← q]; exact hb))]; exact e
   ·have:=hp.length_eq
    simp at this
    omega
   ·rw [hp.mem_iff]
    simp
end
end L2
namespace L2
open PySem
section
variable {prog:Program} {w:World} {A:Around} {E:Value -> Shared -> Prop} {s:Shared}
abbrev dO (w:World):Obj:=LD #[] 0 (.fresh 0 0 (!(w.params.followText "set-order")))
theorem LB (a:Value) {Q₁:Value->Shared->Prop} (h:Q₁ (.ref s.heap.objs.size) { s with heap:=s.heap.push (dO w) }) :
  codeAny (model prog w) A (.call (.builtin "set.__new__") ⟨[.type "set",a],[]⟩) (wants Q₁ E) s:=by
 refine codeAny_of_tree ?_
 show wpAny _ A.in1 (checkBuiltinCall "set.__new__" ⟨[.type "set",a],[]⟩ >>= fun _=>again (.builtin "set.__new__" ⟨[.type "set",a],[]⟩)) _ _ s
 refine wpAny_bind (wpAny_of_eq (F.newCall_set_1 a) (wpAny_pure ⟨plainId_quiet F.plain_set_new _,codeAny_builtin F.entry_set_new ?_⟩))
 rw [Around.under_plainId F.plain_set_new _]
 unfold Builtin.«set.__new__» Builtin.Frozenset.newClass
 have hsub:=sub_set_self
 obtain ⟨hp,g,d,tk,os⟩:=s
 dsimp only
 wp_walk
 refine wpAny_askSetting (wpAny_pure ?_)
 dsimp only
 simp only [newObj]
 exact wpAny_bind (wpAny_alloc (wpAny_pure (wpAny_pure h)))
theorem HD {h:Heap}{a:Addr} (g:h.get? a=some (dO w)):jT w h a []:=
 ⟨#[],0,_,g,fun e he=>by simp at he,rfl,List.nodup_nil,by decide,rfl,rfl,List.Pairwise.nil,rfl⟩
set_option maxRecDepth 100000 in
set_option maxHeartbeats 3200000 in
theorem HK {l:Addr}{items:Array Value}{xs:List Str}{Q:Value->Shared->Prop} (hh:A.handled=none) (hl:s.heap.IsList l items) (hi:∀ (i:Nat) (v:Value),items[i]?=some v->∃ t,v=.str (xs.getD i ⟨#[]⟩) t) (hlen:items.size=xs.length) (hb:xs.length+1 < scanBound)
  (h:∀ h' tk ys,jT w h' s.heap.objs.size ys->(∀ z,z∈ys ↔ z∈xs)->(∀ b o,b < s.heap.objs.size->s.heap.get? b=some o->h'.get? b=some o)->Q (.ref s.heap.objs.size) { s with heap:=h',toks:=tk }) :
  wpAny (model prog w) A (call (.type "set") [.ref l]) Q E s:=by
 obtain ⟨c,tl,hmro⟩:=F.called_set.mro
 have hmade:=F.called_set.made
 have hsub:=F.called_set.sub
 refine wpAny_call (codeAny_of_tree ?_)
 show wpAny _ _ (callAny (.type "set") _) _ _ _
 refine wpAny_pure ⟨Code.quiet_builtin _ (by decide +kernel),codeAny_builtin F.entry_type_call ?_⟩
 rw [Around.under_plain (weight_type_call_type "set" [.ref l] []) rfl]
 have h1:=F.called_set.notType
 have h2:=F.called_set.canCreate
 have hct:=F.typeCall_set_1 (.ref l)
 repeat (any_goals (first|assumption|wp_step))
 refine codeAny_mono (LB (.ref l) (E:=E) (Q₁:=fun obj s₁=>obj=.ref s.heap.objs.size/\s₁={ s with heap:=s.heap.push (dO w) }) ⟨rfl,rfl⟩) fun r s₁ hr=>?_
 cases r with
|error e=>exact hr
|ok fl =>
  cases fl with
 |ret obj =>
   obtain ⟨rfl,rfl⟩:=hr
   have hS:(s.heap.push (dO w)).get? s.heap.objs.size=some (dO w):=get?_push_size _ rfl
   have hT:Shared.TypeIs { s with heap:=s.heap.push (dO w) } (.ref s.heap.objs.size) "set":=⟨_,hS,rfl⟩
   have hli:=F.called_set.init.lookup
   have hbi:=F.called_set.init.bind (.ref s.heap.objs.size)
   repeat (any_goals (first|assumption|wp_step))
   refine codeAny_mono (codeAny_call_builtin (R:=wants (fun r s₂=>r=.none/\∃ h' tk ys,s₂={ s with heap:=h',toks:=tk }/\jT w h' s.heap.objs.size ys/\(∀ z,z∈ys ↔ z∈xs) /\
     (∀ b o,b < s.heap.objs.size->s.heap.get? b=some o->h'.get? b=some o)) E) F.called_set.init.plain F.entry_set_init (check_set_init_1 hT ?_)) fun r₂ s₂ hr₂=>?_
   ·obtain ⟨ol,hol,hcl,nl,hdl⟩:=hl
    obtain ⟨ocls,odict,odata,oslots⟩:=ol
    simp only at hcl hdl
    subst hcl; subst hdl
    have hol':(s.heap.push (dO w)).get? l=some { cls:=.type "list",dict:=odict,data:=.seq items nl,slots:=oslots }:=get?_push_of_some _ hol
    have hsls:=F.sub_list_set
    have hslf:=F.sub_list_frozenset
    have hne:(Value.type "list"==Value.type "dict")=false:=by decide
    have hl1:(s.heap.push (dO w)).IsList l items:=⟨_,hol',rfl,nl,rfl⟩
    unfold Builtin.«set.__init__» noKeywords Builtin.Frozenset.updateFrom
    generalize hPI:pyIter=PI
    wp_walk
    subst hPI
    refine wpAny_pyIter_list hl1 ?_
    refine wpAny_bind (wpAny_runValue ?_)
    have hlS:l < s.heap.objs.size:=lt_size hol
    have hh3:A.in1.in1.in1.handled=none:=by simp [hh]
    have zP:(s.heap.push (dO w)).objs.size=s.heap.objs.size+1:=size_push ..
    have hneI:l≠(s.heap.push (dO w)).objs.size:=by rw [zP]; exact ne_of_lt (Nat.lt_succ_of_lt hlS)
    have hSf:s.heap.objs.size∉[(s.heap.push (dO w)).objs.size,l]:=by
     rw [zP]
     simp only [mem_cons,List.not_mem_nil,or_false,not_or]
     exact ⟨ne_of_lt (lt_succ_self _),ne_of_gt hlS⟩
    refine RV ((Walks.list hh3 _ l hneI items).toS) s.heap.objs.size hSf (fun i=>xs.getD i ⟨#[]⟩) hi (by rw [hlen]; exact hb) (items.size - 0) 0 _ [] (by omega) (zero_le _)
     ⟨⟨_,get?_push_size _ rfl,rfl,rfl⟩,(hl1.push _)⟩ (HD (get?_push_of_some _ hS)) (le_refl _) (fun z=>by simp) fun s' ys hm hS' hmem=>?_
    obtain ⟨h',g',d',tk',os'⟩:=s'
    have eg:g'=s.gens:=hm.gens
    have ed:d'=s.drawn:=hm.drawn
    have eo:os'=s.os:=hm.os
    subst eg ed eo
    refine wpAny_pure ?_
    refine wpAny_pure ⟨rfl,h',tk',ys,rfl,hS',fun z=>?_,fun b o hb e=>?_⟩
    ·rw [hmem,hlen]
     constructor
     ·rintro ⟨j,hj,rfl⟩
      have:xs.getD j ⟨#[]⟩=xs[j]:=by simp [List.getD,hj]
      rw [this]
      exact List.getElem_mem hj
     ·intro hz
      obtain ⟨j,hj,e⟩:=List.getElem_of_mem hz
      exact ⟨j,hj,by simp [List.getD,hj,e]⟩
    ·have hb1:b≠s.heap.objs.size:=ne_of_lt hb
     have hb2:b≠(s.heap.push (dO w)).objs.size:=by rw [zP]; exact ne_of_lt (Nat.lt_succ_of_lt hb)
     exact hm.heap b o (by simp only [mem_cons,List.not_mem_nil,or_false,not_or]; exact ⟨hb1,hb2⟩) (get?_push_of_some _ (get?_push_of_some _ e))
   ·cases r₂ with
   |error e=>exact hr₂
   |ok fl₂ =>
     cases fl₂ with
    |ret r =>
      obtain ⟨rfl,h',tk,ys,rfl,q1,q2,q3⟩:=hr₂
      repeat (any_goals (first|assumption|wp_step))
      exact h _ _ _ q1 q2 q3
    |_=>exact hr₂.elim
 |_=>exact hr.elim
end
end L2
namespace L2
open PySem PyProof.Rows
section
variable {prog:Program} {w:World} {A:Around} {E:Value -> Shared -> Prop} {s:Shared}
end
end L2
namespace L2
open PySem PyProof.Rows
section
variable {prog:Program} {w:World} {K:Type} [DecidableEq K] {knd:KeyKind prog w K} {A A₂:Around} {E:Value -> Shared -> Prop} {s:Shared} {a it:Addr} {kvs:List (K×Value)} {ep:Nat}
end
end L2
namespace L2
open PySem PyProof.Rows
theorem nG:entryFor table "dict.update.loop"=some Builtin.«dict.update.loop»:=entryFor_of_tree (by kernel_rfl)
theorem gU:plainId "dict.update.loop"=true:=by decide +kernel
section
variable {prog:Program} {w:World} {A:Around} {E:Value -> Shared -> Prop} {s:Shared}
variable {K:Type} [DecidableEq K] {knd:KeyKind prog w K}
def sH (kvs:List (K×Value)) (ps:List (K×Value)):List (K×Value):=ps.foldl (fun m p=>stored m p.1 p.2) kvs
end
end L2
namespace L2
open PySem PyProof.Rows
section
variable {prog:Program} {w:World} {K:Type} [DecidableEq K] {knd:KeyKind prog w K} {A:Around} {E:Value -> Shared -> Prop} {s:Shared} {d:Addr} {kvs:List (K×Value)} {k:K} {key dflt:Value}
end
end L2
namespace L2
open PySem PyProof.Rows
end L2
namespace L2
open PySem PySem.Spec PyProof.Rows
section
def melt (a:Addr) (H:Hp):Hp:=fun b=>if b=a then (match H a with|some (.frz _ u)=>some u|o=>o) else H b
section
variable {X:Cx} {pins:List (Addr×Obj)} {σ:St} {H:Hp} {s:Shared} {a:Addr}
end
section
variable {X:Cx} {tg:Expr}
variable {scope:Scope} {tn names:List Str} {is:List Nat} {elt iter:Expr} {ifs:List Expr} {pos:Pos} {tl te:TE} {tc:Option TT} {g:TG}
end
end
section
section
variable {X:Cx} {pins:List (Addr×Obj)} {σ:St} {H:Hp} {s:Shared} {tg:Expr}
def Ba (K:Frag) (a:Addr):It:=
 ⟨fun i H=>∃ xs x,cN K H a xs/\xs[i]?=some x,fun i H v H'=>∃ T x,v=.ref T/\H T=none/\H'=upd H T (.tup [.int i,x])/\∀ xs,cN K H a xs->xs[i]?=some x,fun i H=>∃ xs,cN K H a xs/\xs.length<=i⟩
theorem HG {P:Program}{w:World}{K:Frag}{elts:List Expr}{k1:Nat}{tpos:Pos} (a e it:Addr) (hei:e≠it) :
  ER P w K (.Tuple elts k1 tpos) (Ba K a) [e,it] e (fun i h=>(∃ old,IsEnum h e it i old)/\h.IsListIter it a i) where
 mem:=by simp
 obj:=fun i h st b hb=>by
  obtain ⟨⟨old,he⟩,o,e1,c,d⟩:=st
  rcases mem_cons.mp hb with rfl|hb
  ·exact ⟨_,he,fun v z=>nomatch z⟩
  ·have hb:b=it:=by simpa using hb
   subst hb
   exact ⟨o,e1,fun v z=>by rw [d] at z; cases z⟩
 keep:=fun i h h' ⟨⟨old,he⟩,st⟩ k=>⟨⟨old,k e (by simp) _ he⟩,st.at fun o q=>k it (by simp) o q⟩
 item:=by
  intro X hP hw hK hc i pins s σ H E I hf st hg
  subst hP hw hK
  obtain ⟨xs,x,hq,hx⟩:=hg
  obtain ⟨its,rv,p,hz⟩:=I.list hq
  obtain ⟨u,hu,ru⟩:=rv.get hx
  obtain ⟨⟨old,he⟩,hit⟩:=st
  obtain ⟨f0,f1,f2,f3,f4,f5⟩:=hf e (by simp)
  obtain ⟨g0,g1,g2,g3,g4,g5⟩:=hf it (by simp)
  refine wpAny_pyNext_enum_item he hit p.isList (by simpa using hu) hei fun h' ho hit' hT hsz hk=>?_
  refine ⟨_,rfl,wpAny_letOwnedTupleGo_enum (s:={ s with heap:=h',toks:=s.toks+1 }) ho fun h2 he2 sb=>?_⟩
  have hTn:H s.heap.objs.size=none:=I.hok.fresh (le_refl _)
  have hTe:s.heap.objs.size≠e:=ne_of_gt (lt_size he)
  have hTi:s.heap.objs.size≠it:=by obtain ⟨_,q,_⟩:=hit; exact ne_of_gt (lt_size q)
  have k2:∀ b o,b≠e->b≠it->s.heap.get? b=some o->h2.get? b=some o:=fun b o n1 n2 q=>(sb.2 b n1).trans (hk b o n1 n2 q)
  -- first the iterators turn,then the tuple is tracked
  have I1:bA X pins σ H { s with heap:=h2,toks:=s.toks+1 }:=by
   refine I.step (g':=s.gens) (d':=s.drawn) (t':=s.toks+1) (ch:=[e,it]) (fun b hb=>?_) (fun b o _ _ hb q _=>k2 b o (fun z=>hb (by simp [z])) (fun z=>hb (by simp [z])) q) (fun b o _ _ hb q _=>⟨o.slots,k2 b o (fun z=>hb (by simp [z])) (fun z=>hb (by simp [z])) q⟩)
    (fun b o _ _ q=>q) (fun b o hb q=>⟨o,k2 b o (fun z=>hb (by simp [z])) (fun z=>hb (by simp [z])) q⟩) (fun _ _ q=>q) (fun _ _ _ q=>q) (fun _ ps q=>⟨#[],by simpa using q⟩) (fun m hm=>?_) ?_ I.bare
   ·rcases mem_cons.mp hb with rfl|hb
    ·exact ⟨f3,f1,f4,f5⟩
    ·have hb:b=it:=by simpa using hb
     subst hb
     exact ⟨g3,g1,g4,g5⟩
   ·obtain ⟨o,es,ep,q,r⟩:=hm
    exact ⟨o,es,ep,k2 _ _ (Ne.symm f1) (Ne.symm g1) q,r⟩
   ·intro b u q
    refine (I.hok b u q).stay (fun c v hc r=>k2 c v ?_ ?_ r) (fun _ q=>q) fun _ _ q=>q
    ·rintro rfl
     rcases hc with rfl|hc
     ·rw [f0] at q; cases q
     ·rw [f0] at hc; cases hc
    ·rintro rfl
     rcases hc with rfl|hc
     ·rw [g0] at q; cases q
     ·rw [g0] at hc; cases hc
  have hT2:h2.get? s.heap.objs.size=some { cls:=.type "tuple",data:=.seq #[.int i s.toks,u] }:=(sb.2 _ hTe).trans hT
  have I2:bA X pins σ (upd H s.heap.objs.size (.tup [.int i,x])) { s with heap:=h2,toks:=s.toks+1 }:=by
   have nn:∀ {b:Addr},b < s.heap.objs.size->H b=none->upd H s.heap.objs.size (.tup [.int i,x]) b=none:=fun {b} hb e=>by rw [aZ (ne_of_lt hb)]; exact e
   have old:∀ {b:Addr} {o:HO},H b=some o->upd H s.heap.objs.size (.tup [.int i,x]) b=some o:=fun {b o} e=>by rw [aZ (aB e hTn)]; exact e
   refine ⟨I1.ok,I1.os,I1.bare,⟨I1.base.keep,I1.base.slot,fun b o q n hx=>nn ?_ (I1.base.free b o q n hx),I1.base.there,fun b ys q=>old (I1.base.tups b ys q),fun b o v q=>old (I1.base.frzs b o v q),fun b ps q=>?_⟩,I1.loc,I1.cell,nn I.lt I1.free,fun y c q=>nn ?_ (I1.freeC y c q),fun p hp=>?_,fun b o q=>?_,I1.len⟩
   ·exact lt_of_lt_of_le (lt_size q) I.sz
   ·obtain ⟨more,z⟩:=I1.base.tbls b ps q
    exact ⟨more,old z⟩
   ·obtain ⟨v,z⟩:=I.cell y c q
    exact z.lt
   ·obtain ⟨z1,z2,z3⟩:=I1.pin p hp
    exact ⟨z1,nn (lt_size (I.pin p hp).1) z2,z3⟩
   ·by_cases hb:b=s.heap.objs.size
    ·subst hb
     rw [aE] at q
     cases q
     exact ⟨⟨by rw [sizeLine_eq]; simp,_,hT2,rfl⟩,[.int i s.toks,u],.cons ⟨_,rfl⟩ (.cons ru .nil),_,hT2,rfl,_,rfl⟩
    ·rw [aZ hb] at q
     exact (I1.hok b o q).stay (fun _ _ _ z=>z) (fun c z=>old z) fun c ys z=>old z
  exact ⟨.ref s.heap.objs.size,_,I2,rfl,⟨s.heap.objs.size,x,rfl,hTn,rfl,fun ys hy=>by rw [I.list_inj hy hq]; exact hx⟩,⟨⟨u,by simpa using he2⟩,hit'.at fun o q=>(sb.2 it (Ne.symm hei)).trans q⟩,fun b hb=>by
   rcases mem_cons.mp hb with rfl|hb
   ·rw [aZ (Ne.symm hTe)]; exact f0
   ·have hb:b=it:=by simpa using hb
    subst hb
    rw [aZ (Ne.symm hTi)]; exact g0⟩
 done:=by
  intro X hP hw hK hc i pins s σ H E I hf st hg
  subst hP hw hK
  obtain ⟨xs,hq,hx⟩:=hg
  obtain ⟨its,rv,p,hz⟩:=I.list hq
  obtain ⟨⟨old,he⟩,hit⟩:=st
  obtain ⟨g0,g1,g2,g3,g4,g5⟩:=hf it (by simp)
  have hl:=rv.length
  exact wpAny_pyNext_enum_end (I.ok.hd hc) he hit p.isList (by simp; omega) fun h' eb=>⟨rfl,I.turned (t':=s.toks) (fun b o hb e=>eb b o hb e) g0 g1 g3 g4 g5⟩
 self:=fun _ _ _ _ _ ⟨⟨_,he⟩,_⟩ h=>wpAny_pyIter_enum he h
def UW (K:Frag) (tl:TA):TI:=fun σ H R=>tl σ H fun vs H1=>∃ a,vs=[.ref a]/\(∃ xs,cN K H1 a xs)/\R (Ba K a) H1
theorem QO {l:Expr}{tl:TA}{elts:List Expr}{k1:Nat}{tpos p pos:Pos} (hg:Gl X "enumerate") (hm:X.mg "enumerate"=none) (ha:PA X [l] tl) (hs:starEach [l] X.env=[(false,eval l X.env)]:=by rfl) :
  PI X (.Tuple elts k1 tpos) (.Call (.Name "enumerate" p) [l] [] pos) (UW X.K tl):=by
 intro pins s σ H R I h
 refine Call_ (lF I hg hm pL (PyProof.Rows.callWith_type1 (cJ (ha pos pins s σ H _ I h) fun us s1 ⟨vs,H1,I1,r1,q1⟩=>?_) hs rfl))
 obtain ⟨a,e,⟨xs,hq⟩,q⟩:=q1
 subst e
 cases r1 with
|cons r rr =>
  cases rr
  cases r
  obtain ⟨its,rv,p,hz⟩:=I1.list hq
  refine call_enumerate_list p.isList fun h' he hit hsz kp=>?_
  refine wpAny_pyIter_enum he ?_
  have I2:bA X pins σ H1 { s1 with heap:=h' }:=I1.kept (t':=s1.toks) kp
  refine ⟨_,[s1.heap.objs.size+1,s1.heap.objs.size],_,_,H1,rfl,I2,HG a _ _ (ne_of_gt (lt_succ_self _)),⟨⟨_,he⟩,hit⟩,fun b hb=>?_,q⟩
  rcases mem_cons.mp hb with rfl|hb
  ·exact I1.fpOk (le_succ _) (I1.hok.fresh (le_succ _))
  ·have hb:b=s1.heap.objs.size:=by simpa using hb
   subst hb
   exact I1.fpOk (le_refl _) (I1.hok.fresh (le_refl _))
def SO (w:World) (a:Addr) (xs:List Str):HO:=.ext fun h=>jT w h a xs
theorem kD:∀ {xs:List Str}{us:List Value},bN (xs.map V.str) us->StrsAre us xs
|[],_,.nil=>.nil
|x::xs,_,.cons r t=>by
  obtain ⟨tk,rfl⟩:=r
  exact .cons x tk (kD t)
def UB (w:World):List V->Hp->VK->Prop:=fun vs H Q=>∃ (p:Addr) (xs:List Str),vs=[.ref p]/\H p=some (.lst (xs.map V.str))/\xs.length<=4000/\∀ (l:Addr) (ys:List Str),H l=none->ys.Nodup->(∀ z,z∈ys ↔ z∈xs)->Q (.ref l) (upd H l (SO w l ys))
theorem JK (hc:X.calm=true):fD X (.type "set") (UB X.w):=by
 intro pins s σ H vs us Q I r h
 obtain ⟨p,xs,rfl,hp,hl,q⟩:=h
 obtain ⟨u,rfl,ru⟩:=r.one
 cases ru
 obtain ⟨z,its,n,rv,hlen,e⟩:=I.lstM hp
 have hst:=kD rv
 refine HK (items:=its.toArray) (xs:=xs) (I.ok.hd hc) ⟨_,e,rfl,n,rfl⟩ (fun i v hv=>?_) (by rw [size_toArray,← hlen,length_map]) (by unfold scanBound; omega) fun h' tk ys ht hm kp=>?_
 ·have hv:its[i]?=some v:=by simpa using hv
  have hi:i < xs.length:=by
   have:=(List.getElem?_eq_some_iff.mp hv).1
   rw [← hlen,length_map] at this
   exact this
  obtain ⟨u,e1,r1⟩:=rv.get (i:=i) (x:=.str xs[i]) (by simp [hi])
  rw [hv] at e1
  cases e1
  obtain ⟨t,rfl⟩:=r1
  exact ⟨t,by simp [List.getD,hi]⟩
 ·have hnd:ys.Nodup:=by obtain ⟨_,_,_,_,_,_,nd,_⟩:=ht; exact nd
  have hex:∃ o,h'.get? s.heap.objs.size=some o:=by obtain ⟨es,ep,t,g,_⟩:=ht; exact ⟨_,g⟩
  refine ⟨.ref s.heap.objs.size,_,I.laid (o:=SO X.w s.heap.objs.size ys) (fun b o e=>kp b o (lt_size e) e) (le_refl _) ⟨ht,hex,fun h1 h2 x k=>x.at k⟩,rfl,q _ ys (I.hok.fresh (le_refl _)) hnd hm⟩
theorem Paired.at {α β:Type}{F:α->β->Prop}:∀ {xs:List α}{ys:List β}{i:Nat}{x:α},Paired F xs ys->xs[i]?=some x->∃ y,ys[i]?=some y/\F x y
|_,_,_,_,.nil,e=>by simp at e
|_,_,0,_,.cons r _,e=>by simp at e; subst e; exact ⟨_,rfl,r⟩
|_,_,i+1,x,.cons _ t,e=>by
  obtain ⟨y,h1,h2⟩:=Paired.at (i:=i) (x:=x) t (by simpa using e)
  exact ⟨y,by simpa using h1,h2⟩
theorem uL:∀ {kvs:List (cB×V)}{ps:List (cB×Value)}{m:List (cB×V)}{n:List (cB×Value)},KV kvs ps->KV m n->KV (gC m kvs) (sH n ps)
|_,_,_,_,.nil,r=>r
|_,_,m,n,.cons (a:=p) (b:=q) ⟨e,rv⟩ t,r=>by
  show KV (gC (dY m p.1 p.2) _) (sH (stored n q.1 q.2) _)
  refine uL t ?_
  rw [← e]
  exact r.put p.1 rv
end
end
section
section
variable {X:Cx}
def Dw:V->List V->Hp->VK->Prop:=fun x vs H Q=>∃ (z:Str) (l:Addr) (ys:List Str),x=.str z/\vs=[.ref l]/\H l=some (.lst (ys.map V.str))/\(ys.map (·.length)).sum+ys.length * z.length<=16777216/\Q (.str (Str.join z ys)) H
theorem oX:OS X "str.join" Dw:=by
 intro pins s σ H x vs v us Q I rx rv h
 obtain ⟨z,l,ys,rfl,rfl,hl,hs,q⟩:=h
 obtain ⟨t,rfl⟩:=rx
 obtain ⟨u,rfl,ru⟩:=rv.one
 cases ru
 obtain ⟨_,its,n,r,_,e⟩:=I.lstM hl
 refine join_list ⟨_,e,rfl,n,rfl⟩ (by simpa using kD r) hs fun t' k=>?_
 have e1:Txt.join z ys=Str.join z ys:=StrLaws.glued_eq_join z ys
 rw [e1]
 exact ⟨.str _,H,I.tok _,⟨_,rfl⟩,q⟩
def Dq:V->Option Int->Option Int->Hp->VK->Prop:=fun x lo hi H Q=>∃ z:Str,x=.str z/\z.length<=sizeLine/\Q (.str (Txt.slice z lo hi)) H
theorem FZ {v:Value}{lo:Option Int} (h:IsPart v lo):∃ l:Option (Int×Tok),l.map (·.1)=lo/\v=partValue l:=by
 cases h with
|none=>exact ⟨none,rfl,rfl⟩
|int i t=>exact ⟨some (i,t),rfl,rfl⟩
theorem VO:SN X Dq:=by
 intro pins s σ H x v vl vu lo hi sl Q I rx hs pl pu h
 obtain ⟨z,rfl,hz,q⟩:=h
 obtain ⟨t,rfl⟩:=rx
 obtain ⟨l,e1,rfl⟩:=FZ pl
 obtain ⟨u,e2,rfl⟩:=FZ pu
 subst e1 e2
 refine ⟨"str",_,F.slot_str_getitem.lookup,typeIs_str _ _ _,wpAny_getItem_str_slice (l:=l) (u:=u) (st:=none) ?_ rfl (post_val_or_str ?_)⟩
 ·obtain ⟨o,a,b,c⟩:=hs
  exact ⟨o,a,b,c⟩
 ·exact ⟨le_trans (Txt.slice_le z _ _) hz,fun t' k=>⟨.str _,H,I.tok _,⟨_,rfl⟩,q⟩⟩
end
end
end L2
namespace L2
section
variable {α:Type} [DecidableEq α]
abbrev ES (α:Type):=α×α×Rat
abbrev Im (α:Type):=Rat×Option (Nat×α)
abbrev AL (α β:Type):=List (α×β)
def Ah {β:Type} (l:AL α β) (k:α):Option β:=(l.find? fun kv=>decide (kv.1=k)).map (·.2)
def Fp {β:Type} (l:AL α β) (k:α) (v:β):AL α β:=if (l.any fun kv=>decide (kv.1=k)) then l.map (fun kv=>if kv.1=k then (kv.1,v) else kv) else l++[(k,v)]
def Jn (r:ES α) (q p:α):Prop:=(r.1=q/\r.2.1=p)∨(r.2.1=q/\r.1=p)
def Al (tk:Nat->Option Rat) (k:Nat) (t:Rat):Prop:=∀ u,tk k=some u->t<=u
variable (net:List (ES α)) (push:α -> Option Rat) (tk:Nat -> Option Rat)
inductive Gd:α->Rat->Prop
|push {p t}:push p=some t->Gd p t
|run {q s p k r}:Gd q s->net[k]?=some r->Jn r q p->Al tk k (s+r.2.2)->Gd p (s+r.2.2)
structure Gb (m:α->Option Rat):Prop where
 arr:∀ p t,m p=some t->Gd net push tk p t
 le:∀ p t,Gd net push tk p t->∃ u,m p=some u/\u<=t
variable {net push tk}
end
end L2
namespace L2
section
variable {α:Type} [DecidableEq α] {net:List (ES α)} {push:α -> Option Rat} {tk:Nat -> Option Rat} {F:AL α (Im α)}
end
end L2
namespace L2
section
variable {κ:Type} [DecidableEq κ]
def Er (m:AL κ Rat) (x:κ×Rat):AL κ Rat:=match Ah m x.1 with
|none=>Fp m x.1 x.2
|some r=>if x.2 < r then Fp m x.1 x.2 else m
def lst (l:List (κ×Rat)):AL κ Rat:=l.foldl Er []
end
end L2
namespace L2
end L2
namespace L2
open PySem PySem.Spec PyProof.Rows
section
section
variable {X:Cx} {a b:Expr} {ta tb td ty tv:TE} {pos:Pos} {eK:List Expr} {σ:St} {H H':Hp} {Q:VK} {D:fQ} {K:Frag} {w:World} {v x:V}
theorem lU (k:∀ p,H p=none->Q (.ref p) (upd H p (.dK []))):KK σ H Q:=k
def dG (x y:V) (H:Hp) (Q:VK):Prop:=∃ a v,x=.ref a/\qY H a y (some v)/\Q v H
theorem XE (k:td σ H fun x H1=>ty σ H1 fun y H2=>dG x y H2 Q):TJ td ty σ H Q:=k
theorem eQ {p:Addr}{kvs:List (cB×V)}{s:Str} (h:Rd H p (.dK kvs)) (e:dA kvs (Sum.inr s)=some v) (k:Q v H):dG (.ref p) (.str s) H Q:=⟨p,v,rfl,.inl ⟨kvs,Sum.inr s,h,rfl,e.symm⟩,k⟩
def dI (y x:V) (H:Hp) (Q:VK):Prop:=∃ a o,x=.ref a/\qY H a y o/\Q (.bl o.isSome) H
def dN (y x:V) (H:Hp) (Q:VK):Prop:=∃ a o,x=.ref a/\qY H a y o/\Q (.bl (!o.isSome)) H
theorem Cz (k:ty σ H fun y H1=>td σ H1 fun x H2=>dI y x H2 Q):Bq ty td σ H Q:=k
theorem XD (k:ty σ H fun y H1=>td σ H1 fun x H2=>dN y x H2 Q):FA ty td σ H Q:=k
theorem Dc {p:Addr}{kvs:List (cB×V)}{s:Str} (h:Rd H p (.dK kvs)) (k:Q (.bl (dA kvs (Sum.inr s)).isSome) H):dI (.str s) (.ref p) H Q:=⟨p,_,rfl,.inl ⟨kvs,Sum.inr s,h,rfl,rfl⟩,k⟩
theorem Db {p:Addr}{kvs:List (cB×V)}{s:Str} (h:Rd H p (.dK kvs)) (k:Q (.bl (!(dA kvs (Sum.inr s)).isSome)) H):dN (.str s) (.ref p) H Q:=⟨p,_,rfl,.inl ⟨kvs,Sum.inr s,h,rfl,rfl⟩,k⟩
def dP (D:fQ) (σ:St) (v x y:V) (H:Hp):Prop:=∃ a H4,x=.ref a/\JT H a y v H4/\D.nx σ H4
theorem XC (k:tv σ H fun v H1=>td σ H1 fun x H2=>ty σ H2 fun y H3=>dP D σ v x y H3):TN td ty tv D σ H:=k
theorem Da {p:Addr}{kvs:List (cB×V)}{c:cB} (h:H p=some (.dK kvs)) (hl:kvs.length<=1000) (k:D.nx σ (upd H p (.dK (dY kvs c v)))):dP D σ v (.ref p) (kV c) H:=⟨p,_,rfl,JT.k h (eI hl),k⟩
theorem lV {p:Addr}{kvs:List (cB×V)}{s:Str} (h:H p=some (.dK kvs)) (hl:kvs.length<=1000) (k:D.nx σ (upd H p (.dK (dY kvs (Sum.inr s) v)))):dP D σ v (.ref p) (.str s) H:=Da (c:=Sum.inr s) h hl k
def dG2 (ty tx:TE) (σ:St) (Q:VK) (x:V) (H1:Hp):Prop:=∃ a,x=.ref a/\Ij H1 a/\ty σ H1 fun y H2=>tx σ H2 fun z H3=>∃ o,qY H3 a y o/\Q (o.getD z) H3
theorem QE {tx:TE} (k:td σ H (dG2 ty tx σ Q)):KL td ty tx σ H Q:=k
theorem LV {a:Addr}{xs:List V}{g:TG}{tb:TS} (Pv:Nat->St->Hp->Prop) (h0:Pv 0 σ H) (hl:∀ i σ H,i<=xs.length->Pv i σ H->cN K H a xs)
  (hs:∀ i x T σ H,xs[i]?=some x->H T=none->Pv i σ H->g (.ref T) σ (upd H T (.tup [.int i,x])) fun σ2 H2=>tb ⟨Pv (i+1),D.rt,D.nx,Pv (i+1)⟩ σ2 H2) (hd:∀ σ H,Pv xs.length σ H->D.nx σ H):NK g tb D σ (Ba K a) H:=by
 refine ⟨fun i m σ H=>m=xs.length - i/\i<=xs.length/\Pv i σ H,⟨_,rfl,zero_le _,h0⟩,?_⟩
 rintro i m σ H ⟨rfl,hi,p⟩
 have q:=hl i σ H hi p
 by_cases hlt:i < xs.length
 ·refine .inr ⟨⟨xs,xs[i],q,by simp [hlt]⟩,Pv (i+1),fun σ' H' q=>⟨xs.length - (i+1),by omega,rfl,hlt,q⟩,fun x H' y=>?_⟩
  obtain ⟨T,x',rfl,hT,rfl,e⟩:=y
  exact hs i x' T σ H (e xs q) hT p
 ·have:i=xs.length:=by omega
  subst this
  exact .inl ⟨⟨xs,q,le_refl _⟩,hd σ H p⟩
theorem QA {tl:TA}{R:It->Hp->Prop} (k:tl σ H fun vs H1=>∃ a,vs=[.ref a]/\(∃ xs,cN K H1 a xs)/\R (Ba K a) H1):UW K tl σ H R:=k
theorem Je {a:Addr}{xs:List V}{R:It->Hp->Prop} (h:H a=some (.lst xs)) (k:R (Ba K a) H):∃ a',[V.ref a]=[.ref a']/\(∃ xs,cN K H a' xs)/\R (Ba K a') H:=⟨a,rfl,⟨xs,cN.of h⟩,k⟩
theorem FS {p:Addr}{x y:V}{t:GW}{R:St->Hp->Prop} (h:H p=some (.tup [x,y])) (k:t [x,y] σ H R):ED K 2 t (.ref p) σ H R:=⟨p,_,rfl,fV.of h,rfl,k⟩
theorem QB {p:Addr}{x y z:V}{t:GW}{R:St->Hp->Prop} (h:H p=some (.tup [x,y,z])) (k:t [x,y,z] σ H R):ED K 3 t (.ref p) σ H R:=⟨p,_,rfl,fV.of h,rfl,k⟩
theorem WY {R:St->Hp->Prop} (k:R σ H):NI [] σ H R:=⟨rfl,k⟩
theorem QC {t:TG}{u:GW}{r:List V}{R:St->Hp->Prop} (k:t v σ H fun σ' H'=>u r σ' H' R):pF t u (v::r) σ H R:=⟨v,r,rfl,k⟩
end
def TK (H H':Hp):Prop:=∀ p xs,H p=some (.tup xs)->H' p=some (.tup xs)
theorem TK.refl (H:Hp):TK H H:=fun _ _ h=>h
theorem TK.trans {H H1 H2:Hp} (a:TK H H1) (b:TK H1 H2):TK H H2:=fun p xs h=>b p xs (a p xs h)
theorem aI.tk {H H':Hp} (s:aI H H'):TK H H':=fun p xs h=>s _ _ h
theorem TK.new {H:Hp}{q:Addr}{o:HO} (h:H q=none):TK H (upd H q o):=(aI.new h).tk
theorem TK.lst {H:Hp}{q:Addr}{o:HO}{ys:List V} (h:H q=some (.lst ys)):TK H (upd H q o):=fun p xs e=>by rw [aZ (MU e h (by intro z; cases z))]; exact e
theorem TK.dic {H:Hp}{q:Addr}{o:HO}{ys:List (cB×V)} (h:H q=some (.dK ys)):TK H (upd H q o):=fun p xs e=>by rw [aZ (MU e h (by intro z; cases z))]; exact e
def qX (H:Hp) (v:V) (q:Rat):Prop:=∃ p,v=.ref p/\H p=some (.tup [.int q.num,.int q.den])
theorem qX.tk {H H':Hp}{v:V}{q:Rat} (h:qX H v q) (t:TK H H'):qX H' v q:=let ⟨p,e,h⟩:=h; ⟨p,e,t _ _ h⟩
def aW (H:Hp) (v:V) (r:cB×cB×Rat):Prop:=∃ p u,v=.ref p/\H p=some (.tup [kV r.1,kV r.2.1,u])/\qX H u r.2.2
theorem aW.tk {H H':Hp}{v:V}{r:cB×cB×Rat} (h:aW H v r) (t:TK H H'):aW H' v r:=let ⟨p,u,e,h,f⟩:=h; ⟨p,u,e,t _ _ h,f.tk t⟩
section
variable {α β:Type} {F G:α -> β -> Prop}
theorem Pd.imp:∀ {l:List α}{m:List β},Paired F l m->(∀ a b,F a b->G a b)->Paired G l m
|_,_,.nil,_=>.nil
|_,_,.cons r t,f=>.cons (f _ _ r) (Pd.imp t f)
theorem Pd.snoc:∀ {l:List α}{m:List β}{a:α}{b:β},Paired F l m->F a b->Paired F (l++[a]) (m++[b])
|_,_,_,_,.nil,r=>.cons r .nil
|_,_,_,_,.cons q t,r=>.cons q (Pd.snoc t r)
end
def LQ {β:Type} (R:Hp->V->β->Prop) (H:Hp) (l:Addr) (ds:List β):Prop:=∃ vs,H l=some (.lst vs)/\Paired (R H) vs ds
section
variable {β:Type} {R:Hp -> V -> β -> Prop} {H H':Hp} {l d:Addr} {ds:List β} {m:List (cB×β)} {kvs:List (cB×V)}
theorem LQ.same (h:LQ R H l ds) (hR:∀ v b,R H v b->R H' v b) (s:aI H H'):LQ R H' l ds:=let ⟨vs,a,b⟩:=h; ⟨vs,s _ _ a,Pd.imp b hR⟩
end
theorem Hs {β:Type}{b:β}{A B:Prop} (k:A):if (some b).isSome=true then A else B:=k
theorem Ce {D:fQ}{σ:St}{H:Hp} (k:D.nx σ H):D.nx σ H:=k
theorem Cb {D:fQ}{v:V}{H:Hp} (k:D.rt v H):D.rt v H:=k
theorem iA.u1 {k:Nat}{A:Around} (r:iA k A):A.units+1 < cLine:=by have:=r.units; omega
section
variable {X:Cx} {σ:St} {H H':Hp} {Q:VK} {K:Frag} {v x y:V} {w:World}
def XW:R2:=fun x y H Q=>y=.non/\Q (.bl (decide (x=.non))) H
def MA:R2:=fun x y H Q=>y=.non/\Q (.bl (!decide (x=.non))) H
theorem xY:jJ X (compareOp .Is) XW:=YL
theorem oQ:jJ X (compareOp .IsNot) MA:=QT
theorem WQ {p:Addr} (k:Q (.bl false) H):XW (.ref p) .non H Q:=⟨rfl,k⟩
theorem WR (k:Q (.bl true) H):XW .non .non H Q:=⟨rfl,k⟩
theorem WI {p:Addr} (k:Q (.bl true) H):MA (.ref p) .non H Q:=⟨rfl,k⟩
theorem WJ (k:Q (.bl false) H):MA .non .non H Q:=⟨rfl,k⟩
def Ia (K:Frag) (T:String) (r:V->List V->Hp->VK->Prop) (t:TA) (σ:St) (Q:VK):VK:=fun x H1=>Gw K T x H1/\t σ H1 fun xs H2=>r x xs H2 Q
theorem Hh {T:String}{r:V->List V->Hp->VK->Prop}{to:TE}{t:TA} (k:to σ H (Ia K T r t σ Q)):Gx K T r to t σ H Q:=k
theorem Dh {r:V->List V->Hp->VK->Prop}{t:TA}{l:Addr}{xs:List V} (h:H l=some (.lst xs)) (k:t σ H fun vs H2=>r (.ref l) vs H2 Q):Ia K "list" r t σ Q (.ref l) H:=⟨.inl ⟨rfl,xs,cN.of h⟩,k⟩
theorem Dg {r:V->List V->Hp->VK->Prop}{t:TA}{s:Str} (k:t σ H fun vs H2=>r (.str s) vs H2 Q):Ia K "str" r t σ Q (.str s) H:=⟨rfl,k⟩
theorem iB {l:Addr}{xs:List V} (h:H l=some (.lst xs)) (hl:xs.length<=1000) (k:Q .non (upd H l (.lst (xs++[y])))):FX (.ref l) [y] H Q:=⟨l,xs,y,rfl,rfl,h,eI hl,k⟩
theorem TZ {l b:Addr}{xs zs:List V} (h:H l=some (.lst xs)) (h2:H b=some (.lst zs)) (hl:xs.length+zs.length<=1000) (k:Q .non (upd H l (.lst (xs++zs)))):FW (.ref l) [.ref b] H Q:=⟨l,b,xs,zs,rfl,rfl,h,h2,pA hl,k⟩
end
end
section
theorem yE {α:Type} [DecidableEq α]:∀ {l m:List α},l.Nodup->(∀ x∈l,x∈m)->l.length<=m.length
|[],_,_,_=>zero_le _
|a::l,m,nd,h=>by
  rw [nodup_cons] at nd
  have ha:=h a (by simp)
  have:=yE (l:=l) (m:=m.erase a) nd.2 fun x hx=>by
   have hne:x≠a:=fun z=>nd.1 (by rw [← z]; exact hx)
   exact (List.mem_erase_of_ne hne).mpr (h x (by simp [hx]))
  have h2:=List.length_erase_of_mem ha
  have h3:0 < m.length:=List.length_pos_of_mem ha
  rw [length_cons]
  omega
theorem HS {kvs:List (cB×V)}{k:cB}{v:V} (h:k∉kvs.map (·.1)):dY kvs k v=kvs++[(k,v)]:=by
 unfold dY
 rw [if_neg]
 intro z
 obtain ⟨x,hx,e⟩:=List.any_eq_true.mp z
 exact h (mem_map.mpr ⟨x,hx,of_decide_eq_true e⟩)
theorem qK:∀ {more kvs:List (cB×V)},((kvs++more).map (·.1)).Nodup->gC kvs more=kvs++more
|[],kvs,_=>by simp [gC]
|kv::r,kvs,nd=>by
  have h1:kv.1∉kvs.map (·.1):=by
   rw [map_append,List.nodup_append] at nd
   intro z
   exact nd.2.2 _ z kv.1 (by simp) rfl
  show gC (dY kvs kv.1 kv.2) r=_
  rw [HS h1,qK (by simpa using nd)]
  simp
section
variable {te:TE} {Q:VK} {H:Hp} {caps:St}
end
theorem LQ.sm {β:Type}{R:Hp->V->β->Prop}{H H':Hp}{l:Addr}{ds:List β} (h:LQ R H l ds) (hR:∀ {H H' v b},R H v b->TK H H'->R H' v b) (s:aI H H'):LQ R H' l ds:=h.same (fun v b q=>hR q s.tk) s
section
variable {σ:St} {H:Hp} {Q:VK} {K:Frag}
end
theorem jG {X:Cx}{scope:Scope}{caps:List (Str×Addr)}{N:List Str}{C:Addr}{s0:Shared}{H0:Hp}{ex:List Addr}:OT (bS X scope caps N C s0 H0 ex) (tV X.K):=eB
abbrev cV:=Str×Str×Rat
def kn (n:List cV):List (ES cB):=n.map fun r=>(Sum.inr r.1,Sum.inr r.2.1,r.2.2)
def names (n:List cV):List Str:=n.map (·.1)++n.map (·.2.1)
theorem GH {n:List cV}{i:Nat}{r:ES cB} (h:(kn n)[i]?=some r):∃ s,n[i]?=some s/\r=(Sum.inr s.1,Sum.inr s.2.1,s.2.2):=by
 unfold kn at h
 rw [List.getElem?_map] at h
 cases e:n[i]? with
|none=>rw [e] at h; cases h
|some s=>rw [e] at h; exact ⟨s,rfl,(Option.some.inj h).symm⟩
theorem sD {t b:Int} (hb:b≠0):(Rat.divInt t b).num=lD t b/\((Rat.divInt t b).den:Int)=kL t b:=DK hb (BJ hb) (RL hb) (wP hb)
theorem qX.low {H:Hp}{t b:Int}{p:Addr} (hb:b≠0) (h:H p=some (.tup [.int (lD t b),.int (kL t b)])):qX H (.ref p) (Rat.divInt t b):=⟨p,rfl,by rw [h,(sD hb).1,(sD hb).2]⟩
theorem RK {t b:Int} (ht:0 < t) (hb:0 < b):0 < Rat.divInt t b:=by
 rw [Rat.lt_iff,(sD (t:=t) (b:=b) (by omega)).1]
 show (0:Int) * _ < lD t b * 1
 rw [Int.zero_mul,Int.mul_one]
 have e:=wP (t:=t) (b:=b) (by omega)
 have hp:=BJ (t:=t) (b:=b) (by omega)
 have:0 < lD t b * b:=by rw [e]; exact Int.mul_pos ht hp
 exact Int.pos_of_mul_pos_left this hb
abbrev Av:Str:=Str.ofString "abcdefghijklmnopqrstuvwxyz"
theorem SL:Av.length=26:=by decide +kernel
theorem OP:∀ j:Nat,j < 26->fM Av.cps.toList (j:Int)=some (97+j):=by decide +kernel
section
variable {σ:St} {H:Hp} {Q:VK} {K:Frag}
theorem LP {z:Str}{i:Int}{c:Nat} (hz:z.length<=100000) (e:fM z.cps.toList i=some c) (k:Q (.str ⟨#[c]⟩) H):tV K (.str z) (.int i) H Q:=.inr (.inr ⟨z,i,c,rfl,rfl,by rw [sizeLine_eq]; omega,e,k⟩)
theorem gN {a b:Str} (h:a.length+b.length<=100000) (k:Q (.str (a++b)) H):tW K (.str a) (.str b) H Q:=.inr (.inr (.inr ⟨a,b,rfl,rfl,by rw [sizeLine_eq]; omega,k⟩))
end
theorem eW (a b:Str):(a++b).length=a.length+b.length:=by
 show (a.cps++b.cps).size=_
 simp [Str.length]
def ZV (q:Rat):Dt:=.tup [.int q.num,.int q.den]
def yS (r:cV):Dt:=.tup [.str r.1,.str r.2.1,ZV r.2.2]
theorem ZT {H:Hp}{v:V}{q:Rat} (h:qX H v q):rR H (ZV q) v:=let ⟨p,e,h⟩:=h; e ▸ Fk h
theorem fB {H:Hp}:∀ {n:List cV}{vs:List V},Paired (aW H) vs (kn n)->kM H (n.map yS) vs
|[],_,.nil=>rfl
|r::n,_,.cons h t=>by
  obtain ⟨p,u,rfl,h1,h2⟩:=h
  exact ⟨_,_,rfl,⟨p,_,rfl,h1,_,_,rfl,rfl,_,_,rfl,rfl,_,_,rfl,ZT h2,rfl⟩,fB t⟩
theorem mD:∀ n:List cV,gD (n.map yS)<=10
|[]=>by decide
|r::n=>by
  have h1:=mD n
  have h2:sK (yS r)<=10:=le_of_ble_eq_true rfl
  show max _ _<=_
  omega
abbrev sA:Str:=Str.ofString "a"
abbrev sB:Str:=Str.ofString "b"
def n0:List cV:=[(sA,sB,Rat.divInt 1 2)]
end
end L2
namespace L2
open PySem PySem.Spec PySem.W PySem.Calls PyProof.Rows PySem.Builtin PySem.Builtin.ObjectAttr PySem.Builtin.Getset_descriptor
structure qU (K:Frag) (C:Addr):Prop where
 ga:findIn K (.ref C) "__getattribute__"=some (some (.builtin "BaseException.__getattribute__"))
 gt:findIn K (.ref C) "__getattr__"=some none
 ca:findIn K (.ref C) "__class__"=some (some (.builtin "object.__class__"))
 ob:subIn K (.ref C) (.type "object")=some true
 be:subIn K (.ref C) (.type "BaseException")=some true
 ic:(clsIn K C).isSome=true
theorem qU.obj {K:Frag}{C:Addr} (Z:qU K C):∃ c d cd sl,K.lookup C=some ⟨c,d,.cls cd,sl⟩:=by
 have q:=Z.ic
 unfold clsIn at q
 split at q
 ·exact ⟨_,_,_,_,by assumption⟩
 ·cases q
def vT (a C:Addr) (h:Heap):Prop:=∃ o,h.get? a=some o/\o.cls=.ref C
theorem vT.ty {a C:Addr}{h:Heap} (M:Model) (p:vT a C h):Looks M h (typeOf (.ref a)) (.ref C):=by
 obtain ⟨o,h1,h2⟩:=p
 have q:=(Looks.ld (M:=M) (part:=some headPart) h1).andThen (f:=fun o=>pure o.cls) .now
 rw [h2] at q; exact q
section
variable {prog:Program} {w:World} {A:Around} {E:Value -> Shared -> Prop} {s:Shared} {K:Frag} {x C:Addr}
theorem zG {R:Result->Shared->Prop}{tp:Value} (Z:qU K C) (X:K.In s.heap) (p:vT x C s.heap) (h:R (.ok (.ret (.ref C))) s) :
  codeAny (model prog w) A (.call (.builtin "getset_descriptor.__get__") ⟨[.builtin "object.__class__",.ref x,tp],[]⟩) R s:=by
 obtain ⟨h1,gs,dw,tn,so⟩:=s
 have L0:=p.ty (model prog w)
 have L1:=looks_subIn (M:=model prog w) X Z.ob
 refine codeAny_call_builtin (h:=KF.slot_gs.check _ _ _ _ _ _ _ _ KF.type_class (KF.args_gs _ _ _) ?_) KF.slot_gs.plain KF.entry_gs
 unfold Builtin.«getset_descriptor.__get__»; unfold descrGet; rw [dga_obj]; refine wpAny_bind (wpAny_pure ?_)
 unfold descrGetter descrCheckInstance; unfold descrNameAndClass isInstance; simp only [KF.owner_class]
 repeat lk
 refine ⟨Code.quiet_builtin _ (by decide +kernel),?_⟩; refine codeAny_builtin KF.entry_class ?_; unfold Builtin.«object.__class__»; unfold shownTypeOf
 repeat lk
 exact h
theorem PD {nameV:Value}{Q:Unit->Shared->Prop} (Z:qU K C) (X:K.In s.heap) (p:vT x C s.heap) (h:Q () s):wpAny (model prog w) A (checkBuiltinCall "BaseException.__getattribute__" ⟨[.ref x,nameV],[]⟩) Q E s:=by
 obtain ⟨h1,gs,dw,tn,so⟩:=s
 have q1:builtinKind "BaseException.__getattribute__"=some .slot:=by decide +kernel
 have q2:splitId "BaseException.__getattribute__"=some ("BaseException","__getattribute__"):=by decide +kernel
 have L0:=p.ty (model prog w)
 have L1:=looks_subIn (M:=model prog w) X Z.be
 have ha:=F.args_bexc_ga (.ref x) nameV
 simp only [checkBuiltinCall,q1,q2]
 refine wpAny_bind ?_
 ·unfold isInstance
  repeat (first|lk|wp_step)
  exact h
theorem PB {tk:Tok}{Q:Fin->Shared->Prop} (Z:qU K C) (X:K.In s.heap) (p:vT x C s.heap) (h:Q (.done (.ret (.ref C))) s) :
  wpAny (model prog w) A (Builtin.«object.__getattribute__» ⟨[.ref x,.str "__class__" tk],[]⟩) Q E s:=by
 obtain ⟨h1,gs,dw,tn,so⟩:=s
 have L0:=p.ty (model prog w)
 have L1:=looks_findIn (M:=model prog w) X Z.ca
 have q5:=F.typeOf_object_class; have q6:=F.slot_gs_get.lookup; have q7:=F.slot_gs_set.lookup
 obtain ⟨o,hx,hc⟩:=id p
 repeat (any_goals (first|assumption|(with_reducible refine wpAny_loadPart_at hx ?_; rw [hc])|with_reducible refine L1.here ?_|wp_step))
 refine zG Z X p ?_
 repeat any_goals (first|assumption|wp_step)
theorem VE {tk:Tok}{R:Result->Shared->Prop} (Z:qU K C) (X:K.In s.heap) (p:vT x C s.heap) (h:R (.ok (.ret (.ref C))) s) :
  codeAny (model prog w) A (.call (.builtin "BaseException.__getattribute__") ⟨[.ref x,.str "__class__" tk],[]⟩) R s:=
 codeAny_call_builtin F.attr_ValueError.ga.plain F.entry_bexc_ga (PD Z X p (PB Z X p h))
theorem Gv {tk:Tok}{Q:Value->Shared->Prop} (Z:qU K C) (X:K.In s.heap) (p:vT x C s.heap) (h:Q (.ref C) s) :
  wpAny (model prog w) A (getAttrBy (.ref x) (.str "__class__" tk) false) Q E s:=by
 obtain ⟨h1,gs,dw,tn,so⟩:=s
 have L0:=p.ty (model prog w)
 have L1:=looks_findIn (M:=model prog w) X Z.ga
 have L2:=looks_findIn (M:=model prog w) X Z.gt
 have f3:=F.attr_ValueError.ga.bind (.ref x)
 have n2:(Value.builtin "BaseException.__getattribute__"==Value.builtin "object.__getattribute__")=false:=by decide +kernel
 have n1:(onTheHeap (Value.ref C)&&Value.builtin "BaseException.__getattribute__"==Value.builtin "object.__getattribute__")=false:=by rw [n2]; rfl
 have n0:(false&&onTheHeap (Value.builtin "BaseException.__getattribute__"))=false:=rfl
 obtain ⟨o,hx,hc⟩:=id p
 repeat (any_goals (first|assumption|(with_reducible refine wpAny_loadPart_at hx ?_; rw [hc])|with_reducible refine L1.here ?_|with_reducible refine L2.here ?_|wp_step))
 refine VE Z X p ?_
 repeat any_goals (first|assumption|wp_step)
theorem Bc {Q:Option Value->Shared->Prop} (Z:qU K C) (X:K.In s.heap) (p:vT x C s.heap) (h:Q (some (.ref C)) { s with toks:=s.toks+1 }):wpAny (model prog w) A (getAttr? (.ref x) "__class__") Q E s:=by
 obtain ⟨h1,gs,dw,tn,so⟩:=s
 unfold getAttr? getAttrBy?
 exact wpAny_bind (wpAny_mkText (wpAny_bind (wpAny_attempt (Gv (s:=⟨h1,gs,dw,tn+1,so⟩) Z X p (wpAny_pure h)))))
end
theorem MZ {K:Frag}{a C:Addr} (Z:qU K C):KitX K (.ref a) (.ref C) (vT a C) where
 ty:=fun M h _ p=>p.ty M
 it:=fun M h X _=>by
  obtain ⟨c,d,cd,sl,ho⟩:=Z.obj
  intro A' Q' E' s' k q
  unfold isType loadHead
  exact wpAny_bind (wpAny_loadPart (k C _ (X C _ ho)) (wpAny_pure q))
 ne:=fun h b _ _ _ _ X hb=>by
  obtain ⟨c,d,cd,sl,ho⟩:=Z.obj
  refine Bool.eq_false_iff.mpr ?_
  intro q
  obtain rfl:C=b:=Value.ref.inj (beq_iff_eq.mp q)
  rw [X C _ ho] at hb; cases hb
 ca:=fun X p k=>Bc Z X p k
end L2
namespace L2
open PySem PySem.Spec PyProof.Rows
section
structure mH (fs xs:List Addr) (h h':Heap):Prop where
 keep:∀ b o,h.get? b=some o->b∉fs->b∉xs->h'.get? b=some o
 slot:∀ b o,h.get? b=some o->b∈fs->b∉xs->∃ sl,h'.get? b=some { o with slots:=sl }
section
variable {fs fs' xs xs':List Addr} {h h0 h1 h2 h':Heap} {H H':Hp} {P:Program} {w:World}
theorem mH.there (k:mH fs xs h h') {b:Addr}{o:Obj} (e:h.get? b=some o) (n:b∉xs):∃ sl,h'.get? b=some { o with slots:=sl }:=by
 by_cases hb:b∈fs
 ·exact k.slot b o e hb n
 ·exact ⟨o.slots,k.keep b o e hb n⟩
theorem mH.mv {L:Addr} (k:mH (L::fs) xs h h'):mH fs (L::xs) h h' where
 keep:=fun b o e n m=>k.keep b o e (fun z=>(mem_cons.mp z).elim (fun q=>m (q ▸ mem_cons_self)) n) fun z=>m (mem_cons_of_mem _ z)
 slot:=fun b o e n m=>k.slot b o e (mem_cons_of_mem _ n) fun z=>m (mem_cons_of_mem _ z)
theorem cS.at {a:Addr}{o:HO} (x:cS P w H h a o):∃ ob,h.get? a=some ob:=by
 cases o with
|lst xs=>obtain ⟨_,_,_,_,e⟩:=x; exact ⟨_,e⟩
|tup xs=>obtain ⟨_,_,_,⟨o,e,_⟩⟩:=x; exact ⟨_,e⟩
|dK kvs=>obtain ⟨_,_,_,_,o,_,_,e,_⟩:=x; exact ⟨_,e⟩
|dT kvs=>obtain ⟨_,_,_,_,o,_,_,e,_⟩:=x; exact ⟨_,e⟩
|set S n=>obtain ⟨o,_,_,_,e,_⟩:=x; exact ⟨_,e⟩
|ins C dx fs=>obtain ⟨_,_,_,e,_⟩:=x; exact ⟨_,e⟩
|own y=>obtain ⟨_,e⟩:=x; exact ⟨_,e⟩
|xd fs=>obtain ⟨_,⟨_,_,_,e,_⟩,_⟩:=x; exact ⟨_,e⟩
|rng lo hi=>obtain ⟨_,_,_,e⟩:=x; exact ⟨_,e⟩
|frz ob u=>obtain ⟨e,_⟩:=x; exact ⟨_,e⟩
|tbl ps=>exact ⟨_,(show h.get? a=some _ from x)⟩
|met f y=>exact ⟨_,(show h.get? a=some _ from x)⟩
|ext φ=>obtain ⟨_,⟨_,e⟩,_⟩:=x; exact ⟨_,e⟩
theorem lH.none_of (x:lH P w H h) {a:Addr} (e:h.get? a=none):H a=none:=by
 cases q:H a with
|none=>rfl
|some o =>
  obtain ⟨ob,z⟩:=(x a o q).at
  rw [e] at z; cases z
theorem lH.kpt (ok:lH P w H h) (k:mH fs xs h h') (hf:∀ b∈fs,H b=none) (hx:∀ b∈xs,H b=none):lH P w H h':=fun a o e=>by
 have key:∀ b u,H b=some u->b∉fs/\b∉xs:=fun b u q=>⟨fun z=>(by rw [hf b z] at q; cases q),fun z=>(by rw [hx b z] at q; cases q)⟩
 refine (ok a o e).stay (fun b u hb q=>?_) (fun _ q=>q) fun _ _ q=>q
 rcases hb with rfl|hb
 ·exact k.keep b u q (key b o e).1 (key b o e).2
 ·exact k.keep b u q (key b _ hb).1 (key b _ hb).2
theorem lH.track (ok:lH P w H h) {a:Addr}{o:HO} (hn:H a=none) (new:cS P w (upd H a o) h a o):lH P w (upd H a o) h:=fun b u q=>by
 by_cases hb:b=a
 ·subst hb; rw [aE] at q; cases q; exact new
 ·rw [aZ hb] at q
  exact (ok b u q).stay (fun _ _ _ z=>z) (fun c r=>by rw [aZ (aB r hn)]; exact r) fun c xs r=>by rw [aZ (aB r hn)]; exact r
theorem Un.kpt (u:Un fs [] H H' h0 h) (k:mH fs xs h h') (hx:∀ b∈xs,h0.get? b=none):Un fs [] H H' h0 h':=by
 have nx:∀ b o,h0.get? b=some o->b∉xs:=fun b o e z=>by rw [hx b z] at e; cases e
 refine ⟨fun b o e n hb he=>k.keep b o (u.keep b o e n hb he) hb (nx b o e),fun b o e n hb he=>?_,u.free,fun b o e he=>?_,u.tups,u.frzs,u.tbls⟩
 ·obtain ⟨sl,q⟩:=u.slot b o e n hb he
  obtain ⟨sl',q'⟩:=k.slot b _ q hb (nx b o e)
  exact ⟨sl',q'⟩
 ·obtain ⟨o',q⟩:=u.there b o e he
  obtain ⟨sl,q'⟩:=k.there q (nx b o e)
  exact ⟨_,q'⟩
theorem Un.track {ex:List Addr}{a:Addr}{o:HO} (u:Un fs ex H H' h h') (hn:H' a=none) (hh:h.get? a=none):Un fs ex H (upd H' a o) h h' where
 keep:=u.keep
 slot:=u.slot
 free:=fun b ob e n hx=>by rw [aZ (fun z=>by rw [z,hh] at e; cases e)]; exact u.free b ob e n hx
 there:=u.there
 tups:=fun b xs q=>by rw [aZ (aB (u.tups b xs q) hn)]; exact u.tups b xs q
 frzs:=fun b ob xs q=>by rw [aZ (aB (u.frzs b ob xs q) hn)]; exact u.frzs b ob xs q
 tbls:=fun b ps q=>by
  obtain ⟨m,e⟩:=u.tbls b ps q
  exact ⟨m,by rw [aZ (aB e hn)]; exact e⟩
theorem Un.was (u:Un fs [] H H' h h') {a:Addr} (e:h'.get? a=none):h.get? a=none:=by
 cases q:h.get? a with
|none=>rfl
|some o =>
  obtain ⟨o',z⟩:=u.there a o q (by simp)
  rw [e] at z; cases z
end
def EV (x T C:Addr) (fl:Value) (h:Heap):Prop:=∃ oe vs oT ts,h.get? x=some oe/\oe.cls=.ref C/\oe.data=.fields vs/\vs[1]?=some (.ref T)/\vs[2]?=some .none/\T≠x/\h.get? T=some oT/\oT.data=.fields ts/\ts[3]?=some fl
abbrev OU (x T C:Addr) (h:Heap):Prop:=EV x T C .none h
def Gc (x C:Addr) (h:Heap):Prop:=∃ o vs,h.get? x=some o/\o.cls=.ref C/\o.data=.fields vs/\vs[2]?=some .none
theorem Gc.kitR {x C:Addr}{h:Heap} (f:Gc x C h):vT x C h:=by
 obtain ⟨oe,_,e,c,_⟩:=f
 exact ⟨oe,e,c⟩
theorem EV.exR {x T C:Addr}{fl:Value}{h:Heap} (f:EV x T C fl h):Gc x C h:=by
 obtain ⟨oe,vs,_,_,e,c,d,_,z,_⟩:=f
 exact ⟨oe,vs,e,c,d,z⟩
theorem mH.refl {fs xs:List Addr}{h:Heap}:mH fs xs h h:=⟨fun _ _ e _ _=>e,fun _ o e _ _=>⟨o.slots,e⟩⟩
theorem mH.upd {fs xs:List Addr}{h h1:Heap}{a:Addr} (k:mH fs xs h h1) (f:Obj->Obj) (ha:a∈xs∨h.get? a=none):mH fs xs h (h1.update a f):=by
 have na:∀ b o,h.get? b=some o->b∉xs->a≠b:=fun b o e n z=>by
  rcases ha with q|q
  ·exact n (z ▸ q)
  ·rw [z,e] at q; cases q
 exact ⟨fun b o e n m=>(get?_update_other _ _ (na b o e m)).trans (k.keep b o e n m),fun b o e n m=>(k.slot b o e n m).imp fun sl q=>(get?_update_other _ _ (na b o e m)).trans q⟩
theorem mH.push {fs xs:List Addr}{h h1:Heap} (k:mH fs xs h h1) (o:Obj):mH fs xs h (h1.push o):=
 ⟨fun b u e n m=>get?_push_of_some _ (k.keep b u e n m),fun b u e n m=>(k.slot b u e n m).imp fun sl q=>get?_push_of_some _ q⟩
section
variable {M:Model} {A:Around} {E:Value -> Shared -> Prop} {s:Shared} {base:Heap} {env:Env} {outer l:List Env} {L x T C:Addr} {Q:Unit -> Shared -> Prop}
def RI (env:Env) (L x:Addr) (head:Value) (b:Bool):Sem Unit:=frameOf env >>= fun a=>entryPlaceOf L b >>= fun pl=>EntryCells.newEntry head a .none (rawInt L) .none pl >>= fun v=>setField (.ref x) 1 v
theorem BU {oe:Obj}{vs:Array Value}{head:Value}{b:Bool} (hfr:A.frames=some (env::outer)) (hf:env.frame=some L) (hl:s.heap.FunFrames base (env::outer)) (he:s.heap.get? x=some oe) (hc:oe.cls=.ref C) (hd:oe.data=.fields vs)
  (h1:1 < vs.size) (h2:vs[2]?=some .none) (k:∀ h' T',EV x T' C (rawInt L) h'->s.heap.get? T'=none->mH (nD (env::outer)) [x] s.heap h'->Q () { s with heap:=h' }):wpAny M A (RI env L x head b) Q E s:=by
 have nfr:x∉nD (env::outer):=fun hm=>by
  obtain ⟨_,o,ho,hn⟩:=hl.mem hm
  rw [he] at ho; cases ho
  exact hn vs hd
 refine wpAny_bind (wpAny_frameOf_fun hfr hl hf fun g hg=>wpAny_bind (wpAny_entryPlaceOf fun pl hpl=>wpAny_bind ?_))
 unfold EntryCells.newEntry newFields
 refine wpAny_newObj_type ?_ (hpl.sizeOk5 _ _ _ _ _)
 generalize hts:([head,Value.ref L,Value.none,rawInt L,Value.none]++(if pl.isEmpty then List.replicate 6 Value.none else pl)).toArray=ts
 have e1:g.get? x=some oe:=(hg.2.1 x nfr).trans he
 have nT:g.objs.size≠x:=ne_of_gt (lt_size e1)
 have e2:=get?_push_of_some (h:=g) { cls:=.type "traceback",dict:=none,data:=.fields ts } e1
 refine wpAny_setField e2 hd h1 (k _ g.objs.size ?_ ?_ ?_)
 ·have d3:=Obj.data_mapFields hd (·.setIfInBounds 1 (Value.ref g.objs.size))
  refine ⟨_,_,_,ts,get?_update_self _ e2 (Obj.isFreed_of_fields d3),(Obj.cls_mapFields _ _).trans hc,d3,by simp [h1],?_,nT,(get?_update_other _ _ (Ne.symm nT)).trans (get?_push_size g rfl),rfl,by rw [← hts]; simp⟩
  rw [Array.getElem?_setIfInBounds_ne (by decide)]; exact h2
 ·exact get?_none_of_le (Nat.le_of_eq hg.1.symm)
 ·refine mH.upd (mH.push ⟨fun b o e n m=>(hg.2.1 b n).trans e,fun b o e n m=>hg.2.2 b o e⟩ _) _ (.inl (by simp))
theorem sJ {fl:Value}{h0:Heap}{fs:List Addr} (f:EV x T C fl s.heap) (k0:mH fs [x,T] h0 s.heap∨(mH fs [x] h0 s.heap/\h0.get? T=none))
  (k:∀ h',OU x T C h'->(mH fs [x,T] h0 h')->(h0.get? T=none->mH fs [x] h0 s.heap->mH fs [x] h0 h')->Q () { s with heap:=h' }):wpAny M A (setFlight (.ref x) none) Q E s:=by
 obtain ⟨oe,vs,oT,ts,e1,e2,e3,e4,e5,e6,e7,e8,e9⟩:=f
 have sz:3 < ts.size:=(Array.getElem?_eq_some_iff.mp e9).1
 unfold setFlight
 refine wpAny_bind (wpAny_field e1 e3 e4 ?_)
 rw [if_pos (by simp)]
 have d3:=Obj.data_mapFields e8 (·.setIfInBounds 3 ((none:Option Addr).elim Value.none fun f=>rawInt f))
 refine wpAny_setField e7 e8 sz (k _ ⟨oe,vs,_,_,(get?_update_other _ _ e6).trans e1,e2,e3,e4,e5,e6,get?_update_self _ e7 (Obj.isFreed_of_fields d3),d3,by simp [sz]⟩ ?_ fun q z=>z.upd _ (.inr q))
 rcases k0 with z|⟨z,q⟩
 ·exact z.upd _ (.inl (by simp))
 ·exact mH.upd ⟨fun b o e n m=>z.keep b o e n fun y=>m (by simp at y; simp [y]),fun b o e n m=>z.slot b o e n fun y=>m (by simp at y; simp [y])⟩ _ (.inl (by simp))
theorem NQ {oe:Obj}{vs:Array Value} (hfr:A.frames=some (env::outer)) (hf:env.frame=some L) (hl:s.heap.FunFrames base (env::outer)) (he:s.heap.get? x=some oe) (hc:oe.cls=.ref C) (hd:oe.data=.fields vs)
  (h1:vs[1]?=some .none) (h2:vs[2]?=some .none) (k:∀ h' T',EV x T' C (rawInt L) h'->s.heap.get? T'=none->mH (nD (env::outer)) [x] s.heap h'->Q () { s with heap:=h' }):wpAny M A (noteFrame (.ref x) env) Q E s:=by
 unfold noteFrame
 simp only [hf]
 refine wpAny_bind (wpAny_field he hd h1 ?_)
 rw [if_neg (by decide)]
 exact BU hfr hf hl he hc hd (Array.getElem?_eq_some_iff.mp h1).1 h2 k
theorem BT (hfr:A.frames=some (env::outer)) (hf:env.frame=some L) (hl:s.heap.FunFrames base (env::outer)) (f:OU x T C s.heap)
  (k:∀ h' T',EV x T' C (rawInt L) h'->s.heap.get? T'=none->mH (nD (env::outer)) [x,T] s.heap h'->Q () { s with heap:=h' }):wpAny M A (noteFrame (.ref x) env) Q E s:=by
 obtain ⟨oe,vs,oT,ts,e1,e2,e3,e4,e5,e6,e7,e8,e9⟩:=f
 unfold noteFrame
 simp only [hf]
 refine wpAny_bind (wpAny_field e1 e3 e4 ?_)
 rw [if_pos (by simp)]
 refine wpAny_bind (wpAny_field e7 e8 e9 ?_)
 rw [if_neg (by simp [rawInt])]
 refine wpAny_bind (wpAny_setField e7 e8 (Array.getElem?_eq_some_iff.mp e9).1 ?_)
 have oth:∀ b,b≠T->(s.heap.update T (Obj.mapFields (·.setIfInBounds 3 Value.none))).get? b=s.heap.get? b:=fun b hb=>get?_update_other _ _ (Ne.symm hb)
 have hl':(s.heap.update T (Obj.mapFields (·.setIfInBounds 3 Value.none))).FunFrames base (env::outer):=hl.of_keeps fun b o hb hn=>⟨o,(oth b fun z=>by rw [z,e7] at hb; cases hb; exact hn ts e8).trans hb,rfl⟩
 refine BU (s:={ s with heap:=s.heap.update T (Obj.mapFields (·.setIfInBounds 3 Value.none)) }) hfr hf hl' ((oth x (Ne.symm e6)).trans e1) e2 e3 (Array.getElem?_eq_some_iff.mp e4).1 e5 fun h' T' f' n' k'=>k h' T' f' ?_ ?_
 ·cases z:s.heap.get? T' with
 |none=>rfl
 |some o =>
   exfalso
   by_cases q:T'=T
   ·have d3:=Obj.data_mapFields e8 (·.setIfInBounds 3 Value.none)
    have:=get?_update_self (Obj.mapFields (·.setIfInBounds 3 Value.none)) e7 (Obj.isFreed_of_fields d3)
    rw [← q,show Heap.get? (s.heap.update T' _) T'=none from q ▸ n'] at this; cases this
   ·have:=(oth T' q).trans z
    rw [show Heap.get? (s.heap.update T _) T'=none from n'] at this; cases this
 ·refine ⟨fun b o e n m=>k'.keep b o ((oth b fun z=>m (by simp [z])).trans e) n fun y=>m (by simp at y; simp [y]),fun b o e n m=>k'.slot b o ((oth b fun z=>m (by simp [z])).trans e) n fun y=>m (by simp at y; simp [y])⟩
theorem IZ (hfr:A.frames=some (env::outer)) (hf:env.frame=some L) (hl:s.heap.FunFrames base (env::outer)) (f:OU x T C s.heap)
  (k:∀ h' T',OU x T' C h'->(T'=T∨s.heap.get? T'=none)->mH (nD (env::outer)) [x,T] s.heap h'->Q () { s with heap:=h' }):wpAny M A (leaving env (.ref x)) Q E s:=by
 unfold leaving
 refine wpAny_bind (BT hfr hf hl f fun h1 T1 f1 n1 k1=>?_)
 refine sJ (s:={ s with heap:=h1 }) (h0:=h1) (fs:=[]) f1 (.inl .refl) fun h2 f2 k2 _=>k h2 T1 f2 (.inr n1) ?_
 have nT:∀ b o,s.heap.get? b=some o->b∉[x,T]->b∉[x,T1]:=fun b o e m z=>by
  rcases mem_cons.mp z with z|z
  ·exact m (by simp [z])
  ·rw [mem_singleton.mp z,n1] at e; cases e
 exact ⟨fun b o e n m=>k2.keep b o (k1.keep b o e n m) (by simp) (nT b o e m),fun b o e n m=>(k1.slot b o e n m).imp fun sl q=>k2.keep b _ q (by simp) (nT b o e m)⟩
theorem NP (hfr:A.frames=some (env::outer)) (hf:env.frame=some L) (hl:s.heap.FunFrames base (env::outer)) (f:OU x T C s.heap)
  (k:∀ h' T',OU x T' C h'->(T'=T∨s.heap.get? T'=none)->mH (nD (env::outer)) [x,T] s.heap h'->Q () { s with heap:=h' }) :
  wpAny M A (noteFrame (.ref x) env) (fun _ s₂=>wpAny M A (setFlight (.ref x) none) Q E s₂) E s:=by
 refine BT hfr hf hl f fun h1 T1 f1 n1 k1=>?_
 refine sJ (s:={ s with heap:=h1 }) (h0:=h1) (fs:=[]) f1 (.inl .refl) fun h2 f2 k2 _=>k h2 T1 f2 (.inr n1) ?_
 have nT:∀ b o,s.heap.get? b=some o->b∉[x,T]->b∉[x,T1]:=fun b o e m z=>by
  rcases mem_cons.mp z with z|z
  ·exact m (by simp [z])
  ·rw [mem_singleton.mp z,n1] at e; cases e
 exact ⟨fun b o e n m=>k2.keep b o (k1.keep b o e n m) (by simp) (nT b o e m),fun b o e n m=>(k1.slot b o e n m).imp fun sl q=>k2.keep b _ q (by simp) (nT b o e m)⟩
theorem JB (f:OU x T C s.heap) (k:∀ h',OU x T C h'->mH (nD l) [x,T] s.heap h'->Q () { s with heap:=h' }):wpAny M A (setFlight (.ref x) none) Q E s:=
 sJ f (.inl (mH.refl (fs:=nD l))) fun h' f' k' _=>k h' f' k'
theorem JA {oe:Obj}{vs:Array Value} (hfr:A.frames=some (env::outer)) (hf:env.frame=some L) (hl:s.heap.FunFrames base (env::outer)) (he:s.heap.get? x=some oe) (hc:oe.cls=.ref C) (hd:oe.data=.fields vs)
  (h1:vs[1]?=some .none) (h2:vs[2]?=some .none)
  (k:∀ h' T',OU x T' C h'->s.heap.get? T'=none->mH (nD (env::outer)) [x] s.heap h'->Q () { s with heap:=h' }):wpAny M A (leaving env (.ref x)) Q E s:=by
 unfold leaving
 refine wpAny_bind (NQ hfr hf hl he hc hd h1 h2 fun g T1 f1 n1 k1=>?_)
 exact sJ (s:={ s with heap:=g }) f1 (.inr ⟨k1,n1⟩) fun h2 f2 _ k2=>k h2 T1 f2 n1 (k2 n1 k1)
end
end
section
def qP (x C:Addr):HO:=.ext (Gc x C)
theorem RX {P:Program}{w:World}{H:Hp}{h:Heap}{x C:Addr} (k:Gc x C h):cS P w H h x (qP x C):=
 ⟨k,(let ⟨o,_,e,_⟩:=k; ⟨o,e⟩),fun _ _ ⟨o,vs,e,c⟩ kp=>⟨o,vs,kp o e,c⟩⟩
def ST (P:Program) (w:World):JU:=fun outer H s E e s'=>∃ x T C H',e=Value.ref x/\s'.os=s.os/\AllBare s'.gens/\Un (nD outer) [] H H' s.heap s'.heap/\lH P w H' s'.heap /\
 s.heap.get? x=none/\s.heap.get? T=none/\H' x=none/\H' T=none/\OU x T C s'.heap/\E (.ref C) none H'
section
variable {P:Program} {w:World} {K:Frag} {mg:Str -> Option Value} {base:Heap} {N:List Str} {qual:Str} {scope:Scope} {f:Addr} {cd:Value} {A:Around} {outer:List Env} {s:Shared} {H:Hp} {E:XK}
theorem CI {pins:List (Addr×Obj)}{σ:St}{H1:Hp}{s1:Shared}{h':Heap}{x C:Addr}{args:List Value} (I:bA (uU (ST P w) P w K mg base N qual scope f cd A outer s H E) pins σ H1 s1)
  (m:Heap.MadeExcOf s1.heap h' x (.ref C) args) (q:E (.ref C) none H1):(uU (ST P w) P w K mg base N qual scope f cd A outer s H E).xe (.ref x) { s1 with heap:=h' }:=by
 obtain ⟨t,he,htn,ht⟩:=m.there
 have fr:=I.stack
 refine JA (s:={ s1 with heap:=h' }) I.ok.frames rfl (fr.of_keeps fun b o z _=>⟨o,m.keeps b o z,rfl⟩) he rfl rfl rfl rfl fun h2 T fl n k=>?_
 have k':mH (s.heap.objs.size::nD outer) [x] h' h2:=k
 have u:Un (nD outer) [] H H1 s.heap s1.heap:=I.base
 have hn:∀ b,s1.heap.get? b=none->s.heap.get? b=none:=fun b z=>u.was z
 have hT:s1.heap.get? T=none:=by
  cases z:s1.heap.get? T with
 |none=>rfl
 |some o =>
   have:=m.keeps T o z
   rw [show h'.get? T=none from n] at this; cases this
 refine ⟨x,T,C,H1,rfl,I.os,I.bare,((u.trans (Un.kept m.keeps)).kpt k'.mv fun b hb=>?_),(I.hok.kept m.keeps).kpt k' (fun b hb=>I.stkFree b hb) (fun b hb=>?_),hn x m.new,hn T hT,I.hok.none_of m.new,I.hok.none_of hT,fl,q⟩
 ·rcases mem_cons.mp hb with z|z
  ·rw [z]; exact get?_none_of_le (le_refl _)
  ·rw [mem_singleton.mp z]; exact hn x m.new
 ·rw [mem_singleton.mp hb]; exact I.hok.none_of m.new
theorem Ee:vD (ST P w) (uU (ST P w) P w K mg base N qual scope f cd A outer s H E) E:=by
 intro pins σ H1 s1 e s2 I hx
 obtain ⟨x,T,C,H',rfl,ho,hg,un,hok,nx,nT,hx,hT,fl,q⟩:=hx
 have I2:=I.call' (ch:=[]) ho un hok hg (fun b z=>absurd z (by simp))
 have u1:Un (nD outer) [] H H1 s.heap s1.heap:=I.base
 have u2:Un (nD outer) [] H H' s.heap s2.heap:=I2.base
 refine IZ I2.ok.frames rfl I2.stack fl fun h2 T2 fl2 n2 k=>?_
 have k':mH (s.heap.objs.size::nD outer) [x,T] s2.heap h2:=k
 have hT2:s.heap.get? T2=none/\H' T2=none:=by
  rcases n2 with z|z
  ·rw [z]; exact ⟨u1.was nT,hT⟩
  ·exact ⟨u2.was z,hok.none_of z⟩
 refine ⟨x,T2,C,H',rfl,I2.os,I2.bare,u2.kpt k'.mv fun b hb=>?_,hok.kpt k' (fun b hb=>I2.stkFree b hb) (fun b hb=>?_),u1.was nx,hT2.1,hx,hT2.2,fl2,q⟩
 ·rcases mem_cons.mp hb with z|z
  ·rw [z]; exact get?_none_of_le (le_refl _)
  ·rcases mem_cons.mp z with z|z
   ·rw [z]; exact u1.was nx
   ·rw [mem_singleton.mp z]; exact u1.was nT
 ·rcases mem_cons.mp hb with z|z
  ·rw [z]; exact hx
  ·rw [mem_singleton.mp z]; exact hT
end
def EM:List Value:=[.type "ValueError",.type "Exception",.type "BaseException",.type "object"]
theorem RW {K:Frag}{h:Heap}{C:Addr}{bmB:List Value}{newId:String} (X:K.In h) (q:excIn K C bmB newId=true) :
  ∃ nm qn N bs bm hdct sn sub ab col dd k0 k1 k2 k3 k5 mN,h.get? C=some (excClassObj nm qn C N bs bm hdct sn sub ab col dd k0 k1 k2 k3 k5 newId)/\h.Ns N mN/\mN "__init__"=none/\OwnTail h bmB bm:=by
 unfold excIn at q
 split at q
 case h_2=>cases q
 rename_i dd cd sl ho
 split at q
 case h_2=>cases q
 rename_i C' bm k0 k1 k2 k3 n k5 hm hs
 simp only [Bool.and_eq_true,beq_iff_eq,Bool.not_eq_true'] at q
 obtain ⟨⟨⟨⟨⟨q1,q2⟩,q3⟩,q4⟩,q5⟩,q6⟩:=q
 subst q1 q2
 obtain ⟨c1,c2,c3,c4,c5,c6,c7,c8,c9,c10,c11⟩:=cd
 dsimp only at hm q3 q5 q6
 subst hm q3
 obtain ⟨l⟩:=sl
 have e:l=[k0,k1,k2,k3,some (.builtin n),k5]:=hs
 subst e
 exact ⟨_,_,_,_,_,_,_,_,_,_,_,_,_,_,_,_,_,X C' _ ho,.of_isNs (PySem.W.isNs_of_in X q5),PySem.W.nsMap_none_of_in X q5 q6,PySem.W.tail_of_in X q4⟩
def CS (C:Addr) (E:XK) (t:TA):TS:=fun _ σ H=>t σ H fun vs H1=>vs.length<=sizeLine/\E (.ref C) none H1
theorem PQ {C:Addr}{E:XK}{t:TA}{D:fQ}{σ:St}{H:Hp} (k:t σ H fun vs H1=>vs.length<=sizeLine/\E (.ref C) none H1):CS C E t D σ H:=k
def OR (X:Cx) (E:XK):Prop:=∀ (pins:List (Addr×Obj)) (σ:St) (H1:Hp) (s1:Shared) (h':Heap) (x C:Addr) (args:List Value),bA X pins σ H1 s1->Heap.MadeExcOf s1.heap h' x (.ref C) args->E (.ref C) none H1->X.xe (.ref x) { s1 with heap:=h' }
theorem ME {X:Cx}{E:XK}{C:Addr}{n:Str}{newId Bn inN:String}{bmN:List Value}{e:Expr}{es:List Expr}{t:TA}{np cpos pos:Pos} (hr:OR X E) (hc:X.calm=true) (hg:Gl X n) (hm:X.mg n=some (.ref C))
  (hx:excIn X.K C EM newId=true) (Fn:ExcBaseFacts Bn newId inN bmN) (hBn:EM.contains (.type Bn)=true) (ha:PA X (e::es) t)
  (hd:(n==("__debug__":Str))=false:=by decide) (he:starEach (e::es) X.env=(false,eval e X.env)::starEach es X.env:=by rfl) (hpl:(backTo cpos (starEach es X.env)).any (·.1)=false:=by rfl) :
  PS X (.Raise (some (.Call (.Name n np) (e::es) [] cpos)) none pos) (CS C E t):=by
 intro pins s σ H D I h
 obtain ⟨nm,qn,N,bs,bm,hdct,sn,sub,ab,col,dd,k0,k1,k2,k3,k5,mN,hC,hN,hni,T0⟩:=RW I.mod.kin hx
 have hpl':(backTo cpos (starEach (e::es) X.env)).any (·.1)=false:=by rw [he]; exact hpl
 refine wpAny_Raise_call_subU (C:=C) (nm:=nm) (q:=qn) (N:=N) (bs:=bs) (hdct:=hdct) (sn:=sn) (sub:=sub) (ab:=ab) (col:=col) (dd:=dd) (k0:=k0) (k1:=k1) (k2:=k2) (k3:=k3) (k5:=k5)
  Fn hBn F.excBase_ValueError (T0.hasType (by decide)) (I.ok.hd hc) hpl' hni (mN:=mN) (pB I hg hm ⟨rfl,?_⟩ hd)
 have hs:=ha cpos pins s σ H _ I h
 rw [he] at hs ⊢
 refine Calls.evalArgs_plain (cJ hs fun us s1 ⟨vs,H1,I1,r,q1,q2⟩=>?_)
 exact ⟨rfl,by rw [← r.length]; exact q1,I1.bk C _ hC,hN.keeps I1.bk,T0.keeps I1.bk,fun h' x m=>hr pins σ H1 s1 h' x C us I1 m q2⟩
end
section
structure qV (P:Program) (w:World) (K:Frag) (mg:Str->Option Value) (base:Heap) (k:Nat) (x:Str) (ps:List Str) (dvs:List V) (sp:Sp):Prop where
 ex:∃ (f:Addr) (fd:FuncData),mg x=some (.ref f)/\keepIn K (.ref f)=true/\pP K fd ps []/\(∃ ds,bN dvs ds/\pP K fd ps ds)/\nY P w K mg base (ST P w) k f fd ps sp
section
variable {P:Program} {w:World} {K:Frag} {mg:Str -> Option Value} {base:Heap} {j k:Nat} {x:Str} {st:Stmt} {N ps:List Str} {dvs:List V} {sp:Sp}
theorem qV.mono (o:qV P w K mg base j x ps dvs sp) (h:j<=k):qV P w K mg base k x ps dvs sp:=
 let ⟨f,fd,a,b,c,e,d⟩:=o.ex; ⟨f,fd,a,b,c,e,d.mono h⟩
theorem qV.of (d:Df K mg x st ps) (S:aT N ps (aG st)) (len:∀ vs H Q E,sp vs H Q E->vs.length=ps.length)
  (hbody:∀ (f:Addr) (cdv:Value) (A:Around) (outer:List Env) (s:Shared) (H:Hp) (vs:List V) (Q:VK) (E:XK),iA k (A.deeper (envOfC x (aG st) s.heap.objs.size f cdv))->sp vs H Q E ->
   ∃ t,CH (uU (ST P w) P w K mg base N x (aG st) f cdv A outer s H E) (eX st) t/\t { nx:=fun _ H'=>Q .non H',rt:=Q } (nA N vs) H):qV P w K mg base (k+1) x ps [] sp:=by
 obtain ⟨f,fd,⟨oc,od,dV,kV,doc,pm,an,cdv,ct,osl,rfl,lk,hcd⟩,kp,a,b⟩:=d.ex
 exact ⟨f,_,a,kp,b,⟨[],.nil,b⟩,NM lk hcd S len fun A outer s H vs Q E hr hsp=>hbody f cdv A outer s H vs Q E hr hsp⟩
end
section
variable {X:Cx} {k:Nat} {x:Str} {ps:List Str} {dvs:List V} {sp:Sp} {p pos:Pos} {e:Expr} {es:List Expr} {t:TA} {E:XK}
theorem MM (o:qV X.prog X.w X.K X.mg X.base k x ps dvs sp) (hr:iA k X.A) (hg:Gl X x) (hx:vD (ST X.prog X.w) X E) (ha:PA X (e::es) t) (hdb:(x==("__debug__":Str))=false:=by decide)
  (he:starEach (e::es) X.env=(false,eval e X.env)::starEach es X.env:=by rfl) (hpl:(backTo pos (starEach es X.env)).any (·.1)=false:=by rfl) :
  PE X (.Call (.Name x p) (e::es) [] pos) (FB sp [] E t):=by
 obtain ⟨f,fd,a,b,c,_,d⟩:=o.ex
 exact FY d hr hg a b c .nil hx ha hdb he hpl
end
structure EU (X:Cx) (pins:List (Addr×Obj)) (H:Hp) (a:Addr):Prop where
 h:H a=none
 s:X.s₀.heap.get? a=none
 l:a≠X.env.locals
 c:∀ n c,X.env.cells.lookup n=some c->c≠a
 p:∀ p∈X.pn++pins,p.1≠a
theorem bA.kpt {X:Cx}{pins:List (Addr×Obj)}{σ:St}{H:Hp}{s:Shared}{xs:List Addr}{h':Heap} (I:bA X pins σ H s) (k:mH (nD X.stack) xs s.heap h') (hx:∀ b∈xs,EU X pins H b):bA X pins σ H { s with heap:=h' }:=by
 have neL:∀ b o,X.s₀.heap.get? b=some o->b≠X.env.locals:=fun b o e=>ne_of_lt (lt_of_lt_of_le (lt_size e) I.ok.above)
 have nX:∀ b o,X.s₀.heap.get? b=some o->b∉xs:=fun b o e z=>by rw [(hx b z).s] at e; cases e
 have nS:∀ b,b≠X.env.locals->b∉X.fs->b∉nD X.stack:=fun b h1 h2 z=>(mem_cons.mp (I.stkSub b z)).elim h1 h2
 have lX:X.env.locals∉xs:=fun z=>(hx _ z).l rfl
 have cX:∀ n c,X.env.cells.lookup n=some c->c∉xs:=fun n c e z=>(hx _ z).c n c e rfl
 have cellK:∀ x c,X.env.cells.lookup x=some c->∀ v,s.heap.IsCell c v->h'.IsCell c v:=fun x c e v ⟨o,ho,hd⟩=>by
  obtain ⟨sl,q⟩:=k.there ho (cX x c e)
  exact ⟨_,q,hd⟩
 refine ⟨I.ok,I.os,I.bare,⟨fun b o e n hb hx=>?_,fun b o e n hb hx=>?_,I.base.free,fun b o e hx=>?_,I.base.tups,I.base.frzs,I.base.tbls⟩,?_,fun x c e=>?_,I.free,I.freeC,fun p hp=>?_,I.hok.kpt k (fun b hb=>I.stkFree b hb) fun b hb=>(hx b hb).h,I.len⟩
 ·exact k.keep b o (I.base.keep b o e n hb hx) (nS b (neL b o e) hb) (nX b o e)
 ·obtain ⟨sl,q⟩:=I.base.slot b o e n hb hx
  obtain ⟨sl',q'⟩:=k.there q (nX b o e)
  exact ⟨sl',q'⟩
 ·obtain ⟨o',q⟩:=I.base.there b o e hx
  obtain ⟨sl',q'⟩:=k.there q (nX b o e)
  exact ⟨_,q'⟩
 ·obtain ⟨m,⟨o,es,ep,ho,r⟩,hl⟩:=I.loc
  obtain ⟨sl,q⟩:=k.there ho lX
  refine ⟨m,⟨_,es,ep,q,r⟩,fun i x v e1 e2 e3=>?_⟩
  obtain ⟨u,rv,l⟩:=hl i x v e1 e2 e3
  refine ⟨u,rv,?_⟩
  rcases l with l|⟨kk,c,e,z⟩
  ·exact .inl l
  ·exact .inr ⟨kk,c,e,cellK x c e _ z⟩
 ·obtain ⟨v,z⟩:=I.cell x c e
  exact ⟨v,cellK x c e v z⟩
 ·obtain ⟨e,n,ne,nf,d⟩:=I.pin p hp
  exact ⟨k.keep p.1 p.2 e (nS _ ne nf) (fun z=>(hx _ z).p p hp rfl),n,ne,nf,d⟩
theorem bA.frsh {X:Cx}{pins:List (Addr×Obj)}{σ:St}{H H':Hp}{s:Shared}{a:Addr} (I:bA X pins σ H s) (hex:X.ex=[]) (e:s.heap.get? a=none) (h:H' a=none):EU X pins H' a where
 h:=h
 s:=by
  have u:Un X.fs [] X.H₀ H X.s₀.heap s.heap:=hex ▸ I.base
  exact u.was e
 l:=fun z=>by
  obtain ⟨m,⟨o,es,ep,ho,r⟩,_⟩:=I.loc
  rw [← z,e] at ho; cases ho
 c:=fun n c q z=>by
  obtain ⟨v,o,ho,hd⟩:=I.cell n c q
  rw [z,e] at ho; cases ho
 p:=fun p hp z=>by
  obtain ⟨q,_⟩:=I.pin p hp
  rw [z,e] at q; cases q
def EJ (X:Cx) (pins:List (Addr×Obj)) (σ:St) (E:XK) (e:Value) (s':Shared):Prop:=∃ x T C H',e=.ref x/\bA X pins σ H' s'/\OU x T C s'.heap/\EU X pins H' x/\EU X pins H' T/\E (.ref C) none H'
theorem JI {X:Cx}{pins:List (Addr×Obj)}{σ:St}{H:Hp}{s s':Shared}{E:XK}{e:Value} (hex:X.ex=[]) (I:bA X pins σ H s) (h:ST X.prog X.w X.stack H s E e s'):EJ X pins σ E e s':=by
 obtain ⟨x,T,C,H',rfl,ho,hg,un,hok,nx,nT,hx,hT,fl,q⟩:=h
 exact ⟨x,T,C,H',rfl,I.call' (ch:=[]) ho un hok hg (fun b z=>absurd z (by simp)),fl,I.frsh hex nx hx,I.frsh hex nT hT,q⟩
abbrev Aw:=St->Hp->VK->XK->Prop
abbrev TX:=fQ->XK->St->Hp->Prop
def Ih (X:Cx) (e:Expr) (t:Aw):Prop:=
 ∀ (pins:List (Addr×Obj)) (s:Shared) (σ:St) (H:Hp) (Q:VK) (E:XK),bA X pins σ H s->t σ H Q E->wpAny (model X.prog X.w) X.A (eval e X.env) (EP X pins σ Q) (EJ X pins σ E) s
def PX (X:Cx) (st:Stmt) (t:TX):Prop:=
 ∀ (pins:List (Addr×Obj)) (s:Shared) (σ:St) (H:Hp) (D:fQ) (E:XK),bA X pins σ H s->t D E σ H->wpAny (model X.prog X.w) X.A (exec st X.env) (SP X pins D) (EJ X pins σ E) s
def CW (sp:Sp) (dvs:List V) (t:TA):Aw:=fun σ H Q E=>t σ H fun vs H1=>sp (vs++dvs) H1 Q E
section
variable {X:Cx} {k:Nat} {f:Addr} {fd:FuncData} {x:Str} {ps:List Str} {dvs:List V} {ds:List Value} {sp:Sp} {p pos:Pos} {e:Expr} {es:List Expr} {t:TA} {E:XK}
theorem QP (F:nY X.prog X.w X.K X.mg X.base (ST X.prog X.w) k f fd ps sp) (hex:X.ex=[]) (hxe:∀ e s,X.xe e s->False) (hr:iA k X.A) (hg:Gl X x) (hm:X.mg x=some (.ref f)) (hk:keepIn X.K (.ref f)=true) (hb:pP X.K fd ps ds) (hd:bN dvs ds)
  (ha:PA X (e::es) t) (hdb:(x==("__debug__":Str))=false) (he:starEach (e::es) X.env=(false,eval e X.env)::starEach es X.env) (hpl:(backTo pos (starEach es X.env)).any (·.1)=false) :
  Ih X (.Call (.Name x p) (e::es) [] pos) (CW sp dvs t):=by
 intro pins s σ H Q E I h
 refine wpAny_Call_Name_kw (pB I hg hm ?_ hdb)
 refine callWith_K (h₀:=X.base) I.ok.mod.kin hk (wpAny_mono (ha pos pins s σ H _ I h) (fun us s1 ⟨vs,H1,I1,r,q⟩=>⟨I1.kIn,?_⟩) fun e s z=>(hxe e s z).elim) he hpl
 have r2:bN (vs++dvs) (us++ds):=r.append hd
 have hl:(us++ds).length=ps.length:=by rw [← r2.length]; exact F.len _ _ _ _ q
 refine wpAny_call (codeAny_mono (F.run X.A X.stack s1 H1 ⟨us,[]⟩ (us++ds) (vs++dvs) Q E hr I1.env0 (hb s1 us I1.kIn hl) r2 q) fun r s' hq=>?_)
 cases r with
|error e=>exact JI hex I1 hq
|ok fl =>
  cases fl with
 |ret u=>exact I1.after hq
 |next=>exact False.elim hq
 |brk=>exact False.elim hq
 |cont=>exact False.elim hq
theorem MI (o:qV X.prog X.w X.K X.mg X.base k x ps dvs sp) (hex:X.ex=[]) (hxe:∀ e s,X.xe e s->False) (hr:iA k X.A) (hg:Gl X x) (ha:PA X (e::es) t) (hdb:(x==("__debug__":Str))=false:=by decide)
  (he:starEach (e::es) X.env=(false,eval e X.env)::starEach es X.env:=by rfl) (hpl:(backTo pos (starEach es X.env)).any (·.1)=false:=by rfl) :
  Ih X (.Call (.Name x p) (e::es) [] pos) (CW sp [] t):=by
 obtain ⟨f,fd,a,b,c,_,d⟩:=o.ex
 exact QP d hex hxe hr hg a b c .nil ha hdb he hpl
end
end
section
section
variable {X:Cx} {e:Expr} {te:Aw} {pos:Pos}
end
abbrev Cx.hld (X:Cx) (x:Addr):Cx:={ X with A:=X.A.mark (some (.ref x)),calm:=false,xe:=fun _ _=>False }
section
variable {X:Cx} {pins:List (Addr×Obj)} {σ:St} {H:Hp} {s:Shared} {x:Addr}
theorem bA.hld (I:bA X pins σ H s) (x:Addr):bA (X.hld x) pins σ H s:=
 ⟨⟨I.ok.mod,I.ok.kind,I.ok.glob,I.ok.blt,I.ok.above,I.ok.inj,I.ok.has,I.ok.cab,(fun z=>nomatch z),I.ok.frames,I.ok.stk,I.ok.exf,I.ok.bs,I.ok.bsz,I.ok.noex,I.ok.exfs,I.ok.funs,I.ok.frf⟩,I.os,I.bare,I.base,I.loc,I.cell,I.free,I.freeC,I.pin,I.hok,I.len⟩
theorem bA.unhld (hd:X.calm=true->X.A.handled=none) (I:bA (X.hld x) pins σ H s):bA X pins σ H s:=
 ⟨⟨I.ok.mod,I.ok.kind,I.ok.glob,I.ok.blt,I.ok.above,I.ok.inj,I.ok.has,I.ok.cab,hd,I.ok.frames,I.ok.stk,I.ok.exf,I.ok.bs,I.ok.bsz,I.ok.noex,I.ok.exfs,I.ok.funs,I.ok.frf⟩,I.os,I.bare,I.base,I.loc,I.cell,I.free,I.freeC,I.pin,I.hok,I.len⟩
theorem sI {M:Model}{A:Around}{E:Value->Shared->Prop}{i:Nat}{n:Str}{pos:Pos}{Q:Unit->Shared->Prop} (I:bA X pins σ H s) (hN:X.N.Nodup) (hi:X.N[i]?=some n) (hl:X.env.scope.names.lookup n=some .local)
  (h:∀ s',bA X pins (σ.set i none) H s'->Q () s'):wpAny M A (do bindName X.env n .none; unbindBehindTheSuite X.env n pos) Q E s:=by
 obtain ⟨m,hn,hv⟩:=id I.loc
 have hcls:(X.env.scope.kind==.class || (X.env.scope.kind==.module&&X.env.locals !=X.env.globals))=false:=by rw [I.ok.kind]; rfl
 refine wpAny_nameGoes_keeps hl hn hcls fun h' v hn' hs=>h _ ?_
 have old:∀ b o,X.s₀.heap.get? b=some o->b≠X.env.locals:=fun b o e=>ne_of_lt (lt_of_lt_of_le (lt_size e) I.ok.above)
 refine ⟨I.ok,I.os,I.bare,⟨fun b o e n hb hx=>(hs.2 b (old b o e)).trans (I.base.keep b o e n hb hx),fun b o e n hb hx=>?_,I.base.free,fun b o e hx=>?_,I.base.tups,I.base.frzs,I.base.tbls⟩,⟨_,hn',fun j y v' e1 e2 e3=>?_⟩,fun y c e=>?_,I.free,I.freeC,fun p hp=>?_,?_,by simpa using I.len⟩
 ·obtain ⟨sl,e1⟩:=I.base.slot b o e n hb hx
  exact ⟨sl,(hs.2 b (old b o e)).trans e1⟩
 ·obtain ⟨o',e1⟩:=I.base.there b o e hx
  exact ⟨o',(hs.2 b (old b o e)).trans e1⟩
 ·have hj:j≠i:=fun z=>by
   rw [z] at e2
   by_cases hi':i < σ.length
   ·rw [List.getElem?_set_self hi'] at e2; cases e2
   ·rw [List.getElem?_eq_none (by rw [List.length_set]; omega)] at e2; cases e2
  rw [List.getElem?_set_ne (Ne.symm hj)] at e2
  obtain ⟨u',r',q⟩:=hv j y v' e1 e2 e3
  refine ⟨u',r',?_⟩
  rcases q with ⟨k,e⟩|⟨k,c,e,z⟩
  ·refine .inl ⟨k,?_⟩
   have:y≠n:=fun e=>hj (uG hN e1 (e ▸ hi))
   show (if y=n then v else m y)=some u'
   rw [if_neg this]; exact e
  ·exact .inr ⟨k,c,e,z.sameBut hs (I.cne y c e)⟩
 ·obtain ⟨w',z⟩:=I.cell y c e
  exact ⟨w',z.sameBut hs (I.cne y c e)⟩
 ·obtain ⟨e,n,ne,nf,d⟩:=I.pin p hp
  exact ⟨(hs.2 p.1 ne).trans e,n,ne,nf,d⟩
 ·intro b ob e
  refine (I.hok b ob e).stay (fun c w' hc q=>(hs.2 c ?_).trans q) (fun _ q=>q) fun _ _ q=>q
  rintro rfl
  rcases hc with rfl|hc
  ·rw [I.free] at e; cases e
  ·rw [I.free] at hc; cases hc
theorem bA.track {a:Addr}{o:HO} (I:bA X pins σ H s) (fr:EU X pins H a) (new:cS X.prog X.w (upd H a o) s.heap a o):bA X pins σ (upd H a o) s:=by
 refine ⟨I.ok,I.os,I.bare,I.base.track fr.h fr.s,I.loc,I.cell,?_,fun x c e=>?_,fun p hp=>?_,I.hok.track fr.h new,I.len⟩
 ·rw [aZ (Ne.symm fr.l)]; exact I.free
 ·rw [aZ (fr.c x c e)]; exact I.freeC x c e
 ·obtain ⟨e,n,r⟩:=I.pin p hp
  exact ⟨e,by rw [aZ (fr.p p hp)]; exact n,r⟩
end
def Bg (K:Frag) (CT:Addr) (i:Nat) (tb:TX) (ts:Addr->TS):TS:=fun D σ H=>tb D (fun cv _ H'=>∃ C,cv=.ref C/\exmOne K (.ref C) (.ref CT)=some true /\
 ∀ x,H' x=none->ts x ⟨fun σ' H2=>D.nx (σ'.set i none) H2,D.rt,fun σ' H2=>D.bk (σ'.set i none) H2,fun σ' H2=>D.ct (σ'.set i none) H2⟩ (σ.set i (some (.ref x))) (upd H' x (qP x C))) σ H
section
variable {X:Cx}
theorem YB {CT:Addr}{nc n:Str}{i:Nat}{st s0:Stmt}{suite:List Stmt}{tb:TX}{ts:Addr->TS}{np hp pos:Pos} (hex:X.ex=[]) (hst:X.stack=X.env::X.outer) (hfr:X.env.frame=some X.env.locals)
  (hg:Gl X nc) (hm:X.mg nc=some (.ref CT)) (hN:X.N.Nodup) (hi:X.N[i]?=some n) (hl:X.env.scope.names.lookup n=some .local) (hb:PX X st tb) (hs:∀ x,CH (X.hld x) (s0::suite) (ts x)) (hd:(nc==("__debug__":Str))=false:=by decide) :
  PS X (.Try [st] [.ExceptHandler (some (.Name nc np)) (some n) (s0::suite) hp] [] [] pos) (Bg X.K CT i tb ts):=by
 intro pins s σ H D I h
 refine wpAny_Try_except (wpAny_execs_cons (wpAny_mono (hb pins s σ H D _ I h) (fun f s1 q=>?_) fun e s1 q=>?_))
 ·cases f with
 |next=>exact wpAny_execs_nil (wpAny_execs_nil q)
 |ret v=>exact q
 |brk=>exact q
 |cont=>exact q
 ·obtain ⟨x,T,C,H',rfl,I1,fl,fx,fT,C',hC,hm1,q⟩:=q
  cases hC
  have mov:∀ {s2:Shared} {h2:Heap} {T1 T2:Addr},bA X pins σ H' s2->EU X pins H' T1->(T2=T1∨s2.heap.get? T2=none)->mH (nD X.stack) [x,T1] s2.heap h2->bA X pins σ H' { s2 with heap:=h2 }/\EU X pins H' T2:=fun {s2 h2 T1 T2} J f1 z k=>by
   refine ⟨J.kpt k fun b hb=>?_,?_⟩
   ·rcases mem_cons.mp hb with e|e
    ·rw [e]; exact fx
    ·rw [mem_singleton.mp e]; exact f1
   ·rcases z with z|z
    ·rw [z]; exact f1
    ·exact J.frsh hex z (J.hok.none_of z)
  have hfr':X.A.frames=some (X.env::X.outer):=hst ▸ I1.ok.frames
  have hF1:s1.heap.FunFrames X.base (X.env::X.outer):=hst ▸ I1.stack
  refine NP hfr' hfr hF1 fl fun h2 T2 fl2 z2 k2=>?_
  obtain ⟨I2,fT2⟩:=mov I1 fT z2 (hst ▸ k2)
  refine wpAny_handleBy_cons (codeAny_handlers_test (pB (I2.hld x) hg hm ?_ hd)) (by intro q; cases q)
  refine (PySem.W.exm_one I2.kIn (fl2.exR.kitR.ty _) hm1).here ?_
  refine codeAny_handlers_suite_as ?_
  refine JB (l:=X.stack) fl2 fun h3 fl3 k3=>?_
  obtain ⟨I3,_⟩:=mov I2 fT2 (.inl rfl) k3
  have I4:=I3.track fx (RX (C:=C) fl3.exR)
  refine iR (v:=.ref x) I4 hN hi (.inl hl) rfl (fun s5 I5=>?_) (.inr hl)
  refine wpAny_mono (hs x pins s5 _ _ _ (I5.hld x) (q x fx.h)) (fun f s6 q6=>?_) fun _ _ z=>z.elim
  cases f with
 |next =>
   obtain ⟨σ',H2,I6,q6⟩:=q6
   exact sI (I6.unhld I.ok.hd) hN hi hl fun s7 I7=>⟨_,H2,I7,q6⟩
 |brk =>
   obtain ⟨σ',H2,I6,q6⟩:=q6
   exact sI (I6.unhld I.ok.hd) hN hi hl fun s7 I7=>⟨_,H2,I7,q6⟩
 |cont =>
   obtain ⟨σ',H2,I6,q6⟩:=q6
   exact sI (I6.unhld I.ok.hd) hN hi hl fun s7 I7=>⟨_,H2,I7,q6⟩
 |ret u =>
   obtain ⟨v,σ',H2,I6,r,q6⟩:=q6
   exact sI (I6.unhld I.ok.hd) hN hi hl fun s7 I7=>⟨v,_,H2,I7,r,q6⟩
end
end
section
section
variable {X:Cx} {e:Expr} {te:Aw} {pos:Pos}
def Bd (te:Aw) (i:Nat):TX:=fun D E σ H=>te σ H (fun v H1=>D.nx (σ.set i (some v)) H1) E
theorem XZ {i:Nat}{x:Str}{pos':Pos} (hN:X.N.Nodup) (hi:X.N[i]?=some x) (hx:Ao X.env.scope x) (he:Ih X e te) (hs:swapsWith e (some (.Name x pos')) pos.line X.env=pure false:=by rfl)
  (hf:X.fn x=true∨X.env.scope.names.lookup x=some .local:=by first|exact .inl rfl|exact .inr rfl|assumption):PX X (.Assign [.Name x pos'] e pos) (Bd te i):=by
 intro pins s σ H D E I h
 refine wpAny_Assign_Name (cJ (he pins s σ H _ E I h) fun v s1 ⟨y,H1,I1,r1,q1⟩=>?_) hs
 exact iR I1 hN hi hx r1 (fun s2 I2=>⟨_,H1,I2,q1⟩) hf
end
section
variable {X:Cx}
end
end
section
section
variable {prog:Program} {w:World} {A:Around} {E:Value -> Shared -> Prop} {s:Shared}
end
section
variable {X:Cx} {tg:Expr} {y:Addr}
variable {scope:Scope} {tn names:List Str} {is:List Nat} {elt iter:Expr} {ifs:List Expr} {pos:Pos} {wi:TI} {te:TE} {tc:Option TT} {g:TG}
end
section
variable {te:TE} {Q:VK} {H:Hp} {caps:St} {y:Addr}
end
section
variable {X:Cx} {k:Nat} {x:Str} {ps:List Str} {sp:Addr -> Sp} {p pos:Pos} {e:Expr} {es:List Expr} {t:TA} {y:Addr}
end
end
section
def Gq (K:Frag) (C:Addr):Prop:=∃ (newId Bn inN:String) (bmN:List Value),excIn K C EM newId=true/\ExcBaseFacts Bn newId inN bmN/\EM.contains (.type Bn)=true
theorem Gq.ve {K:Frag}{C:Addr} (h:excIn K C EM "ValueError.__new__"=true):Gq K C:=⟨_,_,_,_,h,F.excBase_ValueError,by decide⟩
theorem vR:bootBuiltins "ValueError"=some (.type "ValueError"):=by decide +kernel
section
variable {X:Cx}
theorem qD {E:XK}{C:Addr}{n:Str}{e:Expr}{es:List Expr}{t:TA}{np cpos pos:Pos} (hr:OR X E) (hc:X.calm=true) (hg:Gl X n) (hm:X.mg n=some (.ref C)) (hx:Gq X.K C) (ha:PA X (e::es) t)
  (hd:(n==("__debug__":Str))=false:=by decide) (he:starEach (e::es) X.env=(false,eval e X.env)::starEach es X.env:=by rfl) (hpl:(backTo cpos (starEach es X.env)).any (·.1)=false:=by rfl) :
  PS X (.Raise (some (.Call (.Name n np) (e::es) [] cpos)) none pos) (CS C E t):=by
 obtain ⟨newId,Bn,inN,bmN,h1,h2,h3⟩:=hx
 exact ME hr hc hg hm h1 h2 h3 ha hd he hpl
def XV (K:Frag):List V->Hp->VK->Prop:=fun xs H Q=>∃ y C v c b,xs=[.ref y,v]/\H y=some (qP y C)/\qU K C/\bL v c/\kitOne K (.ref C) c=some b/\Q (.bl b) H
theorem pK:fD X (.builtin "isinstance") (XV X.K):=by
 intro pins s σ H xs us Q I r h
 obtain ⟨y,C,v,c,b,rfl,hy,z,rc,e,q⟩:=h
 obtain ⟨u,u',rfl,ru,rv⟩:=bN.two r
 obtain rfl:u=Value.ref y:=ru
 have ec:u'=c:=by
  cases v with
 |ref a=>exact rv.trans rc.symm
 |ty n=>exact rv.trans rc.symm
 |non=>exact rv.trans rc.symm
 |bl a=>exact rv.trans rc.symm
 |int _=>obtain ⟨t,rfl⟩:=rc; simp [kitOne,kitCls] at e
 |str _=>obtain ⟨t,rfl⟩:=rc; simp [kitOne,kitCls] at e
 |byt _=>obtain ⟨t,rfl⟩:=rc; simp [kitOne,kitCls] at e
 |flt _=>obtain ⟨t,rfl⟩:=rc; simp [kitOne,kitCls] at e
 subst ec
 exact kia_one (MZ z) I.kIn (I.hok y _ hy).1.kitR e (by intro q; cases q) fun tk=>⟨.bl b,H,I.tok tk,rfl,q⟩
end
section
variable {K:Frag} {σ:St} {H:Hp} {Q:VK} {D:fQ} {E:XK}
theorem qB {y C c:Addr}{b:Bool} (hy:H y=some (qP y C)) (z:qU K C) (e:kitOne K (.ref C) (.ref c)=some b) (k:Q (.bl b) H):XV K [.ref y,.ref c] H Q:=⟨y,C,_,_,b,rfl,hy,z,rfl,e,k⟩
theorem LR {y C:Addr}{T:String}{b:Bool} (hy:H y=some (qP y C)) (z:qU K C) (e:kitOne K (.ref C) (.type T)=some b) (k:Q (.bl b) H):XV K [.ref y,.ty T] H Q:=⟨y,C,_,_,b,rfl,hy,z,rfl,e,k⟩
def Be (K:Frag) (CT:Addr) (i:Nat) (ts:Addr->TS) (D:fQ) (σ:St):XK:=fun cv _ H'=>∃ C,cv=.ref C/\exmOne K (.ref C) (.ref CT)=some true /\
 ∀ x,H' x=none->ts x ⟨fun σ' H2=>D.nx (σ'.set i none) H2,D.rt,fun σ' H2=>D.bk (σ'.set i none) H2,fun σ' H2=>D.ct (σ'.set i none) H2⟩ (σ.set i (some (.ref x))) (upd H' x (qP x C))
theorem Ca {CT:Addr}{i:Nat}{tb:TX}{ts:Addr->TS} (k:tb D (Be K CT i ts D σ) σ H):Bg K CT i tb ts D σ H:=k
theorem LL {C CT:Addr}{i:Nat}{ts:Addr->TS}{o:Option Addr} (e:exmOne K (.ref C) (.ref CT)=some true)
  (k:∀ x,H x=none->ts x ⟨fun σ' H2=>D.nx (σ'.set i none) H2,D.rt,fun σ' H2=>D.bk (σ'.set i none) H2,fun σ' H2=>D.ct (σ'.set i none) H2⟩ (σ.set i (some (.ref x))) (upd H x (qP x C))):Be K CT i ts D σ (.ref C) o H:=⟨C,rfl,e,k⟩
theorem VX {te:Aw}{i:Nat} (k:te σ H (fun v H1=>D.nx (σ.set i (some v)) H1) E):Bd te i D E σ H:=k
theorem QH {sp:Sp}{t:TA} (k:t σ H fun vs H1=>sp vs H1 Q E):CW sp [] t σ H Q E:=by
 have e:(fun (vs:List V) H1=>sp (vs++[]) H1 Q E)=fun vs H1=>sp vs H1 Q E:=by
  funext vs H1
  rw [append_nil]
 show t σ H fun vs H1=>sp (vs++[]) H1 Q E
 rw [e]; exact k
end
end
section
section
variable {X:Cx}
def LZ:V->List V->Hp->VK->Prop:=fun x vs H Q=>∃ z y:Str,x=.str z/\vs=[.str y]/\(y.length==0)=false/\z.length<=1000000/\∀ l,H l=none->Q (.ref l) (upd H l (.lst ((Txt.split z y).map V.str)))
theorem sP:∀ (l:List (Str×Tok)),bN ((l.map (·.1)).map V.str) (strValues l)
|[]=>.nil
|p::r=>.cons ⟨p.2,rfl⟩ (sP r)
theorem jE:OS X "str.split" LZ:=by
 intro pins s σ H x vs v us Q I rx rv h
 obtain ⟨z,y,rfl,rfl,hy,hz,q⟩:=h
 obtain ⟨t,rfl⟩:=rx
 obtain ⟨u,rfl,ru⟩:=rv.one
 obtain ⟨t',rfl⟩:=ru
 have hn:(Builtin.Str.partsBetween z (Builtin.Str.occurrences z y 0 z.length (z.length+1)) y.length).length<=z.length+2:=by
  have:=StrLaws.occ_length_le z y 0 z.length (z.length+1)
  rw [length_partsBetween]
  omega
 have fin:∀ (l:List (Str×Tok)) (k:Nat),l.map (·.1)=Txt.split z y->l.length<=2000000->EP X pins σ Q (.ref s.heap.objs.size) { s with heap:=s.heap.push { cls:=.type "list",data:=.seq (strValues l).toArray },toks:=k }:=fun l k e hl=>by
  refine ⟨.ref s.heap.objs.size,_,I.laid (t':=k) (a:=s.heap.objs.size) (o:=.lst ((Txt.split z y).map V.str)) (fun b o g=>get?_push_of_some _ g) (le_refl _) ⟨?_,_,0,?_,get?_push_size _ rfl⟩,rfl,q _ (I.hok.fresh (le_refl _))⟩
  ·rw [← e,length_map,length_map,sizeLine_eq]
   omega
  ·rw [← e]
   exact sP l
 have sz:z.length<=sizeLine:=by rw [sizeLine_eq]; omega
 cases h1:(decide (z.length < y.length) || decide (Builtin.Str.strKind z < Builtin.Str.strKind y))
 ·cases hf:(Builtin.Str.occurrences z y 0 z.length (z.length+1)).isEmpty
  ·refine call_meets F.slot_str_split (typeIs_str _ _ _) F.entry_str_split (F.args_str_split_2 _ _) (meets_str_split_sep z y t t' h1 hy hf sz (by rw [sizeLine_eq]; omega)) ?_
   show wants _ _ _ { s with toks:=_,heap:=s.heap.push { cls:=.type "list",data:=.seq (strsFrom s.toks (Builtin.Str.partsBetween z (Builtin.Str.occurrences z y 0 z.length (z.length+1)) y.length)).toArray } }
   rw [strsFrom_eq]
   have e:=numbered_texts s.toks (Builtin.Str.partsBetween z (Builtin.Str.occurrences z y 0 z.length (z.length+1)) y.length)
   have e2:=congrArg List.length e
   rw [length_map] at e2
   exact fin _ _ (e.trans ((if_neg (ne_true_of_eq_false h1)).trans (if_neg (ne_true_of_eq_false hf))).symm) (by omega)
  ·refine call_meets F.slot_str_split (typeIs_str _ _ _) F.entry_str_split (F.args_str_split_2 _ _) (meets_str_split_not_found z y t t' h1 hy hf) ?_
   exact fin [(z,t)] s.toks ((if_neg (ne_true_of_eq_false h1)).trans (if_pos hf)).symm (by simp)
 ·refine call_meets F.slot_str_split (typeIs_str _ _ _) F.entry_str_split (F.args_str_split_2 _ _) (meets_str_split_cannot_occur z y t t' h1) ?_
  exact fin [(z,t)] s.toks (if_pos h1).symm (by simp)
end
end
section
def Ga (z:Str):It:=⟨fun i _=>i < z.cps.size,fun i H x H'=>H'=H/\∃ c,z.cps[i]?=some c/\x=.str ⟨#[c]⟩,fun i _=>z.cps.size<=i⟩
theorem CN {P:Program}{w:World}{K:Frag}{tg:Expr} (it:Addr) (z:Str) (t:Tok) (n:String) (hn:n="str_ascii_iterator"∨n="str_iterator"):ER P w K tg (Ga z) [it] it (fun i h=>h.IsStrIter it n z t i) where
 mem:=by simp
 obj:=fun i h st b hb=>by
  obtain rfl:b=it:=by simpa using hb
  obtain ⟨o,e,c,d⟩:=st
  exact ⟨o,e,fun v y=>by rw [d] at y; cases y⟩
 keep:=fun i h h' st k=>let ⟨o,e,r⟩:=st; ⟨o,k it (by simp) o e,r⟩
 item:=by
  intro X hP hw hK hc i pins s σ H E I hf st hg
  subst hP hw hK
  obtain ⟨f0,f1,f2,f3,f4,f5⟩:=hf it (by simp)
  have hg:i < z.cps.size:=hg
  have ec:z.cps[i]?=some z.cps[i]:=by simp [hg]
  have fin:∀ h',h'.IsStrIter it n z t (i+1)->Heap.SameBut it s.heap h'->∃ u,some (Value.str ⟨#[z.cps[i]]⟩ s.toks)=some u /\
    wpAny (model X.prog X.w) X.A (letOwnedTupleGo tg (.ref it) u) (fun _ s2=>∃ x H',bA X pins σ H' s2/\bL x u/\(Ga z).yld i H x H'/\s2.heap.IsStrIter it n z t (i+1)/\∀ b∈[it],H' b=none) E { s with heap:=h',toks:=s.toks+1 }:=fun h' st' sb=>by
   have I1:bA X pins σ H { s with heap:=h',toks:=s.toks+1 }:=I.turned (fun b o hb e=>(sb.2 b hb).trans e) f0 f1 f3 f4 f5
   obtain ⟨o,e,c,d⟩:=id st'
   have hno:["enumerate","zip","dict_itemiterator","dict_reverseitemiterator","odict_iterator","itertools.zip_longest","itertools.pairwise"].contains n=false:=by
    rcases hn with rfl|rfl <;> decide
   exact ⟨_,rfl,GM (s:={ s with heap:=h',toks:=s.toks+1 }) e c d hno ⟨.str ⟨#[z.cps[i]]⟩,H,I1,⟨_,rfl⟩,⟨rfl,_,ec,rfl⟩,st',fun b hb=>(hf b hb).1⟩⟩
  rcases hn with rfl|rfl
  ·exact wpAny_pyNext_ascii_item st ec fin
  ·exact wpAny_pyNext_wide_item st ec fin
 done:=by
  intro X hP hw hK hc i pins s σ H E I hf st hg
  subst hP hw hK
  obtain ⟨f0,f1,f2,f3,f4,f5⟩:=hf it (by simp)
  have hg:z.cps.size<=i:=hg
  have ec:z.cps[i]?=none:=by simp [hg]
  rcases hn with rfl|rfl
  ·exact wpAny_pyNext_ascii_end (I.ok.hd hc) st ec fun h' eb=>⟨rfl,I.turned (t':=s.toks) (fun b o hb e=>eb b o hb e) f0 f1 f3 f4 f5⟩
  ·exact wpAny_pyNext_wide_end (I.ok.hd hc) st ec fun h' eb=>⟨rfl,I.turned (t':=s.toks) (fun b o hb e=>eb b o hb e) f0 f1 f3 f4 f5⟩
 self:=fun _ _ _ _ _ st h=>by
  rcases hn with rfl|rfl
  ·exact wpAny_pyIter_striter_ascii st h
  ·exact wpAny_pyIter_striter_wide st h
section
variable {X:Cx} {tg:Expr}
def ND (tl:TE):TI:=fun σ H R=>tl σ H fun x H1=>∃ z,x=.str z/\R (Ga z) H1
theorem AT {l:Expr}{tl:TE} (hl:PE X l tl):PI X tg l (ND tl):=by
 intro pins s σ H R I h
 refine cJ (hl pins s σ H _ I h) fun v s1 ⟨x,H1,I1,r1,z,e,q⟩=>?_
 subst e
 obtain ⟨t,rfl⟩:=r1
 refine wpAny_pyIter_strU ?_
 refine ⟨s1.heap.objs.size,[s1.heap.objs.size],_,_,H1,rfl,I1.kept (t':=s1.toks) fun b o e=>get?_push_of_some _ e,CN _ z t (strIterType z) ?_,⟨_,get?_push_size _ rfl,rfl,rfl⟩,fun b hb=>?_,q⟩
 ·unfold strIterType
  split
  ·exact .inl rfl
  ·exact .inr rfl
 ·obtain rfl:b=s1.heap.objs.size:=by simpa using hb
  exact I1.fpOk (le_refl _) (I1.hok.fresh (le_refl _))
def UH:R2:=fun x y H Q=>∃ (c:Nat) (z:Str),x=.str ⟨#[c]⟩/\y=.str z/\Q (.bl (decide (c∈z.cps.toList))) H
theorem GA:jJ X (compareOp .In) UH:=by
 intro pins s σ H x y v u Q I rx ry h
 obtain ⟨c,z,rfl,rfl,q⟩:=h
 obtain ⟨t,rfl⟩:=rx
 obtain ⟨t',rfl⟩:=ry
 refine P.in_str ⟨.bl _,H,I,rfl,?_⟩
 rw [StrLaws.found_one]
 exact q
def UK (K:Frag):List V->Hp->VK->Prop:=fun vs H Q=>∃ (p:Addr) (bs:List Bool),vs=[.ref p]/\cN K H p (bs.map V.bl)/\Q (.bl (bs.all id)) H
theorem JO:∀ (bs:List Bool),(List.range bs.length).all (fun i=>(bs[i]?).getD true)=bs.all id:=by
 intro bs
 rw [Bool.eq_iff_iff,all_eq_true,all_eq_true]
 constructor
 ·intro h x hx
  obtain ⟨i,hi,e⟩:=List.getElem_of_mem hx
  have q:=h i (mem_range.mpr hi)
  rw [List.getElem?_eq_getElem hi,e] at q
  exact q
 ·intro h i hi
  have hi:=mem_range.mp hi
  have q:=h bs[i] (List.getElem_mem hi)
  rw [List.getElem?_eq_getElem hi]
  exact q
theorem qR (hc:X.calm=true):fD X (.builtin "all") (UK X.K):=by
 intro pins s σ H xs us Q I r h
 obtain ⟨p,bs,rfl,hp,q⟩:=h
 obtain ⟨u,rfl,rx⟩:=r.one
 cases rx
 obtain ⟨its,rl,ht,hz⟩:=I.list hp
 have hlt:p < s.heap.objs.size:=by
  obtain ⟨_,e,_⟩:=ht.isList
  exact lt_size e
 have hlen:=rl.length
 rw [length_map] at hlen
 refine call_all_walk (wpAny_pyIter_list ht.isList ?_)
 refine ⟨s.heap.objs.size,[s.heap.objs.size,p],[s.heap.objs.size],its.toArray.size,_,_,fun i=>(bs[i]?).getD true,rfl,Walks.list (A:=X.A.in1) (I.ok.hd hc) _ p (ne_of_lt hlt) its.toArray,⟨⟨_,get?_push_size _ rfl,rfl,rfl⟩,ht.isList.at fun o e=>get?_push_of_some _ e⟩,?_,fun h' tk hk=>?_⟩
 ·intro i v s' Q' E' hv hq
  have hv:its[i]?=some v:=by simpa using hv
  have hi:i < bs.length:=by
   have:=(List.getElem?_eq_some_iff.mp hv).1
   omega
  obtain ⟨u,e1,r1⟩:=rl.get (i:=i) (x:=.bl bs[i]) (by simp [hi])
  rw [hv] at e1
  cases e1
  obtain rfl:v=Value.bool bs[i]:=r1
  refine wpAny_truthy_bool ?_
  have hq:Q' ((bs[i]?).getD true) s':=hq
  rw [List.getElem?_eq_getElem hi] at hq
  exact hq
 ·refine ⟨.bl _,H,I.kept (t':=tk) fun b o e=>hk b o (fun z=>?_) (get?_push_of_some _ e),?_,q⟩
  ·exact absurd (lt_size e) (by rw [mem_singleton.mp z]; exact lt_irrefl _)
  ·show Value.bool _=Value.bool _
   rw [size_toArray,← hlen,JO]
end
section
variable {te:TE} {Q:VK} {H:Hp} {σ caps:St} {wi:TI} {tc:TT} {K:Frag}
theorem LT {tl:TE}{R:It->Hp->Prop} (k:tl σ H fun x H1=>∃ z,x=.str z/\R (Ga z) H1):ND tl σ H R:=k
theorem FU {z:Str} (hn:z.length<=1000) (Pv:Addr->Nat->List V->Hp->Prop) (h0:∀ acc,H acc=none->Pv acc 0 [] (upd H acc (.lst [])))
  (hs:∀ acc i ys H1 c,H acc=none->z.cps[i]?=some c->ys.length=i->H1 acc=some (.lst ys)->Pv acc i ys H1->te (some (.str ⟨#[c]⟩)::caps) H1 (rG z.length acc (Pv acc) ys i))
  (hd:∀ acc ys H1,H acc=none->H1 acc=some (.lst ys)->ys.length=z.length->Pv acc z.length ys H1->Q (.ref acc) H1):mE te none (iC 0) (List.replicate 1 none) caps Q (Ga z) H:=by
 intro acc hacc
 refine ⟨cW z.length acc (Pv acc),⟨z.length,by simp,zero_le _,rfl,aE,h0 acc hacc⟩,?_⟩
 rintro i m ys H1 ⟨rfl,hi,hl,ha,p⟩
 refine ⟨ha,?_⟩
 by_cases hlt:i < z.length
 ·refine .inr ⟨eI (by omega),hlt,fun us x H' hu y=>?_⟩
  obtain ⟨e,c,ec,y⟩:=y
  subst e y
  obtain ⟨o,rfl⟩:=MX hu
  exact ⟨⟨[some (.str ⟨#[c]⟩)],rfl,rfl⟩,hs acc i ys _ c hacc ec hl ha p⟩
 ·have e:i=z.length:=by omega
  subst e
  exact .inl ⟨le_refl _,hd acc ys H1 hacc ha hl p⟩
theorem WT {c:Nat}{z:Str} (k:Q (.bl (decide (c∈z.cps.toList))) H):UH (.str ⟨#[c]⟩) (.str z) H Q:=⟨c,z,rfl,rfl,k⟩
theorem qC {p:Addr}{bs:List Bool} (h:H p=some (.lst (bs.map V.bl))) (k:Q (.bl (bs.all id)) H):UK K [.ref p] H Q:=⟨p,bs,rfl,cN.of h,k⟩
theorem kW {z y:Str} (hy:(y.length==0)=false) (hz:z.length<=1000000) (k:∀ l,H l=none->Q (.ref l) (upd H l (.lst ((Txt.split z y).map V.str)))):LZ (.str z) [.str y] H Q:=⟨z,y,rfl,rfl,hy,hz,k⟩
end
section
variable {r r':R2} {ta tb tc:TE} {x y:V} {σ:St} {H:Hp} {Q:VK} {c:Bool}
def ZW (r':R2) (y:V) (Q:VK):VK:=fun w' H4=>r' y w' H4 Q
def ZX (r':R2) (tc:TE) (y:V) (σ:St) (Q:VK):VK:=fun z H3=>∃ k,z=.bl k/\(if k=true then tc σ H3 (ZW r' y Q) else Q (.bl false) H3)
def ZY (r r':R2) (tc:TE) (x:V) (σ:St) (Q:VK):VK:=fun y H2=>r x y H2 (ZX r' tc y σ Q)
def Fl (r r':R2) (tb tc:TE) (σ:St) (Q:VK):VK:=fun x H1=>tb σ H1 (ZY r r' tc x σ Q)
theorem QG (k:ta σ H (Fl r r' tb tc σ Q)):CV r r' ta tb tc σ H Q:=k
theorem XL (k:tb σ H (ZY r r' tc x σ Q)):Fl r r' tb tc σ Q x H:=k
theorem XJ (k:r x y H (ZX r' tc y σ Q)):ZY r r' tc x σ Q y H:=k
theorem XI (k:if c=true then tc σ H (ZW r' y Q) else Q (.bl false) H):ZX r' tc y σ Q (.bl c) H:=⟨c,rfl,k⟩
theorem XH (k:r' x y H Q):ZW r' x Q y H:=k
end
section
variable {K:Frag} {H H':Hp}
def NS (K:Frag) (H:Hp) (x:V):Prop:=∃ t,iL K H x t/\kitOne K t (.type "str")=some false
end
def QL:List Nat->Nat->Nat->Bool
|[],k,n=>decide (k<=4)&&(decide (1<=n)&&decide (n<=8))
|c::r,k,n=>if c=46 then (decide (1<=n)&&decide (n<=8))&&QL r (k+1) 0 else (decide (97<=c)&&decide (c < 123))&&QL r k (n+1)
def postB (z:Str):Bool:=QL z.cps.toList 1 0
def cE (z:Str):Bool:=(decide (1<=z.length)&&decide (z.length<=8))&&z.cps.toList.all fun c=>decide (97<=c)&&decide (c < 123)
theorem tX:∀ (l:List Nat) (r:List Nat) (k n:Nat),46∉l->QL (l++r) k n=((l.all fun c=>decide (97<=c)&&decide (c < 123))&&QL r k (n+l.length))
|[],r,k,n,_=>by simp
|c::l,r,k,n,h=>by
  have h1:c≠46:=fun e=>h (by simp [e])
  have h2:46∉l:=fun e=>h (by simp [e])
  show (if c=46 then _ else _)=_
  rw [if_neg h1]
  show ((decide (97<=c)&&decide (c < 123))&&QL (l++r) k (n+1))=_
  rw [tX l r k (n+1) h2,all_cons,length_cons,show n+1+l.length=n+(l.length+1) by omega]
  simp only [Bool.and_assoc]
theorem iP (x:Str):(Str.join ⟨#[46]⟩ [x]).cps.toList=x.cps.toList:=rfl
theorem iO (x y:Str) (r:List Str):(Str.join ⟨#[46]⟩ (x::y::r)).cps.toList=x.cps.toList++46::(Str.join ⟨#[46]⟩ (y::r)).cps.toList:=by
 show (((x.cps++#[46])++(Str.join ⟨#[46]⟩ (y::r)).cps):Array Nat).toList=_
 simp
theorem cA (z:Str):z.length=z.cps.toList.length:=by unfold Str.length; simp
theorem oM:∀ (ps:List Str) (x:Str) (k:Nat),(∀ p∈x::ps,46∉p.cps.toList)->QL (Str.join ⟨#[46]⟩ (x::ps)).cps.toList k 0=(decide (k+ps.length<=4)&&(x::ps).all cE)
|[],x,k,h=>by
  rw [iP]
  have q:=tX x.cps.toList [] k 0 (h x (by simp))
  rw [append_nil] at q
  rw [q,Nat.zero_add,← cA]
  show (_&&(decide (k<=4)&&_))=_
  simp only [all_cons,List.all_nil,Bool.and_true,cE,length_nil,Nat.add_zero]
  cases decide (k<=4) <;> cases (decide (1<=x.length)&&decide (x.length<=8)) <;> cases (x.cps.toList.all fun c=>decide (97<=c)&&decide (c < 123)) <;> rfl
|y::r,x,k,h=>by
  have ih:=oM r y (k+1) fun p hp=>h p (mem_cons_of_mem _ hp)
  rw [iO,tX _ _ k 0 (h x (by simp))]
  show (_&&(if 46=46 then _ else _))=_
  rw [if_pos rfl,ih,Nat.zero_add,← cA,all_cons (a:=x),length_cons]
  show (_&&(_&&(decide (k+1+r.length<=4)&&_)))=(decide (k+(r.length+1)<=4)&&(((_&&_)&&_)&&_))
  rw [show k+1+r.length=k+(r.length+1) by omega]
  cases decide (k+(r.length+1)<=4) <;> cases decide (1<=x.length) <;> cases decide (x.length<=8) <;> cases (x.cps.toList.all fun c=>decide (97<=c)&&decide (c < 123)) <;> cases (y::r).all cE <;> rfl
theorem nP (z:Str):postB z=(decide ((Txt.split z ⟨#[46]⟩).length<=4)&&(Txt.split z ⟨#[46]⟩).all cE):=by
 have h1:=StrLaws.join_split z ⟨#[46]⟩
 have h2:=StrLaws.split_free z 46
 have h3:=split_pos z ⟨#[46]⟩
 unfold postB
 generalize hs:Txt.split z ⟨#[46]⟩=ps at h1 h2 h3 ⊢
 cases ps with
|nil=>simp at h3
|cons x r =>
  rw [← h1,oM r x 1 h2,length_cons,show 1+r.length=r.length+1 by omega]
theorem KP {x y a:Str} (h:a∈Txt.split x y):a.length<=x.length:=part_short h
theorem VM (x y:Str):(Txt.split x y).length<=x.length+2:=split_le x y
def jI (K:Frag) (H:Hp) (x:V) (b:Bool):Prop:=(∃ z:Str,x=.str z/\z.length<=1000/\b=postB z)∨(NS K H x/\b=false)
theorem iL.sm {K:Frag}{H H':Hp}{x:V}{t:Value} (ty:iL K H x t) (s:aI H H'):iL K H' x t:=by
 cases ty with
|non=>exact .non
|bl x=>exact .bl x
|int i=>exact .int i
|str x=>exact .str x
|flt x=>exact .flt x
|lst e=>exact .lst (s _ _ e)
|frz e=>exact .frz (s _ _ e)
|tup e=>exact .tup (s _ _ e)
|dK e=>exact .dK (s _ _ e)
|dT e=>exact .dT (s _ _ e)
|ins e cl ha hn htk hm=>exact .ins (s _ _ e) cl ha hn htk hm
theorem NS.sm {K:Frag}{H H':Hp}{x:V} (h:NS K H x) (s:aI H H'):NS K H' x:=let ⟨t,ty,e⟩:=h; ⟨t,iL.sm ty s,e⟩
theorem jI.sm {K:Frag}{H H':Hp}{x:V}{b:Bool} (h:jI K H x b) (s:aI H H'):jI K H' x b:=h.imp id fun z=>⟨z.1.sm s,z.2⟩
inductive dM (K:Frag) (H:Hp):V->Bool->Prop
|nt {x:V} (h:NT K H x):dM K H x false
|len {p:Addr} {xs:List V} (h:H p=some (.tup xs)) (n:xs.length≠3):dM K H (.ref p) false
|one {p:Addr} {u v t:V} (h:H p=some (.tup [u,v,t])) (hu:jI K H u false):dM K H (.ref p) false
|two {p:Addr} {u v t:V} (h:H p=some (.tup [u,v,t])) (hu:jI K H u true) (hv:jI K H v false):dM K H (.ref p) false
|same {p:Addr} {s:Str} {t:V} (h:H p=some (.tup [.str s,.str s,t])) (hu:jI K H (.str s) true):dM K H (.ref p) false
|time {p:Addr} {s s':Str} {t:V} (h:H p=some (.tup [.str s,.str s',t])) (hu:jI K H (.str s) true) (hv:jI K H (.str s') true) (hn:s≠s') (ht:∀ H',aI H H'->Il K H' t false):dM K H (.ref p) false
|run {p tp:Addr} {s s':Str} {a c:Int} (h:H p=some (.tup [.str s,.str s',.ref tp])) (hu:jI K H (.str s) true) (hv:jI K H (.str s') true) (hn:s≠s') (ht:H tp=some (.tup [.int a,.int c])) (hf:Fd (.int a) (.int c)=true) (sa:Sm 8000 a) (sc:Sm 8000 c):dM K H (.ref p) (decide (0 < a))
theorem SE (a b:Str):(a++b).cps.toList=a.cps.toList++b.cps.toList:=by
 show (a.cps++b.cps).toList=_
 simp
theorem BL (a b:Str):(a++b).length=a.length+b.length:=by
 rw [cA,cA,cA,SE,length_append]
theorem cT {z:Str} (h:cE z=true):1<=z.length/\z.length<=8/\46∉z.cps.toList:=by
 unfold cE at h
 rw [Bool.and_eq_true,Bool.and_eq_true,decide_eq_true_iff,decide_eq_true_iff,all_eq_true] at h
 refine ⟨h.1.1,h.1.2,fun m=>?_⟩
 exact absurd (h.2 _ m) (by decide)
theorem CY:∀ {cs:List Str},(∀ c∈cs,c.length<=8)->(cs.map (·.length)).sum<=8 * cs.length
|[],_=>le_refl _
|c::r,h=>by
  have h1:=h c (by simp)
  have h2:=CY (cs:=r) fun d hd=>h d (mem_cons_of_mem _ hd)
  rw [map_cons,sum_cons,length_cons]
  omega
theorem BK (c:Nat):decide (c∈("abcdefghijklmnopqrstuvwxyz":Str).cps.toList)=(decide (97<=c)&&decide (c < 123)):=by
 have e:("abcdefghijklmnopqrstuvwxyz":Str).cps.toList=List.range' 97 26:=by decide +kernel
 rw [e,Bool.eq_iff_iff,Bool.and_eq_true,decide_eq_true_iff,decide_eq_true_iff,decide_eq_true_iff]
 exact List.mem_range'_1
end
section
theorem BQ {s:Str}{ys:List Str}:Gn (.str s) (ys.map V.str)=decide (s∈ys):=by
 unfold Gn
 induction ys with
|nil=>simp
|cons y r ih =>
  rw [map_cons,any_cons,ih]
  show ((y==s) || _)=_
  by_cases e:y=s
  ·subst e
   simp
  ·have e2:¬ s=y:=fun z=>e z.symm
   simp [e,e2]
theorem qO:∀ ys:List Str,(ys.map V.str).all lK=true
|[]=>rfl
|y::r=>by rw [map_cons,all_cons,qO r]; rfl
section
variable {σ:St} {H:Hp} {Q:VK} {K:Frag}
theorem WK {p:Addr}{ys:List Str}{s:Str} (h:H p=some (.lst (ys.map V.str))) (k:Q (.bl (!decide (s∈ys))) H):Gk K true (.str s) (.ref p) H Q:=⟨p,_,rfl,.inl (cN.of h),rfl,qO _,by rw [BQ]; exact k⟩
theorem OB {l1 l3:Addr}{n:List cV} (h1:LQ aW H l1 (kn n)) (h3:LQ aW H l3 (kn n)) (k:Q (.bl true) H):rL (.ref l1) (.ref l3) H Q:=by
 obtain ⟨v1,a1,p1⟩:=h1
 obtain ⟨v3,a3,p3⟩:=h3
 refine BW (ds:=n.map yS) (es:=n.map yS) ⟨l1,_,rfl,a1,fB p1⟩ ⟨l3,_,rfl,a3,fB p3⟩ (le_trans (mD n) (by decide)) ?_
 rw [kM.same_eq _ _ (fB p1) (fB p1)]
 exact k
end
abbrev sC:Str:=Str.ofString "c"
def n2:List cV:=[(sA,sB,Rat.divInt 1 2),(sB,sC,Rat.divInt 1 3)]
end
section
section
variable {H:Hp} {Q:VK} {K:Frag} {σ:St} {D:fQ} {v:V}
theorem UA {i:Nat}{te:TE}{ti:Fu}{x:V} (h:σ[i]?=some (some x)) (k:te σ H fun y H1=>ti x y H1 fun z H2=>D.nx (σ.set i (some z)) H2):Bs i te ti D σ H:=⟨x,h,k⟩
end
theorem nR {nm:List Str}{i:Int} (h0:0<=i) (h1:i < nm.length):∃ s,s∈nm/\fM (nm.map V.str) i=some (.str s):=by
 obtain ⟨z,hz,e⟩:=Ed (xs:=nm.map V.str) h0 (by rw [length_map]; exact h1)
 obtain ⟨s,hs,rfl⟩:=mem_map.mp hz
 exact ⟨s,hs,e⟩
end
section
section
variable {X:Cx} {k n:Nat} {x:Str} {ps ks:List Str} {dvs:List V} {sp:Sp} {p pos:Pos} {e:Expr} {es:List Expr} {kws:List Keyword} {t tk:TA}
end
theorem Dd {s:TS}{D:fQ}{σ:St}{H:Hp} (J:St->Hp->Prop) (hJ:∀ σ H,J σ H->D.nx σ H) (k:∀ NX:St->Hp->Prop,(∀ σ H,J σ H->NX σ H)->s ⟨NX,D.rt,D.bk,D.ct⟩ σ H):s D σ H:=k D.nx hJ
section
variable {σ:St} {H:Hp} {Q:VK} {K:Frag}
end
def n3:List cV:=[(sA,sB,Rat.divInt 1 2),(sB,sC,Rat.divInt 1 1)]
def ts3:List (cB×Rat):=[(Sum.inl 0,Rat.divInt 1 2),(Sum.inl 1,Rat.divInt 1 1)]
def vY:Nat->Option Rat:=fun k=>Ah (lst ts3) (Sum.inl (k:Int))
end
section
section
variable {X:Cx}
end
section
variable {H:Hp} {Q:VK} {u v:V} {a b:Option Rat}
end
section
variable {net:List (ES cB)} {a b:cB} {m:Rat} {tk:Nat -> Option Rat} {f:cB -> Option Rat}
end
open Classical in
noncomputable def dst (n:List cV) (a:cB) (m:Rat):cB->Option Rat:=if h:∃ f,Gb (kn n) (Ah (lst [(a,m)])) (fun _=>none) f then Classical.choose h else fun _=>none
noncomputable def gd (n:List cV) (s z:Str):Option Rat:=if z∈names n then dst n (Sum.inr s) (Rat.divInt 0 1) (Sum.inr z) else none
def vG (ys:List Str):List (Str×Str):=ys.flatMap fun y=>ys.map fun z=>(y,z)
theorem Pd.cut {β:Type}{R:V->β->Prop}{xs:List V}{ds:List β} (h:Paired R xs ds) (a b:Nat):Paired R ((xs.drop a).take b) ((ds.drop a).take b):=by
 have hd:∀ (a:Nat) {xs:List V} {ds:List β},Paired R xs ds->Paired R (xs.drop a) (ds.drop a):=fun a=>by
  induction a with
 |zero=>exact fun h=>h
 |succ a ih =>
   intro xs ds h
   cases h with
  |nil=>exact .nil
  |cons r t=>exact ih t
 have ht:∀ (b:Nat) {xs:List V} {ds:List β},Paired R xs ds->Paired R (xs.take b) (ds.take b):=fun b=>by
  induction b with
 |zero=>exact fun h=>.nil
 |succ b ih =>
   intro xs ds h
   cases h with
  |nil=>exact .nil
  |cons r t=>exact .cons r (ih t)
 exact ht b (hd a h)
theorem Pd.app {β:Type}{R:V->β->Prop}:∀ {xs ys:List V}{ds es:List β},Paired R xs ds->Paired R ys es->Paired R (xs++ys) (ds++es)
|_,_,_,_,.nil,h=>h
|_,_,_,_,.cons r t,h=>.cons r (Pd.app t h)
end
section
def fW (n:Nat) (acc:Addr) (Pv:Nat->List V->Hp->Prop):Nat->Nat->List V->Hp->Prop:=fun i m ys H1=>m=n - i/\i<=n/\ys.length<=i/\H1 acc=some (.lst ys)/\Pv i ys H1
def NV (n:Nat) (acc:Addr) (Pv:Nat->List V->Hp->Prop) (ys:List V) (i:Nat):VK:=fun y H3=>H3 acc=some (.lst ys)/\∃ m',m' < n - i/\fW n acc Pv (i+1) m' (ys++[y]) (upd H3 acc (.lst (ys++[y])))
def NU (n:Nat) (acc:Addr) (Pv:Nat->List V->Hp->Prop) (ys:List V) (i:Nat) (H3:Hp):Prop:=∃ m',m' < n - i/\fW n acc Pv (i+1) m' ys H3
theorem ZN {n:Nat}{acc:Addr}{Pv:Nat->List V->Hp->Prop}{ys:List V}{i:Nat}{y:V}{H3:Hp} (hlt:i < n) (hl:ys.length<=i) (ha:H3 acc=some (.lst ys)) (p:Pv (i+1) (ys++[y]) (upd H3 acc (.lst (ys++[y])))):NV n acc Pv ys i y H3:=
 ⟨ha,n - (i+1),by omega,rfl,hlt,by rw [length_append]; simp; exact hl,aE,p⟩
theorem ZM {n:Nat}{acc:Addr}{Pv:Nat->List V->Hp->Prop}{ys:List V}{i:Nat}{H3:Hp} (hlt:i < n) (hl:ys.length<=i) (ha:H3 acc=some (.lst ys)) (p:Pv (i+1) ys H3):NU n acc Pv ys i H3:=
 ⟨n - (i+1),by omega,rfl,hlt,by omega,ha,p⟩
section
variable {te:TE} {Q:VK} {H:Hp} {caps:St} {K:Frag}
theorem LX {c:TT}{a:Addr}{xs:List V} (hn:xs.length<=1000) (Pv:Addr->Nat->List V->Hp->Prop) (h0:∀ acc,H acc=none->Pv acc 0 [] (upd H acc (.lst []))) (hl':∀ acc i ys H1,H acc=none->i<=xs.length->Pv acc i ys H1->cN K H1 a xs)
  (hs:∀ acc i ys H1 x,H acc=none->xs[i]?=some x->ys.length<=i->H1 acc=some (.lst ys)->Pv acc i ys H1->c (some x::caps) H1 fun b H3=>if b=true then te (some x::caps) H3 (NV xs.length acc (Pv acc) ys i) else NU xs.length acc (Pv acc) ys i H3)
  (hd:∀ acc ys H1,H acc=none->H1 acc=some (.lst ys)->ys.length<=xs.length->Pv acc xs.length ys H1->Q (.ref acc) H1):mE te (some c) (iC 0) (List.replicate 1 none) caps Q (JX K a) H:=by
 intro acc hacc
 refine ⟨fW xs.length acc (Pv acc),⟨xs.length,by simp,zero_le _,le_refl _,aE,h0 acc hacc⟩,?_⟩
 rintro i m ys H1 ⟨rfl,hi,hl,ha,p⟩
 have q:=hl' acc i ys H1 hacc hi p
 refine ⟨ha,?_⟩
 by_cases hlt:i < xs.length
 ·refine .inr ⟨eI (by omega),⟨xs,xs[i],q,by simp [hlt]⟩,fun us x H' hu y=>?_⟩
  obtain ⟨e,y⟩:=y
  subst e
  obtain ⟨o,rfl⟩:=MX hu
  exact ⟨⟨[some x],rfl,rfl⟩,hs acc i ys _ x hacc (y xs q) hl ha p⟩
 ·have e:i=xs.length:=by omega
  subst e
  exact .inl ⟨⟨xs,q,le_refl _⟩,hd acc ys H1 hacc ha hl p⟩
end
section
variable {X:Cx} {tg:Expr}
end
section
variable {σ:St} {H:Hp} {D:fQ} {K:Frag}
end
section
variable {X:Cx}
end
section
variable {H:Hp} {Q:VK}
end
end
section
section
variable {net:List (ES cB)} {push:cB -> Option Rat} {tk:Nat -> Option Rat}
end
def but (ks:List Nat) (j:Nat):List Nat:=ks.filter fun k=>decide (k≠j)
theorem YW {H:Hp}{Q:VK}{l1 l3:Addr}{n:List cV} (h1:LQ aW H l1 (kn n)) (h3:LQ aW H l3 (kn n)) (k:Q (.bl false) H):AR (.ref l1) (.ref l3) H Q:=by
 obtain ⟨v1,a1,p1⟩:=h1
 obtain ⟨v3,a3,p3⟩:=h3
 refine MW (ds:=n.map yS) (es:=n.map yS) ⟨l1,_,rfl,a1,fB p1⟩ ⟨l3,_,rfl,a3,fB p3⟩ (le_trans (mD n) (by decide)) ?_
 rw [kM.same_eq _ _ (fB p1) (fB p1)]
 exact k
def n4:List cV:=[(sA,sB,Rat.divInt 1 1),(sB,sA,Rat.divInt 1 1)]
theorem VZ {H:Hp}{Q:VK}{z:Str}{lo hi:Option Int} (hz:z.length<=100000) (k:Q (.str (Txt.slice z lo hi)) H):Dq (.str z) lo hi H Q:=⟨z,rfl,by rw [sizeLine_eq]; omega,k⟩
section
variable {X:Cx} {scope:Scope} {caps:List (Str×Addr)} {N:List Str} {C:Addr} {s0:Shared} {H0:Hp} {ex:List Addr}
end
section
variable {te:TE} {Q:VK} {H:Hp} {caps:St} {K:Frag} {σ:St}
def Eu (K:Frag) (R:It->Hp->Prop):VK:=fun x H1=>∃ a,x=.ref a/\(∃ xs,fV K H1 a xs)/\R (SR K a) H1
theorem WV {tl:TE}{R:It->Hp->Prop} (k:tl σ H (Eu K R)):Fa K tl σ H R:=k
theorem mU {a:Addr}{xs:List V}{R:It->Hp->Prop} (h:fV K H a xs) (k:R (SR K a) H):Eu K R (.ref a) H:=⟨a,rfl,⟨xs,h⟩,k⟩
theorem xO {a:Addr}{xs:List V} (hn:xs.length<=1000) (Pv:Addr->Nat->List V->Hp->Prop) (h0:∀ acc,H acc=none->Pv acc 0 [] (upd H acc (.lst []))) (hl':∀ acc i ys H1,H acc=none->i<=xs.length->Pv acc i ys H1->fV K H1 a xs)
  (hs:∀ acc i ys H1 x,H acc=none->xs[i]?=some x->ys.length=i->H1 acc=some (.lst ys)->Pv acc i ys H1->te (some x::caps) H1 (rG xs.length acc (Pv acc) ys i))
  (hd:∀ acc ys H1,H acc=none->H1 acc=some (.lst ys)->ys.length=xs.length->Pv acc xs.length ys H1->Q (.ref acc) H1):mE te none (iC 0) (List.replicate 1 none) caps Q (SR K a) H:=by
 intro acc hacc
 refine ⟨cW xs.length acc (Pv acc),⟨xs.length,by simp,zero_le _,rfl,aE,h0 acc hacc⟩,?_⟩
 rintro i m ys H1 ⟨rfl,hi,hl,ha,p⟩
 have q:=hl' acc i ys H1 hacc hi p
 refine ⟨ha,?_⟩
 by_cases hlt:i < xs.length
 ·refine .inr ⟨eI (by omega),⟨xs,xs[i],q,by simp [hlt]⟩,fun us x H' hu y=>?_⟩
  obtain ⟨e,y⟩:=y
  subst e
  obtain ⟨o,rfl⟩:=MX hu
  exact ⟨⟨[some x],rfl,rfl⟩,hs acc i ys _ x hacc (y xs q) hl ha p⟩
 ·have e:i=xs.length:=by omega
  subst e
  exact .inl ⟨⟨xs,q,le_refl _⟩,hd acc ys H1 hacc ha hl p⟩
end
theorem WB {H:Hp}{R:Hp->Prop}{p:Addr}{xs:List V}{j:Nat}{v:V} (h:H p=some (.lst xs)) (hj:j < xs.length) (k:R (upd H p (.lst (xs.set j v)))):UC (.ref p) (.int (j:Int)) v H R:=⟨p,xs,j,j,rfl,rfl,h,by
 unfold OX
 simp
 omega,k⟩
theorem jC {X:Cx}{scope:Scope}{caps:List (Str×Addr)}{N:List Str}{C:Addr}{s0:Shared}{H0:Hp}{ex:List Addr}:jJ (bS X scope caps N C s0 H0 ex) (binaryOp .Add) (tW X.K):=aV
def n5:List cV:=[(sA,sB,Rat.divInt 1 1)]
end
section
theorem RZ:∀ i,i < 1000->(Str.ofString (toString ((i:Nat):Int))).length<=10:=by decide +kernel
section
variable {X:Cx}
def TD (te:TE):TE:=fun σ H Q=>te σ H fun x H1=>∃ i:Nat,x=.int i/\i < 1000/\∀ z:Str,z.length<=10->Q (.str z) H1
theorem IQ {i:Nat} (h:i < 1000):((i:Nat):Int).natAbs.log2 < 1920:=by
 rw [Int.natAbs_natCast]
 by_cases e:i=0
 ·subst e; decide
 ·have h1:i.log2 < 10:=(Nat.log2_lt e).mpr (by omega)
  omega
theorem DP {e:Expr}{te:TE}{pos:Pos} (he:PE X e te):PE X (.FormattedValue e (-1) none pos) (TD te):=by
 intro pins s σ H Q I h
 refine wpAny_FormattedValue_plain (cJ (he pins s σ H _ I h) fun v s1 ⟨x,H1,I1,r1,i,e1,hi,q⟩=>?_)
 subst e1
 obtain ⟨t,rfl⟩:=r1
 exact wpAny_formatField_int (IQ hi) ⟨.str _,H1,I1.tok _,⟨_,rfl⟩,q _ (RZ i hi)⟩
def VJ:List TE->TE
|[],_,H,Q=>∀ z:Str,Q (.str z) H
|t::r,σ,H,Q=>t σ H fun x H1=>∃ y:Str,x=.str y/\y.length<=1000/\VJ r σ H1 Q
inductive OY (X:Cx):List Expr->List TE->Prop
|nil:OY X [] []
|cons {v:Expr} {vs:List Expr} {t:TE} {ts:List TE} (h:PE X v t) (r:OY X vs ts):OY X (v::vs) (t::ts)
theorem uA:OY X [] []:=.nil
theorem eL {v:Expr}{vs:List Expr}{t:TE}{ts:List TE} (h:PE X v t) (r:OY X vs ts):OY X (v::vs) (t::ts):=.cons h r
theorem BO {pins:List (Addr×Obj)}{σ:St}{Q:VK}:∀ {vs:List Expr}{ts:List TE} (_:OY X vs ts) (n:Nat) (acc:Str) (s:Shared) (H:Hp),acc.length<=1000 * n->ts.length+n<=100->bA X pins σ H s->VJ ts σ H Q ->
  Joins (model X.prog X.w) X.A X.xe (evalEach vs X.env) acc (fun out s₁=>out.length<=sizeLine/\EP X pins σ Q (.str out s₁.toks) { s₁ with toks:=s₁.toks+1 }) s
|_,_,.nil,n,acc,s,H,ha,hn,I,h=>⟨by rw [sizeLine_eq]; omega,.str acc,H,I.tok _,⟨_,rfl⟩,h acc⟩
|v::vs,t::ts,.cons hp r,n,acc,s,H,ha,hn,I,h=>by
  show wpAny _ _ (eval v X.env) _ _ s
  rw [length_cons] at hn
  refine cJ (hp pins s σ H _ I h) fun u s1 ⟨x,H1,I1,r1,y,e1,hy,q⟩=>?_
  subst e1
  obtain ⟨tk,rfl⟩:=r1
  have hl:=BL acc y
  refine ⟨y,tk,rfl,by rw [hl,sizeLine_eq]; omega,BO r (n+1) (acc++y) s1 H1 (by omega) (by omega) I1 q⟩
theorem DO {v1 v2:Expr}{eK:List Expr}{ts:List TE}{pos:Pos} (h:OY X (v1::v2::eK) ts) (hn:ts.length<=50):PE X (.JoinedStr (v1::v2::eK) pos) (VJ ts):=by
 intro pins s σ H Q I hq
 exact wpAny_JoinedStr (BO h 0 Str.empty s H (le_refl _) (by omega) I hq)
theorem Cp {σ:St}{H:Hp}{Q:VK} (k:∀ z:Str,Q (.str z) H):VJ [] σ H Q:=k
def Iz (r:List TE) (σ:St) (Q:VK):VK:=fun x H1=>∃ y:Str,x=.str y/\y.length<=1000/\VJ r σ H1 Q
theorem Hf {t:TE}{r:List TE}{σ:St}{H:Hp}{Q:VK} (k:t σ H (Iz r σ Q)):VJ (t::r) σ H Q:=k
theorem Co {r:List TE}{σ:St}{H:Hp}{Q:VK}{y:Str} (hy:y.length<=1000) (k:VJ r σ H Q):Iz r σ Q (.str y) H:=⟨y,rfl,hy,k⟩
def Jd (Q:VK):VK:=fun x H1=>∃ i:Nat,x=.int i/\i < 1000/\∀ z:Str,z.length<=10->Q (.str z) H1
theorem Cu {te:TE}{σ:St}{H:Hp}{Q:VK} (k:te σ H (Jd Q)):TD te σ H Q:=k
theorem AN {i:Nat}{H:Hp}{Q:VK} (hi:i < 1000) (k:∀ z:Str,z.length<=10->Q (.str z) H):Jd Q (.int i) H:=⟨i,rfl,hi,k⟩
end
theorem xU {X:Cx}{scope:Scope}{caps:List (Str×Addr)}{N:List Str}{C:Addr}{s0:Shared}{H0:Hp}{ex:List Addr}{o e:Expr}{es:List Expr}{to:TE}{t:TA}{name:Str}{apos cpos:Pos}{T id:String}{r:V->List V->Hp->VK->Prop}
  (pa:PlainAttrs T) (slot:Slot T name id) (hty:typeOf (.builtin id)=pure (.type "method_descriptor")) (hm:OS (bS X scope caps N C s0 H0 ex) id r) (ho:PE (bS X scope caps N C s0 H0 ex) o to) (ha:PA (bS X scope caps N C s0 H0 ex) (e::es) t)
  (hbase:attributeBase o name (bS X scope caps N C s0 H0 ex).env (eval o (bS X scope caps N C s0 H0 ex).env)=eval o (bS X scope caps N C s0 H0 ex).env:=by rfl)
  (hfew:((backTo cpos (starEach (e::es) (bS X scope caps N C s0 H0 ex).env)).all (fun x=>!x.1)&&(backToKw cpos (keywordEach [] (bS X scope caps N C s0 H0 ex).env)).all (fun x=>x.1.isSome)
   && decide ((e::es).length+([]:List Keyword).length+(if ([]:List Keyword).isEmpty then 0 else 1) < 30))=true:=by rfl)
  (hline:(apos.endLine==cpos.line)=true:=by rfl) (hs:starEach (e::es) (bS X scope caps N C s0 H0 ex).env=(false,eval e (bS X scope caps N C s0 H0 ex).env)::starEach es (bS X scope caps N C s0 H0 ex).env:=by rfl)
  (hplain:(backTo cpos (starEach es (bS X scope caps N C s0 H0 ex).env)).any (·.1)=false:=by rfl) :
  PE (bS X scope caps N C s0 H0 ex) (.Call (.Attribute o name apos) (e::es) [] cpos) (Gx X.K T r to t):=cP pa slot hty hm ho ha hbase hfew hline hs hplain
theorem NT.sm {K:Frag}{H H':Hp}{x:V} (h:NT K H x) (s:aI H H'):NT K H' x:=let ⟨t,ty,e⟩:=h; ⟨t,iL.sm ty s,e⟩
theorem dM.sm {K:Frag}{H H':Hp}{x:V}{b:Bool} (h:dM K H x b) (s:aI H H'):dM K H' x b:=by
 cases h with
|nt h=>exact .nt (h.sm s)
|len h n=>exact .len (s _ _ h) n
|one h hu=>exact .one (s _ _ h) (hu.sm s)
|two h hu hv=>exact .two (s _ _ h) (hu.sm s) (hv.sm s)
|same h hu=>exact .same (s _ _ h) (hu.sm s)
|time h hu hv hn ht=>exact .time (s _ _ h) (hu.sm s) (hv.sm s) hn fun H2 s2=>ht H2 (s.trans s2)
|run h hu hv hn ht hf sa sc=>exact .run (s _ _ h) (hu.sm s) (hv.sm s) hn (s _ _ ht) hf sa sc
def NL (K:Frag) (H:Hp) (x:V):Prop:=∃ t,iL K H x t/\kitOne K t (.type "list")=some false
section
variable {σ:St} {H:Hp} {D:fQ} {K:Frag}
end
end
section
inductive Jh where
|after (s u:Str) (q:Rat)|within (s u:Str) (q:Rat)|wit (s u:Str)|frm (s:Str) (q:Rat)
def cL (s:Str):Prop:=postB s=true/\s.length<=100
theorem cL.q {K:Frag}{H:Hp}{s:Str} (h:cL s):jI K H (.str s) true:=.inl ⟨s,rfl,by have:=h.2; omega,h.1.symm⟩
def Ie (q:Rat):Prop:=Sm 8000 q.num/\Sm 8000 (q.den:Int)
def Jh.ok:Jh->Prop
|.after s u q=>cL s/\cL u/\s≠u/\Ie q
|.within s u q=>cL s/\cL u/\s≠u/\Ie q
|.wit s u=>cL s/\cL u/\s≠u
|.frm s q=>cL s/\0<=q.num/\Ie q
theorem EE (q:Rat):Fd (.int q.num) (.int q.den)=true:=by
 show (decide (1<=(q.den:Int))&&decide (Int.gcd q.num q.den=1))=true
 have h1:1<=(q.den:Int):=by have:=q.den_pos; omega
 have h2:Int.gcd q.num q.den=1:=q.reduced
 rw [decide_eq_true h1,decide_eq_true h2]
 rfl
theorem qX.den {H:Hp}{v:V}{q:Rat} (h:qX H v q):rR H (ZV q) v:=by
 obtain ⟨p,rfl,h⟩:=h
 exact Fk h
theorem uS {β:Type}{R:Hp->V->β->Prop}{H:Hp}{f:β->Dt} (hR:∀ v b,R H v b->rR H (f b) v):∀ {ds:List β}{vs:List V},Paired (R H) vs ds->kM H (ds.map f) vs
|[],_,.nil=>rfl
|d::ds,_,.cons h t=>⟨_,_,rfl,hR _ _ h,uS hR t⟩
section
variable {H:Hp} {Q:VK} {l1 l2:Addr}
end
def EO (i:Nat):Str:=([("":Str),"ab","abc.d","x.y.z"][i]?).getD ""
def EN (i:Nat):Str:=([("":Str),"q",".r","qqqq"][i]?).getD ""
theorem RH {a b c:Int} (h1:0<=a) (h2:0<=b) (h3:0<=c):0<=(a * 2147483587+b) * 2147483543+c:=Int.add_nonneg (Int.mul_nonneg (Int.add_nonneg (Int.mul_nonneg h1 (by decide)) h2) (by decide)) h3
theorem Em {a c:Int} (h:0<=a):0<=a * 1000000000000000000+c % 1000000000000000000:=Int.add_nonneg (Int.mul_nonneg h (by decide)) (Int.emod_nonneg c (by decide))
end
section
def Du:R2:=fun x y H Q=>∃ (z:Str) (n:Int),x=.str z/\y=.int n/\0<=n/\n<=1000/\z.length<=1000/\∀ u:Str,u.cps.toList=(List.replicate n.toNat z.cps.toList).flatten->Q (.str u) H
theorem BS:∀ (l:List (Array Nat)) (a:Array Nat),(l.foldl (·++·) a).toList=a.toList++(l.map (·.toList)).flatten
|[],a=>by simp
|x::l,a=>by
  rw [List.foldl_cons,BS l (a++x)]
  simp
theorem QU {X:Cx}:jJ X (binaryOp .Mult) Du:=by
 intro pins s σ H x y v u Q I rx ry h
 obtain ⟨z,n,rfl,rfl,h0,h1,hz,q⟩:=h
 obtain ⟨t,rfl⟩:=rx
 obtain ⟨t',rfl⟩:=ry
 have hfit:z.length * n.toNat<=1000000:=le_trans (Nat.mul_le_mul hz (show n.toNat<=1000 by omega)) (by decide)
 refine PySem.P.mul_str ?_ (fun h2 _=>?_) (fun _ _=>?_) ?_
 ·rw [decide_eq_false (by omega),decide_eq_false (by omega)]
  rfl
 ·intro z2
  have e1:(2 ^ 63 - 1) / n ≥ (2 ^ 63 - 1) / 1000:=Int.le_ediv_of_mul_le (by omega) (by
   have:(2 ^ 63 - 1) / 1000 * n<=(2 ^ 63 - 1) / 1000 * 1000:=Int.mul_le_mul_of_nonneg_left h1 (by decide)
   exact Int.le_trans this (by decide))
  have:((2:Int) ^ 63 - 1) / 1000 > 1000:=by decide
  omega
 ·unfold Builtin.Str.tooLong
  rw [decide_eq_false_iff_not,sizeLine_eq]
  omega
 ·split
  ·refine ⟨by decide,.str Str.empty,H,I.tok _,⟨_,rfl⟩,q _ ?_⟩
   have:n.toNat=0:=by omega
   rw [this]
   rfl
  ·split
   ·rename_i h3 h4
    refine ⟨.str z,H,I,⟨_,rfl⟩,q _ ?_⟩
    rw [Bool.or_eq_true] at h4
    rcases h4 with h4|h4
    ·have:n=1:=by simpa using h4
     subst this
     simp
    ·have hz0:z.cps.toList=[]:=by
      have:z.length=0:=by simpa using h4
      rw [cA] at this
      exact List.eq_nil_of_length_eq_zero this
     rw [hz0]
     simp
   ·have e:(⟨(List.replicate n.toNat z.cps).foldl (·++·) #[]⟩:Str).cps.toList=(List.replicate n.toNat z.cps.toList).flatten:=by
     rw [BS]
     simp
    refine ⟨?_,.str _,H,I.tok _,⟨_,rfl⟩,q _ e⟩
    rw [cA,e,List.length_flatten,List.map_replicate,List.sum_replicate_nat,← cA,sizeLine_eq]
    have:=Nat.mul_comm n.toNat z.length
    omega
theorem JH (z:Str):(Builtin.Str.occurrences z ⟨#[46]⟩ 0 z.length (z.length+1)).length+1=(Txt.split z ⟨#[46]⟩).length:=by
 have hfree:=StrLaws.split_free z 46
 unfold Txt.split
 split
 ·rename_i h
  rw [Bool.or_eq_true,decide_eq_true_iff,decide_eq_true_iff] at h
  have h0:z.length=0:=by
   rcases h with h|h
   ·have:(⟨#[46]⟩:Str).length=1:=rfl
    omega
   ·exfalso
    have e1:Builtin.Str.strKind ⟨#[46]⟩=1:=by decide +kernel
    rw [e1] at h
    unfold Builtin.Str.strKind at h
    split at h
    ·omega
    ·split at h <;> omega
  have hz:z=⟨#[]⟩:=by
   obtain ⟨c⟩:=z
   have:c.size=0:=h0
   rw [Array.size_eq_zero_iff.mp this]
  subst hz
  decide +kernel
 ·split
  ·rename_i h
   rw [List.isEmpty_iff.mp h]
   rfl
  ·rw [length_partsBetween]
def Ea:V->List V->Hp->VK->Prop:=fun x vs H Q=>∃ z:Str,x=.str z/\vs=[.str ⟨#[46]⟩]/\∀ n:Nat,n+1=(Txt.split z ⟨#[46]⟩).length->Q (.int (n:Int)) H
theorem GG {X:Cx}:OS X "str.count" Ea:=by
 intro pins s σ H x vs v us Q I rx rv h
 obtain ⟨z,rfl,rfl,q⟩:=h
 obtain ⟨t,rfl⟩:=rx
 obtain ⟨u,rfl,ru⟩:=rv.one
 obtain ⟨t',rfl⟩:=ru
 refine call_gives F.slot_str_count (typeIs_str _ _ _) F.entry_str_count (F.args_str_count_2 _ _) (gives_str_count z ⟨#[46]⟩ t t') ?_
 exact ⟨.int _,H,I.tok _,⟨_,rfl⟩,q _ (JH z)⟩
def qW (z:Str):Prop:=∀ c∈z.cps.toList,97<=c/\c < 123
theorem MN {z:Str} (h1:1<=z.length) (h2:z.length<=8) (h:qW z):cE z=true:=by
 unfold cE
 rw [decide_eq_true h1,decide_eq_true h2,Bool.true_and,Bool.true_and,all_eq_true]
 intro c hc
 rw [decide_eq_true (h c hc).1,decide_eq_true (h c hc).2]
 rfl
theorem qW.app {x y:Str} (h:qW x) (h':qW y):qW (x++y):=fun c hc=>by
 have e:(x++y).cps.toList=x.cps.toList++y.cps.toList:=by
  show (x.cps++y.cps).toList=_
  simp
 rw [e] at hc
 exact (mem_append.mp hc).elim (h c) (h' c)
theorem qW.one {c:Nat} (h1:97<=c) (h2:c < 123):qW ⟨#[c]⟩:=fun x hx=>by
 have:x=c:=by simpa using hx
 subst this
 exact ⟨h1,h2⟩
theorem sl4:∀ j:Nat,j < 4->(Txt.slice Av none (some (j:Int))).length=j/\qW (Txt.slice Av none (some (j:Int))):=by
 intro j hj
 have:j=0∨j=1∨j=2∨j=3:=by omega
 unfold qW
 rcases this with rfl|rfl|rfl|rfl <;> decide +kernel
theorem PP {u z:Str}{n:Nat} (e:u.cps.toList=(List.replicate n z.cps.toList).flatten) (hz:z.length=1) (h:qW z):u.length=n/\qW u:=by
 constructor
 ·rw [cA,e,List.length_flatten,List.map_replicate,List.sum_replicate_nat,← cA,hz,Nat.mul_one]
 ·intro c hc
  rw [e] at hc
  obtain ⟨l,hl,hc⟩:=List.mem_flatten.mp hc
  rw [List.eq_of_mem_replicate hl] at hc
  exact h c hc
inductive mG where
|row|star|ring
def mG.nm:mG->Str
|.row=>"row"
|.star=>"star"
|.ring=>"ring"
inductive fI where
|run (a b:Str) (t:Rat)|path (k:mG) (t:Rat) (ps:List Str)
def gZ (H:Hp) (v:V):fI->Prop
|.run a b t=>∃ p u,v=.ref p/\H p=some (.tup [.str "run",.str a,.str b,u])/\qX H u t
|.path k t ps=>∃ p u q,v=.ref p/\H p=some (.tup [.str k.nm,u,.ref q])/\qX H u t/\H q=some (.tup (ps.map V.str))
theorem gZ.tk {H H':Hp}{v:V}{r:fI} (h:gZ H v r) (t:TK H H'):gZ H' v r:=by
 cases r with
|run a b q=>obtain ⟨p,u,e,h,f⟩:=h; exact ⟨p,u,e,t _ _ h,f.tk t⟩
|path k q ps=>obtain ⟨p,u,z,e,h,f,g⟩:=h; exact ⟨p,u,z,e,t _ _ h,f.tk t,t _ _ g⟩
def dH (t:Rat):List Str->List cV
|a::b::r=>(a,b,t)::dH t (b::r)
|_=>[]
def fI.runs:fI->List cV
|.run a b t=>[(a,b,t)]
|.path .row t ps=>dH t ps
|.path .star t ps=>ps.tail.map fun x=>(ps.headD "",x,t)
|.path .ring t ps=>dH t (ps++ps.take 1)
def iM (q:Rat):Prop:=0 < q/\q.num<=999999999999/\q.den<=999999999999
def IJ:fI->Prop
|.run a b t=>cL a/\cL b/\iM t
|.path k t ps=>(∀ s∈ps,cL s)/\iM t/\2<=ps.length/\ps.length<=30/\(k=.ring->3<=ps.length)
def fI.kind:fI->Str
|.run _ _ _=>"run"
|.path k _ _=>k.nm
theorem gZ.head {H:Hp}{v:V}{r:fI} (h:gZ H v r):∃ p xs,v=.ref p/\H p=some (.tup (.str r.kind::xs)):=by
 cases r with
|run a b t=>obtain ⟨p,u,e,h,_⟩:=h; exact ⟨p,_,e,h⟩
|path k t ps=>obtain ⟨p,u,q,e,h,_⟩:=h; exact ⟨p,_,e,h⟩
theorem fI.no_piece (r:fI):r.kind≠"piece":=by
 cases r with
|run a b t=>exact show ("run":Str)≠"piece" by decide +kernel
|path k t ps =>
  show k.nm≠"piece"
  cases k <;> decide +kernel
theorem fF (t:Rat):∀ ps:List Str,(dH t ps).length=ps.length - 1
|[]=>rfl
|[_]=>rfl
|a::b::r=>by
  show (dH t (b::r)).length+1=_
  rw [fF t (b::r)]
  simp
theorem vA (t:Rat) (x y:Str):∀ ps:List Str,dH t (ps++[x,y])=dH t (ps++[x])++[(x,y,t)]
|[]=>rfl
|[a]=>rfl
|a::b::r=>by
  show (a,b,t)::dH t ((b::r)++[x,y])=(a,b,t)::(dH t ((b::r)++[x])++_)
  rw [vA t x y (b::r)]
theorem pN (t:Rat):∀ (ps:List Str) (i:Nat) (a b:Str),ps[i]?=some a->ps[i+1]?=some b->(dH t ps)[i]?=some (a,b,t)
|[],_,_,_,h,_=>nomatch h
|[_],0,_,_,_,h=>nomatch h
|[_],i+1,_,_,h,_=>nomatch h
|x::y::r,0,a,b,h,h'=>by cases h; cases h'; rfl
|x::y::r,i+1,a,b,h,h'=>pN t (y::r) i a b h h'
section
open Sem (wp)
open AutoSeq1 (wpAny_loadPart')
variable {prog:Program} {w:World} {A:Around} {E:Value -> Shared -> Prop} {s:Shared}
theorem jD {it t:Addr}{i:Nat}{its:Array Value}{x:Value}{Q:Value->Shared->Prop} (hit:s.heap.IsTupleIter it t i) (ht:s.heap.IsTuple t its) (hx:its[i]?=some x)
  (q:∀ h',h'.IsTupleIter it t (i+1)->Heap.SameBut it s.heap h'->Q x { s with heap:=h' }):wpAny (model prog w) A (Builtin.SmallTypes.nextOf (.ref it)) Q E s:=by
 obtain ⟨o,ho,hc,hd⟩:=id hit
 obtain ⟨ol,hol,_,nl,hdl⟩:=ht
 unfold Builtin.SmallTypes.nextOf
 refine wpAny_bind (wpAny_callSpecial?_slot (name:=Str.ofString "__next__") hit.typeIs F.slot_tuple_iterator_next (wpAny_call_entry F.slot_tuple_iterator_next hit.typeIs F.entry_tuple_iterator_next ?_ (F.args_tuple_iterator_next_1 _)))
 show wpAny _ _ (field (.ref it) 0 >>= _) _ _ s
 refine wpAny_bind (wpAny_field ho hd (x:=.ref t) rfl ?_)
 show wpAny _ _ (if (Value.ref t==Value.none)=true then _ else _) _ _ s
 rw [if_neg (show ¬ ((Value.ref t==Value.none)=true) from Bool.false_ne_true)]
 show wpAny _ _ (field (.ref it) 1 >>= _) _ _ s
 refine wpAny_bind (wpAny_field ho hd (x:=.int i 0) rfl ?_)
 show wpAny _ _ (seqItems? (.ref t) >>= _) _ _ s
 refine wpAny_bind (wpAny_seqItems hol hdl ?_)
 simp only [Int.toNat_natCast,hx]
 refine wpAny_bind (wpAny_setField ho hd (by simp) (wpAny_pure ⟨x,rfl,wpAny_pure (q _ ?_ (Heap.SameBut.update ..))⟩))
 exact ⟨_,get?_update_self _ ho (Obj.isFreed_of_fields (Obj.data_mapFields hd _)),(Obj.cls_mapFields ..).trans hc,by
  rw [Obj.data_mapFields hd]
  simp [rawInt]⟩
theorem wN {it t:Addr}{i:Nat}{its:Array Value}{Q:Value->Shared->Prop} (hh:A.handled=none) (hit:s.heap.IsTupleIter it t i) (ht:s.heap.IsTuple t its) (hx:its[i]?=none)
  (q:∀ h' e,Heap.ExtBut it s.heap h'->(∃ o,h'.get? e=some o/\o.cls=.type "StopIteration")->E (.ref e) { s with heap:=h' }):wpAny (model prog w) A (Builtin.SmallTypes.nextOf (.ref it)) Q E s:=by
 obtain ⟨o,ho,hc,hd⟩:=id hit
 obtain ⟨ol,hol,_,nl,hdl⟩:=ht
 unfold Builtin.SmallTypes.nextOf
 refine wpAny_bind (wpAny_callSpecial?_slot (name:=Str.ofString "__next__") hit.typeIs F.slot_tuple_iterator_next (wpAny_call_entry F.slot_tuple_iterator_next hit.typeIs F.entry_tuple_iterator_next ?_ (F.args_tuple_iterator_next_1 _)))
 show wpAny _ _ (field (.ref it) 0 >>= _) _ _ s
 refine wpAny_bind (wpAny_field ho hd (x:=.ref t) rfl ?_)
 show wpAny _ _ (if (Value.ref t==Value.none)=true then _ else _) _ _ s
 rw [if_neg (show ¬ ((Value.ref t==Value.none)=true) from Bool.false_ne_true)]
 show wpAny _ _ (field (.ref it) 1 >>= _) _ _ s
 refine wpAny_bind (wpAny_field ho hd (x:=.int i 0) rfl ?_)
 show wpAny _ _ (seqItems? (.ref t) >>= _) _ _ s
 refine wpAny_bind (wpAny_seqItems hol hdl ?_)
 simp only [Int.toNat_natCast,hx]
 refine wpAny_bind (wpAny_rule (wpAny_bind (wpAny_setField ho hd (by simp) ?_)))
 show wpAny _ _ (newExc (.type "StopIteration") [] >>= _) _ _ _
 refine wpAny_bind ?_
 simp only [newExc,newTuple]
 refine wpAny_bind (wpAny_newObj_type ?_ (by size_fits))
 refine wpAny_bind (m:=firstArgMember _ _) (wpAny_of_eq (a:=Value.none) (by first|rfl|(simp only [firstArgMember]; rfl)) ?_)
 refine wpAny_newObj_type ?_ (by size_fits)
 simp only [raiseNew]
 refine wpAny_bind (wpAny_handled ?_)
 first|rw [show A.in1.handled=none from hh]|rw [hh]
 refine wpAny_bind (wpAny_pure (wpAny_throw ?_))
 exact q _ _ (((Heap.SameBut.update ..).extBut.push _).push _) ⟨_,get?_push_size _ rfl,rfl⟩
theorem wT (hh:A.handled=none) (it t:Addr) (hne:t≠it) (its:Array Value):Draws prog w A it [it,t] its.size (fun i v=>its[i]?=some v) (fun i h=>h.IsTupleIter it t i/\h.IsTuple t its) where
 live:=fun _ _ ⟨⟨o,e,_⟩,_⟩=>⟨o,e⟩
 frame:=fun _ _ _ st k=>⟨st.1.at fun o e=>k it (by simp) o e,st.2.at fun o e=>k t (by simp) o e⟩
 item:=fun i s Q E hi st q=>jD st.1 st.2 (x:=its[i]) (by simp [hi]) fun h' a b=>q _ h' s.toks (by simp [hi]) ⟨a,st.2.extBut b.extBut hne⟩ b
 done:=fun s Q E st q=>wN hh st.1 st.2 (by simp) q
theorem BI (l:Addr) (its:Array Value) (n:Nat) (dct:Option Addr) (sl:Array (Option Value)) :
  Meets (Builtin.«enumerate.__new__» ⟨[.type "enumerate",.ref l],[]⟩) (fun _ R s=>s.heap.get? l=some { cls:=.type "tuple",dict:=dct,data:=.seq its n,slots:=sl } /\
   R (.ok (.ret (.ref (s.heap.push { cls:=.type "tuple_iterator",data:=.fields #[.ref l,.int 0 0] }).objs.size)))
    { s with heap:=(s.heap.push { cls:=.type "tuple_iterator",data:=.fields #[.ref l,.int 0 0] }).push { cls:=.type "enumerate",data:=.fields #[.none,.bool false,.ref s.heap.objs.size,rawInt 0,.none,.none] } }) :=
 .of_wp fun prog w A R s h=>by
  obtain ⟨hp,g,d,tk,os⟩:=s
  obtain ⟨hl,h⟩:=h
  have hsub:=sub_enumerate
  have hL:Heap.IsTuple (Shared.heap ⟨hp,g,d,tk,os⟩) l its:=⟨_,hl,rfl,n,rfl⟩
  wp_walk using wpAny_loadPart' hl
  refine wpAny_stack_any fun st=>wpAny_pure ?_
  split
  ·rename_i c _ _ _ _ _
   cases (c==Value.type "enumerate") <;> (wp_walk using wpAny_loadPart' hl,wpAny_pyIter_tuple hL; exact ⟨_,rfl,h⟩)
  ·wp_walk using wpAny_loadPart' hl,wpAny_pyIter_tuple hL
   exact ⟨_,rfl,h⟩
theorem EK {l:Addr}{its:Array Value}{Q:Value->Shared->Prop} (hL:s.heap.IsTuple l its)
  (q:∀ h',IsEnum h' (s.heap.objs.size+1) s.heap.objs.size 0 .none->h'.IsTupleIter s.heap.objs.size l 0->(∀ b o,s.heap.get? b=some o->h'.get? b=some o)->Q (.ref (s.heap.objs.size+1)) { s with heap:=h' }) :
  wpAny (model prog w) A (call (.type "enumerate") [.ref l]) Q E s:=by
 obtain ⟨⟨c,dct,dt,sl⟩,hl,hc,n,hd⟩:=hL
 cases (hc:c=.type "tuple")
 cases (hd:dt=.seq its n)
 refine callType_new F.called_enumerate (by decide) (F.typeCall_enumerate_1 _) (F.newCall_enumerate_1 _) (fun obj=>F.args_object_init_2 obj _) F.entry_enumerate_new (BI l its n dct sl) ⟨hl,?_⟩
 have hz:(s.heap.push { cls:=.type "tuple_iterator",data:=.fields #[.ref l,.int 0 0] }).objs.size=s.heap.objs.size+1:=size_push ..
 show _/\_
 rw [hz]
 have he:IsEnum ((s.heap.push { cls:=.type "tuple_iterator",data:=.fields #[.ref l,.int 0 0] }).push { cls:=.type "enumerate",data:=.fields #[.none,.bool false,.ref s.heap.objs.size,rawInt 0,.none,.none] }) (s.heap.objs.size+1) s.heap.objs.size 0 .none:=by
  have:=get?_push_size (s.heap.push { cls:=.type "tuple_iterator",data:=.fields #[.ref l,.int 0 0] }) (o:={ cls:=.type "enumerate",data:=.fields #[.none,.bool false,.ref s.heap.objs.size,rawInt 0,.none,.none] }) rfl
  rw [hz] at this
  exact this
 exact ⟨⟨_,he,rfl⟩,q _ he ⟨_,get?_push_of_some _ (get?_push_size _ rfl),rfl,rfl⟩ fun b o x=>get?_push_of_some _ (get?_push_of_some _ x)⟩
end
def JR (K:Frag) (a:Addr):It:=
 ⟨fun i H=>∃ xs x,fV K H a xs/\xs[i]?=some x,fun i H v H'=>∃ T x,v=.ref T/\H T=none/\H'=upd H T (.tup [.int i,x])/\∀ xs,fV K H a xs->xs[i]?=some x,fun i H=>∃ xs,fV K H a xs/\xs.length=i⟩
theorem CP {P:Program}{w:World}{K:Frag}{elts:List Expr}{k1:Nat}{tpos:Pos} (a e it:Addr) (hei:e≠it) :
  ER P w K (.Tuple elts k1 tpos) (JR K a) [e,it] e (fun i h=>(∃ old,IsEnum h e it i old)/\h.IsTupleIter it a i) where
 mem:=by simp
 obj:=fun i h st b hb=>by
  obtain ⟨⟨old,he⟩,o,e1,c,d⟩:=st
  rcases mem_cons.mp hb with rfl|hb
  ·exact ⟨_,he,fun v z=>nomatch z⟩
  ·have hb:b=it:=by simpa using hb
   subst hb
   exact ⟨o,e1,fun v z=>by rw [d] at z; cases z⟩
 keep:=fun i h h' ⟨⟨old,he⟩,st⟩ k=>⟨⟨old,k e (by simp) _ he⟩,st.at fun o q=>k it (by simp) o q⟩
 item:=by
  intro X hP hw hK hc i pins s σ H E I hf st hg
  subst hP hw hK
  obtain ⟨xs,x,hq,hx⟩:=hg
  obtain ⟨its,rv,p,hz⟩:=I.tuple hq
  obtain ⟨u,hu,ru⟩:=rv.get hx
  obtain ⟨⟨old,he⟩,hit⟩:=st
  obtain ⟨f0,f1,f2,f3,f4,f5⟩:=hf e (by simp)
  obtain ⟨g0,g1,g2,g3,g4,g5⟩:=hf it (by simp)
  have hai:a≠it:=fun z=>by
   obtain ⟨o1,q1,c1,_⟩:=id hit
   obtain ⟨o2,q2,c2,_⟩:=id p
   rw [z,q1] at q2
   cases q2
   rw [c1] at c2
   injection c2 with c2
   exact absurd c2 (by decide)
  have hea:e≠a:=fun z=>by
   obtain ⟨o2,q2,c2,_⟩:=id p
   rw [← z] at q2
   have he':s.heap.get? e=some _:=he
   rw [he'] at q2
   cases q2
   injection c2 with c2
   exact absurd c2 (by decide)
  refine wpAny_pyNext_enum_itemD (wT (show X.A.in1.handled=none from I.ok.hd hc) it a hai its.toArray) he ⟨hit,p⟩ (by have:=(List.getElem?_eq_some_iff.mp hu).1; simpa using this) hei (by simp [hei,hea]) fun u' h' tk hu' ho hit' hT hsz hk=>?_
  have:u=u':=by simpa [hu] using hu'
  subst this
  replace hit':=hit'.1
  refine ⟨_,rfl,wpAny_letOwnedTupleGo_enum (s:={ s with heap:=h',toks:=tk+1 }) ho fun h2 he2 sb=>?_⟩
  have hTn:H s.heap.objs.size=none:=I.hok.fresh (le_refl _)
  have hTe:s.heap.objs.size≠e:=ne_of_gt (lt_size he)
  have hTi:s.heap.objs.size≠it:=by obtain ⟨_,q,_⟩:=hit; exact ne_of_gt (lt_size q)
  have k2:∀ b o,b≠e->b≠it->s.heap.get? b=some o->h2.get? b=some o:=fun b o n1 n2 q=>(sb.2 b n1).trans (hk b o n1 n2 q)
  -- first the iterators turn,then the tuple is tracked
  have I1:bA X pins σ H { s with heap:=h2,toks:=tk+1 }:=by
   refine I.step (g':=s.gens) (d':=s.drawn) (t':=tk+1) (ch:=[e,it]) (fun b hb=>?_) (fun b o _ _ hb q _=>k2 b o (fun z=>hb (by simp [z])) (fun z=>hb (by simp [z])) q) (fun b o _ _ hb q _=>⟨o.slots,k2 b o (fun z=>hb (by simp [z])) (fun z=>hb (by simp [z])) q⟩)
    (fun b o _ _ q=>q) (fun b o hb q=>⟨o,k2 b o (fun z=>hb (by simp [z])) (fun z=>hb (by simp [z])) q⟩) (fun _ _ q=>q) (fun _ _ _ q=>q) (fun _ ps q=>⟨#[],by simpa using q⟩) (fun m hm=>?_) ?_ I.bare
   ·rcases mem_cons.mp hb with rfl|hb
    ·exact ⟨f3,f1,f4,f5⟩
    ·have hb:b=it:=by simpa using hb
     subst hb
     exact ⟨g3,g1,g4,g5⟩
   ·obtain ⟨o,es,ep,q,r⟩:=hm
    exact ⟨o,es,ep,k2 _ _ (Ne.symm f1) (Ne.symm g1) q,r⟩
   ·intro b u q
    refine (I.hok b u q).stay (fun c v hc r=>k2 c v ?_ ?_ r) (fun _ q=>q) fun _ _ q=>q
    ·rintro rfl
     rcases hc with rfl|hc
     ·rw [f0] at q; cases q
     ·rw [f0] at hc; cases hc
    ·rintro rfl
     rcases hc with rfl|hc
     ·rw [g0] at q; cases q
     ·rw [g0] at hc; cases hc
  have hT2:h2.get? s.heap.objs.size=some { cls:=.type "tuple",data:=.seq #[.int i tk,u] }:=(sb.2 _ hTe).trans hT
  have I2:bA X pins σ (upd H s.heap.objs.size (.tup [.int i,x])) { s with heap:=h2,toks:=tk+1 }:=by
   have nn:∀ {b:Addr},b < s.heap.objs.size->H b=none->upd H s.heap.objs.size (.tup [.int i,x]) b=none:=fun {b} hb e=>by rw [aZ (ne_of_lt hb)]; exact e
   have old:∀ {b:Addr} {o:HO},H b=some o->upd H s.heap.objs.size (.tup [.int i,x]) b=some o:=fun {b o} e=>by rw [aZ (aB e hTn)]; exact e
   refine ⟨I1.ok,I1.os,I1.bare,⟨I1.base.keep,I1.base.slot,fun b o q n hx=>nn ?_ (I1.base.free b o q n hx),I1.base.there,fun b ys q=>old (I1.base.tups b ys q),fun b o v q=>old (I1.base.frzs b o v q),fun b ps q=>?_⟩,I1.loc,I1.cell,nn I.lt I1.free,fun y c q=>nn ?_ (I1.freeC y c q),fun p hp=>?_,fun b o q=>?_,I1.len⟩
   ·exact lt_of_lt_of_le (lt_size q) I.sz
   ·obtain ⟨more,z⟩:=I1.base.tbls b ps q
    exact ⟨more,old z⟩
   ·obtain ⟨v,z⟩:=I.cell y c q
    exact z.lt
   ·obtain ⟨z1,z2,z3⟩:=I1.pin p hp
    exact ⟨z1,nn (lt_size (I.pin p hp).1) z2,z3⟩
   ·by_cases hb:b=s.heap.objs.size
    ·subst hb
     rw [aE] at q
     cases q
     exact ⟨⟨by rw [sizeLine_eq]; simp,_,hT2,rfl⟩,[.int i tk,u],.cons ⟨_,rfl⟩ (.cons ru .nil),_,hT2,rfl,_,rfl⟩
    ·rw [aZ hb] at q
     exact (I1.hok b o q).stay (fun _ _ _ z=>z) (fun c z=>old z) fun c ys z=>old z
  exact ⟨.ref s.heap.objs.size,_,I2,rfl,⟨s.heap.objs.size,x,rfl,hTn,rfl,fun ys hy=>by rw [I.tuple_inj hy hq]; exact hx⟩,⟨⟨u,by simpa using he2⟩,hit'.at fun o q=>(sb.2 it (Ne.symm hei)).trans q⟩,fun b hb=>by
   rcases mem_cons.mp hb with rfl|hb
   ·rw [aZ (Ne.symm hTe)]; exact f0
   ·have hb:b=it:=by simpa using hb
    subst hb
    rw [aZ (Ne.symm hTi)]; exact g0⟩
 done:=by
  intro X hP hw hK hc i pins s σ H E I hf st hg
  subst hP hw hK
  obtain ⟨xs,hq,hx⟩:=hg
  obtain ⟨its,rv,p,hz⟩:=I.tuple hq
  obtain ⟨⟨old,he⟩,hit⟩:=st
  obtain ⟨g0,g1,g2,g3,g4,g5⟩:=hf it (by simp)
  have hl:=rv.length
  have hai:a≠it:=fun z=>by
   obtain ⟨o1,q1,c1,_⟩:=id hit
   obtain ⟨o2,q2,c2,_⟩:=id p
   rw [z,q1] at q2
   cases q2
   rw [c1] at c2
   injection c2 with c2
   exact absurd c2 (by decide)
  have hsz:i=its.toArray.size:=by simp; omega
  exact wpAny_pyNext_enum_endD (wT (show X.A.in1.handled=none from I.ok.hd hc) it a hai its.toArray) he (by rw [← hsz]; exact ⟨hit,p⟩) fun h' eb=>⟨rfl,I.turned (t':=s.toks) (fun b o hb e=>eb b o hb e) g0 g1 g3 g4 g5⟩
 self:=fun _ _ _ _ _ ⟨⟨_,he⟩,_⟩ h=>wpAny_pyIter_enum he h
section
variable {X:Cx} {pins:List (Addr×Obj)} {σ:St} {H:Hp} {s:Shared} {tg:Expr}
def NE (K:Frag) (tl:TA):TI:=fun σ H R=>tl σ H fun vs H1=>∃ a,vs=[.ref a]/\(∃ xs,fV K H1 a xs)/\R (JR K a) H1
theorem MH {l:Expr}{tl:TA}{elts:List Expr}{k1:Nat}{tpos p pos:Pos} (hg:Gl X "enumerate") (hm:X.mg "enumerate"=none) (ha:PA X [l] tl) (hs:starEach [l] X.env=[(false,eval l X.env)]:=by rfl) :
  PI X (.Tuple elts k1 tpos) (.Call (.Name "enumerate" p) [l] [] pos) (NE X.K tl):=by
 intro pins s σ H R I h
 refine Call_ (lF I hg hm pL (PyProof.Rows.callWith_type1 (cJ (ha pos pins s σ H _ I h) fun us s1 ⟨vs,H1,I1,r1,q1⟩=>?_) hs rfl))
 obtain ⟨a,e,⟨xs,hq⟩,q⟩:=q1
 subst e
 cases r1 with
|cons r rr =>
  cases rr
  cases r
  obtain ⟨its,rv,p,hz⟩:=I1.tuple hq
  refine EK p fun h' he hit kp=>?_
  refine wpAny_pyIter_enum he ?_
  have I2:bA X pins σ H1 { s1 with heap:=h' }:=I1.kept (t':=s1.toks) kp
  refine ⟨_,[s1.heap.objs.size+1,s1.heap.objs.size],_,_,H1,rfl,I2,CP a _ _ (ne_of_gt (lt_succ_self _)),⟨⟨_,he⟩,hit⟩,fun b hb=>?_,q⟩
  rcases mem_cons.mp hb with rfl|hb
  ·exact I1.fpOk (le_succ _) (I1.hok.fresh (le_succ _))
  ·have hb:b=s1.heap.objs.size:=by simpa using hb
   subst hb
   exact I1.fpOk (le_refl _) (I1.hok.fresh (le_refl _))
end
section
variable {te:TE} {Q:VK} {H:Hp} {σ:St} {caps:St} {K:Frag}
theorem Es {us:St} (h:us.length=2):∃ o p,us=[o,p]:=by
 cases us with
|nil=>cases h
|cons o us=>cases us with
 |nil=>cases h
 |cons p us=>cases us with
  |nil=>exact ⟨o,p,rfl⟩
  |cons q us=>cases h
theorem LY {a:Addr}{xs:List V} (hn:xs.length<=1000) (hT:H a=some (.tup xs)) (Pv:Addr->Nat->List V->Hp->Prop) (h0:∀ acc,H acc=none->Pv acc 0 [] (upd H acc (.lst []))) (hl':∀ acc i ys H1,H acc=none->i<=xs.length->Pv acc i ys H1->TK H H1)
  (hs:∀ acc i ys H1 x T,H acc=none->xs[i]?=some x->ys.length=i->H1 acc=some (.lst ys)->H1 T=none->Pv acc i ys H1->te (some (.int i)::some x::caps) (upd H1 T (.tup [.int i,x])) (rG xs.length acc (Pv acc) ys i))
  (hd:∀ acc ys H1,H acc=none->H1 acc=some (.lst ys)->ys.length=xs.length->Pv acc xs.length ys H1->Q (.ref acc) H1):mE te none (ED K 2 (pF (iC 0) (pF (iC 1) NI))) (List.replicate 2 none) caps Q (JR K a) H:=by
 intro acc hacc
 refine ⟨cW xs.length acc (Pv acc),⟨xs.length,by simp,zero_le _,rfl,aE,h0 acc hacc⟩,fun i m ys H1 hW=>?_⟩
 obtain ⟨rfl,hi,hl,ha,p⟩:=hW
 have q:fV K H1 a xs:=fV.of (hl' acc i ys H1 hacc hi p _ _ hT)
 refine ⟨ha,?_⟩
 rcases lt_or_ge i xs.length with hlt|hge
 ·refine .inr ⟨eI (by omega),⟨xs,xs[i],q,by simp [hlt]⟩,fun us v H' hu z=>?_⟩
  obtain ⟨T,x,rfl,hT,rfl,z⟩:=z
  obtain ⟨o1,o2,rfl⟩:=Es hu
  exact FS aE ⟨_,[x],rfl,x,[],rfl,rfl,⟨[some (.int i),some x],rfl,rfl⟩,hs acc i ys H1 x T hacc (z xs q) hl ha hT p⟩
 ·cases (le_antisymm hi hge:i=xs.length)
  exact .inl ⟨⟨xs,q,rfl⟩,hd acc ys H1 hacc ha hl p⟩
theorem LU {tl:TA}{R:It->Hp->Prop} (k:tl σ H fun vs H1=>∃ a,vs=[.ref a]/\(∃ xs,fV K H1 a xs)/\R (JR K a) H1):NE K tl σ H R:=k
theorem e_T {a:Addr}{xs:List V}{R:It->Hp->Prop} (h:H a=some (.tup xs)) (k:R (JR K a) H):∃ a',[V.ref a]=[.ref a']/\(∃ xs,fV K H a' xs)/\R (JR K a') H:=⟨a,rfl,⟨xs,fV.of h⟩,k⟩
end
theorem OG {xs:List V} (h:1<=xs.length):fP xs none (some (-1))=xs.dropLast:=by
 unfold fP
 have e1:HT.sIx xs.length 0 none=0:=rfl
 have e2:HT.sIx xs.length xs.length (some (-1))=xs.length - 1:=by
  unfold HT.sIx
  simp
  omega
 rw [e1,e2,drop_zero,sub_zero,List.dropLast_eq_take]
theorem SC {xs:List V} (h:1<=xs.length):fP xs none (some 1)=xs.take 1:=by
 unfold fP
 have e1:HT.sIx xs.length 0 none=0:=rfl
 have e2:HT.sIx xs.length xs.length (some 1)=1:=by
  unfold HT.sIx
  simp
  omega
 rw [e1,e2,drop_zero,sub_zero]
theorem OF {xs:List V} (h:1<=xs.length):fP xs (some 1) none=xs.drop 1:=by
 unfold fP
 have e1:HT.sIx xs.length xs.length none=xs.length:=rfl
 have e2:HT.sIx xs.length 0 (some 1)=1:=by
  unfold HT.sIx
  simp
  omega
 rw [e1,e2,take_of_length_le (by rw [length_drop]; omega)]
theorem rY {X:Cx}{scope:Scope}{caps:List (Str×Addr)}{N:List Str}{C:Addr}{s0:Shared}{H0:Hp}{ex:List Addr}{es:List Expr}{k:Nat}{t:GW}{n:Nat}{pos:Pos} (hc:(bS X scope caps N C s0 H0 ex).calm=true) (h:Ay (bS X scope caps N C s0 H0 ex) es t)
  (hn:(assignEach es (bS X scope caps N C s0 H0 ex).env).length=n:=by rfl) (hst:(assignEach es (bS X scope caps N C s0 H0 ex).env).findIdx? (·.1)=none:=by rfl):PG (bS X scope caps N C s0 H0 ex) (.Tuple es k pos) (ED X.K n t):=qI hc h hn hst
section
variable {K:Frag} {H:Hp} {Q:VK} {p:Addr} {xs:List V}
theorem VP (h:H p=some (.tup xs)) (hl:1<=xs.length) (k:∀ l,H l=none->Q (.ref l) (upd H l (.tup xs.dropLast))):AQ K (.ref p) none (some (-1)) H Q:=by
 refine AH h ?_ (by rw [OG hl]; exact k)
 have e2:HT.sIx xs.length xs.length (some (-1))=xs.length - 1:=by
  unfold HT.sIx
  simp
  omega
 omega
theorem Bv (h:H p=some (.tup xs)) (hl:2<=xs.length) (k:∀ l,H l=none->Q (.ref l) (upd H l (.tup (xs.take 1)))):AQ K (.ref p) none (some 1) H Q:=by
 refine AH h ?_ (by rw [SC (by omega)]; exact k)
 have e2:HT.sIx xs.length xs.length (some 1)=1:=by
  unfold HT.sIx
  simp
  omega
 omega
theorem LE (h:H p=some (.tup xs)) (hl:1<=xs.length) (k:∀ l,H l=none->Q (.ref l) (upd H l (.tup (xs.drop 1)))):AQ K (.ref p) (some 1) none H Q:=by
 refine AH h ?_ (by rw [OF hl]; exact k)
 have e2:HT.sIx xs.length 0 (some 1)=1:=by
  unfold HT.sIx
  simp
  omega
 omega
end
theorem aW.mk3 {H:Hp}{p:Addr}{a b:Str}{u:V}{t:Rat} (h:H p=some (.tup [.str a,.str b,u])) (f:qX H u t):aW H (.ref p) (Sum.inr a,Sum.inr b,t):=⟨p,u,rfl,h,f⟩
theorem pC (n:List cV) (i:Nat) {r:cV} (h:n[i]?=some r):kn (n.take (i+1))=kn (n.take i)++[(Sum.inr r.1,Sum.inr r.2.1,r.2.2)]:=by
 unfold kn
 rw [take_add_one,h,map_append]
 rfl
def Ek (r:cV):Prop:=cL r.1/\cL r.2.1/\iM r.2.2
def Iv:fI->Nat
|.run _ _ _=>2
|.path _ _ ps=>ps.length
def okQ (r:fI):Prop:=(∀ x∈r.runs,Ek x)/\2<=Iv r/\Iv r<=190
theorem vB {t:Rat} (ht:iM t):∀ {ps:List Str},(∀ s∈ps,cL s)->∀ x∈dH t ps,Ek x
|[],_,_,h=>nomatch h
|[_],_,_,h=>nomatch h
|a::b::r,hp,x,h=>by
  rcases mem_cons.mp h with rfl|h
  ·exact ⟨hp a (by simp),hp b (by simp),ht⟩
  ·exact vB ht (ps:=b::r) (fun s hs=>hp s (mem_cons_of_mem _ hs)) x h
theorem IJ.q {r:fI} (h:IJ r):okQ r:=by
 cases r with
|run a b t =>
  refine ⟨fun x hx=>?_,show 2<=2 by decide,show 2<=190 by decide⟩
  rw [mem_singleton.mp hx]
  exact h
|path k t ps =>
  obtain ⟨h1,h2,h3,h4,_⟩:=h
  refine ⟨?_,h3,le_trans h4 (by decide)⟩
  cases k with
 |row=>exact vB h2 h1
 |star =>
   intro x hx
   obtain ⟨y,hy,rfl⟩:=mem_map.mp hx
   cases ps with
  |nil=>exact absurd h3 (by decide)
  |cons a r=>exact ⟨h1 a (by simp),h1 y (mem_cons_of_mem _ hy),h2⟩
 |ring=>exact vB h2 fun s hs=>(mem_append.mp hs).elim (h1 s) fun h=>h1 s (mem_of_mem_take h)
theorem uV {xs:List V} (n:Nat):fP xs none (some (n:Int))=xs.take n:=by
 unfold fP
 have e1:HT.sIx xs.length 0 none=0:=rfl
 have e2:HT.sIx xs.length xs.length (some (n:Int))=min n xs.length:=by
  unfold HT.sIx
  simp
  omega
 rw [e1,e2,drop_zero,sub_zero]
 rcases Nat.le_total n xs.length with h|h
 ·rw [Nat.min_eq_left h]
 ·rw [Nat.min_eq_right h,take_length,take_of_length_le h]
theorem PJ {ps:List Str}{i:Nat}{t:Rat}{c b:Str} (ec:ps[0]?=some c) (eb:ps[i+1]?=some b):(ps.tail.map fun x=>(ps.headD "",x,t))[i]?=some (c,b,t):=by
 cases ps with
|nil=>cases ec
|cons x r =>
  cases ec
  rw [List.getElem?_map,show List.tail (_::r)=r from rfl,show r[i]?=some b from eb]
  rfl
theorem HR {ps:List Str}{t:Rat}{y c:Str} (ey:ps.getLast?=some y) (ec:ps[0]?=some c):dH t (ps++ps.take 1)=dH t ps++[(y,c,t)]:=by
 have e1:ps.take 1=[c]:=by
  cases ps with
 |nil=>cases ec
 |cons x r=>cases ec; rfl
 obtain ⟨l,rfl⟩:=List.getLast?_eq_some_iff.mp ey
 rw [e1,append_assoc]
 exact vA t y c l
theorem SJ {ps:List Str}{y:Str} (ey:ps.getLast?=some y):fM (ps.map V.str) (-1)=some (.str y):=by
 obtain ⟨l,rfl⟩:=List.getLast?_eq_some_iff.mp ey
 have e:OX (l.length+1) (-1)=some l.length:=by
  unfold OX
  simp
  try omega
 unfold fM
 simp [e]
theorem zK {α:Type} (x y:List α):(x++y).take 121=(x.take 121++y).take 121:=by
 rw [take_append,take_append,take_take,length_take]
 simp
 congr 1
 omega
theorem Pd.tak {α β:Type}{R:α->β->Prop}:∀ {xs:List α}{ys:List β},Paired R xs ys->∀ n:Nat,Paired R (xs.take n) (ys.take n)
|_,_,.nil,n=>by simp; exact .nil
|_,_,.cons h t,0=>.nil
|_,_,.cons h t,n+1=>.cons h (Pd.tak t n)
theorem OA {H:Hp}{Q:VK}{l p:Addr}{n:List cV} (h1:LQ aW H l (kn n)) (h2:H p=some (.lst [])) (k:Q (.bl (decide (n=[]))) H):rL (.ref l) (.ref p) H Q:=by
 obtain ⟨v1,a1,p1⟩:=h1
 refine BW (ds:=n.map yS) (es:=[]) ⟨l,_,rfl,a1,fB p1⟩ ⟨p,_,rfl,h2,rfl⟩ (le_trans (mD n) (by decide)) ?_
 cases n with
|nil=>rw [decide_eq_true rfl] at k; exact k
|cons r rs=>rw [decide_eq_false (cons_ne_nil _ _)] at k; exact k
theorem YV {H:Hp}{Q:VK}{l p:Addr}{n:List cV} (h1:LQ aW H l (kn n)) (h2:H p=some (.lst [])) (k:Q (.bl (!decide (n=[]))) H):AR (.ref l) (.ref p) H Q:=by
 obtain ⟨v1,a1,p1⟩:=h1
 refine MW (ds:=n.map yS) (es:=[]) ⟨l,_,rfl,a1,fB p1⟩ ⟨p,_,rfl,h2,rfl⟩ (le_trans (mD n) (by decide)) ?_
 cases n with
|nil=>rw [decide_eq_true rfl] at k; exact k
|cons r rs=>rw [decide_eq_false (cons_ne_nil _ _)] at k; exact k
theorem AM {c:TT}{tb:TS}{D:fQ}{σ:St}{H:Hp} (Pv:Nat->St->Hp->Prop) {m0:Nat} (h0:Pv m0 σ H)
  (hs:∀ m σ H,Pv m σ H->c σ H fun b H1=>if b=true then ∃ N:St->Hp->Prop,(∀ σ' H',N σ' H'->∃ m',m' < m/\Pv m' σ' H')/\tb { D with nx:=N,ct:=N,bk:=D.nx } σ H1 else D.nx σ H1):CQ c tb D σ H:=⟨Pv,⟨_,h0⟩,hs⟩
theorem qX.of2 {H:Hp}{p:Addr}{f g:Int} (hg:0 < g) (hc:Int.gcd f g=1) (h:H p=some (.tup [.int f,.int g])):qX H (.ref p) (Rat.divInt f g):=by
 obtain ⟨e1,e2⟩:=DK (t:=f) (b:=g) (f:=f) (g:=g) (by omega) hg hc rfl
 exact ⟨p,rfl,by rw [h,e1,e2]⟩
theorem iM.of2 {f g:Int} (hf:0 < f) (hf':f<=999999999999) (hg:0 < g) (hg':g<=999999999999) (hc:Int.gcd f g=1):iM (Rat.divInt f g):=by
 obtain ⟨e1,e2⟩:=DK (t:=f) (b:=g) (f:=f) (g:=g) (by omega) hg hc rfl
 refine ⟨?_,by rw [e1]; exact hf',?_⟩
 ·have h1:0 < (Rat.divInt f g).num:=by rw [e1]; exact hf
  have:=Rat.num_nonneg.mp (Int.le_of_lt h1)
  exact Rat.lt_of_le_of_ne this fun z=>by rw [← z] at h1; exact absurd h1 (by decide)
 ·omega
def OE:fI->Dt
|.run a b t=>.tup [.str "run",.str a,.str b,ZV t]
|.path k t ps=>.tup [.str k.nm,ZV t,.tup (ps.map Dt.str)]
theorem qQ {G:Hp}:∀ ys:List Str,kM G (ys.map Dt.str) (ys.map V.str)
|[]=>rfl
|y::r=>⟨_,_,rfl,rfl,qQ r⟩
theorem gZ.den {H:Hp}{v:V}:∀ {r:fI},gZ H v r->rR H (OE r) v
|.run a b t,⟨p,u,e,h,f⟩=>⟨p,_,e,h,_,_,rfl,rfl,_,_,rfl,rfl,_,_,rfl,rfl,_,_,rfl,f.den,rfl⟩
|.path k t ps,⟨p,u,z,e,h,f,g⟩=>⟨p,_,e,h,_,_,rfl,rfl,_,_,rfl,f.den,_,_,rfl,⟨z,_,rfl,g,qQ ps⟩,rfl⟩
theorem uQ:∀ ps:List Str,gD (ps.map Dt.str)<=1
|[]=>by simp [gD]
|p::r=>by
  have:=uQ r
  rw [map_cons]
  simp only [gD,sK]
  omega
theorem SA:∀ r:fI,sK (OE r)<=5
|.run _ _ _=>by simp [sK,gD,OE,ZV]
|.path _ _ ps=>by
  have:=uQ ps
  simp only [sK,gD,OE,ZV]
  omega
end
section
inductive eY where
|plain (r:fI)|put (nm cl:Str) (as:List Str)
abbrev aQ:=Str×List Str×List eY
inductive bY where
|one (r:eY)|piece (p:aQ)
def bQ (H:Hp) (v:V):eY->Prop
|.plain r=>gZ H v r
|.put nm cl as=>∃ p q,v=.ref p/\H p=some (.tup [.str "put",.str nm,.str cl,.ref q])/\H q=some (.tup (as.map V.str))
def gH (H:Hp) (v:V) (x:aQ):Prop:=∃ p q z xs,v=.ref p/\H p=some (.tup [.str "piece",.str x.1,.ref q,.ref z])/\H q=some (.tup (x.2.1.map V.str))/\H z=some (.tup xs)/\Paired (bQ H) xs x.2.2
def iD (H:Hp) (v:V):bY->Prop
|.one r=>bQ H v r
|.piece p=>gH H v p
theorem bQ.tk {H H':Hp}{v:V}{r:eY} (h:bQ H v r) (t:TK H H'):bQ H' v r:=by
 cases r with
|plain r=>exact gZ.tk h t
|put nm cl as=>obtain ⟨p,q,e,h1,h2⟩:=h; exact ⟨p,q,e,t _ _ h1,t _ _ h2⟩
theorem gH.tk {H H':Hp}{v:V}{r:aQ} (h:gH H v r) (t:TK H H'):gH H' v r:=by
 obtain ⟨p,q,z,xs,e,h1,h2,h3,h4⟩:=h
 exact ⟨p,q,z,xs,e,t _ _ h1,t _ _ h2,t _ _ h3,Pd.imp h4 fun _ _ f=>f.tk t⟩
theorem iD.tk {H H':Hp}{v:V}{r:bY} (h:iD H v r) (t:TK H H'):iD H' v r:=by
 cases r with
|one r=>exact bQ.tk h t
|piece p=>exact gH.tk h t
def gB:List Str->List Str->Str->Str->Str
|p::ps,a::as,cl,x=>if p=x then a else gB ps as cl x
|_,_,cl,x=>cl++⟨#[46]⟩++x
def jX (ps as:List Str) (cl:Str) (r:cV):cV:=(gB ps as cl r.1,gB ps as cl r.2.1,r.2.2)
def aR:List aQ->eY->List cV
|[],.plain r=>r.runs
|[],.put _ _ _=>[]
|_::_,.plain r=>r.runs
|p::E,.put nm cl as=>if p.1=nm then (p.2.2.flatMap (aR E)).map (jX p.2.1 as cl) else aR E (.put nm cl as)
def HQ:List aQ->eY->Nat
|_,.plain _=>0
|[],.put _ _ _=>0
|p::E,.put nm cl as=>if p.1=nm then E.length+1 else HQ E (.put nm cl as)
def sN (E:List aQ):eY->Prop
|.plain r=>IJ r
|.put nm cl as=>cE cl=true/\(∀ s∈as,cL s)/\(1<=as.length/\as.length<=8)/\∃ p∈E,p.1=nm/\p.2.1.length=as.length
def JW (E:List aQ) (p:aQ):Prop:=(∀ r∈p.2.2,sN E r)/\p.2.2≠[]/\p.2.2.length<=60/\p.2.1.Nodup/\(1<=p.2.1.length/\p.2.1.length<=8/\∀ s∈p.1::p.2.1,cE s=true)/\∀ q∈E,q.1≠p.1
def jS:List aQ->Prop
|[]=>True
|p::E=>JW E p/\jS E
theorem mB {α β:Type}{f g:α->List β}:∀ {l:List α},(∀ r∈l,f r=g r)->l.flatMap f=l.flatMap g
|[],_=>rfl
|a::l,h=>by rw [flatMap_cons,flatMap_cons,h a (by simp),mB fun r hr=>h r (mem_cons_of_mem _ hr)]
theorem dW (E:List aQ) (r:fI):aR E (.plain r)=r.runs:=by cases E <;> rfl
theorem sN.up {E:List aQ}{p:aQ}{r:eY} (h:sN E r):sN (p::E) r:=by
 cases r with
|plain r=>exact h
|put nm cl as =>
  obtain ⟨h1,h2,h3,q,hq,e⟩:=h
  exact ⟨h1,h2,h3,q,mem_cons_of_mem _ hq,e⟩
theorem oJ {E:List aQ}{p:aQ}{r:eY} (h:sN E r) (d:∀ q∈E,q.1≠p.1):aR (p::E) r=aR E r:=by
 cases r with
|plain r=>rw [dW,dW]
|put nm cl as =>
  obtain ⟨_,_,_,q,hq,e,_⟩:=h
  show (if p.1=nm then _ else _)=_
  rw [if_neg fun z=>d q hq (e.trans z.symm)]
theorem LJ {E:List aQ}{p:aQ}{r:eY} (h:sN E r) (d:∀ q∈E,q.1≠p.1):HQ (p::E) r=HQ E r:=by
 cases r with
|plain r=>cases E <;> rfl
|put nm cl as =>
  obtain ⟨_,_,_,q,hq,e,_⟩:=h
  show (if p.1=nm then _ else _)=_
  rw [if_neg fun z=>d q hq (e.trans z.symm)]
theorem jS.row {E:List aQ} (h:jS E) {p:aQ} (hp:p∈E):∀ r∈p.2.2,sN E r:=by
 induction E with
|nil=>cases hp
|cons q E ih =>
  obtain ⟨h1,h2⟩:=h
  intro r hr
  rcases mem_cons.mp hp with rfl|hp
  ·exact (h1.1 r hr).up
  ·exact (ih h2 hp r hr).up
theorem jS.at {E:List aQ} (h:jS E) {p:aQ} (hp:p∈E):p.2.2≠[]/\p.2.2.length<=60/\p.2.1.Nodup/\(1<=p.2.1.length/\p.2.1.length<=8/\∀ s∈p.1::p.2.1,cE s=true):=by
 induction E with
|nil=>cases hp
|cons q E ih =>
  obtain ⟨h1,h2⟩:=h
  rcases mem_cons.mp hp with rfl|hp
  ·exact ⟨h1.2.1,h1.2.2.1,h1.2.2.2.1,h1.2.2.2.2.1⟩
  ·exact ih h2 hp
theorem jS.put {E:List aQ} (h:jS E) {p:aQ} (hp:p∈E) (cl:Str) (as:List Str):aR E (.put p.1 cl as)=(p.2.2.flatMap (aR E)).map (jX p.2.1 as cl)/\∀ r∈p.2.2,HQ E r < HQ E (.put p.1 cl as):=by
 induction E with
|nil=>cases hp
|cons q E ih =>
  obtain ⟨h1,h2⟩:=h
  rcases mem_cons.mp hp with rfl|hp
  ·have e1:aR (p::E) (.put p.1 cl as)=(p.2.2.flatMap (aR E)).map (jX p.2.1 as cl):=if_pos rfl
   have e2:HQ (p::E) (.put p.1 cl as)=E.length+1:=if_pos rfl
   rw [e1,e2]
   refine ⟨congrArg _ (mB fun r hr=>(oJ (h1.1 r hr) h1.2.2.2.2.2).symm),fun r hr=>?_⟩
   rw [LJ (h1.1 r hr) h1.2.2.2.2.2]
   exact Nat.lt_succ_of_le (rk_le E r)
  ·have hne:q.1≠p.1:=fun z=>h1.2.2.2.2.2 p hp z.symm
   obtain ⟨i1,i2⟩:=ih h2 hp
   have e1:aR (q::E) (.put p.1 cl as)=aR E (.put p.1 cl as):=if_neg hne
   have e2:HQ (q::E) (.put p.1 cl as)=HQ E (.put p.1 cl as):=if_neg hne
   rw [e1,e2,i1]
   refine ⟨congrArg _ (mB fun r hr=>(oJ (h2.row hp r hr) h1.2.2.2.2.2).symm),fun r hr=>?_⟩
   rw [LJ (h2.row hp r hr) h1.2.2.2.2.2]
   exact i2 r hr
where rk_le:∀ (E:List aQ) (r:eY),HQ E r<=E.length
|[],.plain _=>le_refl _
|[],.put _ _ _=>le_refl _
|_::_,.plain _=>zero_le _
|p::E,.put nm cl as=>by
  show (if p.1=nm then E.length+1 else HQ E (.put nm cl as))<=E.length+1
  split
  ·exact le_refl _
  ·exact Nat.le_succ_of_le (rk_le E _)
theorem wU:∀ {a b r s:List Nat},46∉a->46∉b->a++46::r=b++46::s->a=b/\r=s
|[],[],_,_,_,_,e=>⟨rfl,(List.cons.inj e).2⟩
|[],y::b,_,_,_,hb,e=>absurd (List.cons.inj e).1 (fun z=>hb (by rw [z]; simp))
|x::a,[],_,_,ha,_,e=>absurd (List.cons.inj e).1 (fun z=>ha (by rw [← z]; simp))
|x::a,y::b,_,_,ha,hb,e=>by
  obtain ⟨e1,e2⟩:=List.cons.inj e
  obtain ⟨e3,e4⟩:=wU (fun z=>ha (mem_cons_of_mem _ z)) (fun z=>hb (mem_cons_of_mem _ z)) e2
  exact ⟨by rw [e1,e3],e4⟩
theorem jM {x y:Str} (h:x.cps.toList=y.cps.toList):x=y:=by
 obtain ⟨a⟩:=x
 obtain ⟨b⟩:=y
 exact congrArg Str.mk (Array.toList_inj.mp h)
theorem BP:∀ {ps qs:List Str}{x y:Str},(∀ p∈x::ps,46∉p.cps.toList)->(∀ p∈y::qs,46∉p.cps.toList)->(Str.join ⟨#[46]⟩ (x::ps)).cps.toList=(Str.join ⟨#[46]⟩ (y::qs)).cps.toList->x::ps=y::qs
|[],[],x,y,_,_,e=>by
  rw [iP,iP] at e
  rw [jM e]
|[],q::qs,x,y,hx,_,e=>by
  rw [iP,iO] at e
  exact absurd (show 46∈x.cps.toList by rw [e]; simp) (hx x (by simp))
|p::ps,[],x,y,_,hy,e=>by
  rw [iP,iO] at e
  exact absurd (show 46∈y.cps.toList by rw [← e]; simp) (hy y (by simp))
|p::ps,q::qs,x,y,hx,hy,e=>by
  rw [iO,iO] at e
  obtain ⟨e1,e2⟩:=wU (hx x (by simp)) (hy y (by simp)) e
  have:=BP (fun z hz=>hx z (mem_cons_of_mem _ hz)) (fun z hz=>hy z (mem_cons_of_mem _ hz)) e2
  rw [jM e1,this]
theorem HI {cl x:Str} (h:46∉cl.cps.toList):Txt.split (cl++⟨#[46]⟩++x) ⟨#[46]⟩=cl::Txt.split x ⟨#[46]⟩:=by
 have j1:=StrLaws.join_split (cl++⟨#[46]⟩++x) ⟨#[46]⟩
 have f1:=StrLaws.split_free (cl++⟨#[46]⟩++x) 46
 have p1:=split_pos (cl++⟨#[46]⟩++x) ⟨#[46]⟩
 have j2:=StrLaws.join_split x ⟨#[46]⟩
 have f2:=StrLaws.split_free x 46
 have p2:=split_pos x ⟨#[46]⟩
 generalize Txt.split (cl++⟨#[46]⟩++x) ⟨#[46]⟩=ps at j1 f1 p1 ⊢
 generalize Txt.split x ⟨#[46]⟩=qs at j2 f2 p2 ⊢
 cases ps with
|nil=>simp at p1
|cons a ps =>
  cases qs with
 |nil=>simp at p2
 |cons b qs =>
   refine BP f1 (fun p hp=>?_) ?_
   ·rcases mem_cons.mp hp with rfl|hp
    ·exact h
    ·exact f2 p hp
   ·rw [j1,iO,j2]
    show ((cl.cps++#[46])++x.cps).toList=_
    simp
def fX (D:Nat) (s:Str):Prop:=(∀ p∈Txt.split s ⟨#[46]⟩,cE p=true)/\(Txt.split s ⟨#[46]⟩).length<=D+1/\s.length<=100+9 * D
def uO (s:Str):Nat:=(Txt.split s ⟨#[46]⟩).length - 1
theorem fX.up {D D':Nat}{s:Str} (h:fX D s) (l:D<=D'):fX D' s:=⟨h.1,by have:=h.2.1; omega,by have:=h.2.2; omega⟩
theorem fX.post {s:Str} (h:cL s):fX 3 s:=by
 have:=h.1
 rw [nP,Bool.and_eq_true,decide_eq_true_iff,all_eq_true] at this
 exact ⟨this.2,this.1,by have:=h.2; omega⟩
theorem fX.part {s:Str} (h:cE s=true):cL s:=by
 obtain ⟨h1,h2,h3⟩:=cT h
 refine ⟨?_,by omega⟩
 have e:=oM [] s 1 (fun p hp=>by rw [mem_singleton.mp hp]; exact h3)
 rw [iP] at e
 show QL _ 1 0=true
 rw [e]
 simp [h]
theorem fX.dot {D:Nat}{cl x:Str} (hc:cE cl=true) (h:fX D x):fX (D+1) (cl++⟨#[46]⟩++x):=by
 obtain ⟨h1,h2,h3⟩:=cT hc
 unfold fX
 rw [HI h3]
 refine ⟨fun p hp=>?_,by have:=h.2.1; rw [length_cons]; omega,?_⟩
 ·rcases mem_cons.mp hp with rfl|hp
  ·exact hc
  ·exact h.1 p hp
 ·rw [eW,eW,show (⟨#[46]⟩:Str).length=1 from rfl]
  have:=h.2.2
  omega
theorem fX.postB {D:Nat}{s:Str} (h:fX D s):postB s=decide (uO s<=3):=by
 rw [nP,all_eq_true.mpr h.1,Bool.and_true]
 have:=split_pos s ⟨#[46]⟩
 have e:((Txt.split s ⟨#[46]⟩).length<=4)=(uO s<=3):=by
  unfold uO
  exact propext ⟨fun _=>by omega,fun _=>by omega⟩
 simp only [e]
theorem fX.name {D:Nat}{cl x:Str} (hc:cE cl=true) (hx:fX D x) (hD:3<=D):∀ {ps as:List Str},(∀ s∈as,cL s)->fX (D+1) (gB ps as cl x)
|[],_,_=>hx.dot hc
|p::ps,[],_=>hx.dot hc
|p::ps,a::as,h=>by
  show fX _ (if p=x then a else gB ps as cl x)
  split
  ·exact (fX.post (h a (by simp))).up (by omega)
  ·exact fX.name hc hx hD fun s hs=>h s (mem_cons_of_mem _ hs)
def OW (D:Nat) (r:cV):Prop:=fX D r.1/\fX D r.2.1/\iM r.2.2
theorem Ek.n {r:cV} (h:Ek r):OW 3 r:=⟨fX.post h.1,fX.post h.2.1,h.2.2⟩
theorem OW.up {D D':Nat}{r:cV} (h:OW D r) (l:D<=D'):OW D' r:=⟨h.1.up l,h.2.1.up l,h.2.2⟩
theorem mS:∀ {E:List aQ}{r:eY},jS E->sN E r->∀ x∈aR E r,OW (3+E.length) x
|E,.plain r,_,h,x,hx=>by
  rw [dW] at hx
  exact (Ek.n ((IJ.q h).1 x hx)).up (by omega)
|[],.put nm cl as,_,h,x,hx=>nomatch hx
|p::E,.put nm cl as,hE,h,x,hx=>by
  obtain ⟨h1,h2,h3,q,hq,e,el⟩:=h
  replace hx:x∈(if p.1=nm then (p.2.2.flatMap (aR E)).map (jX p.2.1 as cl) else aR E (.put nm cl as)):=hx
  by_cases z:p.1=nm
  ·rw [if_pos z] at hx
   obtain ⟨y,hy,rfl⟩:=mem_map.mp hx
   obtain ⟨r,hr,hy⟩:=mem_flatMap.mp hy
   have hok:=mS hE.2 (hE.1.1 r hr) y hy
   exact ⟨fX.name h1 hok.1 (by omega) h2,fX.name h1 hok.2.1 (by omega) h2,hok.2.2⟩
  ·rw [if_neg z] at hx
   have hq':q∈E:=(mem_cons.mp hq).resolve_left fun w=>z (by rw [← w]; exact e)
   exact (mS (r:=.put nm cl as) hE.2 ⟨h1,h2,h3,q,hq',e,el⟩ x hx).up (by rw [length_cons]; omega)
def uZ (r:cV):Prop:=r.1=r.2.1∨3 < uO r.1∨3 < uO r.2.1
noncomputable instance (r:cV):Decidable (uZ r):=inferInstanceAs (Decidable (_∨_∨_))
def gI:List aQ->List bY->List cV
|_,[]=>[]
|E,.one r::gs=>aR E r++gI E gs
|E,.piece p::gs=>gI (p::E) gs
def nH:List aQ->List bY->Prop
|_,[]=>True
|E,.one r::gs=>sN E r/\nH E gs
|E,.piece p::gs=>JW E p/\nH (p::E) gs
def cZ:List aQ->List bY->List aQ
|E,[]=>E
|E,.one _::gs=>cZ E gs
|E,.piece p::gs=>cZ (p::E) gs
theorem mC:∀ (gs:List bY) (E:List aQ) (g:bY),cZ E (gs++[g])=cZ (cZ E gs) [g]
|[],_,_=>rfl
|.one _::gs,E,g=>mC gs E g
|.piece p::gs,E,g=>mC gs (p::E) g
theorem lN:∀ (gs:List bY) (E:List aQ) (g:bY),nH E (gs++[g]) ↔ nH E gs/\nH (cZ E gs) [g]
|[],E,g=>⟨fun h=>⟨trivial,h⟩,fun h=>h.2⟩
|.one r::gs,E,g=>by
  show sN E r/\nH E (gs++[g]) ↔ (sN E r/\nH E gs)/\nH (cZ E gs) [g]
  rw [lN gs E g,and_assoc]
|.piece p::gs,E,g=>by
  show JW E p/\nH (p::E) (gs++[g]) ↔ (JW E p/\nH (p::E) gs)/\nH (cZ (p::E) gs) [g]
  rw [lN gs (p::E) g,and_assoc]
theorem yN:∀ {gs:List bY}{E:List aQ},jS E->nH E gs->∀ x∈gI E gs,OW (3+E.length+gs.length) x
|[],_,_,_,_,h=>nomatch h
|.one r::gs,E,hE,h,x,hx=>by
  rcases mem_append.mp hx with hx|hx
  ·exact (mS hE h.1 x hx).up (by omega)
  ·exact (yN hE h.2 x hx).up (by rw [length_cons]; omega)
|.piece p::gs,E,hE,h,x,hx=>(yN (E:=p::E) ⟨h.1,hE⟩ h.2 x hx).up (by rw [length_cons,length_cons]; omega)
theorem NA {K:Frag}{H:Hp}{v:V}{r:cV}{D:Nat} (h:aW H v (Sum.inr r.1,Sum.inr r.2.1,r.2.2)) (t:OW D r) (hD:D<=90):dM K H v (decide (¬ uZ r)):=by
 obtain ⟨p,u,rfl,hp,pt,rfl,hpt⟩:=h
 obtain ⟨h1,h2,h3,h4,h5⟩:=t
 have l1:=h1.2.2
 have l2:=h2.2.2
 have q1:jI K H (.str r.1) (postB r.1):=.inl ⟨r.1,rfl,by omega,rfl⟩
 have q2:jI K H (.str r.2.1) (postB r.2.1):=.inl ⟨r.2.1,rfl,by omega,rfl⟩
 rw [h1.postB] at q1
 rw [h2.postB] at q2
 by_cases e1:uO r.1<=3
 ·rw [decide_eq_true e1] at q1
  by_cases e2:uO r.2.1<=3
  ·rw [decide_eq_true e2] at q2
   by_cases e:r.1=r.2.1
   ·rw [decide_eq_false (fun z=>z (.inl e))]
    refine dM.same (s:=r.1) (t:=.ref pt) ?_ q1
    rw [hp]
    show some (HO.tup [.str r.1,.str r.2.1,.ref pt])=_
    rw [← e]
   ·rw [decide_eq_true (show ¬ uZ r from fun z=>z.elim e fun z=>z.elim (fun z=>by omega) fun z=>by omega)]
    have hd:=r.2.2.den_pos
    have h30:(0:Int) < r.2.2.num:=by
     have:=Rat.num_nonneg.mpr (Rat.le_of_lt h3)
     have n0:r.2.2.num≠0:=fun z=>Rat.ne_of_gt h3 (Rat.num_eq_zero.mp z)
     omega
    have m1:Sm 8000 r.2.2.num:=(Sm.of (n:=64) (by omega) (by omega)).mono (by decide)
    have m2:Sm 8000 (r.2.2.den:Int):=(Sm.of (n:=64) (by omega) (by omega)).mono (by decide)
    have:=dM.run (K:=K) hp q1 q2 e hpt (EE _) m1 m2
    rw [decide_eq_true h30] at this
    exact this
  ·rw [decide_eq_false e2] at q2
   rw [decide_eq_false (fun z=>z (.inr (.inr (by omega))))]
   exact dM.two hp q1 q2
 ·rw [decide_eq_false e1] at q1
  rw [decide_eq_false (fun z=>z (.inr (.inl (by omega))))]
  exact dM.one hp q1
theorem LH {K:Frag}{H:Hp}{D:Nat} (hD:D<=90):∀ {n:List cV}{vs:List V},Paired (aW H) vs (kn n)->(∀ r∈n,OW D r)->Paired (dM K H) vs (n.map fun r=>decide (¬ uZ r))
|[],_,.nil,_=>.nil
|r::n,_,.cons h t,hr=>.cons (NA h (hr r (by simp)) hD) (LH hD t fun x hx=>hr x (mem_cons_of_mem _ hx))
def pQ (n:List cV):Prop:=n=[]∨∃ r∈n,uZ r
def Ap (H0 H:Hp) (v:V) (n:List cV):Prop:=(120 < n.length/\v=.str "many")∨(n.length<=120/\pQ n/\v=.str "none")∨(n.length<=120/\¬ pQ n/\∃ l,v=.ref l/\H0 l=none/\LQ aW H l (kn n))
theorem Ap.sm {H0 H G:Hp}{v:V}{n:List cV} (h:Ap H0 H v n) (s:aI H G):Ap H0 G v n:=by
 rcases h with h|h|⟨h1,h2,l,h3,h4,h5⟩
 ·exact .inl h
 ·exact .inr (.inl h)
 ·exact .inr (.inr ⟨h1,h2,l,h3,h4,h5.sm aW.tk s⟩)
theorem UP {H0 H0' H:Hp}{Q:VK}{v u:V}{n:List cV} (h:Ap H0 H v n) (h':Ap H0' H u n) (k:Q (.bl false) H):AR v u H Q:=by
 rcases h with ⟨h1,rfl⟩|⟨h1,h2,rfl⟩|⟨h1,h2,l,rfl,h4,h5⟩ <;> rcases h' with ⟨h1',rfl⟩|⟨h1',h2',rfl⟩|⟨h1',h2',l',rfl,h4',h5'⟩
 ·exact MV (by rw [show ((("many":Str))==("many":Str))=true from by decide +kernel]; exact k)
 ·omega
 ·omega
 ·omega
 ·exact MV (by rw [show ((("none":Str))==("none":Str))=true from by decide +kernel]; exact k)
 ·exact absurd h2 h2'
 ·omega
 ·exact absurd h2' h2
 ·exact YW h5 h5' k
theorem qE {r:fI} (h:IJ r):r.runs.length<=31:=by
 cases r with
|run a b t=>exact show 1<=31 by decide
|path k t ps =>
  obtain ⟨_,_,h3,h4,_⟩:=h
  cases k with
 |row =>
   rw [show (fI.path .row t ps).runs=dH t ps from rfl,fF]
   omega
 |star =>
   rw [show (fI.path .star t ps).runs=ps.tail.map fun x=>(ps.headD "",x,t) from rfl,length_map,length_tail]
   omega
 |ring =>
   rw [show (fI.path .ring t ps).runs=dH t (ps++ps.take 1) from rfl,fF,length_append,length_take]
   omega
theorem EF {α β:Type}{f:α->List β}{B:Nat}:∀ {l:List α},(∀ x∈l,(f x).length<=B)->(l.flatMap f).length<=l.length * B
|[],_=>by simp
|a::l,h=>by
  rw [flatMap_cons,length_append,length_cons,succ_mul]
  have h1:=h a (by simp)
  have h2:=EF (l:=l) fun x hx=>h x (mem_cons_of_mem _ hx)
  omega
def wE:List aQ->Nat
|[]=>0
|p::E=>wE E+p.2.2.length+2
theorem KA:∀ {E:List aQ},jS E->3 * E.length<=wE E
|[],_=>le_refl _
|p::E,h=>by
  have h1:=KA h.2
  have h2:=length_pos_iff.mpr h.1.2.1
  show 3 * (E.length+1)<=wE E+p.2.2.length+2
  omega
theorem KG (n:Nat):n<=2 ^ n:=le_of_lt Nat.lt_two_pow_self
theorem tU:∀ {E:List aQ}{r:eY},jS E->sN E r->(aR E r).length<=31 * 2 ^ wE E
|E,.plain r,_,h=>by
  rw [dW]
  exact le_trans (qE h) (Nat.le_mul_of_pos_right _ (Nat.pow_pos (by decide)))
|[],.put _ _ _,_,_=>zero_le _
|p::E,.put nm cl as,hE,h=>by
  obtain ⟨h1,h2,h3,q,hq,e,el⟩:=h
  show (if p.1=nm then (p.2.2.flatMap (aR E)).map (jX p.2.1 as cl) else aR E (.put nm cl as)).length<=31 * 2 ^ (wE E+p.2.2.length+2)
  have e6:31 * 2 ^ (wE E+p.2.2.length+2)=4 * (2 ^ p.2.2.length * (31 * 2 ^ wE E)):=by
   rw [pow_add,pow_add,Nat.mul_left_comm (2 ^ p.2.2.length) 31,Nat.mul_comm (2 ^ p.2.2.length) (2 ^ wE E)]
   generalize 2 ^ wE E * 2 ^ p.2.2.length=z
   omega
  by_cases z:p.1=nm
  ·rw [if_pos z,length_map,e6]
   have h8:=EF (f:=aR E) fun r hr=>tU hE.2 (hE.1.1 r hr)
   have h9:p.2.2.length * (31 * 2 ^ wE E)<=2 ^ p.2.2.length * (31 * 2 ^ wE E):=mul_le_mul_right _ (KG _)
   omega
  ·rw [if_neg z]
   have hq':q∈E:=(mem_cons.mp hq).resolve_left fun w=>z (by rw [← w]; exact e)
   have:=tU (r:=.put nm cl as) hE.2 ⟨h1,h2,h3,q,hq',e,el⟩
   have h9:1 * (31 * 2 ^ wE E)<=2 ^ p.2.2.length * (31 * 2 ^ wE E):=mul_le_mul_right _ (Nat.pow_pos (by decide))
   rw [e6]
   omega
theorem HW {E:List aQ} (hE:jS E) {rs:List eY} (hr:∀ r∈rs,sN E r) (hl:rs.length+wE E<=58):(rs.flatMap (aR E)).length < 2 ^ 63:=by
 have h1:=EF (f:=aR E) (l:=rs) fun r h=>tU hE (hr r h)
 have h2:rs.length * (31 * 2 ^ wE E)<=2 ^ rs.length * (31 * 2 ^ wE E):=mul_le_mul_right _ (KG _)
 have h3:2 ^ rs.length * (31 * 2 ^ wE E)=31 * 2 ^ (rs.length+wE E):=by rw [pow_add,Nat.mul_left_comm]
 have h4:2 ^ (rs.length+wE E)<=2 ^ 58:=Nat.pow_le_pow_right (by decide) hl
 omega
def CF (H:Hp) (d:Addr) (E:List aQ):Prop:=∃ kvs,H d=some (.dK kvs)/\kvs.length<=E.length/\∀ p∈E,dA kvs (Sum.inr p.1)=some (.int ((p.2.2.flatMap (aR E)).length:Int))
def zA (H:Hp) (d:Addr) (E:List aQ):Prop:=∃ kvs,H d=some (.dK kvs)/\kvs.length<=E.length/\∀ p∈E,∃ v,dA kvs (Sum.inr p.1)=some v/\gH H v p
theorem CF.sm {H G:Hp}{d:Addr}{E:List aQ} (h:CF H d E) (s:aI H G):CF G d E:=let ⟨k,a,b,c⟩:=h; ⟨k,s _ _ a,b,c⟩
theorem zA.sm {H G:Hp}{d:Addr}{E:List aQ} (h:zA H d E) (s:aI H G):zA G d E:=let ⟨k,a,b,c⟩:=h; ⟨k,s _ _ a,b,fun p hp=>let ⟨v,e,q⟩:=c p hp; ⟨v,e,q.tk s.tk⟩⟩
theorem rX {kvs:List (cB×V)}{k:cB}{v:V}:(dY kvs k v).length<=kvs.length+1:=by
 unfold dY
 split <;> simp
theorem NO {E:List aQ} (hE:jS E) {p q:aQ} (hp:JW E p) (hq:q∈E):q.2.2.flatMap (aR (p::E))=q.2.2.flatMap (aR E):=mB fun r hr=>oJ (hE.row hq r hr) hp.2.2.2.2.2
theorem GP {E:List aQ}{p:aQ} (hp:JW E p):p.2.2.flatMap (aR (p::E))=p.2.2.flatMap (aR E):=mB fun r hr=>oJ (hp.1 r hr) hp.2.2.2.2.2
theorem CF.put {H:Hp}{d:Addr}{kvs:List (cB×V)}{E:List aQ} (hE:jS E) {p:aQ} (hp:JW E p) (hl:kvs.length<=E.length) (h:∀ p∈E,dA kvs (Sum.inr p.1)=some (.int ((p.2.2.flatMap (aR E)).length:Int))) :
  CF (upd H d (.dK (dY kvs (Sum.inr p.1) (.int ((p.2.2.flatMap (aR E)).length:Int))))) d (p::E):=by
 refine ⟨_,aE,by have:=rX (kvs:=kvs) (k:=Sum.inr p.1) (v:=.int ((p.2.2.flatMap (aR E)).length:Int)); rw [length_cons]; omega,fun q hq=>?_⟩
 rw [lO]
 rcases mem_cons.mp hq with rfl|hq
 ·rw [if_pos rfl,GP hp]
 ·rw [if_neg fun z=>hp.2.2.2.2.2 q hq (Sum.inr.inj z),NO hE hp hq]
  exact h q hq
theorem zA.put {H G:Hp}{d:Addr}{v:V}{kvs:List (cB×V)}{E:List aQ}{p:aQ} (hp:JW E p) (hl:kvs.length<=E.length) (h:∀ p∈E,∃ v,dA kvs (Sum.inr p.1)=some v/\gH H v p) (hv:gH H v p) (t:TK H G) (g:G d=some (.dK (dY kvs (Sum.inr p.1) v))):zA G d (p::E):=by
 refine ⟨_,g,by have:=rX (kvs:=kvs) (k:=Sum.inr p.1) (v:=v); rw [length_cons]; omega,fun q hq=>?_⟩
 rw [lO]
 rcases mem_cons.mp hq with rfl|hq
 ·exact ⟨v,if_pos rfl,hv.tk t⟩
 ·obtain ⟨u,e,f⟩:=h q hq
  exact ⟨u,by rw [if_neg fun z=>hp.2.2.2.2.2 q hq (Sum.inr.inj z)]; exact e,f.tk t⟩
theorem jL {α:Type} (x y:List α):(x++y).take 121=(x.take 121++y.take 121).take 121:=by
 rw [zK x y,take_append,take_append,take_take,take_take]
 congr 2
 omega
def zC (H:Hp) (l:Addr) (gs:List bY):Prop:=∃ xs,H l=some (.lst xs)/\Paired (iD H) xs gs
theorem zC.sm {H G:Hp}{l:Addr}{gs:List bY} (h:zC H l gs) (s:aI H G):zC G l gs:=let ⟨xs,a,b⟩:=h; ⟨xs,s _ _ a,Pd.imp b fun _ _ f=>f.tk s.tk⟩
def lE:List bY->Nat
|[]=>0
|.one _::gs=>lE gs+1
|.piece p::gs=>lE gs+p.2.2.length+2
theorem oZ:∀ (gs:List bY) (g:bY),lE (gs++[g])=lE gs+lE [g]
|[],g=>by show lE [g]=0+_; omega
|.one _::gs,g=>by show lE (gs++[g])+1=lE gs+1+_; rw [oZ gs g]; omega
|.piece p::gs,g=>by show lE (gs++[g])+p.2.2.length+2=lE gs+p.2.2.length+2+_; rw [oZ gs g]; omega
theorem uI:∀ gs:List bY,gs.length<=lE gs
|[]=>le_refl _
|.one _::gs=>by have:=uI gs; show gs.length+1<=lE gs+1; omega
|.piece p::gs=>by have:=uI gs; show gs.length+1<=lE gs+p.2.2.length+2; omega
structure iE (gs:List bY):Prop where
 wf:nH [] gs
 few:gs.length<=60
 ln:lE gs<=60
theorem CK:∀ {gs:List bY}{E:List aQ},wE (cZ E gs)<=wE E+lE gs
|[],_=>le_refl _
|.one _::gs,E=>le_trans (CK (gs:=gs)) (by show _<=wE E+(lE gs+1); omega)
|.piece p::gs,E=>le_trans (CK (gs:=gs) (E:=p::E)) (by show wE E+p.2.2.length+2+lE gs<=wE E+(lE gs+p.2.2.length+2); omega)
theorem KB:∀ {gs:List bY}{E:List aQ},wE E<=wE (cZ E gs)
|[],_=>le_refl _
|.one _::gs,E=>KB (gs:=gs)
|.piece p::gs,E=>le_trans (by show wE E<=wE E+p.2.2.length+2; omega) (KB (gs:=gs) (E:=p::E))
theorem iE.wE {gs gs':List bY}{E:List aQ} (h:iE gs) (e:cZ E gs'=cZ [] gs):wE E<=60:=by
 have h1:=KB (gs:=gs') (E:=E)
 have h2:=CK (gs:=gs) (E:=[])
 have h3:=h.ln
 rw [e] at h1
 have:L2.wE []=0:=rfl
 omega
theorem iE.le20 {gs gs':List bY}{E:List aQ} (h:iE gs) (hE:jS E) (e:cZ E gs'=cZ [] gs):E.length<=20:=by
 have h1:=h.wE e
 have h2:=KA hE
 omega
theorem bQ.head {H:Hp}{v:V}{r:eY} (h:bQ H v r):∃ p k xs,v=.ref p/\H p=some (.tup (.str k::xs))/\k≠"piece":=by
 cases r with
|plain r =>
  obtain ⟨p,xs,e,h1⟩:=gZ.head h
  exact ⟨p,_,xs,e,h1,r.no_piece⟩
|put nm cl as =>
  obtain ⟨p,q,e,h1,_⟩:=h
  exact ⟨p,_,_,e,h1,by decide +kernel⟩
theorem iK {α:Type}{gs:List α}{i:Nat}{g:α} (h:gs[i]?=some g):gs.drop i=g::gs.drop (i+1):=by
 obtain ⟨hi,e⟩:=List.getElem?_eq_some_iff.mp h
 rw [List.drop_eq_getElem_cons hi,e]
theorem EW:∀ {ps as:List Str}{cl x:Str},(dA (((ps.map Sum.inr).zip (as.map V.str)):List (cB×V)) (Sum.inr x)).getD (.str (cl++⟨#[46]⟩++x))=.str (gB ps as cl x)
|[],_,_,_=>rfl
|_::_,[],_,_=>rfl
|p::ps,a::as,cl,x=>by
  show (dA ((Sum.inr p,V.str a)::((ps.map Sum.inr).zip (as.map V.str))) (Sum.inr x)).getD _=.str (if p=x then a else gB ps as cl x)
  by_cases e:p=x
  ·rw [if_pos e,eO (show (Sum.inr p:cB)=Sum.inr x by rw [e])]
   rfl
  ·rw [if_neg e,eP (fun z=>e (Sum.inr.inj z))]
   exact EW
theorem VD {ps as:List Str} (nd:ps.Nodup) (hl:ps.length=as.length):gC [] (((ps.map Sum.inr).zip (as.map V.str)):List (cB×V))=(ps.map Sum.inr).zip (as.map V.str):=by
 have e:((((ps.map Sum.inr).zip (as.map V.str)):List (cB×V)).map (·.1))=ps.map Sum.inr:=List.map_fst_zip (by rw [length_map,length_map]; omega)
 have:=qK (kvs:=[]) (more:=(((ps.map Sum.inr).zip (as.map V.str)):List (cB×V))) (by
  rw [nil_append,e]
  exact pairwise_map.mpr (nd.imp fun h z=>h (Sum.inr.inj z)))
 exact this
theorem GC:∀ {ps as:List Str}{cl x:Str}{j:Nat}{a:Str},ps[j]?=some x->(∀ m,m < j->ps[m]?≠some x)->as[j]?=some a->gB ps as cl x=a
|[],_,_,_,_,_,h,_,_=>by simp at h
|p::ps,[],_,_,_,_,_,_,h=>by simp at h
|p::ps,b::as,cl,x,0,a,h1,_,h3=>by
  cases h1
  cases h3
  exact if_pos rfl
|p::ps,b::as,cl,x,j+1,a,h1,h2,h3=>by
  have hp:p≠x:=fun z=>h2 0 (succ_pos _) (by rw [z]; rfl)
  show (if p=x then b else gB ps as cl x)=a
  rw [if_neg hp]
  exact GC (j:=j) h1 (fun m hm=>h2 (m+1) (by omega)) h3
theorem GB:∀ {ps as:List Str}{cl x:Str},x∉ps->gB ps as cl x=cl++⟨#[46]⟩++x
|[],_,_,_,_=>rfl
|_::_,[],_,_,_=>rfl
|p::ps,a::as,cl,x,h=>by
  show (if p=x then a else gB ps as cl x)=_
  rw [if_neg fun z=>h (by rw [z]; simp)]
  exact GB fun z=>h (mem_cons_of_mem _ z)
theorem NR {ps:List Str}{x:Str} (h:x∈ps):∃ j:Nat,ps[j]?=some x/\∀ m,m < j->ps[m]?≠some x:=by
 induction ps with
|nil=>cases h
|cons p ps ih =>
  by_cases e:p=x
  ·exact ⟨0,by rw [e]; rfl,fun m hm=>absurd hm (not_lt_zero _)⟩
  ·obtain ⟨j,h1,h2⟩:=ih ((mem_cons.mp h).resolve_left fun z=>e z.symm)
   refine ⟨j+1,h1,fun m hm=>?_⟩
   cases m with
  |zero=>exact fun z=>e (Option.some.inj z)
  |succ m=>exact h2 m (by omega)
theorem KN {E:List aQ}:∀ l:List eY,((l.map fun r=>((aR E r).length:Int)).sum)=((l.flatMap (aR E)).length:Int)
|[]=>rfl
|r::l=>by
  rw [map_cons,sum_cons,KN l,flatMap_cons,length_append,Int.natCast_add]
theorem VW (E:List aQ) (r:eY):HQ E r<=E.length:=jS.put.rk_le E r
def uT:eY->Dt
|.plain r=>OE r
|.put nm cl as=>.tup [.str "put",.str nm,.str cl,.tup (as.map Dt.str)]
def BZ:bY->Dt
|.one r=>uT r
|.piece p=>.tup [.str "piece",.str p.1,.tup (p.2.1.map Dt.str),.tup (p.2.2.map uT)]
theorem bQ.den {H:Hp}{v:V}:∀ {r:eY},bQ H v r->rR H (uT r) v
|.plain r,h=>gZ.den h
|.put nm cl as,⟨p,q,e,h,g⟩=>⟨p,_,e,h,_,_,rfl,rfl,_,_,rfl,rfl,_,_,rfl,rfl,_,_,rfl,⟨q,_,rfl,g,qQ as⟩,rfl⟩
theorem iD.den {H:Hp}{v:V}:∀ {r:bY},iD H v r->rR H (BZ r) v
|.one r,h=>bQ.den h
|.piece x,⟨p,q,z,xs,e,h,g,hz,pr⟩=>⟨p,_,e,h,_,_,rfl,rfl,_,_,rfl,rfl,_,_,rfl,⟨q,_,rfl,g,qQ _⟩,_,_,rfl,⟨z,_,rfl,hz,uS (fun v b h=>bQ.den h) pr⟩,rfl⟩
theorem pH:∀ r:eY,sK (uT r)<=5
|.plain r=>SA r
|.put _ _ as=>by
  have:=uQ as
  simp only [sK,gD,uT]
  omega
theorem uR {α:Type}{f:α->Dt}{B:Nat} (h:∀ b,sK (f b)<=B):∀ l:List α,gD (l.map f)<=B
|[]=>by simp [gD]
|a::l=>by
  have h1:=h a
  have h2:=uR h l
  rw [map_cons]
  simp only [gD]
  omega
theorem OD:∀ r:bY,sK (BZ r)<=10
|.one r=>le_trans (pH r) (by decide)
|.piece p=>by
  have h1:=uQ p.2.1
  have h2:=uR pH p.2.2
  simp only [sK,gD,BZ]
  omega
theorem ZS {H:Hp}{l:Addr}{gs:List bY} (h:zC H l gs):rR H (.lst (gs.map BZ)) (.ref l):=let ⟨xs,a,b⟩:=h; ⟨l,xs,rfl,a,uS (fun _ _ h=>iD.den h) b⟩
theorem Fg {H:Hp}{Q:VK}{l1 l2:Addr}{gs:List bY} (h1:zC H l1 gs) (h2:H l2=some (.lst [])) (k:Q (.bl gs.isEmpty) H):rL (.ref l1) (.ref l2) H Q:=by
 refine BW (ZS h1) (ds:=gs.map BZ) (es:=[]) ⟨l2,_,rfl,h2,rfl⟩ (le_trans (uR OD gs) (by decide)) ?_
 cases gs <;> exact k
theorem Eo {H:Hp}{Q:VK}{l1 l2:Addr}{ys:List V}{rs:List eY} (h1:H l1=some (.lst ys)) (pr:Paired (bQ H) ys rs) (h2:H l2=some (.lst [])) (k:Q (.bl (!rs.isEmpty)) H):AR (.ref l1) (.ref l2) H Q:=by
 refine MW (ds:=rs.map uT) (es:=[]) ⟨l1,_,rfl,h1,uS (fun _ _ h=>bQ.den h) pr⟩ ⟨l2,_,rfl,h2,rfl⟩ (le_trans (uR pH rs) (by decide)) ?_
 cases rs <;> exact k
theorem Fe {H:Hp}{Q:VK}{l1 l2:Addr}{ys:List V}{rs:List eY} (h1:H l1=some (.lst ys)) (pr:Paired (bQ H) ys rs) (h2:H l2=some (.lst [])) (k:Q (.bl rs.isEmpty) H):rL (.ref l1) (.ref l2) H Q:=by
 refine BW (ds:=rs.map uT) (es:=[]) ⟨l1,_,rfl,h1,uS (fun _ _ h=>bQ.den h) pr⟩ ⟨l2,_,rfl,h2,rfl⟩ (le_trans (uR pH rs) (by decide)) ?_
 cases rs <;> exact k
def lI (lf lk:Addr) (vi:V) (u:Int):List (cB×V):=[(Sum.inr "found",.ref lf),(Sum.inr "known",.ref lk),(Sum.inr "inside",vi),(Sum.inr "used",.int u)]
section
variable {lf lk:Addr} {vi v:V} {u w:Int}
theorem kG:dA (lI lf lk vi u) (Sum.inr "found")=some (.ref lf):=by with_unfolding_all rfl
theorem oD:dA (lI lf lk vi u) (Sum.inr "known")=some (.ref lk):=by with_unfolding_all rfl
theorem kE:dA (lI lf lk vi u) (Sum.inr "inside")=some vi:=by with_unfolding_all rfl
theorem oC:dA (lI lf lk vi u) (Sum.inr "used")=some (.int u):=by with_unfolding_all rfl
theorem KO:dY (lI lf lk vi u) (Sum.inr "inside") v=lI lf lk v u:=by with_unfolding_all rfl
theorem xA:dY (lI lf lk vi u) (Sum.inr "used") (.int w)=lI lf lk vi w:=by with_unfolding_all rfl
end
def Fz (H:Hp) (lk:Addr) (E:List aQ):Prop:=∃ ks,H lk=some (.lst ks)/\Paired (fun v (p:aQ)=>∃ a,v=V.ref a/\H a=some (.tup [.str p.1,.int (p.2.1.length:Int)])) ks E.reverse
theorem Fz.sm {H G:Hp}{l:Addr}{E:List aQ} (h:Fz H l E) (s:aI H G):Fz G l E:=let ⟨ks,a,b⟩:=h; ⟨ks,s _ _ a,Pd.imp b fun _ _ ⟨x,e,f⟩=>⟨x,e,s _ _ f⟩⟩
structure ET (H0 H:Hp) (d lf lk:Addr) (U:List Str) (E:List aQ) (vi:V) (x:aQ):Prop where
 at_:∃ li q ls ys,vi=.ref li/\H li=some (.lst [.str x.1,.ref q,.ref ls])/\H q=some (.tup (x.2.1.map V.str))/\H ls=some (.lst ys)/\Paired (bQ H) ys x.2.2/\H0 li=none/\H0 ls=none/\li≠lf/\li≠lk/\li≠ls/\ls≠lf/\ls≠lk
 nm:x.1∈U
 nw:∀ q∈E,q.1≠x.1
 nd:x.2.1.Nodup
 le:1<=x.2.1.length/\x.2.1.length<=8
 wf:∀ r∈x.2.2,sN E r
 pb:∀ s∈x.1::x.2.1,cE s=true
def Ik (H0 H:Hp) (d lf lk:Addr) (U:List Str) (E:List aQ) (vi:V):Option aQ->Prop
|none=>vi=.non
|some x=>ET H0 H d lf lk U E vi x
def Hr:Option aQ->Nat
|none=>0
|some x=>x.2.2.length+1
structure CG (H0 H:Hp) (d lf lk:Addr) (U:List Str) (gs:List bY) (ins:Option aQ) (n:Nat):Prop where
 st:∃ vi u,H d=some (.dK (lI lf lk vi u))/\Ik H0 H d lf lk U (cZ [] gs) vi ins
 ne:lf≠lk
 fr:H0 d=none/\H0 lf=none/\H0 lk=none
 gq:zC H lf gs
 kq:Fz H lk (cZ [] gs)
 wf:nH [] gs
 nm:∀ p∈cZ [] gs,p.1∈U
 le:lE gs+Hr ins<=n
theorem CJ:∀ {gs:List bY}{E:List aQ},jS E->nH E gs->jS (cZ E gs)
|[],_,h,_=>h
|.one _::gs,_,h,w=>CJ (gs:=gs) h w.2
|.piece p::gs,_,h,w=>CJ (gs:=gs) (E:=p::_) ⟨w.1,h⟩ w.2
theorem NY:∀ {E:List aQ},jS E->(E.map (·.1)).Nodup
|[],_=>List.nodup_nil
|p::E,h=>by
  rw [map_cons,nodup_cons]
  refine ⟨fun z=>?_,NY h.2⟩
  obtain ⟨q,hq,e⟩:=mem_map.mp z
  exact h.1.2.2.2.2.2 q hq e
theorem Hu {U:List Str} (hU:U.length=8) {E:List aQ} (h:jS E) (hn:∀ p∈E,p.1∈U):E.length<=8:=by
 have:=yE (NY h) (fun x hx=>by
  obtain ⟨p,hp,rfl⟩:=mem_map.mp hx
  exact hn p hp:∀ x∈E.map (·.1),x∈U)
 rw [length_map,hU] at this
 exact this
theorem CG.built {H0 H:Hp}{d lf lk:Addr}{U:List Str}{gs:List bY}{ins:Option aQ}{n:Nat} (h:CG H0 H d lf lk U gs ins n) (hU:U.length=8) (hn:n<=60):iE gs:=
 ⟨h.wf,by have:=h.le; have:=uI gs; omega,by have:=h.le; omega⟩
theorem CG.up {H0 H:Hp}{d lf lk:Addr}{U:List Str}{gs:List bY}{ins:Option aQ}{n m:Nat} (h:CG H0 H d lf lk U gs ins n) (l:n<=m):CG H0 H d lf lk U gs ins m:=⟨h.st,h.ne,h.fr,h.gq,h.kq,h.wf,h.nm,le_trans h.le l⟩
theorem ET.sm {H0 H G:Hp}{d lf lk:Addr}{U:List Str}{E:List aQ}{vi:V}{x:aQ} (h:ET H0 H d lf lk U E vi x) (s:aI H G):ET H0 G d lf lk U E vi x:=by
 obtain ⟨⟨li,q,ls,ys,e,h1,h2,h3,h4,h5⟩,b,c,d',e',f,pb⟩:=h
 exact ⟨⟨li,q,ls,ys,e,s _ _ h1,s _ _ h2,s _ _ h3,Pd.imp h4 fun _ _ f=>f.tk s.tk,h5⟩,b,c,d',e',f,pb⟩
theorem CG.sm {H0 H G:Hp}{d lf lk:Addr}{U:List Str}{gs:List bY}{ins:Option aQ}{n:Nat} (h:CG H0 H d lf lk U gs ins n) (s:aI H G):CG H0 G d lf lk U gs ins n:=by
 obtain ⟨⟨vi,u,hd,hi⟩,h2,h3,h4,h5,h6,h7,h8⟩:=h
 refine ⟨⟨vi,u,s _ _ hd,?_⟩,h2,h3,h4.sm s,h5.sm s,h6,h7,h8⟩
 cases ins with
|none=>exact hi
|some x=>exact ET.sm hi s
def yD (EO EN:Str) (x:Int) (i:Nat):Str:=EO++⟨#[97+((x+3 * (i:Int)) % 26).toNat]⟩++EN
theorem YU {EO EN:Str}{x:Int}{i j:Nat} (hi:i < 8) (hj:j < 8) (h:yD EO EN x i=yD EO EN x j):i=j:=by
 have e:=congrArg (fun s:Str=>s.cps.toList) h
 have l:∀ k:Nat,(yD EO EN x k).cps.toList=EO.cps.toList++((97+((x+3 * (k:Int)) % 26).toNat)::EN.cps.toList):=fun k=>by
  show ((EO.cps++#[97+((x+3 * (k:Int)) % 26).toNat])++EN.cps).toList=_
  simp
 simp only [l] at e
 have e2:=(List.cons.inj (List.append_cancel_left e)).1
 omega
theorem En (EO EN:Str) (x:Int):((List.range 8).map (yD EO EN x)).Nodup:=by
 refine pairwise_map.mpr (List.nodup_range.imp_of_mem fun {a b} ha hb hab e=>hab (YU (mem_range.mp ha) (mem_range.mp hb) e))
theorem QN {U:List Str} (hU:U.length=8) (nd:U.Nodup) (x:Int) {m:Nat} (hm:m<=8) {ps:List Str} (hl:ps.length=m) (h:∀ j,j < m->∃ s,ps[j]?=some s/\U[((x+(j:Int)) % 8).toNat]?=some s):ps.Nodup:=by
 rw [List.nodup_iff_pairwise_ne,List.pairwise_iff_getElem]
 intro i j hi hj hij e
 obtain ⟨s,h1,h2⟩:=h i (by omega)
 obtain ⟨t,h3,h4⟩:=h j (by omega)
 rw [List.getElem?_eq_getElem hi] at h1
 rw [List.getElem?_eq_getElem hj] at h3
 cases h1
 cases h3
 rw [e] at h2
 have hi8:((x+(i:Int)) % 8).toNat < U.length:=by omega
 have hj8:((x+(j:Int)) % 8).toNat < U.length:=by omega
 rw [List.getElem?_eq_getElem hi8] at h2
 rw [List.getElem?_eq_getElem hj8] at h4
 have e2:U[((x+(i:Int)) % 8).toNat]=U[((x+(j:Int)) % 8).toNat]:=(Option.some.inj h2).trans (Option.some.inj h4).symm
 have pw:=List.pairwise_iff_getElem.mp nd
 rcases Nat.lt_trichotomy ((x+(i:Int)) % 8).toNat ((x+(j:Int)) % 8).toNat with z|z|z
 ·exact pw _ _ hi8 hj8 z e2
 ·omega
 ·exact pw _ _ hj8 hi8 z e2.symm
theorem yP:∀ (gs:List bY) (E:List aQ),(cZ E gs).length<=E.length+gs.length
|[],_=>le_refl _
|.one _::gs,E=>le_trans (yP gs E) (by rw [length_cons]; omega)
|.piece p::gs,E=>le_trans (yP gs (p::E)) (by rw [length_cons,length_cons]; omega)
end
section
abbrev yY (h:Heap) (z TI TO:Addr) (f0:Value) (b:Bool):Prop:=h.get? z=some { cls:=.type "zip",dict:=none,data:=.fields #[f0,.bool b,.bool false,.ref TI,.ref TO],slots:=#[] }
structure vC (h:Heap) (z TI TO i1 i2 l1 l2:Addr) (k:Nat) (xs ys:Array Value):Prop where
 zp:∃ f0 b,yY h z TI TO f0 b/\((k=0/\f0=.none/\b=false)∨(1<=k/\∃ (T:Addr) (o:Obj),f0=rawInt T/\h.get? T=some o/\T≠z/\T≠TO/\T≠i1/\T≠i2))
 ti:IsPair h TI (.ref i1) (.ref i2)
 to:∃ a b,IsPair h TO a b
 p1:h.IsTupleIter i1 l1 k
 p2:h.IsTupleIter i2 l2 k
 q1:h.IsTuple l1 xs
 q2:h.IsTuple l2 ys
section
open Sem (wp)
variable {prog:Program} {w:World} {A:Around} {E:Value -> Shared -> Prop} {s:Shared} {z TI TO i1 i2 l1 l2:Addr} {k:Nat} {xs ys:Array Value}
theorem ON {a:Addr}{o:Obj}{Q:Option Obj->Shared->Prop} (ho:s.heap.get? a=some o) (h:Q (some o) s):wpAny (model prog w) A (loadIfAlive a) Q E s:=fun Γ p _=>by
 show wp _ _ (.loadIfAlive a .pure) _ _ _ _
 rw [Sem.wp_loadIfAlive,ho]
 exact h
theorem GN {T:Addr}{o:Obj}{b:Bool}{Q:Bool->Shared->Prop} (gz:yY s.heap z TI TO (rawInt T) b) (gT:s.heap.get? T=some o)
  (k:∀ h',h'.objs.size=s.heap.objs.size->(∀ c o,c≠z->s.heap.get? c=some o->h'.get? c=some o)->yY h' z TI TO (rawInt T) true->Q false { s with heap:=h' }):wpAny (model prog w) A (Builtin.SmallTypes.ownedTupleIsFree (.ref z)) Q E s:=by
 unfold Builtin.SmallTypes.ownedTupleIsFree
 refine wpAny_bind (wpAny_field gz rfl (x:=rawInt T) rfl ?_)
 show wpAny _ _ (loadIfAlive ((T:Int).toNat) >>= _) _ _ _
 refine wpAny_bind (ON (o:=o) (by rw [Int.toNat_natCast]; exact gT) ?_)
 rw [if_neg (by simp)]
 refine wpAny_bind (wpAny_field gz rfl (x:=.bool b) rfl ?_)
 cases b with
|true =>
  rw [if_neg (by decide)]
  exact wpAny_pure (k _ rfl (fun _ _ _ e=>e) gz)
|false =>
  rw [if_pos (by decide)]
  exact wpAny_bind (wpAny_setField_rec gz (by simp) fun m1 gz1 c1=>wpAny_pure (k m1 c1.1 (fun c o n e=>c1.extBut _ _ n e) gz1))
theorem HA {x y:Value}{Q:Value->Shared->Prop} (D:ZipApart z TI TO i1 i2 l1 l2) (Z:vC s.heap z TI TO i1 i2 l1 l2 k xs ys) (hx:xs[k]?=some x) (hy:ys[k]?=some y)
  (hQ:∀ h',vC h' z TI TO i1 i2 l1 l2 (k+1) xs ys->IsPair h' s.heap.objs.size x y->h'.objs.size=s.heap.objs.size+1 ->
   (∀ c o,c≠z->c≠TO->c≠i1->c≠i2->s.heap.get? c=some o->h'.get? c=some o)->Q (.ref s.heap.objs.size) { s with heap:=h' }) :
  wpAny (model prog w) A (Builtin.«zip.__next__» ⟨[.ref z],[]⟩) (fun fin s'=>∃ v,fin=.done (.ret v)/\Q v s') E s:=by
 obtain ⟨⟨f0,b0,gz,hf⟩,gTI,⟨a,b,gTO⟩,g1,g2,t1,t2⟩:=Z
 have lz:=lt_size gz
 have lTO:=lt_size gTO
 have li1:i1 < s.heap.objs.size:=by obtain ⟨_,e,_⟩:=g1; exact lt_size e
 have li2:i2 < s.heap.objs.size:=by obtain ⟨_,e,_⟩:=g2; exact lt_size e
 have nw:∀ {c:Addr},c < s.heap.objs.size->s.heap.objs.size≠c:=fun h=>ne_of_gt h
 show wpAny _ _ (field (.ref z) 2 >>= _) _ _ _
 refine wpAny_bind (wpAny_field gz rfl (x:=.bool false) rfl ?_)
 show wpAny _ _ (field (.ref z) 3 >>= _) _ _ _
 refine wpAny_bind (wpAny_field gz rfl (x:=.ref TI) rfl ?_)
 refine wpAny_bind (wpAny_seqItems gTI rfl ?_)
 show wpAny _ _ (Builtin.SmallTypes.ownedTupleIsFree (.ref z) >>= _) _ _ _
 rcases hf with ⟨rfl,rfl,rfl⟩|⟨k1,T,oT,rfl,gT,nT⟩
 ·refine wpAny_bind ?_
  unfold Builtin.SmallTypes.ownedTupleIsFree
  refine wpAny_bind (wpAny_field gz rfl (x:=.none) rfl (wpAny_pure ?_))
  simp only [if_true]
  refine wpAny_bind (wpAny_rule (wpAny_bind (wpAny_field gz rfl (x:=.ref TO) rfl ?_)))
  refine wpAny_bind (wpAny_setField_rec gz (by simp) fun m1 gz1 c1=>?_)
  replace gz1:yY m1 z TI TO .ellipsis false:=gz1
  refine wpAny_bind ?_
  simp only [List.zipIdx_cons,List.zipIdx_nil,forIn_cons,forIn_nil]
  refine wpAny_bind (wpAny_bind (wpAny_onRaise ?_))
  show wpAny _ _ (Builtin.SmallTypes.nextOf (.ref i1) >>= _) _ _ _
  refine wpAny_bind (jD (g1.at fun o e=>c1.extBut _ o D.i1z e) (t1.at fun o e=>c1.extBut _ o D.l1z e) hx fun m2 g12 c2=>wpAny_pure ?_)
  have gTO2:IsPair m2 TO a b:=c2.extBut _ _ D.TOi1 (c1.extBut _ _ D.TOz gTO)
  refine wpAny_bind (wpAny_seqItems gTO2 rfl ?_)
  refine wpAny_bind (wpAny_updateSeq_pair gTO2 fun m3 gTO3 c3=>?_)
  replace gTO3:IsPair m3 TO x b:=gTO3
  refine wpAny_bind (wpAny_letGo (wpAny_pure (wpAny_bind (wpAny_bind (wpAny_onRaise ?_)))))
  show wpAny _ _ (Builtin.SmallTypes.nextOf (.ref i2) >>= _) _ _ _
  refine wpAny_bind (jD (g2.at fun o e=>c3.extBut _ o D.TOi2.symm (c2.extBut _ o D.i12.symm (c1.extBut _ o D.i2z e))) (t2.at fun o e=>c3.extBut _ o D.l2TO (c2.extBut _ o D.l2i1 (c1.extBut _ o D.l2z e))) hy fun m4 g24 c4=>wpAny_pure ?_)
  have gTO4:IsPair m4 TO x b:=c4.extBut _ _ D.TOi2 gTO3
  refine wpAny_bind (wpAny_seqItems gTO4 rfl ?_)
  refine wpAny_bind (wpAny_updateSeq_pair gTO4 fun m5 gTO5 c5=>?_)
  replace gTO5:IsPair m5 TO x y:=gTO5
  refine wpAny_bind (wpAny_letGo (wpAny_pure (wpAny_pure (wpAny_bind (wpAny_seqItems gTO5 rfl ?_)))))
  refine wpAny_bind (wpAny_newTuple ?_)
  have e5:m5.objs.size=s.heap.objs.size:=by rw [c5.1,c4.1,c3.1,c2.1,c1.1]
  have gz5:yY m5 z TI TO .ellipsis false:=c5.extBut _ _ D.TOz.symm (c4.extBut _ _ D.i2z.symm (c3.extBut _ _ D.TOz.symm (c2.extBut _ _ D.i1z.symm gz1)))
  have kp5:∀ c o,c≠z->c≠TO->c≠i1->c≠i2->s.heap.get? c=some o->m5.get? c=some o:=fun c o n1 n2 n3 n4 e=>c5.extBut _ _ n2 (c4.extBut _ _ n4 (c3.extBut _ _ n2 (c2.extBut _ _ n3 (c1.extBut _ _ n1 e))))
  have g15:m5.IsTupleIter i1 l1 (0+1):=g12.at fun o e=>c5.extBut _ o D.TOi1.symm (c4.extBut _ o D.i12 (c3.extBut _ o D.TOi1.symm e))
  have g25:m5.IsTupleIter i2 l2 (0+1):=g24.at fun o e=>c5.extBut _ o D.TOi2.symm e
  show wpAny _ _ (Builtin.SmallTypes.ownedTupleHandOut (.ref z) (.ref m5.objs.size) >>= _) _ _ _
  refine wpAny_bind ?_
  unfold Builtin.SmallTypes.ownedTupleHandOut
  have gz6:yY (m5.push { cls:=.type "tuple",data:=.seq #[x,y] }) z TI TO .ellipsis false:=get?_push_of_some _ gz5
  refine wpAny_bind (wpAny_setField_rec gz6 (by simp) fun m7 gz7 c7=>?_)
  replace gz7:yY m7 z TI TO (rawInt m5.objs.size) false:=gz7
  refine wpAny_setField_rec gz7 (by simp) fun m8 gz8 c8=>?_
  replace gz8:yY m8 z TI TO (rawInt m5.objs.size) false:=gz8
  have up:∀ c o,c≠z->m5.get? c=some o->m8.get? c=some o:=fun c o n1 e=>c8.extBut _ _ n1 (c7.extBut _ _ n1 (get?_push_of_some _ e))
  have gp:IsPair m8 m5.objs.size x y:=c8.extBut _ _ (by rw [e5]; exact nw lz) (c7.extBut _ _ (by rw [e5]; exact nw lz) (get?_push_size _ rfl))
  have e8:m8.objs.size=m5.objs.size+1:=by rw [c8.1,c7.1,size_push]
  rw [e5] at gz8 gp e8
  refine wpAny_pure ⟨_,rfl,?_⟩
  show Q (.ref m5.objs.size) _
  rw [e5]
  exact hQ m8 ⟨⟨_,_,gz8,.inr ⟨le_refl _,_,_,rfl,gp,nw lz,nw lTO,nw li1,nw li2⟩⟩,up _ _ D.TIz (kp5 _ _ D.TIz D.TITO D.TIi1 D.TIi2 gTI),⟨_,_,up _ _ D.TOz gTO5⟩,g15.at fun o e=>up _ o D.i1z e,g25.at fun o e=>up _ o D.i2z e,
   t1.at fun o e=>up _ o D.l1z (kp5 _ _ D.l1z D.l1TO D.l1i1 D.l1i2 e),t2.at fun o e=>up _ o D.l2z (kp5 _ _ D.l2z D.l2TO D.l2i1 D.l2i2 e)⟩ gp e8 fun c o n1 n2 n3 n4 e=>up c o n1 (kp5 c o n1 n2 n3 n4 e)
 ·refine wpAny_bind (GN gz gT fun m0 e0 kp0 gz0=>?_)
  rw [if_neg (by decide)]
  simp only [← Array.forIn_toList,forIn_cons,forIn_nil]
  refine wpAny_bind (wpAny_bind (wpAny_bind (wpAny_holding ?_)))
  show wpAny _ _ (Builtin.SmallTypes.nextOf (.ref i1) >>= _) _ _ _
  refine wpAny_bind (jD (g1.at fun o e=>kp0 _ o D.i1z e) (t1.at fun o e=>kp0 _ o D.l1z e) hx fun m1 g11 c1=>wpAny_pure (wpAny_pure ?_))
  refine wpAny_bind (wpAny_bind (wpAny_holding ?_))
  show wpAny _ _ (Builtin.SmallTypes.nextOf (.ref i2) >>= _) _ _ _
  refine wpAny_bind (jD (g2.at fun o e=>c1.extBut _ o D.i12.symm (kp0 _ o D.i2z e)) (t2.at fun o e=>c1.extBut _ o D.l2i1 (kp0 _ o D.l2z e)) hy fun m2 g22 c2=>wpAny_pure (wpAny_pure (wpAny_pure ?_)))
  refine wpAny_bind (wpAny_newTuple (wpAny_pure ⟨_,rfl,?_⟩) (by show 2<=sizeLine; decide))
  have e2:m2.objs.size=s.heap.objs.size:=by rw [c2.1,c1.1,e0]
  have up:∀ c o,c≠z->c≠i1->c≠i2->s.heap.get? c=some o->(m2.push { cls:=.type "tuple",data:=.seq #[x,y] }).get? c=some o:=fun c o n1 n2 n3 e=>get?_push_of_some _ (c2.extBut _ _ n3 (c1.extBut _ _ n2 (kp0 _ _ n1 e)))
  have gp:IsPair (m2.push { cls:=.type "tuple",data:=.seq #[x,y] }) m2.objs.size x y:=get?_push_size _ rfl
  have gz2:yY (m2.push { cls:=.type "tuple",data:=.seq #[x,y] }) z TI TO (rawInt T) true:=get?_push_of_some _ (c2.extBut _ _ D.i2z.symm (c1.extBut _ _ D.i1z.symm gz0))
  have e3:(m2.push { cls:=.type "tuple",data:=.seq #[x,y] }).objs.size=m2.objs.size+1:=size_push ..
  show Q (.ref m2.objs.size) { s with heap:=m2.push { cls:=.type "tuple",data:=.seq #[x,y] } }
  have r1:(m2.push { cls:=.type "tuple",data:=.seq #[x,y] }).IsTupleIter i1 l1 (k+1):=g11.at fun o e=>get?_push_of_some _ (c2.extBut _ o D.i12 e)
  have r2:(m2.push { cls:=.type "tuple",data:=.seq #[x,y] }).IsTupleIter i2 l2 (k+1):=g22.at fun o e=>get?_push_of_some _ e
  generalize m2.push { cls:=.type "tuple",data:=.seq #[x,y] }=m3 at up gp gz2 e3 r1 r2 ⊢
  rw [e2] at gp e3 ⊢
  exact hQ m3 ⟨⟨_,_,gz2,.inr ⟨succ_pos _,T,oT,rfl,up _ _ nT.1 nT.2.2.1 nT.2.2.2 gT,nT⟩⟩,up _ _ D.TIz D.TIi1 D.TIi2 gTI,⟨_,_,up _ _ D.TOz D.TOi1 D.TOi2 gTO⟩,r1,r2,t1.at fun o e=>up _ o D.l1z D.l1i1 D.l1i2 e,t2.at fun o e=>up _ o D.l2z D.l2i1 D.l2i2 e⟩ gp e3 fun c o n1 _ n3 n4 e=>up c o n1 n3 n4 e
theorem JZ {Q:PySem.Fin->Shared->Prop} (hh:A.handled=none) (D:ZipApart z TI TO i1 i2 l1 l2) (Z:vC s.heap z TI TO i1 i2 l1 l2 k xs ys) (hk:1<=k) (hx:xs[k]?=none)
  (hE:∀ h' e,(∀ c o,c≠z->c≠TO->c≠i1->c≠i2->s.heap.get? c=some o->h'.get? c=some o)->(∃ o,h'.get? e=some o/\o.cls=.type "StopIteration")->E (.ref e) { s with heap:=h' }) :
  wpAny (model prog w) A (Builtin.«zip.__next__» ⟨[.ref z],[]⟩) Q E s:=by
 obtain ⟨⟨f0,b0,gz,hf⟩,gTI,⟨a,b,gTO⟩,g1,g2,t1,t2⟩:=Z
 rcases hf with ⟨rfl,_⟩|⟨_,T,oT,rfl,gT,nT⟩
 ·exact absurd hk (by decide)
 show wpAny _ _ (field (.ref z) 2 >>= _) _ _ _
 refine wpAny_bind (wpAny_field gz rfl (x:=.bool false) rfl ?_)
 show wpAny _ _ (field (.ref z) 3 >>= _) _ _ _
 refine wpAny_bind (wpAny_field gz rfl (x:=.ref TI) rfl (wpAny_bind (wpAny_seqItems gTI rfl ?_)))
 show wpAny _ _ (Builtin.SmallTypes.ownedTupleIsFree (.ref z) >>= _) _ _ _
 refine wpAny_bind (GN gz gT fun m0 e0 kp0 gz0=>?_)
 rw [if_neg (by decide)]
 simp only [← Array.forIn_toList,forIn_cons,forIn_nil]
 refine wpAny_bind (wpAny_bind (wpAny_bind (wpAny_holding ?_)))
 show wpAny _ _ (Builtin.SmallTypes.nextOf (.ref i1) >>= _) _ _ _
 refine wpAny_bind (wN hh (g1.at fun o e=>kp0 _ o D.i1z e) (t1.at fun o e=>kp0 _ o D.l1z e) hx fun m1 e c1 he=>?_)
 exact hE m1 e (fun c o n1 _ n3 _ x=>c1 _ _ n3 (kp0 _ _ n1 x)) he
theorem DY {x y:Value}{Q:Option Value->Shared->Prop} (D:ZipApart z TI TO i1 i2 l1 l2) (Z:vC s.heap z TI TO i1 i2 l1 l2 k xs ys) (hx:xs[k]?=some x) (hy:ys[k]?=some y)
  (hQ:∀ h',vC h' z TI TO i1 i2 l1 l2 (k+1) xs ys->IsPair h' s.heap.objs.size x y->h'.objs.size=s.heap.objs.size+1 ->
   (∀ c o,c≠z->c≠TO->c≠i1->c≠i2->s.heap.get? c=some o->h'.get? c=some o)->Q (some (.ref s.heap.objs.size)) { s with heap:=h' }) :
  wpAny (model prog w) A (pyNext (.ref z)) Q E s:=by
 have hT:s.TypeIs (.ref z) "zip":=by
  obtain ⟨⟨f0,b0,gz,hf⟩,_⟩:=Z
  exact ⟨_,gz,rfl⟩
 unfold pyNext
 refine wpAny_bind (wpAny_attempt (wpAny_callSpecial?_slot (name:=Str.ofString "__next__") hT F.slot_zip_next (wpAny_call_entry F.slot_zip_next hT F.entry_zip_next ?_ (F.args_zip_next_1 _))))
 exact HA D Z hx hy fun h' a1 a2 a3 a4=>wpAny_pure (hQ h' a1 a2 a3 a4)
theorem IL {Q:Option Value->Shared->Prop} (hh:A.handled=none) (D:ZipApart z TI TO i1 i2 l1 l2) (Z:vC s.heap z TI TO i1 i2 l1 l2 k xs ys) (hk:1<=k) (hx:xs[k]?=none)
  (hQ:∀ h',(∀ c o,c≠z->c≠TO->c≠i1->c≠i2->s.heap.get? c=some o->h'.get? c=some o)->Q none { s with heap:=h' }):wpAny (model prog w) A (pyNext (.ref z)) Q E s:=by
 have hT:s.TypeIs (.ref z) "zip":=by
  obtain ⟨⟨f0,b0,gz,hf⟩,_⟩:=Z
  exact ⟨_,gz,rfl⟩
 unfold pyNext
 refine wpAny_bind (wpAny_attempt (wpAny_callSpecial?_slot (name:=Str.ofString "__next__") hT F.slot_zip_next (wpAny_call_entry F.slot_zip_next hT F.entry_zip_next ?_ (F.args_zip_next_1 _))))
 refine JZ hh D Z hk hx fun h' e kp he=>?_
 obtain ⟨o,ho,hc⟩:=he
 exact wpAny_bind (wpAny_isInstance (T:="StopIteration") (b:=true) ⟨o,ho,hc⟩ isSubtype_stop (wpAny_pure (hQ _ kp)))
abbrev Bb (h:Heap) (l1:Addr):Heap:=h.push { cls:=.type "tuple_iterator",data:=.fields #[.ref l1,.int 0 0] }
abbrev Gg (h:Heap) (l1 l2:Addr):Heap:=(Bb h l1).push { cls:=.type "tuple_iterator",data:=.fields #[.ref l2,.int 0 0] }
abbrev Gf (h:Heap) (l1 l2:Addr):Heap:=(Gg h l1 l2).push { cls:=.type "tuple",data:=.seq #[.ref h.objs.size,.ref (Bb h l1).objs.size] }
abbrev Ge (h:Heap) (l1 l2:Addr):Heap:=(Gf h l1 l2).push { cls:=.type "tuple",data:=.seq #[.none,.none] }
abbrev SV (h:Heap) (l1 l2:Addr):Heap:=(Ge h l1 l2).push { cls:=.type "zip",data:=.fields #[.none,.bool false,.bool false,.ref (Gg h l1 l2).objs.size,.ref (Gf h l1 l2).objs.size] }
theorem DZ (l1 l2:Addr) (xs ys:Array Value) :
  Meets (Builtin.«zip.__new__» ⟨[.type "zip",.ref l1,.ref l2],[]⟩) (fun _ R s=>s.heap.IsTuple l1 xs/\s.heap.IsTuple l2 ys/\R (.ok (.ret (.ref (Ge s.heap l1 l2).objs.size))) { s with heap:=SV s.heap l1 l2 }):=
 .of_wp fun prog w A R s h=>by
  obtain ⟨hp,g,d,tk,os⟩:=s
  obtain ⟨a1,a2,h⟩:=h
  have sz:=sub_zip
  have b1:Heap.IsTuple (Shared.heap ⟨hp,g,d,tk,os⟩) l1 xs:=a1
  have b2:Heap.IsTuple (Shared.heap ⟨Bb hp l1,g,d,tk,os⟩) l2 ys:=a2.at fun o e=>get?_push_of_some _ e
  wp_walk using wpAny_pyIter_tuple b1,wpAny_pyIter_tuple b2
  exact ⟨_,rfl,h⟩
theorem JJ {Q:Value->Shared->Prop} (a1:s.heap.IsTuple l1 xs) (a2:s.heap.IsTuple l2 ys)
  (q:∀ h',vC h' (s.heap.objs.size+4) (s.heap.objs.size+2) (s.heap.objs.size+3) s.heap.objs.size (s.heap.objs.size+1) l1 l2 0 xs ys->h'.objs.size=s.heap.objs.size+5->(∀ c o,s.heap.get? c=some o->h'.get? c=some o)->Q (.ref (s.heap.objs.size+4)) { s with heap:=h' }) :
  wpAny (model prog w) A (call (.type "zip") [.ref l1,.ref l2]) Q E s:=by
 refine callType_new F.called_zip (by decide) (F.typeCall_zip_2 _ _) (F.newCall_zip_2 _ _) (fun obj=>F.args_object_init_3 obj _ _) F.entry_zip_new (DZ l1 l2 xs ys) ⟨a1,a2,?_⟩
 have n1:(Bb s.heap l1).objs.size=s.heap.objs.size+1:=size_push ..
 have n2:(Gg s.heap l1 l2).objs.size=s.heap.objs.size+2:=by rw [size_push,n1]
 have n3:(Gf s.heap l1 l2).objs.size=s.heap.objs.size+3:=by rw [size_push,n2]
 have n4:(Ge s.heap l1 l2).objs.size=s.heap.objs.size+4:=by rw [size_push,n3]
 have n5:(SV s.heap l1 l2).objs.size=s.heap.objs.size+5:=by rw [size_push,n4]
 have r5:(SV s.heap l1 l2).get? (Ge s.heap l1 l2).objs.size=some _:=get?_push_size _ rfl
 have r4:(SV s.heap l1 l2).get? (Gf s.heap l1 l2).objs.size=some _:=get?_push_of_some _ (get?_push_size _ rfl)
 have r3:(SV s.heap l1 l2).get? (Gg s.heap l1 l2).objs.size=some _:=get?_push_of_some _ (get?_push_of_some _ (get?_push_size _ rfl))
 have r2:(SV s.heap l1 l2).get? (Bb s.heap l1).objs.size=some _:=get?_push_of_some _ (get?_push_of_some _ (get?_push_of_some _ (get?_push_size _ rfl)))
 have r1:(SV s.heap l1 l2).get? s.heap.objs.size=some _:=get?_push_of_some _ (get?_push_of_some _ (get?_push_of_some _ (get?_push_of_some _ (get?_push_size _ rfl))))
 have kp:∀ c o,s.heap.get? c=some o->(SV s.heap l1 l2).get? c=some o:=fun c o e=>get?_push_of_some _ (get?_push_of_some _ (get?_push_of_some _ (get?_push_of_some _ (get?_push_of_some _ e))))
 show _/\_
 rw [n2,n3,n4] at r5
 rw [n1,n2] at r3
 rw [n3] at r4
 rw [n1] at r2
 rw [n4]
 exact ⟨⟨_,r5,rfl⟩,q _ ⟨⟨_,_,r5,.inl ⟨rfl,rfl,rfl⟩⟩,r3,⟨_,_,r4⟩,⟨_,r1,rfl,rfl⟩,⟨_,r2,rfl,rfl⟩,a1.at fun o e=>kp _ o e,a2.at fun o e=>kp _ o e⟩ n5 kp⟩
theorem zF:typeLookup (.type "zip") "keys"=pure none:=by rw [typeLookup_type,builtinLookup_eq_fast]; kernel_rfl
theorem sO:typeLookup (.type "zip") "__getattr__"=pure none:=by rw [typeLookup_type,builtinLookup_eq_fast]; kernel_rfl
theorem pR:entryFor table "zip.__getattribute__"=some Builtin.«object.__getattribute__»:=entryFor_alias (id':="object.__getattribute__") (by kernel_rfl) (by decide +kernel) (by decide +kernel) (by kernel_rfl)
theorem BH (a:Addr) (fs:Array Value) (sl:Array (Option Value)) (name:Str) (u:Tok) (hmiss:typeLookup (.type "zip") name=pure none) (hname:(["__module__","__name__","__qualname__","__doc__","__annotations__"]:List Str).contains name=false) (hsz:name.length+100<=sizeLine:=by size_fits) :
  Meets (Builtin.«object.__getattribute__» ⟨[.ref a,.str name u],[]⟩) (fun A R s=>s.heap.get? a=some { cls:=.type "zip",dict:=none,data:=.fields fs,slots:=sl }/\raisesAttr (.ref a) name A R s):=
 Meets.of_wp fun prog w A R s hs=>by
  obtain ⟨hp,g,d,tk,os⟩:=s
  obtain ⟨hx,hs⟩:=hs
  have tz:(⟨hp,g,d,tk,os⟩:Shared).TypeIs (.ref a) "zip":=⟨_,hx,rfl⟩
  unfold Builtin.«object.__getattribute__»
  repeat (any_goals (first|assumption|wp_step))
  simp only [hname,Bool.false_eq_true,if_false]
  repeat (any_goals (first|assumption|wp_step))
  exact wpAny_raiseAttrError hs.1 hs.2 (attrMsg_fits (by decide +kernel) hsz)
theorem EB {l:Addr}{fs:Array Value}{Q:Option Value->Shared->Prop} (hx:s.heap.get? l=some { cls:=.type "zip",dict:=none,data:=.fields fs,slots:=#[] }) (hA:A.handled=none)
  (h:∀ h' tk,(∀ b o,s.heap.get? b=some o->h'.get? b=some o)->Q none { s with heap:=h',toks:=tk }):wpAny (model prog w) A (getAttr? (.ref l) "keys") Q E s:=by
 obtain ⟨hp,g,d,tk,os⟩:=s
 have tz:∀ tk',(⟨hp,g,d,tk',os⟩:Shared).TypeIs (.ref l) "zip":=fun _=>⟨_,hx,rfl⟩
 have f1:=sub_AttributeError
 have f3:=F.slot_zip_getattribute.lookup
 have f4:=F.slot_zip_getattribute.bind (.ref l)
 have f5:=sO
 unfold getAttr? getAttrBy? getAttrBy
 repeat (any_goals (first|assumption|exact tz _|((with_reducible show wpAny _ _ (call (Value.builtin "zip.__getattribute__") _ _) _ _ _); refine call_meets F.slot_zip_getattribute (tz _) pR (F.args_zip_getattribute_2 _ _) (BH l fs #[] (Str.ofString "keys") _ zF (by decide)) ⟨hx,by simpa using hA,fun h' tk' e hx'=>?_⟩)|wp_step))
 obtain ⟨t',u',he⟩:=hx'.there
 show wpAny _ _ (getattributeRaised _ _ _ _ _ _ _) _ _ _
 unfold getattributeRaised
 repeat (any_goals (first|assumption|wp_step))
 exact h h' tk' fun b o eb=>hx'.keeps b o eb
variable {K:Type} [DecidableEq K] {knd:KeyKind prog w K}
theorem JY {R:Result->Shared->Prop}{d:Addr}{ps:List (K×Value)} (hh:A.handled=none) (D:ZipApart z TI TO i1 i2 l1 l2) (nd:d≠z/\d≠TI/\d≠TO/\d≠i1/\d≠i2/\d≠l1/\d≠l2) (hlen:xs.size=ps.length) (hl2:ys.size=ps.length) (h1:1<=ps.length)
  (hps:∀ (i:Nat) (x y:Value),xs[i]?=some x->ys[i]?=some y->∃ k,ps[i]?=some (k,y)/\knd.is k x=true) (hsz:ps.length<=1000) :
  ∀ (n i:Nat) (h:Heap) (tk:Nat) (kvs:List (K×Value)),xs.size - i=n->i<=xs.size->vC h z TI TO i1 i2 l1 l2 i xs ys->h.DictOf knd d kvs->kvs.length<=i->(∀ b o,s.heap.get? b=some o->b≠z->b≠TO->b≠i1->b≠i2->b≠d->h.get? b=some o) ->
   (∀ h' tk',h'.DictOf knd d (sH kvs (ps.drop i))->(∀ b o,s.heap.get? b=some o->b≠z->b≠TO->b≠i1->b≠i2->b≠d->h'.get? b=some o)->R (.ok (.ret .none)) { s with heap:=h',toks:=tk' }) ->
   codeAny (model prog w) A (.builtin "dict.update.loop" ⟨[.ref d,.ref z,rawInt (i:Nat),.none],[]⟩) R { s with heap:=h,toks:=tk }:=by
 intro n
 induction n with
|zero =>
  intro i h tk kvs hn hi Z hD hk kp hR
  have:i=xs.size:=by omega
  subst this
  refine codeAny_builtin nG ?_
  rw [Around.under_plainId gU _]
  show wpAny _ A.in1 (pyNext (.ref z) >>= _) _ _ _
  refine wpAny_bind (IL (by simpa using hh) D Z (by omega) (by simp) fun h' eb=>?_)
  show wpAny _ A.in1 (Builtin.Dict.addKeywords d [] >>= _) _ _ _
  refine wpAny_bind (wpAny_pure (wpAny_pure (hR h' tk ?_ fun b o e n1 n2 n3 n4 n5=>eb b o n1 n2 n3 n4 (kp b o e n1 n2 n3 n4 n5))))
  rw [hlen,drop_length]
  obtain ⟨o,es,ep,g,r⟩:=hD
  exact ⟨o,es,ep,eb _ _ nd.1 nd.2.2.1 nd.2.2.2.1 nd.2.2.2.2.1 g,r⟩
|succ n ih =>
  intro i h tk kvs hn hi Z hD hk kp hR
  have hlt:i < xs.size:=by omega
  refine codeAny_builtin nG ?_
  rw [Around.under_plainId gU _]
  show wpAny _ A.in1 (pyNext (.ref z) >>= _) _ _ _
  obtain ⟨x,hx⟩:∃ v,xs[i]?=some v:=⟨_,Array.getElem?_eq_getElem hlt⟩
  obtain ⟨y,hy⟩:∃ v,ys[i]?=some v:=⟨_,Array.getElem?_eq_getElem (show i < ys.size by omega)⟩
  refine wpAny_bind (DY D Z hx hy fun h' Z' gp sz' kz=>?_)
  have kp':∀ b o,s.heap.get? b=some o->b≠z->b≠TO->b≠i1->b≠i2->b≠d->h'.get? b=some o:=fun b o e n1 n2 n3 n4 n5=>kz b o n1 n2 n3 n4 (kp b o e n1 n2 n3 n4 n5)
  obtain ⟨k,hp,hkey⟩:=hps i x y hx hy
  have hD':h'.DictOf knd d kvs:=by
   obtain ⟨o,es,ep,g,r⟩:=hD
   exact ⟨o,es,ep,kz _ _ nd.1 nd.2.2.1 nd.2.2.2.1 nd.2.2.2.2.1 g,r⟩
  refine wpAny_bind (wpAny_holding ?_)
  refine wpAny_bind (wpAny_tryCatch (wpAny_mono (Q:=fun r s'=>r=[x,y]/\s'={ s with heap:=h',toks:=tk }) (E:=fun _ _=>False) ?_ (fun r s' q=>?_) fun _ _ z=>z.elim))
  ·unfold Builtin.Dict.pairItems
   refine wpAny_bind (wpAny_typeOf (T:="tuple") ⟨_,gp,rfl⟩ ?_)
   rw [if_pos (by decide)]
   unfold seqItems?
   refine wpAny_bind (wpAny_bind (wpAny_load gp ?_))
   exact wpAny_pure (wpAny_pure ⟨rfl,rfl⟩)
  ·obtain ⟨rfl,rfl⟩:=q
   show wpAny _ A.in1 (holding [x,y] (dictSet d x y)) _ _ _
   refine wpAny_holding (wpAny_dictSet_pairs hkey hD' (fun h2 hD2 sb2=>?_) (by rw [sizeLine_eq]; omega))
   have eD:ps.drop i=(k,y)::ps.drop (i+1):=by
    have hlt':i < ps.length:=by omega
    rw [List.drop_eq_getElem_cons hlt']
    have:ps[i]=(k,y):=by
     have:=hp
     rw [List.getElem?_eq_getElem hlt'] at this
     exact Option.some.inj this
    rw [this]
   refine wpAny_pure ⟨plainId_quiet gU _,?_⟩
   have sx:∀ c o,c≠d->h'.get? c=some o->h2.get? c=some o:=fun c o n e=>(sb2.2 _ n).trans e
   have Z2:vC h2 z TI TO i1 i2 l1 l2 (i+1) xs ys:=by
    obtain ⟨⟨f0,b0,gz,hf⟩,gTI,⟨a,b,gTO⟩,g1,g2,t1,t2⟩:=Z'
    refine ⟨⟨f0,b0,sx _ _ nd.1.symm gz,?_⟩,sx _ _ nd.2.1.symm gTI,⟨a,b,sx _ _ nd.2.2.1.symm gTO⟩,g1.at fun o e=>sx _ o nd.2.2.2.1.symm e,g2.at fun o e=>sx _ o nd.2.2.2.2.1.symm e,t1.at fun o e=>sx _ o nd.2.2.2.2.2.1.symm e,t2.at fun o e=>sx _ o nd.2.2.2.2.2.2.symm e⟩
    rcases hf with ⟨h0,_⟩|⟨h1,T,oT,e1,gT,nT⟩
    ·exact absurd h0 (Nat.succ_ne_zero _)
    ·by_cases eT:T=d
     ·subst eT
      obtain ⟨o,es,ep,g,r⟩:=hD2
      exact .inr ⟨h1,T,o,e1,g,nT⟩
     ·exact .inr ⟨h1,T,oT,e1,sx _ _ eT gT,nT⟩
   exact ih (i+1) h2 (tk+1) (stored kvs k y) (by omega) (by omega) Z2 hD2 (by
     have:(stored kvs k y).length<=kvs.length+1:=by unfold stored; split <;> simp
     omega) (fun b o e n1 n2 n3 n4 n5=>sx b o n5 (kp' b o e n1 n2 n3 n4 n5)) fun h3 vY hD3 kp3=>hR h3 vY (by rw [eD]; exact hD3) kp3
theorem OC {Q:Value->Shared->Prop}{ps:List (K×Value)} (hh:A.handled=none) (D:ZipApart z TI TO i1 i2 l1 l2) (Z:vC s.heap z TI TO i1 i2 l1 l2 0 xs ys) (hlen:xs.size=ps.length) (hl2:ys.size=ps.length) (h1:1<=ps.length)
  (hps:∀ (i:Nat) (x y:Value),xs[i]?=some x->ys[i]?=some y->∃ k,ps[i]?=some (k,y)/\knd.is k x=true) (hsz:ps.length<=1000)
  (h:∀ h' tk,h'.DictOf knd s.heap.objs.size (sH [] ps)->(∀ b o,s.heap.get? b=some o->b≠z->b≠TO->b≠i1->b≠i2->h'.get? b=some o)->Q (.ref s.heap.objs.size) { s with heap:=h',toks:=tk }):wpAny (model prog w) A (call (.type "dict") [.ref z]) Q E s:=by
 refine callType_codes (Q₁:=fun obj s₁=>obj=.ref s.heap.objs.size/\s₁={ s with heap:=s.heap.push { cls:=.type "dict",data:=.dict #[] } }) F.kt_called_dict (F.kt_typeCall_dict_1 _) F.entry_dict_init (kt_code_dict_new _ ⟨rfl,rfl⟩) ?_
 rintro obj s₁ ⟨rfl,rfl⟩
 have hnew:(s.heap.push { cls:=.type "dict",data:=.dict #[] }).DictOf knd s.heap.objs.size []:=Heap.DictOf.new s.heap
 have kp0:∀ b o,s.heap.get? b=some o->(s.heap.push { cls:=.type "dict",data:=.dict #[] }).get? b=some o:=fun b o e=>get?_push_of_some _ e
 generalize s.heap.push { cls:=.type "dict",data:=.dict #[] }=h0 at hnew kp0 ⊢
 refine ⟨hnew.typeIs,F.args_dict_init_2 _ _,?_⟩
 obtain ⟨⟨f0,b0,gz,hf⟩,gTI,⟨a,b,gTO⟩,g1,g2,t1,t2⟩:=id Z
 unfold Builtin.«dict.__init__»
 refine wpAny_bind ?_
 unfold Builtin.Dict.selfAndRest
 refine wpAny_bind (wpAny_notOrdered_dict hnew.typeIs ?_)
 show wpAny _ _ (pure (s.heap.objs.size,[Value.ref z])) _ _ _
 refine wpAny_pure ?_
 show wpAny _ _ (Builtin.Dict.updateFrom "dict.__init__" s.heap.objs.size (.ref z) [] .none) _ _ _
 unfold Builtin.Dict.updateFrom
 refine wpAny_bind (wpAny_typeOf (T:="zip") ⟨_,kp0 _ _ gz,rfl⟩ ?_)
 rw [if_pos (by decide)]
 refine wpAny_bind (EB (kp0 _ _ gz) (by simpa using hh) fun m1 tk1 kp1=>?_)
 rw [if_pos (by rfl)]
 refine wpAny_bind (wpAny_rule ?_)
 have kp2:∀ b o,s.heap.get? b=some o->m1.get? b=some o:=fun b o e=>kp1 _ _ (kp0 _ _ e)
 have hD1:m1.DictOf knd s.heap.objs.size []:=by
  obtain ⟨o,es,ep,g,r⟩:=hnew
  exact ⟨o,es,ep,kp1 _ _ g,r⟩
 have lt:∀ {c:Addr} {o:Obj},s.heap.get? c=some o->s.heap.objs.size≠c:=fun e=>ne_of_gt (lt_size e)
 have Z1:vC m1 z TI TO i1 i2 l1 l2 0 xs ys:=by
  refine ⟨⟨f0,b0,kp2 _ _ gz,?_⟩,kp2 _ _ gTI,⟨a,b,kp2 _ _ gTO⟩,g1.at fun o e=>kp2 _ o e,g2.at fun o e=>kp2 _ o e,t1.at fun o e=>kp2 _ o e,t2.at fun o e=>kp2 _ o e⟩
  rcases hf with hf|⟨hk,_⟩
  ·exact .inl hf
  ·exact absurd hk (by decide)
 have hT:Shared.TypeIs { s with heap:=m1,toks:=tk1 } (.ref z) "zip":=⟨_,kp2 _ _ gz,rfl⟩
 refine wpAny_bind (wpAny_pyIter_slot hT F.slot_zip_iter (wpAny_call_entry F.slot_zip_iter hT F.entry_zip_iter ?_ (F.args_zip_iter_1 _)))
 show wpAny _ _ (ret (.ref z)) _ _ _
 refine wpAny_pure ⟨_,rfl,"zip",_,hT,F.slot_zip_next.lookup,?_⟩
 refine wpAny_pure ⟨plainId_quiet gU _,?_⟩
 have e1:∃ o,s.heap.get? i1=some o:=by obtain ⟨o,e,_⟩:=g1; exact ⟨o,e⟩
 have e2:∃ o,s.heap.get? i2=some o:=by obtain ⟨o,e,_⟩:=g2; exact ⟨o,e⟩
 have e3:∃ o,s.heap.get? l1=some o:=by obtain ⟨o,e,_⟩:=t1; exact ⟨o,e⟩
 have e4:∃ o,s.heap.get? l2=some o:=by obtain ⟨o,e,_⟩:=t2; exact ⟨o,e⟩
 obtain ⟨_,e1⟩:=e1
 obtain ⟨_,e2⟩:=e2
 obtain ⟨_,e3⟩:=e3
 obtain ⟨_,e4⟩:=e4
 exact JY (A:=A.in1) (knd:=knd) (s:=s) (R:=wants (fun r s₂=>r=.none/\Q (.ref s.heap.objs.size) s₂) E) (ps:=ps) (by simpa using hh) D ⟨lt gz,lt gTI,lt gTO,lt e1,lt e2,lt e3,lt e4⟩ hlen hl2 h1 hps hsz xs.size 0 m1 tk1 [] rfl (zero_le _) Z1 hD1 (zero_le _) (fun b o e _ _ _ _ _=>kp2 _ _ e)
  fun h' tk' hD' kp'=>⟨rfl,h h' tk' (by simpa using hD') fun b o e n1 n2 n3 n4=>kp' b o e n1 n2 n3 n4 (ne_of_lt (lt_size e))⟩
end
def Dz:List V->Hp->VK->Prop:=fun vs H Q=>∃ (a b:Addr) (ks:List Str) (ys:List V),vs=[.ref a,.ref b]/\H a=some (.tup (ks.map V.str))/\H b=some (.tup ys)/\ks.length=ys.length/\1<=ks.length/\ks.length<=100/\∀ l:Addr,H l=none->Q (.ref l) (upd H l (.dK (gC [] ((ks.map Sum.inr).zip ys))))
theorem zD {P:Program}{w:World}:∀ {ks:List Str}{ys:List V}{us ws:List Value},bN (ks.map V.str) us->bN ys ws->ks.length=ys.length->KV (((ks.map Sum.inr).zip ys):List (cB×V)) (((ks.map Sum.inr).zip ws):List (cB×Value))/\ws.length=ks.length/\us.length=ks.length/\∀ (i:Nat) (x y:Value),us[i]?=some x->ws[i]?=some y->∃ k:cB,(((ks.map Sum.inr).zip ws):List (cB×Value))[i]?=some (k,y)/\(cQ P w).is k x=true
|[],[],_,_,.nil,.nil,_=>⟨.nil,rfl,rfl,fun i x y h=>by simp at h⟩
|[],_::_,_,_,_,_,h=>nomatch h
|_::_,[],_,_,_,_,h=>nomatch h
|k::ks,y::ys,_,_,.cons r1 t1,.cons r2 t2,h=>by
  obtain ⟨h1,h2,h3,h4⟩:=zD (P:=P) (w:=w) t1 t2 (by simpa using h)
  refine ⟨.cons ⟨rfl,r2⟩ h1,by simp [h2],by simp [h3],fun i x z hx hz=>?_⟩
  cases i with
 |zero =>
   cases hx
   cases hz
   exact ⟨Sum.inr k,rfl,nC (k:=Sum.inr k) r1⟩
 |succ i=>exact h4 i x z hx hz
theorem QR {X:Cx}{a b:Expr}{t:TA}{p p2 pos pos2:Pos} (hc:X.calm=true) (hgl:Gl X "dict") (hml:X.mg "dict"=none) (hg:Gl X "zip") (hm:X.mg "zip"=none) (ha:PA X [a,b] t)
  (he:starEach [.Call (.Name "zip" p2) [a,b] [] pos2] X.env=[(false,eval (.Call (.Name "zip" p2) [a,b] [] pos2) X.env)]:=by rfl) (hs:starEach [a,b] X.env=(false,eval a X.env)::starEach [b] X.env:=by rfl) (hpl:(backTo pos2 (starEach [b] X.env)).any (·.1)=false:=by rfl) :
  PE X (.Call (.Name "dict" p) [.Call (.Name "zip" p2) [a,b] [] pos2] [] pos) (Gi Dz t):=by
 intro pins s σ H Q I h
 refine wpAny_Call_Name_kw (lF I hgl hml SG ?_ (by decide) (by decide))
 refine PyProof.Rows.callWith_type1 ?_ he rfl
 rw [he]
 show wpAny _ _ (spliced ((false,eval (.Call (.Name "zip" p2) [a,b] [] pos2) X.env)::backTo pos [])) _ _ s
 refine Calls.spliced_cons ?_
 refine Call_ (lF I hg hm Ab (PyProof.Rows.callWith_type1 (cJ (ha pos2 pins s σ H _ I h) fun us s1 z=>?_) hs hpl))
 obtain ⟨vs,H1,I1,r1,a1,b1,ks,ys,e,ga,gb,hl,h1,hn,q⟩:=z
 subst e
 obtain ⟨u1,u2,rfl,ra,rb⟩:=r1.two
 cases ra
 cases rb
 obtain ⟨_,its,rv1,tp1⟩:=I1.hok a1 _ ga
 obtain ⟨_,jts,rv2,tp2⟩:=I1.hok b1 _ gb
 obtain ⟨k1,k2,k3,k4⟩:=zD (P:=X.prog) (w:=X.w) rv1 rv2 hl
 refine JJ tp1 tp2 fun m1 Z e5 kp=>?_
 refine Calls.spliced_nil ?_
 have la:a1 < s1.heap.objs.size:=by obtain ⟨o,g,_⟩:=tp1; exact lt_size g
 have lb:b1 < s1.heap.objs.size:=by obtain ⟨o,g,_⟩:=tp2; exact lt_size g
 generalize hN:s1.heap.objs.size=N at Z e5 la lb ⊢
 have nn:∀ {c i:Nat},c < N->c≠N+i:=fun h=>ne_of_lt (lt_of_lt_of_le h (Nat.le_add_right _ _))
 have ne:∀ {i j:Nat},i≠j->N+i≠N+j:=fun h z=>h (Nat.add_left_cancel z)
 have n0:∀ {i:Nat},0 < i->N+i≠N:=fun h=>ne_of_gt (Nat.lt_add_of_pos_right h)
 have D:ZipApart (N+4) (N+2) (N+3) N (N+1) a1 b1:=⟨ne (by decide),ne (by decide),(n0 (by decide)).symm,ne (by decide),ne (by decide),n0 (by decide),ne (by decide),n0 (by decide),ne (by decide),(n0 (by decide)).symm,nn la,nn la,ne_of_lt la,nn la,nn lb,nn lb,ne_of_lt lb,nn lb⟩
 have sz:∀ (l:List Value),l.toArray.size=l.length:=fun _=>rfl
 have zl:(((ks.map Sum.inr).zip jts):List (cB×Value)).length=ks.length:=by rw [List.length_zip,length_map,k2]; exact min_self _
 refine OC (knd:=cQ X.prog X.w) (ps:=(ks.map Sum.inr).zip jts) (I.ok.hd hc) D Z (by rw [sz,zl,k3]) (by rw [sz,zl,k2]) (by rw [zl]; exact h1) (fun i x y hx hy=>k4 i x y (by simpa using hx) (by simpa using hy)) (by rw [zl]; omega) fun h' tk hd kp'=>?_
 have rel:=uL k1 (.nil:KV [] [])
 have kk:∀ b o,s1.heap.get? b=some o->h'.get? b=some o:=fun b o e=>by
  have l:=lt_size e
  rw [hN] at l
  exact kp' b o (kp _ _ e) (nn l) (nn l) (ne_of_lt l) (nn l)
 have le5:s1.heap.objs.size<=m1.objs.size:=by rw [e5,hN]; exact Nat.le_add_right _ _
 refine ⟨.ref m1.objs.size,_,I1.laid (t':=tk) (a:=m1.objs.size) (o:=.dK (gC [] ((ks.map Sum.inr).zip ys))) kk le5 (EH ?_ (beq_eq_false_iff_ne.mpr (Ne.symm (ne_of_lt (lt_of_lt_of_le I1.big le5)))) rel hd),rfl,q _ (I1.hok.fresh le5)⟩
 have h3:=kA ((ks.map Sum.inr).zip ys) []
 have h4:(((ks.map Sum.inr).zip ys):List (cB×V)).length=ks.length:=by rw [List.length_zip,length_map,hl]; exact min_self _
 simp only [length_nil] at h3
 rw [sizeLine_eq]
 omega
end
section
section
open Sem (wp)
variable {prog:Program} {w:World} {A:Around} {E:Value -> Shared -> Prop}
theorem UY {it t:Addr}{xs:Array Value} (hne:t≠it):∀ (n i:Nat) (s:Shared) (Q:List Value->Shared->Prop),s.heap.IsListIter it t i->s.heap.IsList t xs->i+n<=xs.size ->
  (∀ h',h'.IsListIter it t (i+n)->h'.IsList t xs->(∀ b o,b≠it->s.heap.get? b=some o->h'.get? b=some o)->Q ((xs.toList.drop i).take n) { s with heap:=h' })->wpAny (model prog w) A (draw (.ref it) n) Q E s
|0,i,s,Q,g,hl,_,q=>wpAny_pure (by simpa using q s.heap g hl fun _ _ _ e=>e)
|n+1,i,s,Q,g,hl,le,q=>by
  have lt:i < xs.size:=by omega
  show wpAny _ _ (pyNext (.ref it) >>= _) Q E s
  refine wpAny_bind (wpAny_pyNext_list_item g hl (x:=xs[i]) (by simp [lt]) fun h1 g1 c1=>?_)
  refine wpAny_bind (wpAny_holding (UY hne n (i+1) _ _ g1 (hl.extBut c1.extBut hne) (by omega) fun h2 g2 l2 c2=>wpAny_pure ?_))
  have e:xs.toList.drop i=xs[i]::xs.toList.drop (i+1):=by simp [List.drop_eq_getElem_cons,lt]
  have:=q h2 (by rw [show i+(n+1)=i+1+n by omega]; exact g2) l2 fun b o hb e=>c2 b o hb (c1.extBut b o hb e)
  rw [e,List.take_succ_cons] at this
  exact this
theorem PF {s:Shared}{t:Addr}{xs:Array Value}{targets:List (Bool×(Value->Sem Unit))}{Q:Unit->Shared->Prop} (hh:A.handled=none) (hl:s.heap.IsList t xs) (hn:targets.length=xs.size) (hs:targets.findIdx? (·.1)=none)
  (q:∀ h',(∀ b o,s.heap.get? b=some o->h'.get? b=some o)->wpAny (model prog w) A (assignInOrder (targets.map (·.2)) xs.toList) Q E { s with heap:=h' }):wpAny (model prog w) A (unpack (.ref t) targets) Q E s:=by
 have lt:t < s.heap.objs.size:=by obtain ⟨o,e,_⟩:=hl; exact lt_size e
 unfold unpack
 rw [hn,hs]
 refine wpAny_bind (wpAny_holding ?_)
 unfold unpackItems
 refine wpAny_bind ?_
 unfold notIterableAtAll
 refine wpAny_bind (wpAny_specialOf hl.typeIs F.slot_list_iter.lookup (wpAny_pure ?_))
 simp only [Bool.false_eq_true,if_false]
 refine wpAny_bind (wpAny_holding (wpAny_pyIter_list hl ?_))
 refine wpAny_bind (wpAny_holding (UY (ne_of_lt lt) xs.size 0 _ _ ⟨_,get?_push_size _ rfl,rfl,rfl⟩ (hl.at fun o e=>get?_push_of_some _ e) (by omega) fun h1 g1 l1 c1=>?_))
 rw [show List.take xs.size (List.drop 0 xs.toList)=xs.toList by rw [drop_zero]; exact take_of_length_le (by simp),if_neg (by simp)]
 refine wpAny_bind (wpAny_holding (wpAny_pyNext_list_end hh g1 l1 (by simp) fun h2 c2=>?_))
 simp only [Option.isSome_none,Bool.false_eq_true,if_false]
 have nb:∀ {b:Addr} {o:Obj},s.heap.get? b=some o->b≠s.heap.objs.size:=fun e=>ne_of_lt (lt_size e)
 exact wpAny_pure (q h2 fun b o e=>c2 b o (nb e) (c1 b o (nb e) (get?_push_of_some _ e)))
end
section
variable {X:Cx}
def Fc (K:Frag) (n:Nat) (t:GW):TG:=fun v σ H Q=>∃ a xs,v=.ref a/\cN K H a xs/\xs.length=n/\t xs σ H Q
theorem YE {es:List Expr}{k:Nat}{t:GW}{n:Nat}{pos:Pos} (hc:X.calm=true) (h:Ay X es t)
  (hn:(assignEach es X.env).length=n:=by rfl) (hst:(assignEach es X.env).findIdx? (·.1)=none:=by rfl):PG X (.Tuple es k pos) (Fc X.K n t):=by
 intro pins s σ H v u Q I r hw
 obtain ⟨a,xs,e1,hq,hl,hw⟩:=hw
 subst e1
 cases r
 obtain ⟨its,rv,ht,hz⟩:=I.list hq
 rw [assign_Tuple]
 refine wpAny_bind (wpAny_standAt (PF (I.ok.hd hc) ht.isList (by simp [hn,← hl,rv.length]) hst fun h' hx=>?_))
 exact h pins _ σ H xs _ Q (I.kept (t':=s.toks) fun b o e=>hx b o e) (by simpa using rv) hw
theorem WZ {K:Frag}{n:Nat}{t:GW}{a:Addr}{xs:List V}{σ:St}{H:Hp}{Q:St->Hp->Prop} (h:H a=some (.lst xs)) (hl:xs.length=n) (k:t xs σ H Q):Fc K n t (.ref a) σ H Q:=⟨a,xs,rfl,cN.of h,hl,k⟩
def XT:V->List V->Hp->VK->Prop:=fun x vs H Q=>∃ (z:Str) (l:Addr) (ys:List Str),x=.str z/\vs=[.ref l]/\H l=some (.tup (ys.map V.str))/\(ys.map (·.length)).sum+ys.length * z.length<=16777216/\Q (.str (Str.join z ys)) H
theorem jF:OS X "str.join" XT:=by
 intro pins s σ H x vs v us Q I rx rv h
 obtain ⟨z,l,ys,rfl,rfl,hl,hs,q⟩:=h
 obtain ⟨t,rfl⟩:=rx
 obtain ⟨u,rfl,ru⟩:=rv.one
 cases ru
 obtain ⟨_,its,r,tp⟩:=I.hok l _ hl
 refine join_tuple tp (by simpa using kD r) hs fun t' k=>?_
 have e1:Txt.join z ys=Str.join z ys:=StrLaws.glued_eq_join z ys
 rw [e1]
 exact ⟨.str _,H,I.tok _,⟨_,rfl⟩,q⟩
def Dn:List V->Hp->VK->Prop:=fun vs H Q=>∃ i:Int,vs=[.int i]/\i.natAbs < 10 ^ 18/\Q (.str (Str.ofString (toString i))) H
theorem yV:fD X (.type "str") Dn:=by
 intro pins s σ H vs us Q I r h
 obtain ⟨i,rfl,hi,q⟩:=h
 obtain ⟨u,rfl,ru⟩:=r.one
 obtain ⟨t,rfl⟩:=ru
 refine P.str_of_int ?_ ⟨.str _,H,I.tok _,⟨_,rfl⟩,q⟩
 by_cases e:i.natAbs=0
 ·rw [e]; decide
 ·have:i.natAbs.log2 < 60:=(Nat.log2_lt e).mpr (lt_trans hi (by decide))
  omega
def Dm (K:Frag):List V->Hp->VK->Prop:=fun vs H Q=>∃ (p:Addr) (ns:List Int),vs=[.ref p]/\cN K H p (ns.map V.int)/\(∀ n∈ns,0<=n)/\ns.sum < 2 ^ 63/\Q (.int ns.sum) H
theorem xR {ns:List Int}:∀ j,j<=ns.length->preSum (fun i=>(ns[i]?).getD 0) j=(ns.take j).sum
|0,_=>by simp [preSum]
|j+1,h=>by
  have hj:j < ns.length:=by omega
  show preSum _ j+(ns[j]?).getD 0=_
  rw [xR j (by omega),List.take_succ_eq_append_getElem hj,List.sum_append,List.getElem?_eq_getElem hj]
  simp
theorem oA:∀ {ns:List Int},(∀ n∈ns,0<=n)->∀ j,0<=(ns.take j).sum/\(ns.take j).sum<=ns.sum
|[],_,j=>by simp
|n::ns,h,0=>by
  have:=(oA (ns:=ns) (fun x hx=>h x (mem_cons_of_mem _ hx)) ns.length).1
  have h0:=h n (by simp)
  rw [take_length] at this
  simp only [List.take_zero,List.sum_nil,sum_cons]
  omega
|n::ns,h,j+1=>by
  have:=oA (ns:=ns) (fun x hx=>h x (mem_cons_of_mem _ hx)) j
  have h0:=h n (by simp)
  simp only [List.take_succ_cons,sum_cons]
  omega
theorem zL:∀ {ns:List Int},(∀ n∈ns,0<=n)->∀ n∈ns,n<=ns.sum
|[],_,_,h=>nomatch h
|m::ns,h,n,hn=>by
  have h0:=h m (by simp)
  have h1:=oA (ns:=ns) (fun x hx=>h x (mem_cons_of_mem _ hx)) ns.length
  rw [take_length] at h1
  rw [sum_cons]
  rcases mem_cons.mp hn with rfl|hn
  ·omega
  ·have:=zL (fun x hx=>h x (mem_cons_of_mem _ hx)) n hn
   omega
theorem ZZ (hc:X.calm=true):fD X (.builtin "sum") (Dm X.K):=by
 intro pins s σ H xs us Q I r h
 obtain ⟨p,ns,rfl,hp,h0,hb,q⟩:=h
 obtain ⟨u,rfl,rx⟩:=r.one
 cases rx
 obtain ⟨its,rl,ht,hz⟩:=I.list hp
 have hlt:p < s.heap.objs.size:=by
  obtain ⟨_,e,_⟩:=ht.isList
  exact lt_size e
 have hlen:=rl.length
 rw [length_map] at hlen
 refine call_sum_walk (wpAny_pyIter_list ht.isList ?_)
 refine ⟨s.heap.objs.size,[s.heap.objs.size,p],[s.heap.objs.size],its.toArray.size,_,_,fun i=>(ns[i]?).getD 0,rfl,Walks.list (A:=X.A.in1) (I.ok.hd hc) _ p (ne_of_lt hlt) its.toArray,⟨⟨_,get?_push_size _ rfl,rfl,rfl⟩,ht.isList.at fun o e=>get?_push_of_some _ e⟩,?_,?_,fun j hj=>?_,fun h' tk t' hk=>?_⟩
 ·intro b hb
  rw [size_push]
  rcases mem_cons.mp hb with rfl|hb
  ·exact lt_succ_self _
  ·rw [mem_singleton.mp hb]
   exact Nat.lt_succ_of_lt hlt
 ·intro i v hv
  have hv:its[i]?=some v:=by simpa using hv
  have hi:i < ns.length:=by
   have:=(List.getElem?_eq_some_iff.mp hv).1
   omega
  obtain ⟨u,e1,r1⟩:=rl.get (i:=i) (x:=.int ns[i]) (by simp [hi])
  rw [hv] at e1
  cases e1
  obtain ⟨t,rfl⟩:=r1
  exact ⟨t,by simp only [List.getElem?_eq_getElem hi]; rfl⟩
 ·have hj':j < ns.length:=by
   have:its.toArray.size=its.length:=rfl
   omega
  rw [xR (j+1) (by omega)]
  have:=oA h0 (j+1)
  have e:=zL h0 ns[j] (List.getElem_mem hj')
  have e0:=h0 ns[j] (List.getElem_mem hj')
  simp only [List.getElem?_eq_getElem hj']
  exact ⟨⟨by show -(2 ^ 63)<=ns[j]; omega,by show ns[j] < 2 ^ 63; omega⟩,by omega,by omega⟩
 ·have e:preSum (fun i=>(ns[i]?).getD 0) its.toArray.size=ns.sum:=by
   rw [show its.toArray.size=ns.length from hlen.symm,xR _ (le_refl _),take_length]
  rw [e]
  refine ⟨.int _,H,I.kept (t':=tk) fun b o e=>hk b o (fun z=>?_) (get?_push_of_some _ e),⟨_,rfl⟩,q⟩
  exact absurd (lt_size e) (by rw [mem_singleton.mp z]; exact lt_irrefl _)
def VI:List TE->Str->TE
|[],acc,_,H,Q=>Q (.str acc) H
|t::r,acc,σ,H,Q=>t σ H fun x H1=>∃ y:Str,x=.str y/\y.length<=1000/\VI r (acc++y) σ H1 Q
theorem wR {pins:List (Addr×Obj)}{σ:St}{Q:VK}:∀ {vs:List Expr}{ts:List TE} (_:OY X vs ts) (n:Nat) (acc:Str) (s:Shared) (H:Hp),acc.length<=1000 * n->ts.length+n<=100->bA X pins σ H s->VI ts acc σ H Q ->
  Joins (model X.prog X.w) X.A X.xe (evalEach vs X.env) acc (fun out s₁=>out.length<=sizeLine/\EP X pins σ Q (.str out s₁.toks) { s₁ with toks:=s₁.toks+1 }) s
|_,_,.nil,n,acc,s,H,ha,hn,I,h=>⟨by rw [sizeLine_eq]; omega,.str acc,H,I.tok _,⟨_,rfl⟩,h⟩
|v::vs,t::ts,.cons hp r,n,acc,s,H,ha,hn,I,h=>by
  show wpAny _ _ (eval v X.env) _ _ s
  rw [length_cons] at hn
  refine cJ (hp pins s σ H _ I h) fun u s1 ⟨x,H1,I1,r1,y,e1,hy,q⟩=>?_
  subst e1
  obtain ⟨tk,rfl⟩:=r1
  have hl:=BL acc y
  exact ⟨y,tk,rfl,by rw [hl,sizeLine_eq]; omega,wR r (n+1) (acc++y) s1 H1 (by omega) (by omega) I1 q⟩
theorem MJ {v1 v2:Expr}{eK:List Expr}{ts:List TE}{pos:Pos} (h:OY X (v1::v2::eK) ts) (hn:ts.length<=50):PE X (.JoinedStr (v1::v2::eK) pos) (VI ts Str.empty):=by
 intro pins s σ H Q I hq
 exact wpAny_JoinedStr (wR h 0 Str.empty s H (le_refl _) (by omega) I hq)
def TC (te:TE):TE:=fun σ H Q=>te σ H fun x H1=>∃ y:Str,x=.str y/\y.length<=1000/\Q (.str y) H1
theorem xT {e:Expr}{te:TE}{pos:Pos} (he:PE X e te):PE X (.FormattedValue e (-1) none pos) (TC te):=by
 intro pins s σ H Q I h
 refine wpAny_FormattedValue_plain (cJ (he pins s σ H _ I h) fun v s1 ⟨x,H1,I1,r1,y,e1,hy,q⟩=>?_)
 subst e1
 obtain ⟨t,rfl⟩:=r1
 exact wpAny_formatField_str ⟨.str _,H1,I1,⟨_,rfl⟩,q⟩ ⟨.str _,H1,I1.tok _,⟨_,rfl⟩,q⟩ (by rw [sizeLine_eq]; omega)
theorem Cn {σ:St}{H:Hp}{Q:VK}{acc:Str} (k:Q (.str acc) H):VI [] acc σ H Q:=k
def Iy (r:List TE) (acc:Str) (σ:St) (Q:VK):VK:=fun x H1=>∃ y:Str,x=.str y/\y.length<=1000/\VI r (acc++y) σ H1 Q
theorem He {t:TE}{r:List TE}{acc:Str}{σ:St}{H:Hp}{Q:VK} (k:t σ H (Iy r acc σ Q)):VI (t::r) acc σ H Q:=k
theorem wJ {r:List TE}{acc:Str}{σ:St}{H:Hp}{Q:VK}{y:Str} (hy:y.length<=1000) (k:VI r (acc++y) σ H Q):Iy r acc σ Q (.str y) H:=⟨y,rfl,hy,k⟩
def Jc (Q:VK):VK:=fun x H1=>∃ y:Str,x=.str y/\y.length<=1000/\Q (.str y) H1
theorem Cv {te:TE}{σ:St}{H:Hp}{Q:VK} (k:te σ H (Jc Q)):TC te σ H Q:=k
theorem FT {H:Hp}{Q:VK}{y:Str} (hy:y.length<=1000) (k:Q (.str y) H):Jc Q (.str y) H:=⟨y,rfl,hy,k⟩
end
end
section
theorem zM:∀ {us:List Value}{ys:List Str}{i:Nat}{v:Value}{x:Str},StrsAre us ys->us[i]?=some v->ys[i]?=some x->∃ t,v=.str x t
|_,_,_,_,_,.nil,h,_=>by simp at h
|_,_,0,_,_,.cons y t r,h,h'=>by cases h; cases h'; exact ⟨t,rfl⟩
|_,_,i+1,v,x,.cons y t r,h,h'=>zM (i:=i) r h h'
section
variable {prog:Program} {w:World} {A:Around} {E:Value -> Shared -> Prop} {s:Shared}
theorem KH {a:Addr}{items:Array Value}{ys:List Str}{y:Str}{u:Tok}{j:Nat}{Q:Value->Shared->Prop} (ht:s.heap.IsTuple a items) (hi:StrsAre items.toList ys) (hj:ys[j]?=some y) (hno:∀ m,m < j->ys[m]?≠some y)
  (h:Q (.int j s.toks) { s with toks:=s.toks+1 }):wpAny (model prog w) A (call (.builtin "tuple.index") [.ref a,.str y u]) Q E s:=by
 have hT:s.TypeIs (.ref a) "tuple":=ht.typeIs
 refine wpAny_call_entry F.slot_tuple_index hT F.entry_tuple_index ?_ (F.args_tuple_index_2 _ _)
 unfold Builtin.«tuple.index»
 obtain ⟨o,ho,hc,n,hd⟩:=id ht
 refine wpAny_bind (m:=selfAndSome _ _ _ _ _) (wpAny_pure (a:=(Value.ref a,[Value.str y u])) ?_)
 refine wpAny_bind ?_
 unfold Builtin.Tuple.tupleItemsOf
 refine wpAny_bind (wpAny_seqItems ho hd (wpAny_pure ?_))
 refine wpAny_bind (wpAny_pure (wpAny_bind (wpAny_pure ?_)))
 show wpAny _ _ (forIn ([:min items.size items.size]:Std.Legacy.Range) _ _ >>= _) _ _ _
 rw [Std.Legacy.Range.forIn_eq_forIn_range',min_self]
 have es:([:items.size]:Std.Legacy.Range).size=items.size:=by simp [Std.Legacy.Range.size]
 show wpAny _ _ (forIn (List.range' 0 ([:items.size]:Std.Legacy.Range).size 1) _ _ >>= _) _ _ _
 rw [es]
 have hsl:items.size=ys.length:=by
  have:=hi.length
  simpa using this
 have hjl:j < ys.length:=(List.getElem?_eq_some_iff.mp hj).1
 refine wpAny_bind (wpAny_forIn_list _ (fun l b s'=>b=(none,())/\s'=s/\∃ i,i<=j/\l=List.range' i (items.size - i) 1) (fun b s'=>b=(some (.done (.ret (.int j s.toks))),())/\s'={ s with toks:=s.toks+1 }) ?_ ?_ _ _ ⟨rfl,rfl,0,zero_le _,rfl⟩ |> fun z=>wpAny_mono z (fun b s' ⟨e1,e2⟩=>?_) fun _ _ z=>z)
 ·rintro i eK b s' ⟨rfl,rfl,i',hij,hl⟩
  obtain ⟨m,hm⟩:∃ m,items.size - i'=m+1:=⟨items.size - i' - 1,by omega⟩
  rw [hm,List.range'_succ] at hl
  obtain ⟨rfl,rfl⟩:=List.cons.inj hl
  have hlt:i < items.size:=by omega
  obtain ⟨x,hx⟩:∃ x,ys[i]?=some x:=⟨_,List.getElem?_eq_getElem (by omega)⟩
  obtain ⟨v,hv⟩:∃ v,items[i]?=some v:=⟨_,Array.getElem?_eq_getElem hlt⟩
  obtain ⟨t,rfl⟩:∃ t,v=.str x t:=zM hi (by simpa using hv) hx
  rw [hv]
  refine wpAny_bind (wpAny_eqBool_str ?_)
  by_cases e:x=y
  ·subst e
   rw [decide_eq_true rfl]
   have:i=j:=by
    rcases lt_or_ge i j with h|h
    ·exact absurd hx (hno i h)
    ·omega
   subst this
   exact wpAny_bind (wpAny_bind (wpAny_mkInt (wpAny_pure (wpAny_pure ⟨rfl,rfl⟩))))
  ·rw [decide_eq_false e]
   refine wpAny_pure ⟨rfl,rfl,i+1,?_,by rw [show items.size - (i+1)=m by omega]⟩
   rcases lt_or_ge i j with h|h
   ·exact h
   ·have:i=j:=by omega
    subst this
    rw [hx] at hj
    exact absurd (Option.some.inj hj) e
 ·rintro b s' ⟨rfl,rfl,i,hij,hl⟩
  have:(List.range' i (items.size - i) 1).length=0:=by rw [← hl]; rfl
  rw [List.length_range'] at this
  omega
 ·subst e1 e2
  exact wpAny_pure ⟨_,rfl,h⟩
end
def Hk:V->List V->Hp->VK->Prop:=fun x vs H Q=>∃ (a:Addr) (ys:List Str) (y:Str) (j:Nat),x=.ref a/\vs=[.str y]/\H a=some (.tup (ys.map V.str))/\ys[j]?=some y/\(∀ m,m < j->ys[m]?≠some y)/\Q (.int (j:Int)) H
theorem YX {X:Cx}:OS X "tuple.index" Hk:=by
 intro pins s σ H x vs v us Q I rx rv h
 obtain ⟨a,ys,y,j,rfl,rfl,ha,hj,hno,q⟩:=h
 cases rx
 obtain ⟨u,rfl,ru⟩:=rv.one
 obtain ⟨t,rfl⟩:=ru
 obtain ⟨_,its,r,tp⟩:=I.hok a _ ha
 exact KH tp (by simpa using kD r) hj hno ⟨.int _,H,I.tok _,⟨_,rfl⟩,q⟩
theorem UR {us:St} (h:us.length=2):∃ a b,us=[a,b]:=by
 cases us with
|nil=>cases h
|cons a us =>
  cases us with
 |nil=>cases h
 |cons b us =>
   cases us with
  |nil=>exact ⟨a,b,rfl⟩
  |cons c us=>cases h
theorem Ho {us:St} (h:us.length=3):∃ a b c,us=[a,b,c]:=by
 cases us with
|nil=>cases h
|cons a us =>
  obtain ⟨b,c,rfl⟩:=UR (us:=us) (Nat.succ.inj h)
  exact ⟨a,b,c,rfl⟩
section
variable {K:Frag} {σ:St} {H:Hp} {D:fQ} {Q:VK} {te:TE} {caps:St}
theorem xN {a:Addr}{xs:List V}{g:TG}{tb:TS} (Pv:Nat->St->Hp->Prop) (h0:Pv 0 σ H) (hl:∀ i σ H,i<=xs.length->Pv i σ H->fV K H a xs)
  (hs:∀ i x σ H,xs[i]?=some x->Pv i σ H->g x σ H fun σ2 H2=>tb ⟨Pv (i+1),D.rt,D.nx,Pv (i+1)⟩ σ2 H2) (hd:∀ σ H,Pv xs.length σ H->D.nx σ H):NK g tb D σ (SR K a) H:=RT Pv h0 hl hs hd
theorem QF {a:Addr}{xs:List V} (hn:xs.length<=1000) (Pv:Addr->Nat->List V->Hp->Prop) (h0:∀ acc,H acc=none->Pv acc 0 [] (upd H acc (.lst []))) (hl':∀ acc i ys H1,H acc=none->i<=xs.length->Pv acc i ys H1->cN K H1 a xs)
  (hs:∀ acc i ys H1 x,H acc=none->xs[i]?=some x->ys.length=i->H1 acc=some (.lst ys)->Pv acc i ys H1->∃ p u v,x=.ref p/\H1 p=some (.tup [u,v])/\te (some u::some v::caps) H1 (rG xs.length acc (Pv acc) ys i))
  (hd:∀ acc ys H1,H acc=none->H1 acc=some (.lst ys)->ys.length=xs.length->Pv acc xs.length ys H1->Q (.ref acc) H1):mE te none (ED K 2 (pF (iC 0) (pF (iC 1) NI))) (List.replicate 2 none) caps Q (JX K a) H:=by
 intro acc hacc
 refine ⟨cW xs.length acc (Pv acc),⟨xs.length,by simp,zero_le _,rfl,aE,h0 acc hacc⟩,fun i m ys H1 hW=>?_⟩
 obtain ⟨rfl,hi,hl,ha,p⟩:=hW
 have q:=hl' acc i ys H1 hacc hi p
 refine ⟨ha,?_⟩
 rcases lt_or_ge i xs.length with hlt|hge
 ·refine .inr ⟨eI (by omega),⟨xs,xs[i],q,by simp [hlt]⟩,fun us x H' hu z=>?_⟩
  obtain ⟨rfl,z⟩:=z
  obtain ⟨o1,o2,rfl⟩:=UR hu
  obtain ⟨b,u,v,rfl,hb,k⟩:=hs acc i ys H' x hacc (z xs q) hl ha p
  exact ⟨b,_,rfl,fV.of hb,rfl,u,[v],rfl,v,[],rfl,rfl,⟨[some u,some v],rfl,rfl⟩,k⟩
 ·cases (le_antisymm hi hge:i=xs.length)
  exact .inl ⟨⟨xs,q,le_refl _⟩,hd acc ys H1 hacc ha hl p⟩
theorem AO {a:Addr}{xs:List V} (hn:xs.length<=1000) (Pv:Addr->Nat->List V->Hp->Prop) (h0:∀ acc,H acc=none->Pv acc 0 [] (upd H acc (.lst []))) (hl':∀ acc i ys H1,H acc=none->i<=xs.length->Pv acc i ys H1->cN K H1 a xs)
  (hs:∀ acc i ys H1 x,H acc=none->xs[i]?=some x->ys.length=i->H1 acc=some (.lst ys)->Pv acc i ys H1->∃ p u v w,x=.ref p/\H1 p=some (.tup [u,v,w])/\te (some u::some v::some w::caps) H1 (rG xs.length acc (Pv acc) ys i))
  (hd:∀ acc ys H1,H acc=none->H1 acc=some (.lst ys)->ys.length=xs.length->Pv acc xs.length ys H1->Q (.ref acc) H1):mE te none (ED K 3 (pF (iC 0) (pF (iC 1) (pF (iC 2) NI)))) (List.replicate 3 none) caps Q (JX K a) H:=by
 intro acc hacc
 refine ⟨cW xs.length acc (Pv acc),⟨xs.length,by simp,zero_le _,rfl,aE,h0 acc hacc⟩,fun i m ys H1 hW=>?_⟩
 obtain ⟨rfl,hi,hl,ha,p⟩:=hW
 have q:=hl' acc i ys H1 hacc hi p
 refine ⟨ha,?_⟩
 rcases lt_or_ge i xs.length with hlt|hge
 ·refine .inr ⟨eI (by omega),⟨xs,xs[i],q,by simp [hlt]⟩,fun us x H' hu z=>?_⟩
  obtain ⟨rfl,z⟩:=z
  obtain ⟨o1,o2,o3,rfl⟩:=Ho hu
  obtain ⟨b,u,v,w,rfl,hb,k⟩:=hs acc i ys H' x hacc (z xs q) hl ha p
  exact ⟨b,_,rfl,fV.of hb,rfl,u,[v,w],rfl,v,[w],rfl,w,[],rfl,rfl,⟨[some u,some v,some w],rfl,rfl⟩,k⟩
 ·cases (le_antisymm hi hge:i=xs.length)
  exact .inl ⟨⟨xs,q,le_refl _⟩,hd acc ys H1 hacc ha hl p⟩
end
def Fi (p:Addr) (Q:VK) (x1 y1 x2 y2 x3 y3 x4 y4:V) (H4:Hp):Prop:=H4 p=some (.dK [])/\∃ kvs:List (cB×V),[(x1,y1),(x2,y2),(x3,y3),(x4,y4)]=kvs.map (fun kv=>(kV kv.1,kv.2))/\kvs.length<=15/\Q (.ref p) (upd H4 p (.dK (gC [] kvs)))
theorem QD {σ:St}{H:Hp}{Q:VK}{k1 v1 k2 v2 k3 v3 k4 v4:TE} (k:∀ p,H p=none->k1 σ (upd H p (.dK [])) fun x1 H1=>v1 σ H1 fun y1 H2=>k2 σ H2 fun x2 H3=>v2 σ H3 fun y2 H4=>k3 σ H4 fun x3 H5=>v3 σ H5 fun y3 H6=>k4 σ H6 fun x4 H7=>v4 σ H7 fun y4 H8=>Fi p Q x1 y1 x2 y2 x3 y3 x4 y4 H8):TH [(k1,v1),(k2,v2),(k3,v3),(k4,v4)] σ H Q:=k
theorem RY {p lf lk:Addr}{H:Hp}{Q:VK} (h:H p=some (.dK [])) (k:Q (.ref p) (upd H p (.dK (lI lf lk .non 0)))):Fi p Q (.str "found") (.ref lf) (.str "known") (.ref lk) (.str "inside") .non (.str "used") (.int 0) H:=
 ⟨h,lI lf lk .non 0,rfl,le_of_ble_eq_true rfl,by
  rw [qK (by rw [nil_append]; show (([Sum.inr "found",Sum.inr "known",Sum.inr "inside",Sum.inr "used"]:List cB)).Nodup; decide +kernel),nil_append]
  exact k⟩
section
variable {K:Frag} {H:Hp} {Q:VK} {p:Addr} {a b c d:V}
theorem xK (h:H p=some (.tup [a,b,c,d])) (k:∀ l,H l=none->Q (.ref l) (upd H l (.tup [a,b,c]))):AQ K (.ref p) none (some 3) H Q:=by
 have e2:HT.sIx 4 4 (some 3)=3:=by decide
 refine AH h ?_ ?_
 ·show ¬ (_/\HT.sIx 4 4 (some 3)=4)
  rw [e2]
  exact fun z=>absurd z.2 (by decide)
 ·rw [show fP [a,b,c,d] none (some 3)=[a,b,c] from uV (xs:=[a,b,c,d]) 3]
  exact k
end
theorem LS {tc:TT}{t u:TS}{D:fQ}{σ:St}{H:Hp} (J:Hp->Prop) (hJ:∀ H1,J H1->u D σ H1) (k:∀ NB:Hp->Prop,(∀ H1,J H1->NB H1)->tc σ H fun b H1=>if b=true then t D σ H1 else NB H1):VL tc t u D σ H:=k _ hJ
end
end L2
namespace L2
open PySem PySem.Spec PyProof.Rows PySem.StrLaws
open PySem.Builtin.Str (strSub subAt occurrences partsBetween)
def yI (s:List Nat):List (List Nat)->List Nat
|[]=>[]
|[x]=>x
|x::y::r=>x++s++yI s (y::r)
theorem jR (s:Str):∀ xs:List Str,(Str.join s xs).cps.toList=yI s.cps.toList (xs.map fun x=>x.cps.toList)
|[]=>rfl
|[x]=>rfl
|x::y::r=>by
  show (((x.cps++s.cps)++(Str.join s (y::r)).cps):Array Nat).toList=x.cps.toList++s.cps.toList++yI s.cps.toList ((y::r).map fun x=>x.cps.toList)
  rw [← jR s (y::r)]
  simp
theorem OM {T sep:Str}{k:Nat} (h:At T sep T.length k):(T.cps.toList.drop k).take sep.length=sep.cps.toList:=by
 have:=h.2
 rw [subAt_eq] at this
 exact eq_of_beq this
theorem Fo {T sep:Str}{k:Nat}{X:List Nat} (hk:k<=T.length) (h:T.cps.toList.drop k=sep.cps.toList++X):At T sep T.length k:=by
 have hl:sep.length=sep.cps.toList.length:=cA sep
 have e:=congrArg List.length h
 rw [length_drop,length_append,← cA,← hl] at e
 refine ⟨?_,?_⟩
 ·omega
 ·rw [subAt_eq,h,hl,List.take_left]
  exact beq_self_eq_true _
theorem AU {T sep:Str}{A B:List Nat}{c:Nat} (hs:sep.cps.toList=A++c::B) (hA:c∉A):∀ (ls:List (List Nat)) (cuts:List Nat) (a f:Nat),ls≠[]->(∀ l∈ls,c∉l)->T.cps.toList.drop a=yI sep.cps.toList ls->a<=T.length->ChainG T sep T.length a cuts f->(∀ k,f<=k->¬ At T sep T.length k) ->
  (partsFrom T sep.length a cuts).map (fun x=>x.cps.toList)=ls
|[],_,_,_,h,_,_,_,_,_=>absurd rfl h
|[l],cuts,a,f,_,hl,hT,ha,hG,hn=>by
  have none:∀ k,a<=k->¬ At T sep T.length k:=fun k hk h=>by
   have e:=OM h
   have hm:c∈(T.cps.toList.drop k).take sep.length:=by rw [e,hs]; simp
   have hm2:=mem_of_mem_take hm
   have:T.cps.toList.drop k=(T.cps.toList.drop a).drop (k - a):=by rw [drop_drop]; congr 1; omega
   rw [this,hT] at hm2
   exact hl l (by simp) (List.mem_of_mem_drop hm2)
  cases cuts with
 |nil =>
   show [(strSub T a T.length).cps.toList]=[l]
   rw [strSub_toList,hT,take_of_length_le]
   ·rfl
   ·have:=congrArg List.length hT
    rw [length_drop,← cA] at this
    show l.length<=_
    have e2:(yI sep.cps.toList [l]).length=l.length:=rfl
    omega
 |cons d r=>exact absurd hG.2.1 (none d hG.1)
|l::l2::r,cuts,a,f,_,hl,hT,ha,hG,hn=>by
  have hT':T.cps.toList.drop a=l++sep.cps.toList++yI sep.cps.toList (l2::r):=hT
  have hlen:=congrArg List.length hT'
  rw [length_drop,length_append,length_append,← cA,← cA] at hlen
  have dr:T.cps.toList.drop (a+l.length)=sep.cps.toList++yI sep.cps.toList (l2::r):=by
   rw [← drop_drop,hT',append_assoc,drop_left]
  have dr2:T.cps.toList.drop (a+l.length+sep.length)=yI sep.cps.toList (l2::r):=by
   rw [← drop_drop,dr,cA sep,drop_left]
  have hat:At T sep T.length (a+l.length):=Fo (by omega) dr
  have early:∀ k,a<=k->k < a+l.length->¬ At T sep T.length k:=fun k hk hk2 h=>by
   have e:=OM h
   -- the sign c at place k+A.length
   have e1:((T.cps.toList.drop k).take sep.length)[A.length]?=some c:=by rw [e,hs]; simp
   have hsl:A.length < sep.length:=by rw [cA,hs]; simp
   rw [List.getElem?_take_of_lt hsl,List.getElem?_drop] at e1
   have e2:(T.cps.toList.drop a)[k - a+A.length]?=some c:=by rw [List.getElem?_drop,← e1]; congr 1; omega
   rw [hT',hs,append_assoc] at e2
   have e3:(l++A)[k - a+A.length]?=some c:=by
    rw [show l++(A++c::B++yI (A++c::B) (l2::r))=(l++A)++(c::B++yI (A++c::B) (l2::r)) by simp] at e2
    rwa [List.getElem?_append_left (by rw [length_append]; omega)] at e2
   rcases mem_append.mp (mem_of_getElem? e3) with h|h
   ·exact hl l (by simp) h
   ·exact hA h
  cases cuts with
 |nil =>
   have:f=a:=hG
   exact absurd hat (hn _ (by omega))
 |cons d r' =>
   obtain ⟨g1,g2,g3,g4⟩:=hG
   have ed:d=a+l.length:=by
    rcases Nat.lt_trichotomy d (a+l.length) with h|h|h
    ·exact absurd g2 (early d g1 h)
    ·exact h
    ·exact absurd hat (g3 _ (by omega) h)
   subst ed
   show (strSub T a (a+l.length)).cps.toList::_=_
   rw [strSub_toList,hT',show a+l.length - a=l.length by omega,append_assoc,List.take_left]
   have ih:=AU hs hA (l2::r) r' (a+l.length+sep.length) f (cons_ne_nil _ _) (fun x hx=>hl x (mem_cons_of_mem _ hx)) dr2 (by omega) g4 hn
   exact congrArg _ ih
theorem kO {sep:Str}{A B:List Nat}{c:Nat} (hs:sep.cps.toList=A++c::B) (hA:c∉A) (hk:Builtin.Str.strKind sep=1) {ls:List Str} (hne:ls≠[]) (hl:∀ l∈ls,c∉l.cps.toList):Txt.split (Str.join sep ls) sep=ls:=by
 have h1:1<=sep.length:=by rw [cA,hs,length_append,length_cons]; omega
 obtain ⟨f,hG,hn⟩:=occ_tight (Str.join sep ls) sep h1
 have key:=AU (T:=Str.join sep ls) hs hA (ls.map fun x=>x.cps.toList) _ 0 f (by simpa using hne) (fun l h=>by
  obtain ⟨x,hx,rfl⟩:=mem_map.mp h
  exact hl x hx) (by rw [drop_zero]; exact jR sep ls) (zero_le _) hG hn
 have back:∀ {xs ys:List Str},xs.map (fun x=>x.cps.toList)=ys.map (fun x=>x.cps.toList)->xs=ys:=by
  intro xs
  induction xs with
 |nil=>intro ys h; cases ys with|nil=>rfl|cons y ys=>simp at h
 |cons x xs ih =>
   intro ys h
   cases ys with
  |nil=>simp at h
  |cons y ys =>
    rw [map_cons,map_cons] at h
    obtain ⟨h1,h2⟩:=List.cons.inj h
    rw [ih h2,show x=y from by obtain ⟨a⟩:=x; obtain ⟨b⟩:=y; exact congrArg Str.mk (Array.toList_inj.mp h1)]
 unfold Txt.split
 have nok:¬ Builtin.Str.strKind (Str.join sep ls) < Builtin.Str.strKind sep:=by
  rw [hk]
  unfold Builtin.Str.strKind
  split
  ·omega
  ·split <;> omega
 split
 ·rename_i h
  rw [Bool.or_eq_true,decide_eq_true_iff,decide_eq_true_iff] at h
  rcases h with h|h
  ·-- a text shorter than what parts it has no place for it
   cases hc:occurrences (Str.join sep ls) sep 0 (Str.join sep ls).length ((Str.join sep ls).length+1) with
  |nil =>
    rw [hc] at key
    refine back ?_
    rw [← key]
    show _=[(strSub _ 0 _).cps.toList]
    rw [sub_whole]
    rfl
  |cons d r =>
    rw [hc] at hG
    have:=hG.2.1.1
    omega
  ·exact absurd h nok
 ·split
  ·rename_i h
   rw [List.isEmpty_iff.mp h] at key
   refine back ?_
   rw [← key]
   show _=[(strSub _ 0 _).cps.toList]
   rw [sub_whole]
   rfl
  ·rw [partsBetween_eq]
   exact back key
end L2
namespace L2
open PySem PySem.Spec PyProof.Rows
section
def cY (n:Int):Str:=Str.ofString (toString n)
def JS (z:Str):Prop:=∀ c∈z.cps.toList,48<=c/\c < 58
theorem rZ (m:Nat):(cY (m:Int)).cps.toList=(Nat.toDigits 10 m).map Char.toNat:=PySem.W.KIN.signs_num m
theorem mW {n:Int} (h:0<=n):JS (cY n):=by
 obtain ⟨m,rfl⟩:=Int.eq_ofNat_of_zero_le h
 intro c hc
 rw [rZ] at hc
 obtain ⟨ch,hch,rfl⟩:=mem_map.mp hc
 have r:=Nat.isDigit_of_mem_toDigits (b:=10) (by decide) (by decide) hch
 simp only [Char.isDigit,Bool.and_eq_true,decide_eq_true_eq] at r
 have r1:48<=ch.toNat:=r.1
 have r2:ch.toNat<=57:=r.2
 exact ⟨r1,by omega⟩
theorem eN {n:Int} (h0:0<=n) (h1:n < 10 ^ 12):1<=(cY n).length/\(cY n).length<=12:=by
 refine ⟨?_,PyProof.Rows.toString_length_le h0 (by decide) h1⟩
 obtain ⟨m,rfl⟩:=Int.eq_ofNat_of_zero_le h0
 rw [cA,rZ,length_map]
 cases e:Nat.toDigits 10 m with
|nil =>
  have:=PySem.W.KIN.val_back m
  rw [e] at this
  have h2:m=0:=this.symm
  subst h2
  cases e
|cons a b=>simp
theorem ZR:∀ m:Nat,1<=m->∃ c r,(Nat.toDigits 10 m).map Char.toNat=c::r/\c≠48:=by
 intro m
 induction m using Nat.strongRecOn with
|_ m ih =>
  intro hm
  by_cases h:m < 10
  ·rw [Nat.toDigits_of_lt_base h]
   refine ⟨_,[],rfl,?_⟩
   have:m=1∨m=2∨m=3∨m=4∨m=5∨m=6∨m=7∨m=8∨m=9:=by omega
   rcases this with rfl|rfl|rfl|rfl|rfl|rfl|rfl|rfl|rfl <;> decide
  ·have hm':m % 10 < 10:=Nat.mod_lt m (by decide)
   have t:Nat.toDigits 10 (m / 10)++Nat.toDigits 10 (m % 10)=Nat.toDigits 10 (10 * (m / 10)+m % 10):=Nat.toDigits_append_toDigits (by decide) (by omega) hm'
   rw [Nat.div_add_mod] at t
   obtain ⟨c,r,e,hc⟩:=ih (m / 10) (by omega) (by omega)
   rw [← t,map_append,e]
   exact ⟨c,_,rfl,hc⟩
theorem YT {n:Int} (h:1<=n):∃ c r,(cY n).cps.toList=c::r/\c≠48:=by
 obtain ⟨m,rfl⟩:=Int.eq_ofNat_of_zero_le (show 0<=n by omega)
 obtain ⟨c,r,e,hc⟩:=ZR m (by omega)
 exact ⟨c,r,by rw [rZ,e],hc⟩
theorem oW {n:Int} (h0:0<=n) (h1:n < 10 ^ 12):PySem.intText? (cY n)=some n:=by
 have hl:=(eN h0 h1).2
 have hd:=mW h0
 obtain ⟨m,rfl⟩:=Int.eq_ofNat_of_zero_le h0
 have hne:(cY (m:Int)).cps.toList≠[]:=by
  have:=(eN h0 h1).1
  intro e
  rw [cA,e] at this
  exact absurd this (by decide)
 have e:=PySem.intText_digits (x:=cY (m:Int)) (fun c hc=>⟨(hd c hc).1,by have:=(hd c hc).2; omega⟩) hne (by omega)
 rw [rZ,PySem.W.KIN.val_back] at e
 exact e
def gK (q:Rat):Str:=if q.den=1 then cY q.num else cY q.num++⟨#[47]⟩++cY (q.den:Int)
def yZ (z:Str):Prop:=32∉z.cps.toList/\59∉z.cps.toList/\z.length<=100
theorem pI (x y:Str):(x++y).cps.toList=x.cps.toList++y.cps.toList:=by
 show (x.cps++y.cps).toList=_
 simp
theorem JS.no {z:Str} (h:JS z) {c:Nat} (hc:c < 48∨58<=c):c∉z.cps.toList:=fun m=>by have:=h c m; omega
theorem iM.num {q:Rat} (h:iM q):1<=q.num/\q.num < 10 ^ 12:=by
 have h0:=Rat.num_nonneg.mpr (Rat.le_of_lt h.1)
 have h1:q.num≠0:=fun z=>Rat.ne_of_gt h.1 (Rat.num_eq_zero.mp z)
 have:=h.2.1
 omega
theorem iM.den {q:Rat} (h:iM q):1<=(q.den:Int)/\(q.den:Int) < 10 ^ 12:=by
 have:=q.den_pos
 have:=h.2.2
 omega
theorem vX {q:Rat} (h:iM q):yZ (gK q):=by
 have d1:=mW (n:=q.num) (by have:=h.num; omega)
 have d2:=mW (n:=(q.den:Int)) (by have:=h.den; omega)
 have l1:=eN (n:=q.num) (by have:=h.num; omega) h.num.2
 have l2:=eN (n:=(q.den:Int)) (by have:=h.den; omega) h.den.2
 unfold gK
 split
 ·exact ⟨d1.no (by omega),d1.no (by omega),by omega⟩
 ·have no:∀ c:Nat,c≠47->(c < 48∨58<=c)->c∉(cY q.num++⟨#[47]⟩++cY (q.den:Int)).cps.toList:=fun c h1 h2=>by
   rw [pI,pI]
   intro m
   rcases mem_append.mp m with m|m
   ·rcases mem_append.mp m with m|m
    ·exact d1.no h2 m
    ·exact h1 (by simpa using m)
   ·exact d2.no h2 m
  refine ⟨no 32 (by decide) (by omega),no 59 (by decide) (by omega),?_⟩
  rw [eW,eW,show (⟨#[47]⟩:Str).length=1 from rfl]
  omega
theorem zJ {q:Rat} (h:iM q):Txt.split (gK q) ⟨#[47]⟩=if q.den=1 then [cY q.num] else [cY q.num,cY (q.den:Int)]:=by
 have d1:=mW (n:=q.num) (by have:=h.num; omega)
 have d2:=mW (n:=(q.den:Int)) (by have:=h.den; omega)
 unfold gK
 split
 ·exact kO (sep:=⟨#[47]⟩) (A:=[]) (B:=[]) (c:=47) rfl (by simp) (by decide +kernel) (ls:=[cY q.num]) (by simp) (fun l hl=>by rw [mem_singleton.mp hl]; exact d1.no (by omega))
 ·exact kO (sep:=⟨#[47]⟩) (A:=[]) (B:=[]) (c:=47) rfl (by simp) (by decide +kernel) (ls:=[cY q.num,cY (q.den:Int)]) (by simp) (fun l hl=>by
   rcases mem_cons.mp hl with rfl|hl
   ·exact d1.no (by omega)
   ·rw [mem_singleton.mp hl]; exact d2.no (by omega))
theorem EC {P:Nat->Prop}{s:List Nat}{c:Nat} (h2:∀ d∈s,P d):∀ {ls:List (List Nat)},(∀ l∈ls,∀ d∈l,P d)->c∈yI s ls->P c
|[],_,hc=>by cases hc
|[x],h1,hc=>h1 x (by simp) c hc
|x::y::r,h1,hc=>by
  replace hc:c∈x++s++yI s (y::r):=hc
  rcases mem_append.mp hc with hc|hc
  ·rcases mem_append.mp hc with hc|hc
   ·exact h1 x (by simp) c hc
   ·exact h2 c hc
  ·exact EC h2 (ls:=y::r) (fun l hl=>h1 l (mem_cons_of_mem _ hl)) hc
theorem lA {s:Str} (h:cL s):yZ s:=by
 have hp:=fX.post h
 have j:=StrLaws.join_split s ⟨#[46]⟩
 have hall:∀ c∈s.cps.toList,c=46∨(97<=c/\c < 123):=by
  intro c hc
  rw [← j,jR] at hc
  refine EC (P:=fun c=>c=46∨(97<=c/\c < 123)) (fun d hd=>.inl (by simpa using hd)) (fun l hl d hd=>?_) hc
  obtain ⟨x,hx,rfl⟩:=mem_map.mp hl
  have:=hp.1 x hx
  unfold cE at this
  rw [Bool.and_eq_true,all_eq_true] at this
  have:=this.2 d hd
  rw [Bool.and_eq_true,decide_eq_true_iff,decide_eq_true_iff] at this
  exact .inr this
 refine ⟨fun m=>?_,fun m=>?_,h.2⟩
 ·have:=hall _ m; omega
 ·have:=hall _ m; omega
def HC:fI->List Str
|.run a b t=>["run",a,b,gK t]
|.path k t ps=>k.nm::gK t::ps
def cM:eY->List Str
|.plain r=>HC r
|.put nm cl as=>"put"::nm::cl::as
def aN:bY->List (List Str)
|.one r=>[cM r]
|.piece p=>("piece"::p.1::p.2.1)::(p.2.2.map cM++[[("end":Str)]])
abbrev kN:Str:=Str.ofString " "
abbrev DC:Str:=Str.ofString " ; "
def fR (ls:List (List Str)):Str:=Str.join DC (ls.map (Str.join kN))
theorem FP:kN.cps.toList=[]++32::[]:=by decide +kernel
theorem PK:DC.cps.toList=[32]++59::[32]:=by decide +kernel
theorem uJ {ws:List Str} (hne:ws≠[]) (h:∀ w∈ws,yZ w):Txt.split (Str.join kN ws) kN=ws:=kO FP (by simp) (by decide +kernel) hne fun l hl=>(h l hl).1
theorem sQ {ls:List (List Str)} (hne:ls≠[]) (h:∀ ws∈ls,∀ w∈ws,yZ w):Txt.split (fR ls) DC=ls.map (Str.join kN):=by
 refine kO PK (by decide) (by decide +kernel) (by simpa using hne) fun l hl=>?_
 obtain ⟨ws,hws,rfl⟩:=mem_map.mp hl
 intro m
 rw [jR] at m
 have:=EC (P:=fun c=>c≠59) (fun d hd=>by
  rw [FP] at hd
  have:d=32:=by simpa using hd
  omega) (fun l hl d hd=>by
  obtain ⟨x,hx,rfl⟩:=mem_map.mp hl
  exact fun e=>(h ws hws x hx).2.1 (by rw [← e]; exact hd)) m
 exact this rfl
theorem BV (c:Nat):decide (c∈("0123456789":Str).cps.toList)=(decide (48<=c)&&decide (c < 58)):=by
 have e:("0123456789":Str).cps.toList=List.range' 48 10:=by decide +kernel
 rw [e,Bool.eq_iff_iff,Bool.and_eq_true,decide_eq_true_iff,decide_eq_true_iff,decide_eq_true_iff]
 exact List.mem_range'_1
def Dx:List V->Hp->VK->Prop:=fun vs H Q=>∃ (z:Str) (n:Int),vs=[.str z]/\PySem.intText? z=some n/\z.length<=640/\Q (.int n) H
theorem uX {X:Cx}:fD X (.type "int") Dx:=by
 intro pins s σ H vs us Q I r h
 obtain ⟨z,n,rfl,hz,hl,q⟩:=h
 obtain ⟨u,rfl,ru⟩:=r.one
 obtain ⟨t,rfl⟩:=ru
 exact PySem.W.KIN.call_text hz hl ⟨.int _,H,I.tok _,⟨_,rfl⟩,q⟩
theorem gY {xs:List V} (n:Nat) (h:n<=xs.length):fP xs (some (n:Int)) none=xs.drop n:=by
 unfold fP
 have e1:HT.sIx xs.length xs.length none=xs.length:=rfl
 have e2:HT.sIx xs.length 0 (some (n:Int))=n:=by
  unfold HT.sIx
  dsimp only
  split <;> omega
 rw [e1,e2,take_of_length_le (by rw [length_drop]; omega)]
def Go:List (cB×V):=[(Sum.inr "row",.int 2),(Sum.inr "star",.int 2),(Sum.inr "ring",.int 3)]
def Ht:mG->Int
|.ring=>3
|_=>2
theorem GO (k:mG):dA Go (Sum.inr k.nm)=some (.int (Ht k)):=by cases k <;> with_unfolding_all rfl
theorem ZL:dA Go (Sum.inr "put")=none:=by with_unfolding_all rfl
def OZ (H:Hp) (d:Addr) (E:List aQ):Prop:=∃ kd,H d=some (.dK kd)/\kd.length<=E.length/\(∀ p∈E,dA kd (Sum.inr p.1)=some (.int (p.2.1.length:Int)))/\∀ s:Str,(∀ p∈E,p.1≠s)->dA kd (Sum.inr s)=none
theorem OZ.sm {H G:Hp}{d:Addr}{E:List aQ} (h:OZ H d E) (s:aI H G):OZ G d E:=let ⟨k,a,b,c⟩:=h; ⟨k,s _ _ a,b,c⟩
theorem OZ.put {G:Hp}{d:Addr}{kd:List (cB×V)}{E:List aQ}{p:aQ} (hp:JW E p) (hl:kd.length<=E.length) (h1:∀ p∈E,dA kd (Sum.inr p.1)=some (.int (p.2.1.length:Int))) (h2:∀ s:Str,(∀ p∈E,p.1≠s)->dA kd (Sum.inr s)=none) (g:G d=some (.dK (dY kd (Sum.inr p.1) (.int (p.2.1.length:Int))))):OZ G d (p::E):=by
 refine ⟨_,g,by have:=rX (kvs:=kd) (k:=Sum.inr p.1) (v:=.int (p.2.1.length:Int)); rw [length_cons]; omega,fun q hq=>?_,fun s hs=>?_⟩
 ·rw [lO]
  rcases mem_cons.mp hq with rfl|hq
  ·exact if_pos rfl
  ·rw [if_neg fun z=>hp.2.2.2.2.2 q hq (Sum.inr.inj z)]
   exact h1 q hq
 ·rw [lO,if_neg fun z=>hs p (by simp) (Sum.inr.inj z).symm]
  exact h2 s fun q hq=>hs q (mem_cons_of_mem _ hq)
def Dv (w:World):List V->Hp->VK->Prop:=fun vs H Q=>∃ (p:Addr) (xs:List Str),vs=[.ref p]/\H p=some (SO w p xs)/\Q (.int xs.length) H
theorem Aa {X:Cx}:fD X (.builtin "len") (Dv X.w):=by
 intro pins s σ H vs us Q I r h
 obtain ⟨p,xs,rfl,hp,q⟩:=h
 obtain ⟨u,rfl,ru⟩:=r.one
 cases ru
 obtain ⟨es,ep,t,g,hel,hxs,hnd,hsz,hf,ht⟩:=(show jT X.w s.heap p xs from (I.hok p _ hp).1)
 have hl:xs.length=es.size:=by rw [← hxs]; simp
 refine call_len_set g ⟨rfl,rfl,rfl⟩ rfl hf (by unfold scanBound at hsz; omega) ⟨.int xs.length,H,I.kept (h':=s.heap) (t':=s.toks+1+1) (fun _ _ e=>e),⟨_,by rw [hl]⟩,q⟩
def VC (H:Hp) (v:V) (ws:List Str):Prop:=∃ a,v=.ref a/\H a=some (.lst (ws.map V.str))
def Az (H:Hp) (l:Addr) (ls:List (List Str)):Prop:=∃ vs,H l=some (.lst vs)/\Paired (VC H) vs ls
theorem VC.sm {H G:Hp}{v:V}{ws:List Str} (h:VC H v ws) (s:aI H G):VC G v ws:=let ⟨a,e,f⟩:=h; ⟨a,e,s _ _ f⟩
theorem Az.sm {H G:Hp}{l:Addr}{ls:List (List Str)} (h:Az H l ls) (s:aI H G):Az G l ls:=let ⟨vs,a,b⟩:=h; ⟨vs,s _ _ a,Pd.imp b fun _ _ f=>f.sm s⟩
theorem RJ {ys xs:List Str} (n1:ys.Nodup) (n2:xs.Nodup) (h:∀ z,z∈ys ↔ z∈xs):ys.length=xs.length:=le_antisymm (yE n1 fun x hx=>(h x).mp hx) (yE n2 fun x hx=>(h x).mpr hx)
theorem WA {w:World}{H:Hp}{Q:VK}{p:Addr}{xs:List Str} (hp:H p=some (.lst (xs.map V.str))) (hl:xs.length<=4000) (k:∀ (l:Addr) (ys:List Str) (G:Hp),H l=none->aI H G->G l=some (SO w l ys)->ys.Nodup->(∀ z,z∈ys ↔ z∈xs)->Q (.ref l) G):UB w [.ref p] H Q:=
 ⟨p,xs,rfl,hp,hl,fun l ys h1 h2 h3=>k l ys _ h1 (aI.new h1) aE h2 h3⟩
theorem Pd.keep {α β:Type}{R S:α->β->Prop}:∀ {xs:List α}{ys:List β},Paired R xs ys->(∀ x y,x∈xs->R x y->S x y)->Paired S xs ys
|_,_,.nil,_=>.nil
|_,_,.cons h t,k=>.cons (k _ _ (by simp) h) (Pd.keep t fun x y hx=>k x y (mem_cons_of_mem _ hx))
theorem GS:∀ xs ys:List Str,pG (xs.map Dt.str) (ys.map Dt.str)=decide (xs=ys)
|[],[]=>rfl
|[],_::_=>rfl
|_::_,[]=>rfl
|x::xs,y::ys=>by
  show ((x==y)&&pG (xs.map Dt.str) (ys.map Dt.str))=_
  rw [GS xs ys,Bool.eq_iff_iff,Bool.and_eq_true,decide_eq_true_iff,decide_eq_true_iff,beq_iff_eq,List.cons.injEq]
theorem yQ {H:Hp}{Q:VK}{l1 l2:Addr}{xs ys:List Str} (h1:H l1=some (.lst (xs.map V.str))) (h2:H l2=some (.lst (ys.map V.str))) (k:Q (.bl (decide (xs=ys))) H):rL (.ref l1) (.ref l2) H Q:=by
 refine BW (ds:=xs.map Dt.str) (es:=ys.map Dt.str) ⟨l1,_,rfl,h1,qQ xs⟩ ⟨l2,_,rfl,h2,qQ ys⟩ (le_trans (uQ xs) (by decide)) ?_
 rw [GS]
 exact k
theorem US:yZ "run"/\yZ "put"/\yZ "piece"/\yZ "end"/\yZ "row"/\yZ "star"/\yZ "ring":=by
 unfold yZ
 decide +kernel
theorem uM {ws:List Str} (h:∀ w∈ws,w.length<=100) (hn:ws.length<=50):(Str.join kN ws).length<=10000:=by
 have h1:=StrLaws.join_length_le kN ws
 have e:kN.length=1:=by decide +kernel
 have h2:∀ {l:List Str},(∀ w∈l,w.length<=100)->(l.map (·.length)).sum<=l.length * 100:=by
  intro l
  induction l with
 |nil=>intro _; simp
 |cons a l ih =>
   intro h
   have:=ih fun w hw=>h w (mem_cons_of_mem _ hw)
   have:=h a (by simp)
   rw [map_cons,sum_cons,length_cons,succ_mul]
   omega
 have h3:=h2 h
 rw [e] at h1
 omega
def zB (ws:List Str):Prop:=ws≠[]/\(∀ w∈ws,yZ w)/\(Str.join kN ws).length<=10000
theorem zB.of {ws:List Str} (h1:ws≠[]) (h2:∀ w∈ws,yZ w) (h3:ws.length<=50):zB ws:=⟨h1,h2,uM (fun w hw=>(h2 w hw).2.2) h3⟩
theorem jS.nm {E:List aQ} (h:jS E) {p:aQ} (hp:p∈E):cE p.1=true:=(h.at hp).2.2.2.2.2 p.1 (by simp)
theorem iZ {E:List aQ} (hE:jS E) {r:eY} (hw:sN E r):zB (cM r):=by
 obtain ⟨k1,k2,k3,k4,k5,k6,k7⟩:=US
 cases r with
|plain r =>
  cases r with
 |run a b t =>
   obtain ⟨h1,h2,h3⟩:=hw
   refine zB.of (cons_ne_nil _ _) (fun w hw=>?_) (by show 4<=50; decide)
   have hw:w="run"∨w=a∨w=b∨w=gK t:=by simpa [cM,HC] using hw
   rcases hw with rfl|rfl|rfl|rfl
   ·exact k1
   ·exact lA h1
   ·exact lA h2
   ·exact vX h3
 |path k t ps =>
   obtain ⟨h1,h2,h3,h4,_⟩:=hw
   refine zB.of (cons_ne_nil _ _) (fun w hw=>?_) (by show ps.length+1+1<=50; omega)
   have hw:w=k.nm∨w=gK t∨w∈ps:=by simpa [cM,HC] using hw
   rcases hw with rfl|rfl|hw
   ·cases k
    ·exact k5
    ·exact k6
    ·exact k7
   ·exact vX h2
   ·exact lA (h1 w hw)
|put nm cl as =>
  obtain ⟨h1,h2,h3,x,hx,rfl,_⟩:=hw
  refine zB.of (cons_ne_nil _ _) (fun w hw=>?_) (by show as.length+1+1+1<=50; omega)
  have hw:w="put"∨w=x.1∨w=cl∨w∈as:=by simpa [cM] using hw
  rcases hw with rfl|rfl|rfl|hw
  ·exact k2
  ·exact lA (fX.part (hE.nm hx))
  ·exact lA (fX.part h1)
  ·exact lA (h2 w hw)
theorem nN (r:eY):cM r≠[("end":Str)]:=by
 cases r with
|plain r=>cases r <;> exact fun h=>by have:=congrArg List.length h; simp [cM,HC] at this
|put nm cl as=>exact fun h=>by have:=congrArg List.length h; simp [cM] at this
theorem kU (r:eY):∃ k ws,cM r=k::ws/\k≠"piece":=by
 cases r with
|plain r =>
  cases r with
 |run a b t=>exact ⟨_,_,rfl,by decide +kernel⟩
 |path k t ps=>exact ⟨_,_,rfl,by cases k <;> decide +kernel⟩
|put nm cl as=>exact ⟨_,_,rfl,by decide +kernel⟩
theorem gX:∀ {gs:List bY}{E:List aQ},jS E->nH E gs->∀ ws∈gs.flatMap aN,zB ws
|[],_,_,_,_,h=>nomatch h
|.one r::gs,E,hE,hG,ws,h=>by
  rw [flatMap_cons] at h
  rcases mem_append.mp h with h|h
  ·rw [mem_singleton.mp (show ws∈[cM r] from h)]
   exact iZ hE hG.1
  ·exact gX hE hG.2 ws h
|.piece p::gs,E,hE,hG,ws,h=>by
  rw [flatMap_cons] at h
  obtain ⟨k1,k2,k3,k4,_⟩:=US
  obtain ⟨⟨g1,g2,g3,g4,⟨g5,g6,g7⟩,g8⟩,gg⟩:=id hG
  rcases mem_append.mp h with h|h
  ·rcases mem_cons.mp (show ws∈(("piece":Str)::p.1::p.2.1)::(p.2.2.map cM++[[("end":Str)]]) from h) with rfl|h
   ·refine zB.of (cons_ne_nil _ _) (fun w hw=>?_) (by show p.2.1.length+1+1<=50; omega)
    rcases mem_cons.mp hw with rfl|hw
    ·exact k3
    ·exact lA (fX.part (g7 w hw))
   ·rcases mem_append.mp h with h|h
    ·obtain ⟨r,hr,rfl⟩:=mem_map.mp h
     exact iZ hE (g1 r hr)
    ·rw [mem_singleton.mp h]
     exact zB.of (cons_ne_nil _ _) (fun w hw=>by rw [mem_singleton.mp hw]; exact k4) (by show 1<=50; decide)
  ·exact gX (E:=p::E) ⟨hG.1,hE⟩ gg ws h
theorem gO:∀ gs:List bY,(gs.flatMap aN).length=lE gs
|[]=>rfl
|.one r::gs=>by rw [flatMap_cons,length_append,gO gs]; show 1+_=_+1; omega
|.piece p::gs=>by
  rw [flatMap_cons,length_append,gO gs]
  show ((p.2.2.map cM++[[("end":Str)]]).length+1)+_=_
  rw [length_append,length_map]
  show _+1+1+_=lE gs+p.2.2.length+2
  omega
theorem RO {gs:List bY}{i j:Nat}{g:bY} (hg:gs[i]?=some g) (hj:j < (aN g).length):(gs.flatMap aN)[((gs.take i).flatMap aN).length+j]?=(aN g)[j]?:=by
 have hi:i < gs.length:=(List.getElem?_eq_some_iff.mp hg).1
 have e:gs=gs.take i++g::gs.drop (i+1):=by
  rw [← iK hg,take_append_drop]
 conv=>lhs; rw [e,flatMap_append,flatMap_cons]
 rw [List.take_append_of_le_length (by rw [length_take]; omega),take_take,min_self]
 rw [List.getElem?_append_right (by omega),Nat.add_sub_cancel_left,List.getElem?_append_left hj]
theorem GL {gs:List bY}{i:Nat}{g:bY} (hg:gs[i]?=some g):(gs.flatMap aN).drop ((gs.take i).flatMap aN).length=aN g++(gs.drop (i+1)).flatMap aN:=by
 have e:gs=gs.take i++g::gs.drop (i+1):=by
  rw [← iK hg,take_append_drop]
 have e2:gs.flatMap aN=(gs.take i).flatMap aN++(aN g++(gs.drop (i+1)).flatMap aN):=by
  conv=>lhs; rw [e,flatMap_append,flatMap_cons]
 rw [e2,drop_left]
theorem qF (p:aQ):(aN (.piece p)).length=p.2.2.length+2:=by
 show (p.2.2.map cM++[[("end":Str)]]).length+1=_
 rw [length_append,length_map]
 rfl
theorem AS {gs:List bY}{i:Nat}{p:aQ} (hg:gs[i]?=some (.piece p)):((gs.flatMap aN).drop ((gs.take i).flatMap aN).length).take (p.2.2.length+1)=(("piece":Str)::p.1::p.2.1)::p.2.2.map cM:=by
 rw [GL hg,List.take_append_of_le_length (by rw [qF]; omega)]
 show _::(p.2.2.map cM++[[("end":Str)]]).take p.2.2.length=_
 rw [List.take_append_of_le_length (by rw [length_map]; exact le_refl _),take_of_length_le (by rw [length_map]; exact le_refl _)]
theorem HV (p:aQ):(aN (.piece p))[p.2.2.length+1]?=some [("end":Str)]:=by
 show (p.2.2.map cM++[[("end":Str)]])[p.2.2.length]?=_
 rw [List.getElem?_append_right (by rw [length_map]; exact le_refl _),length_map,Nat.sub_self]
 rfl
theorem xS {p:aQ}{k:Nat}{ws:List Str} (hk:k<=p.2.2.length) (h:(aN (.piece p))[k]?=some ws):ws≠[("end":Str)]:=by
 cases k with
|zero =>
  have e:("piece"::p.1::p.2.1:List Str)=ws:=Option.some.inj h
  rw [← e]
  intro z
  have:=(List.cons.inj z).2
  cases this
|succ k =>
  have e:(p.2.2.map cM++[[("end":Str)]])[k]?=some ws:=h
  rw [List.getElem?_append_left (by rw [length_map]; omega),List.getElem?_map] at e
  cases hr:p.2.2[k]? with
 |none=>rw [hr] at e; cases e
 |some r =>
   rw [hr] at e
   rw [← (Option.some.inj e:cM r=ws)]
   exact nN r
theorem SD {xs:List V}{a b:Nat} (h1:a<=b) (h2:b<=xs.length):fP xs (some (a:Int)) (some (b:Int))=(xs.drop a).take (b - a):=by
 unfold fP
 have e1:HT.sIx xs.length xs.length (some (b:Int))=b:=by
  unfold HT.sIx
  dsimp only
  split <;> omega
 have e2:HT.sIx xs.length 0 (some (a:Int))=a:=by
  unfold HT.sIx
  dsimp only
  split <;> omega
 rw [e1,e2]
end
section
def CD (P:Program) (w:World) (K:Frag) (a:Addr) (kvs:List (cB×V)):Prop:=(a==sysModules)=false/\∀ h:Heap,K.In h->∃ vs,KV kvs vs/\h.DictOf (cQ P w) a vs
section
variable {X:Cx} {x:Str} {a:Addr} {kvs:List (cB×V)} {i:Expr} {ty:TE} {p pos:Pos}
def TB (kvs:List (cB×V)) (ty:TE):TE:=fun σ H Q=>ty σ H fun y H2=>∃ k v,y=kV k/\dA kvs k=some v/\Q v H2
theorem QQ (hg:Gl X x) (hm:X.mg x=some (.ref a)) (hd:CD X.prog X.w X.K a kvs) (hi:PE X i ty) (hs:Am i) (hdb:(x==("__debug__":Str))=false:=by decide):PE X (.Subscript (.Name x p) i pos) (TB kvs ty):=by
 intro pins s σ H Q I h
 refine FC PySem.F.slot_dict_getitem.lookup hs ?_
 refine cJ (eC (v:=.ref a) hg hm rfl hdb pins s σ H (fun x H1=>x=.ref a/\H1=H) I ⟨rfl,rfl⟩) fun u s1 ⟨y,H1,I1,rx,e1,e2⟩=>?_
 subst e1 e2
 obtain rfl:u=Value.ref a:=rx
 refine cJ (hi pins s1 σ H1 _ I1 h) fun iv s2 ⟨y,H2,I2,ry,k,v,ey,ev,q⟩=>?_
 subst ey
 obtain ⟨vs,rel,dd⟩:=hd.2 s2.heap I2.kIn
 obtain ⟨w',hw,rw'⟩:=pO.some_of (v:=v) (o:=valueAt vs k) (by rw [← ev]; exact rel.val k)
 exact ⟨dd.typeIs,wpAny_getItem_of (nC ry) dd.mapOf hw ⟨v,H2,I2.tok _,rw',q⟩⟩
def Bo (kvs:List (cB×V)) (ty:TE):TE:=fun σ H Q=>ty σ H fun y H2=>∃ k,y=kV k/\Q (.bl (dA kvs k).isSome) H2
theorem YI (hg:Gl X x) (hm:X.mg x=some (.ref a)) (hd:CD X.prog X.w X.K a kvs) (hi:PE X i ty) (hdb:(x==("__debug__":Str))=false:=by decide):PC X .In i (.Name x p) (Bo kvs ty):=by
 intro pins s σ H Q I h
 refine cJ (hi pins s σ H _ I h) fun iv s1 ⟨y,H1,I1,ry,k,ey,q⟩=>?_
 subst ey
 refine cJ (eC (v:=.ref a) hg hm rfl hdb pins s1 σ H1 (fun x H2=>x=.ref a/\H2=H1) I1 ⟨rfl,rfl⟩) fun u s2 ⟨y,H2,I2,rx,e1,e2⟩=>?_
 subst e1 e2
 obtain rfl:u=Value.ref a:=rx
 obtain ⟨vs,rel,dd⟩:=hd.2 s2.heap I2.kIn
 refine wpAny_in_of (nC ry) hd.1 dd.mapOf ?_
 rw [← (rel.val k).isSome_eq]
 exact ⟨.bl _,H2,I2.tok _,rfl,q⟩
end
theorem CD.of3 {P:Program}{w:World}{K:Frag}{a:Addr}{s1 s2 s3:Str}{n1 n2 n3:Int}{h1 h2 h3:Int}{t1 t2 t3 u1 u2 u3:Tok}{ep:Nat} (l:K.lookup a=some ⟨.type "dict",none,.dict #[⟨h1,.str s1 t1,.int n1 u1⟩,⟨h2,.str s2 t2,.int n2 u2⟩,⟨h3,.str s3 t3,.int n3 u3⟩] ep,#[]⟩)
  (e1:h1=vQ w (Sum.inr s1)) (e2:h2=vQ w (Sum.inr s2)) (e3:h3=vQ w (Sum.inr s3)) (ns:(a==sysModules)=false) (nd:([Sum.inr s1,Sum.inr s2,Sum.inr s3]:List cB).Nodup):CD P w K a [(Sum.inr s1,.int n1),(Sum.inr s2,.int n2),(Sum.inr s3,.int n3)]:=by
 subst e1 e2 e3
 refine ⟨ns,fun h hK=>⟨[(Sum.inr s1,.int n1 u1),(Sum.inr s2,.int n2 u2),(Sum.inr s3,.int n3 u3)],.cons ⟨rfl,⟨u1,rfl⟩⟩ (.cons ⟨rfl,⟨u2,rfl⟩⟩ (.cons ⟨rfl,⟨u3,rfl⟩⟩ .nil)),_,_,_,hK _ _ l,⟨rfl,rfl,rfl⟩,rfl,?_,?_,nd⟩⟩
 ·intro e he
  have he:e∈[(⟨vQ w (Sum.inr s1),.str s1 t1,.int n1 u1⟩:DictEntry),⟨vQ w (Sum.inr s2),.str s2 t2,.int n2 u2⟩,⟨vQ w (Sum.inr s3),.str s3 t3,.int n3 u3⟩]:=by simpa using he
  rcases mem_cons.mp he with rfl|he
  ·exact ⟨Sum.inr s1,gP s1 t1,rfl⟩
  rcases mem_cons.mp he with rfl|he
  ·exact ⟨Sum.inr s2,gP s2 t2,rfl⟩
  ·rw [mem_singleton.mp he]
   exact ⟨Sum.inr s3,gP s3 t3,rfl⟩
 ·exact .cons (kv:=(Sum.inr s1,.int n1 u1)) (gP s1 t1) rfl (.cons (kv:=(Sum.inr s2,.int n2 u2)) (gP s2 t2) rfl (.cons (kv:=(Sum.inr s3,.int n3 u3)) (gP s3 t3) rfl .nil))
def Ix (kvs:List (cB×V)) (Q:VK):VK:=fun y H2=>∃ k v,y=kV k/\dA kvs k=some v/\Q v H2
theorem WP {kvs:List (cB×V)}{ty:TE}{σ:St}{H:Hp}{Q:VK} (k:ty σ H (Ix kvs Q)):TB kvs ty σ H Q:=k
theorem Cm {kvs:List (cB×V)}{H:Hp}{Q:VK}{s:Str}{v:V} (e:dA kvs (Sum.inr s)=some v) (k:Q v H):Ix kvs Q (.str s) H:=⟨Sum.inr s,v,rfl,e,k⟩
def Iw (kvs:List (cB×V)) (Q:VK):VK:=fun y H2=>∃ k,y=kV k/\Q (.bl (dA kvs k).isSome) H2
theorem Cl {kvs:List (cB×V)}{ty:TE}{σ:St}{H:Hp}{Q:VK} (k:ty σ H (Iw kvs Q)):Bo kvs ty σ H Q:=k
theorem TW {kvs:List (cB×V)}{H:Hp}{Q:VK}{s:Str}{b:Bool} (e:(dA kvs (Sum.inr s)).isSome=b) (k:Q (.bl b) H):Iw kvs Q (.str s) H:=⟨Sum.inr s,rfl,by rw [e]; exact k⟩
end
section
def Hm:V->List V->Hp->VK->Prop:=fun x vs H Q=>∃ (a:Addr) (ys:List Str) (y:Str) (j:Nat),x=.ref a/\vs=[.str y]/\H a=some (.lst (ys.map V.str))/\ys[j]?=some y/\(∀ m,m < j->ys[m]?≠some y)/\Q (.int (j:Int)) H
def Hq (y:Str):Value->Bool
|.str a _=>a.cps.toList==y.cps.toList
|_=>false
theorem EX:∀ {ks:List Str}{its:List Value},bN (ks.map V.str) its->∀ (m:Nat) (v:Value),its[m]?=some v->∃ a t,ks[m]?=some a/\v=.str a t
|[],_,.nil,m,v,e=>by simp at e
|k::ks,u::its,.cons r rs,0,v,e=>by
  obtain ⟨t,rfl⟩:=r
  exact ⟨k,t,rfl,(Option.some.inj e).symm⟩
|k::ks,u::its,.cons r rs,m+1,v,e=>EX rs m v (by simpa using e)
theorem YY {X:Cx}:OS X "list.index" Hm:=by
 intro pins s σ H x vs v us Q I rx rv h
 obtain ⟨l,ks,y,j,rfl,rfl,hH,hj,hno,q⟩:=h
 cases rx
 obtain ⟨u,rfl,ru⟩:=rv.one
 obtain ⟨t,rfl⟩:=ru
 obtain ⟨z,its,n,r,hl,e⟩:=I.lstM hH
 have hjl:j < ks.length:=(List.getElem?_eq_some_iff.mp hj).1
 have hli:its.length=ks.length:=by rw [← hl,length_map]
 have at1:∀ m (hm:m < its.toArray.size),∃ a t,ks[m]?=some a/\its.toArray[m]=.str a t:=fun m hm=>EX r m _ (by
  rw [size_toArray] at hm
  simp [hm])
 have hz:ks.length<=sizeLine:=by rw [← length_map (f:=V.str)]; exact z
 refine call_meets F.slot_list_index ⟨_,e,rfl⟩ F.entry_list_index (F.args_list_index_2 _ _) (MeetsSeq.list_index l its.toArray n (.str y t) (Hq y) (fun y' hy=>?_) j (by rw [size_toArray]; omega) (by rw [sizeLine_eq] at hz; omega) ?_ (fun m hm hlt=>?_)) ⟨e,?_⟩
 ·obtain ⟨m,hm,rfl⟩:=Array.mem_iff_getElem.mp hy
  obtain ⟨a,t',_,e2⟩:=at1 m hm
  rw [e2]
  exact SeqRoads2.EqGives.str a y t' t
 ·obtain ⟨a,t',e1,e2⟩:=at1 j (by rw [size_toArray]; omega)
  rw [e2]
  rw [hj] at e1
  cases e1
  exact beq_self_eq_true _
 ·obtain ⟨a,t',e1,e2⟩:=at1 m hm
  rw [e2]
  refine beq_eq_false_iff_ne.mpr fun z=>?_
  rw [jM z] at e1
  exact hno m hlt e1
 ·exact ⟨.int _,H,I.tok _,⟨_,rfl⟩,q⟩
def Br (K:Frag) (r1 r2:V->List V->Hp->VK->Prop) (to:TE) (t:TA):TE:=fun σ H Q=>to σ H fun x H1=>((∃ p xs,x=.ref p/\H1 p=some (.tup xs))/\t σ H1 fun vs H2=>r1 x vs H2 Q)∨((∃ p xs,x=.ref p/\H1 p=some (.lst xs))/\t σ H1 fun vs H2=>r2 x vs H2 Q)
theorem YH {X:Cx}{o e:Expr}{es:List Expr}{to:TE}{t:TA}{name:Str}{apos cpos:Pos}{i1 i2:String}{r1 r2:V->List V->Hp->VK->Prop} (pa:PlainAttrs "tuple") (slot:Slot "tuple" name i1) (hty:typeOf (.builtin i1)=pure (.type "method_descriptor")) (hm:OS X i1 r1)
  (dZ:PlainAttrs "list") (slot2:Slot "list" name i2) (hty2:typeOf (.builtin i2)=pure (.type "method_descriptor")) (hm2:OS X i2 r2) (ho:PE X o to) (ha:PA X (e::es) t)
  (hbase:attributeBase o name X.env (eval o X.env)=eval o X.env:=by rfl)
  (hfew:((backTo cpos (starEach (e::es) X.env)).all (fun x=>!x.1)&&(backToKw cpos (keywordEach [] X.env)).all (fun x=>x.1.isSome)
   && decide ((e::es).length+([]:List Keyword).length+(if ([]:List Keyword).isEmpty then 0 else 1) < 30))=true:=by rfl)
  (hline:(apos.endLine==cpos.line)=true:=by rfl) (hs:starEach (e::es) X.env=(false,eval e X.env)::starEach es X.env:=by rfl) (hplain:(backTo cpos (starEach es X.env)).any (·.1)=false:=by rfl) :
  PE X (.Call (.Attribute o name apos) (e::es) [] cpos) (Br X.K r1 r2 to t):=by
 intro pins s σ H Q I h
 refine wpAny_Call_method_late hbase hfew hline rfl (cJ (ho pins s σ H _ I h) fun v s1 z=>?_)
 obtain ⟨x,H1,I1,r1',z⟩:=z
 rcases z with ⟨⟨p,xs,ex,hp⟩,q1⟩|⟨⟨p,xs,ex,hp⟩,q1⟩
 ·subst ex
  cases r1'
  obtain ⟨⟨_,o1,e1,d1⟩,its,rv,ob,eo,c,_⟩:=I1.hok p _ hp
  refine ⟨"tuple",i1,pa,slot,hty,⟨ob,eo,c⟩,fun a e2=>?_,?_⟩
  ·cases e2
   exact ⟨o1,e1,d1⟩
  have hA:=ha cpos pins s1 σ H1 _ I1 q1
  rw [hs] at hA ⊢
  refine Calls.callWith_builtin (by show (false || (backTo cpos (starEach es X.env)).any (·.1))=false; rw [hplain] <;> rfl) (Calls.evalArgs_plain ?_)
  exact cJ hA fun us s2 ⟨vs,H2,I2,r2,q2⟩=>hm pins s2 σ H2 (.ref p) vs (.ref p) us Q I2 rfl r2 q2
 ·subst ex
  obtain ⟨h1,h2⟩:=KD (T:="list") I1 r1' (.inl ⟨rfl,xs,cN.of hp⟩)
  refine ⟨"list",i2,dZ,slot2,hty2,h1,h2,?_⟩
  have hA:=ha cpos pins s1 σ H1 _ I1 q1
  rw [hs] at hA ⊢
  refine Calls.callWith_builtin (by show (false || (backTo cpos (starEach es X.env)).any (·.1))=false; rw [hplain] <;> rfl) (Calls.evalArgs_plain ?_)
  exact cJ hA fun us s2 ⟨vs,H2,I2,r2,q2⟩=>hm2 pins s2 σ H2 (.ref p) vs v us Q I2 r1' r2 q2
def Af (r1 r2:V->List V->Hp->VK->Prop) (t:TA) (σ:St) (Q:VK):VK:=fun x H1=>((∃ p xs,x=.ref p/\H1 p=some (.tup xs))/\t σ H1 fun vs H2=>r1 x vs H2 Q)∨((∃ p xs,x=.ref p/\H1 p=some (.lst xs))/\t σ H1 fun vs H2=>r2 x vs H2 Q)
theorem De {K:Frag}{σ:St}{H:Hp}{Q:VK}{r1 r2:V->List V->Hp->VK->Prop}{to:TE}{t:TA} (k:to σ H (Af r1 r2 t σ Q)):Br K r1 r2 to t σ H Q:=k
theorem XN {σ:St}{H:Hp}{Q:VK}{r1 r2:V->List V->Hp->VK->Prop}{t:TA}{l:Addr}{xs:List V} (h:H l=some (.tup xs)) (k:t σ H fun vs H2=>r1 (.ref l) vs H2 Q):Af r1 r2 t σ Q (.ref l) H:=.inl ⟨⟨l,xs,rfl,h⟩,k⟩
theorem XO {σ:St}{H:Hp}{Q:VK}{r1 r2:V->List V->Hp->VK->Prop}{t:TA}{l:Addr}{xs:List V} (h:H l=some (.lst xs)) (k:t σ H fun vs H2=>r2 (.ref l) vs H2 Q):Af r1 r2 t σ Q (.ref l) H:=.inr ⟨⟨l,xs,rfl,h⟩,k⟩
def vS (H:Hp) (q:Addr) (xs:List V):Prop:=H q=some (.tup xs)∨H q=some (.lst xs)
theorem vS.sm {H G:Hp}{q:Addr}{xs:List V} (h:vS H q xs) (s:aI H G):vS G q xs:=h.imp (s _ _) (s _ _)
theorem WU {K:Frag}{H:Hp}{Q:VK}{p:Addr}{ys:List Str}{s:Str} (h:vS H p (ys.map V.str)) (k:Q (.bl (decide (s∈ys))) H):Gk K false (.str s) (.ref p) H Q:=⟨p,_,rfl,h.elim (fun h=>.inr (fV.of h)) (fun h=>.inl (cN.of h)),rfl,qO _,by rw [BQ]; exact k⟩
def mZ (H:Hp) (d:Addr) (E:List aQ):Prop:=∃ kvs,H d=some (.dK kvs)/\kvs.length<=E.length/\∀ p∈E,∃ t q l,dA kvs (Sum.inr p.1)=some (.ref t)/\H t=some (.tup [.ref q,.ref l])/\vS H q (p.2.1.map V.str)/\LQ aW H l (kn ((p.2.2.flatMap (aR E)).take 121))
theorem mZ.sm {H G:Hp}{d:Addr}{E:List aQ} (h:mZ H d E) (s:aI H G):mZ G d E:=by
 obtain ⟨k,a,b,c⟩:=h
 refine ⟨k,s _ _ a,b,fun p hp=>?_⟩
 obtain ⟨t,q,l,e,f,g,m⟩:=c p hp
 exact ⟨t,q,l,e,s _ _ f,g.sm s,m.sm aW.tk s⟩
theorem mZ.put {H:Hp}{d t q l:Addr}{kvs:List (cB×V)}{E:List aQ}{p:aQ} (hE:jS E) (hp:JW E p) (hd:H d=some (.dK kvs)) (hl:kvs.length<=E.length)
  (h:∀ p∈E,∃ t q l,dA kvs (Sum.inr p.1)=some (.ref t)/\H t=some (.tup [.ref q,.ref l])/\vS H q (p.2.1.map V.str)/\LQ aW H l (kn ((p.2.2.flatMap (aR E)).take 121)))
  (h1:H t=some (.tup [.ref q,.ref l])) (h2:vS H q (p.2.1.map V.str)) (h3:LQ aW H l (kn ((p.2.2.flatMap (aR E)).take 121))):mZ (upd H d (.dK (dY kvs (Sum.inr p.1) (.ref t)))) d (p::E):=by
 have tk:=TK.dic (o:=.dK (dY kvs (Sum.inr p.1) (.ref t))) hd
 have kl:∀ {l:Addr} {n:List (cB×cB×Rat)},LQ aW H l n->LQ aW (upd H d (.dK (dY kvs (Sum.inr p.1) (.ref t)))) l n:=fun {l n} ⟨vs,a,b⟩=>by
  refine ⟨vs,?_,Pd.imp b fun _ _ f=>aW.tk f tk⟩
  rw [aZ fun z=>by rw [z,hd] at a; cases a]
  exact a
 have ks:∀ {q:Addr} {xs:List V},vS H q xs->vS (upd H d (.dK (dY kvs (Sum.inr p.1) (.ref t)))) q xs:=fun {q xs} g=>by
  rcases g with g|g
  ·exact .inl (tk _ _ g)
  ·refine .inr ?_
   rw [aZ fun z=>by rw [z,hd] at g; cases g]
   exact g
 refine ⟨_,aE,by have:=rX (kvs:=kvs) (k:=Sum.inr p.1) (v:=.ref t); rw [length_cons]; omega,fun x hx=>?_⟩
 rw [lO]
 rcases mem_cons.mp hx with rfl|hx
 ·rw [GP hp]
  exact ⟨t,q,l,if_pos rfl,tk _ _ h1,ks h2,kl h3⟩
 ·obtain ⟨t',q',l',e,f,g,m⟩:=h x hx
  rw [NO hE hp hx]
  exact ⟨t',q',l',by rw [if_neg fun z=>hp.2.2.2.2.2 x hx (Sum.inr.inj z)]; exact e,tk _ _ f,ks g,kl m⟩
theorem mZ.li {H G:Hp}{d li:Addr}{E:List aQ}{a:Str}{b c:Addr}{o:HO} (h:mZ H d E) (hl:H li=some (.lst [.str a,.ref b,.ref c])) (e:G=upd H li o):mZ G d E:=by
 subst e
 have tk:=TK.lst (o:=o) hl
 obtain ⟨k,hd,b',c'⟩:=h
 refine ⟨k,?_,b',fun p hp=>?_⟩
 ·rw [aZ fun z=>by rw [z,hl] at hd; cases hd]
  exact hd
 obtain ⟨t,q,l,e,f,g,vs,hv,pv⟩:=c' p hp
 refine ⟨t,q,l,e,tk _ _ f,?_,vs,?_,Pd.imp pv fun _ _ f=>aW.tk f tk⟩
 ·rcases g with g|g
  ·exact .inl (tk _ _ g)
  ·refine .inr ?_
   rw [aZ fun z=>?_]
   ·exact g
   ·rw [z,hl] at g
    have e:=HO.lst.inj (Option.some.inj g)
    match p.2.1,e with
   |_::_::_,e=>exact absurd (List.cons.inj (List.cons.inj e).2).1 (fun z=>nomatch z)
 ·rw [aZ fun z=>?_]
  ·exact hv
  ·rw [z,hl] at hv
   have e:=HO.lst.inj (Option.some.inj hv)
   subst e
   cases hk:kn ((p.2.2.flatMap (aR E)).take 121) with
  |nil=>rw [hk] at pv; cases pv
  |cons r rs =>
    rw [hk] at pv
    cases pv with
   |cons r' _ =>
     obtain ⟨_,_,e,_⟩:=r'
     cases e
def UI:R2:=fun x y H Q=>∃ p xs z,x=.ref p/\y=.str z/\H p=some (.lst xs)/\Q (.bl false) H
theorem QW {X:Cx} (hu:X.A.units+64 < cLine):jJ X (compareOp .Eq) UI:=by
 intro pins s σ H x y v u Q I rx ry h
 obtain ⟨p,xs,z,rfl,rfl,hp,q⟩:=h
 cases rx
 obtain ⟨t,rfl⟩:=ry
 obtain ⟨its,r,hl⟩:=hZ I hp
 exact SeqAt.RcAt.list_str z t hl (by omega) _ _ _ _ ⟨.bl _,H,I,rfl,q⟩
def XY:R2:=fun x y H Q=>rL x y H Q∨UI x y H Q
theorem YM {X:Cx} (hu:X.A.units+64 < cLine):jJ X (compareOp .Eq) XY:=(aY hu).or (QW hu)
theorem LW {x y:V}{H:Hp}{Q:VK} (k:rL x y H Q):XY x y H Q:=.inl k
theorem XA {p:Addr}{xs:List V}{z:Str}{H:Hp}{Q:VK} (h:H p=some (.lst xs)) (k:Q (.bl false) H):XY (.ref p) (.str z) H Q:=.inr ⟨p,xs,z,rfl,rfl,h,k⟩
theorem XS {K:Frag}{H:Hp}{Q:VK}{a b:Str} (h:a.length+b.length<=2000000) (k:Q (.str (a++b)) H):tW K (.str a) (.str b) H Q:=.inr (.inr (.inr ⟨a,b,rfl,rfl,by rw [sizeLine_eq]; omega,k⟩))
theorem GI (s:List Nat):∀ (ls:List (List Nat)) (x:List Nat),ls≠[]->yI s (ls++[x])=yI s ls++s++x
|[],_,h=>absurd rfl h
|[y],x,_=>by simp [yI]
|y::z::r,x,_=>by
  have:=GI s (z::r) x (cons_ne_nil _ _)
  show y++s++yI s (z::r++[x])=y++s++yI s (z::r)++s++x
  rw [this]
  simp
theorem HH {ls:List (List Str)} (h:ls≠[]) (ws:List Str):fR (ls++[ws])=fR ls++(DC++Str.join kN ws):=by
 refine jM ?_
 show (Str.join DC ((ls++[ws]).map (Str.join kN))).cps.toList=((Str.join DC (ls.map (Str.join kN))).cps++(DC.cps++(Str.join kN ws).cps)).toList
 rw [jR,map_append,map_append]
 show yI _ (_++[(Str.join kN ws).cps.toList])=_
 rw [GI _ _ _ (by simpa using h),Array.toList_append,Array.toList_append,jR DC (ls.map (Str.join kN))]
 simp
theorem yM:∀ (gs:List bY) (E:List aQ) (r:eY),gI E (gs++[.one r])=gI E gs++aR (cZ E gs) r
|[],E,r=>by show aR E r++[]=[]++_; simp; rfl
|.one x::gs,E,r=>by
  show aR E x++gI E (gs++[.one r])=(aR E x++gI E gs)++_
  rw [yM gs E r,append_assoc]
  rfl
|.piece p::gs,E,r=>yM gs (p::E) r
end
section
theorem jK {H:Hp}{a:Addr} (h:H a=none) (o:HO):∃ G,upd H a o=G/\aI H G/\G a=some o:=⟨_,rfl,aI.new h,aE⟩
theorem bW {H:Hp}{Q:VK}{xs:List V} (k:∀ p G,H p=none->aI H G->G p=some (.lst xs)->Q (.ref p) G) (h:xs.length<=1000 := by exact le_of_ble_eq_true rfl):YZ Q xs H:=cG (fun p e=>k p _ e (aI.new e) aE) h
theorem eJ {H:Hp}{Q:VK}{xs:List V} (k:∀ p G,H p=none->aI H G->G p=some (.tup xs)->Q (.ref p) G) (h:xs.length<=1000 := by exact le_of_ble_eq_true rfl):VF Q xs H:=dJ (fun p e=>k p _ e (aI.new e) aE) h
theorem bE {X:Cx}{e:Expr}{te:TE} (ha:PE X e te) (hs:starEach [e] X.env=(false,eval e X.env)::starEach [] X.env):PA X [e] (qZ te KJ):=@eG _ _ _ _ _ ha (@dL _) hs
theorem dZ {X:Cx}{e f:Expr}{te tf:TE} (ha:PE X e te) (hb:PE X f tf) (h1:starEach [f] X.env=(false,eval f X.env)::starEach [] X.env) (h2:starEach [e,f] X.env=(false,eval e X.env)::starEach [f] X.env):PA X [e,f] (qZ te (qZ tf KJ)):=@eG _ _ _ _ _ ha (@bE _ _ _ hb h1) h2
theorem kC {X:Cx}{e f g:Expr}{te tf tg:TE} (ha:PE X e te) (hb:PE X f tf) (hc:PE X g tg) (h1:starEach [g] X.env=(false,eval g X.env)::starEach [] X.env) (h2:starEach [f,g] X.env=(false,eval f X.env)::starEach [g] X.env) (h3:starEach [e,f,g] X.env=(false,eval e X.env)::starEach [f,g] X.env):PA X [e,f,g] (qZ te (qZ tf (qZ tg KJ))):=@eG _ _ _ _ _ ha (@dZ _ _ _ _ _ hb hc h1 h2) h3
theorem bJ {X:Cx}{a:Expr}{ta:TE}{i:Int}{j:Nat}{pos p2:Pos} (ha:PE X a ta):PE X (.Subscript a (.Constant (.int i) j pos) p2) (As (tV X.K) ta (tC (.int i))):=@cD _ _ _ _ _ _ _ eB ha (@aD _ _ _ _) (fun _ _=>rfl)
end
end L2
namespace Lw
open PySem L2
set_option maxHeartbeats 0
set_option compiler.extract_closed false
set_option hygiene false
local macro_rules | `(tactic| walk_at "st") => `(tactic| first
 |with_reducible assumption
  | ((with_reducible refine Ji.new ?_ ?hn); (case hn => with_reducible assumption); walk_at "st"))
local macro_rules | `(tactic| walk_at "kp") => `(tactic| first
 |with_reducible assumption
 |with_reducible exact Kp.refl _ _
  | ((with_reducible refine Kp.trans ?_ (Kp.new ?hn)); (case hn => with_reducible assumption); walk_at "kp"))
local macro_rules | `(tactic| walk_at "sm") => `(tactic| first
 |with_reducible assumption
 |with_reducible exact aI.refl _
  | ((with_reducible refine aI.trans ?_ (aI.new ?hn)); (case hn => with_reducible assumption); walk_at "sm"))
local macro_rules | `(tactic| walk_at "hp") => `(tactic| first
 |with_reducible assumption
 |with_reducible exact aE
 |((with_reducible refine fE ?hn ?_); (case hn => with_reducible assumption); walk_at "hp")
 |((with_reducible refine aI.app ?hn ?_); (case hn => with_reducible assumption); walk_at "hp")
  | ((with_reducible refine Kp.app ?hk ?hn ?_); (case hk => with_reducible assumption); (case hn => first | with_reducible assumption | (refine Ne.symm ?_; with_reducible assumption)); walk_at "hp"))
local macro_rules | `(tactic| walk_at "tk") => `(tactic| first
 |with_reducible exact TK.refl _
 |with_reducible assumption
 |((with_reducible refine TK.trans ?_ (TK.new ?hn)); (case hn => with_reducible assumption); walk_at "tk")
 |((with_reducible refine TK.trans ?_ (TK.lst ?hn)); (case hn => walk_at "hp"); walk_at "tk")
 |((with_reducible refine TK.trans ?_ (TK.dic ?hn)); (case hn => walk_at "hp"); walk_at "tk")
 |((with_reducible refine TK.trans ?_ (TK.frz ?hn)); (case hn => walk_at "hp"); walk_at "tk")
 |((with_reducible refine TK.trans ?_ TK.melt); walk_at "tk")
 |((with_reducible refine TK.trans ?_ (aI.tk ?hn)); (case hn => with_reducible assumption); walk_at "tk")
  | ((with_reducible refine TK.trans ?_ (Ji.tk ?hs ?hn)); (case hn => with_reducible assumption); (case hs => with_reducible assumption); walk_at "tk"))
local macro_rules | `(tactic| walk_at "fq") => `(tactic| first
 |with_reducible assumption
  | ((with_reducible refine qX.tk ?fa ?ft); (case fa => with_reducible assumption); (case ft => walk_at "tk")))
local macro_rules | `(tactic| walk_at "go1") => `(tactic| first
 |with_reducible refine LM ?_
 |((with_reducible refine Ce ?_); (with_reducible refine PY ?_))
 |((with_reducible refine Cb ?_); (with_reducible refine Hb ?_))
 |with_reducible (first|refine Di ?_|refine xM ?_)
 |((with_reducible refine' Bx ?rv ?_); case rv => exact rfl)
 |with_reducible (first|refine r_c ?_|refine Hd ?_|refine Gy ?_|refine Dl ?_|refine r_U ?_|refine Fr ?_|refine Ha ?_|refine WE ?_|refine PV ?_|refine LN ?_)
 |((with_reducible refine TV ?mc ?_); case mc => first|decide|omega)
 |((with_reducible refine WM ?mc ?_); case mc => first|decide|omega)
 |((with_reducible refine LO ?mc ?_); case mc => first|exact hV.r (by decide) (by decide)|exact hV.l (by decide) (by decide)|exact hV.l (by omega) (by omega)|exact hV.r (by omega) (by omega))
 |((with_reducible refine DM ?mc ?_); case mc => first|exact rH.of (by decide) (by decide)|exact rH.of (by omega) (by omega))
 |with_reducible (first|refine PU ?_|refine VY ?_|refine Gz ?_|refine Hi ?_|refine Cs ?_|refine Hg ?_|refine Dj ?_|refine Hc ?_|refine Cf ?_|refine XQ ?_|refine WG ?_|refine XR ?_|refine WH ?_|refine Cc ?_|refine WL ?_|refine XB ?_|refine Cg ?_|refine XF ?_|refine Bz ?_|refine Ck ?_|refine XM ?_|refine WV ?_|refine Hj ?_|refine XE ?_|refine Cz ?_|refine XD ?_|refine XC ?_|refine QE ?_|refine Hh ?_|refine Dg ?_|refine QC ?_|refine WY ?_|refine QA ?_|refine WQ ?_|refine WR ?_|refine WI ?_|refine WJ ?_)
 |((with_reducible refine' Dh ?ih ?_); (case ih => walk_at "hp"))
 |((with_reducible refine' FS ?ih ?_); (case ih => walk_at "hp"))
 |((with_reducible refine' QB ?ih ?_); (case ih => walk_at "hp"))
 |with_reducible (first|refine Cd ?_|refine WF ?_|refine Ff ?_|refine Ep ?_|refine Hy ?_|refine NZ ?_|refine MV ?_|refine WX ?_|refine Dk ?_|refine Cj ?_|refine Ci ?_|refine WS ?_|refine Ct ?_|refine XG ?_|refine WD ?_|refine WC ?_|refine PZ ?_)
 |((with_reducible refine' WN ?ih ?_); (case ih => walk_at "hp"))
 |((with_reducible refine' WO ?ih ?_); (case ih => walk_at "hp"))
 |((with_reducible refine' fG ?ih ?ie ?_); (case ih => walk_at "hp"); (case ie => exact rfl))
 |((with_reducible refine' bH ?ih ?ie ?_); (case ih => walk_at "hp"); (case ie => exact rfl))
 |with_reducible (first|refine Hs ?_|refine Ja ?_|refine Jb ?_|refine ZI ?_)
 |((with_reducible refine Ex ?dc ?_); case dc => omega)
  | ((with_reducible refine Ey ?dc ?_); case dc => omega))
local macro_rules | `(tactic| walk_at "go") => `(tactic| repeat (walk_at "go1"))
local macro_rules | `(tactic| walk_at "gos") => `(tactic| repeat ((fail_if_success (with_reducible refine LM ?_)); walk_at "go1"))
set_option hygiene true
local macro_rules | `(tactic| walk_at "go1") => `(tactic| first
 |with_reducible (first|refine Ca ?_|refine VX ?_|refine QH ?_|refine PQ ?_)
  | with_reducible refine r_rng1H ?_)
theorem ZQ {P:List Value->Prop} (h:P []):∀ us:List Value,us.length=0->P us:=fun us e=>(List.length_eq_zero_iff.mp e).symm ▸ h
theorem JC {n:Nat}{P:List Value->Prop} (h:∀ a us,us.length=n->P (a::us)):∀ us:List Value,us.length=n+1->P us:=fun us=>List.casesOn (motive:=fun us=>us.length=n+1->P us) us (fun e=>absurd e (Nat.succ_ne_zero n).symm) fun a us e=>h a us (Nat.succ.inj e)
theorem Hx {P:List Value->Prop} (h:∀ a0,P [a0]):∀ us:List Value,us.length=1->P us:=JC fun a0=>ZQ (h a0)
theorem Hw {P:List Value->Prop} (h:∀ a0 a1,P [a0,a1]):∀ us:List Value,us.length=2->P us:=JC fun a0=>JC fun a1=>ZQ (h a0 a1)
theorem Hv {P:List Value->Prop} (h:∀ a0 a1 a2,P [a0,a1,a2]):∀ us:List Value,us.length=3->P us:=JC fun a0=>JC fun a1=>JC fun a2=>ZQ (h a0 a1 a2)
local macro_rules | `(tactic| w_left) => `(tactic| first | exact Or.inl rfl | exact Or.inr rfl | exact fun _ _ _ _ _ _ => Hx fun _ => rfl | exact fun _ _ _ _ _ _ => Hw fun _ _ => rfl | exact fun _ _ _ _ _ _ => Hv fun _ _ _ => rfl | exact ⟨rfl,rfl,rfl,by decide +kernel,rfl,by decide +kernel,by decide +kernel⟩)
local macro_rules | `(tactic| w_means) => `(tactic| first | exact .inl rfl | exact .inr rfl | assumption)
local macro_rules | `(tactic| w_fin) => `(tactic| walk_at "go")
def gJ (i:Nat):Stmt:=PySem.Challenge.pw_tilefall_k76_whole_from_text_to_net.main.body.getD i (.Pass ⟨0,0,0,0⟩)
local macro_rules | `(tactic| walk_at "go1") => `(tactic| first
 |with_reducible (first|refine QG ?_|refine XL ?_|refine XJ ?_|refine XI ?_|refine XH ?_|refine WT ?_)
  | with_reducible refine LT ?_)
local macro_rules | `(tactic| walk_at "go1") => `(tactic| first
 |with_reducible (first|refine Hf ?_|refine Cu ?_|refine Cp ?_)
  | ((with_reducible refine Co ?jy ?_); case jy => first | omega | decide +kernel))
def Bw (r:cV):Prop:=cL r.1/\cL r.2.1/\r.1≠r.2.1/\0 < r.2.2.num/\r.2.2.num<=100/\r.2.2.den<=100
theorem VS {K:Frag}{H:Hp}{v:V}{r:cV} (h:aW H v (Sum.inr r.1,Sum.inr r.2.1,r.2.2)) (t:Bw r):dM K H v true:=by
 obtain ⟨p,u,rfl,hp,pt,rfl,hpt⟩:=h
 obtain ⟨h1,h2,h3,h4,h5,h6⟩:=t
 have hd:=r.2.2.den_pos
 have m1:Sm 8000 r.2.2.num:=(Sm.of (n:=64) (by omega) (by omega)).mono (by decide)
 have m2:Sm 8000 (r.2.2.den:Int):=(Sm.of (n:=64) (by omega) (by omega)).mono (by decide)
 have:=dM.run (K:=K) hp h1.q h2.q h3 hpt (EE _) m1 m2
 rw [decide_eq_true h4] at this
 exact this
theorem LG {K:Frag}{H:Hp}:∀ {n:List cV}{vs:List V},Paired (aW H) vs (kn n)->(∀ r∈n,Bw r)->Paired (dM K H) vs (List.replicate n.length true)
|[],_,.nil,_=>.nil
|r::n,_,.cons h t,hr=>.cons (VS h (hr r (by simp))) (LG t fun x hx=>hr x (mem_cons_of_mem _ hx))
def An (K:Frag) (H:Hp) (v:V):Prop:=(∃ l vs bs,v=.ref l/\H l=some (.lst vs)/\Paired (dM K H) vs bs/\vs.length<=900/\(vs.length=0∨120 < vs.length∨false∈bs))∨NL K H v
theorem JE {G:Hp}:∀ ys:List Str,kM G (ys.map Dt.str) (ys.map V.str)
|[]=>rfl
|y::r=>⟨_,_,rfl,rfl,JE r⟩
theorem JD:∀ ys:List Str,gD (ys.map Dt.str)<=50
|[]=>by simp [gD]
|y::r=>by
  have:=JD r
  rw [map_cons]
  simp only [gD,sK]
  omega
local macro_rules | `(tactic| walk_at "go1") => `(tactic| first
 |rw [if_pos (show (_ == _) = true by decide +kernel)]
 |rw [if_neg (show ¬ (_ == _) = true by decide +kernel)]
  | with_reducible refine LU ?_)
local macro_rules | `(tactic| walk_at "go1") => `(tactic| first
 |with_reducible (first|refine He ?_|refine Cn ?_|refine Cv ?_)
  | ((with_reducible refine' r_bmuK ?ih ?_); (case ih => walk_at "hp")))
local macro_rules | `(tactic| walk_at "go1") => `(tactic| first
 |with_reducible refine WP ?_
  | with_reducible refine Cl ?_)
local macro_rules | `(tactic| walk_at "go1") => `(tactic| with_reducible refine De ?_)
structure Jg (mg:Str->Option Value) (xt x1 x4 x5:Addr):Prop where
 t:mg "TileError"=some (.ref xt)
 m_NoNet:mg "NoNet"=some (.ref x1)
 m_TooMany:mg "TooMany"=some (.ref x4)
 m_NoText:mg "NoText"=some (.ref x5)
 zV:mg "ValueError"=none
structure Gp (K:Frag) (xt x1 x4 x5 C:Addr) (i:Nat):Prop where
 x:qU K C
 e:Gq K C
 v:kitOne K (.ref C) (.type "ValueError")=some true
 t:exmOne K (.ref C) (.ref xt)=some true
 k1:kitOne K (.ref C) (.ref x1)=some (Nat.beq 1 i)
 k4:kitOne K (.ref C) (.ref x4)=some (Nat.beq 4 i)
 k5:kitOne K (.ref C) (.ref x5)=some (Nat.beq 5 i)
abbrev XX (K:Frag) (mg:Str->Option Value) (xt x1 x4 x5:Addr):Prop:=Jg mg xt x1 x4 x5/\Gp K xt x1 x4 x5 x1 1/\Gp K xt x1 x4 x5 x4 4
abbrev nK:Stmt:=gJ 6
theorem AF:aT ["thing"] ["thing"] (aG nK):=by w_left
abbrev gM:Stmt:=gJ 7
theorem eU:aT ["one","other","rest"] ["one","other"] (aG gM):=by w_left
abbrev jW:Stmt:=gJ 8
theorem tI:aT ["thing"] ["thing"] (aG jW):=by w_left
abbrev pZ:Stmt:=gJ 9
theorem DF:aT ["one","other"] ["one","other"] (aG pZ):=by w_left
abbrev mQ:Stmt:=gJ 15
theorem DE:aT ["text"] ["text"] (aG mQ):=by w_left
abbrev mP:Stmt:=gJ 16
theorem tH:aT ["thing","parts"] ["thing"] (aG mP):=by w_left
abbrev tR:Stmt:=gJ 17
theorem HN:aT ["thing"] ["thing"] (aG tR):=by w_left
abbrev tP:Stmt:=gJ 18
theorem pW:aT ["runs","number","run"] ["runs"] (aG tP):=by w_left
abbrev nM:Stmt:=gJ 20
theorem AG:aT ["row","counts"] ["row","counts"] (aG nM):=by w_left
abbrev mR:Stmt:=gJ 21
theorem iT:aT ["rows","count","counts","row"] ["rows"] (aG mR):=by w_left
abbrev iH:Stmt:=gJ 22
theorem vI:aT ["time","posts"] ["time","posts"] (aG iH):=by w_left
abbrev nJ:Stmt:=gJ 23
theorem AE:aT ["post","names","called"] ["post","names","called"] (aG nJ):=by w_left
abbrev kH:Stmt:=gJ 25
theorem DD:aT ["row","pieces"] ["row","pieces"] (aG kH):=by w_left
abbrev iU:Stmt:=gJ 24
theorem dQ:aT ["row","pieces","piece","names","runs","inner","one","other","time"] ["row","pieces"] (aG iU):=by w_left
abbrev tM:Stmt:=gJ 26
theorem mL:aT ["rows","pieces","runs","row"] ["rows"] (aG tM):=by w_left
abbrev iI:Stmt:=gJ 30
theorem vJ:aT ["word","most"] ["word","most"] (aG iI):=by w_left
abbrev jQ:Stmt:=gJ 31
theorem kP:aT ["word","parts","time"] ["word"] (aG jQ):=by w_left
abbrev jV:Stmt:=gJ 32
theorem eZ:aT ["whole","beyond","rest","shown"] ["whole"] (aG jV):=by w_left
abbrev gL:Stmt:=gJ 33
theorem fY:aT ["each","top","bottom"] ["each"] (aG gL):=by w_left
abbrev hX:Stmt:=gJ 38
theorem pV:aT ["holds","words","row"] ["holds","words"] (aG hX):=by w_left
abbrev kR:Stmt:=gJ 39
theorem AD:aT ["words","told"] ["words","told"] (aG kR):=by w_left
abbrev pY:Stmt:=gJ 40
theorem tF:aT ["words","word","time"] ["words","word"] (aG pY):=by w_left
abbrev tK:Stmt:=gJ 41
theorem wI:aT ["words","posts"] ["words"] (aG tK):=by w_left
abbrev iV:Stmt:=gJ 42
theorem rJ:aT ["words"] ["words"] (aG iV):=by w_left
abbrev tL:Stmt:=gJ 43
theorem HM:aT ["words","counts"] ["words","counts"] (aG tL):=by w_left
abbrev iW:Stmt:=gJ 44
theorem rK:aT ["words","counts"] ["words","counts"] (aG iW):=by w_left
abbrev iX:Stmt:=gJ 45
theorem lQ:aT ["lines","counts","words","params"] ["lines","counts"] (aG iX):=by w_left
abbrev kT:Stmt:=gJ 46
theorem nB:aT ["lines","place","later"] ["lines","place"] (aG kT):=by w_left
abbrev kS:Stmt:=gJ 47
theorem rC:aT ["text","lines"] ["text"] (aG kS):=by w_left
abbrev lT:Stmt:=gJ 48
theorem dC:aT ["text","lines","rows","counts","place","end","piece"] ["text"] (aG lT):=by w_left
abbrev nI:Stmt:=gJ 49
theorem AC:aT ["row"] ["row"] (aG nI):=by w_left
abbrev iG:Stmt:=gJ 50
theorem jU:aT ["rows","lines","row"] ["rows"] (aG iG):=by w_left
abbrev qA:Stmt:=gJ 52
theorem DG:aT ["_law_script","_law_k"] ["_law_script","_law_k"] (aG qA):=by w_left
abbrev tN:Stmt:=gJ 53
theorem iN:aT ["_law_script","_law_k","_law_cell","_law_one","_law_two","_law_three","_law_number_here"] ["_law_script","_law_k"] (aG tN):=by w_left
abbrev tQ:Stmt:=gJ 54
theorem mM:aT ["_law_top","_law_bottom","_law_one","_law_other"] ["_law_top","_law_bottom"] (aG tQ):=by w_left
abbrev rW:Stmt:=gJ 55
theorem lR:aT ["_law_script","_law_letters","_law_number_here","_law_before","_law_behind"] ["_law_script"] (aG rW):=by w_left
abbrev xH:Stmt:=gJ 56
theorem rV:aT ["_law_number_here","_law_names_here","_law_kind","_law_first","_law_more"] ["_law_number_here","_law_names_here"] (aG xH):=by w_left
abbrev DI:Stmt:=gJ 57
theorem rS:aT ["_law_number_here","_law_most","_law_bottom"] ["_law_number_here"] (aG DI):=by w_left
abbrev xG:Stmt:=gJ 58
theorem oE:aT ["_law_number_here","_law_names_here","_law_many","_law_found","_law_k"] ["_law_number_here","_law_names_here","_law_many"] (aG xG):=by w_left
abbrev xI:Stmt:=gJ 59
theorem fJ:aT ["_law_number_here","_law_names_here","_law_kind","_law_many","_law_posts_here","_law_more","_law_k","_law_time_here"] ["_law_number_here","_law_names_here"] (aG xI):=by w_left
abbrev LF:Stmt:=gJ 60
theorem xF:aT ["_law_number_here","_law_names_here","_law_known","_law_name","_law_many"] ["_law_number_here","_law_names_here","_law_known"] (aG LF):=by w_left
abbrev tS:Stmt:=gJ 61
theorem mO:aT ["_law_state","_law_name","_law_params","_law_some"] ["_law_state"] (aG tS):=by w_left
abbrev lS:Stmt:=gJ 64
theorem xE:aT ["_law_time_here"] ["_law_time_here"] (aG lS):=by w_left
abbrev jP:Stmt:=gJ 65
theorem fZ:aT ["_law_row_here","_law_texts","_law_one"] ["_law_row_here"] (aG jP):=by w_left
abbrev tO:Stmt:=gJ 62
theorem oF:aT ["_law_number_here","_law_state","_law_names_here","_law_name","_law_inside","_law_many","_law_row_here"] ["_law_number_here","_law_state","_law_names_here"] (aG tO):=by w_left
abbrev xJ:Stmt:=gJ 63
theorem oG:aT ["_law_script","_law_first","_law_end","_law_names_here","_law_state","_law_k"] ["_law_script","_law_first","_law_end"] (aG xJ):=by w_left
abbrev DJ:Stmt:=gJ 66
theorem rT:aT ["_law_rows","_law_texts","_law_row_here"] ["_law_rows"] (aG DJ):=by w_left
abbrev tT:Stmt:=gJ 67
theorem HP:aT ["_law_name","_law_row_here","_law_params"] ["_law_name","_law_row_here","_law_params"] (aG tT):=by w_left
abbrev kQ:Stmt:=gJ 68
theorem fS:aT ["_law_row_here","_law_pieces","_law_params","_law_inner","_law_posts_here","_law_found","_law_k"] ["_law_row_here","_law_pieces"] (aG kQ):=by w_left
abbrev tJ:Stmt:=gJ 69
theorem jO:aT ["_law_rows","_law_pieces","_law_found","_law_row_here"] ["_law_rows","_law_pieces"] (aG tJ):=by w_left
abbrev DH:Stmt:=gJ 71
theorem mK:aT ["_law_rows","_law_found","_law_told_here","e"] ["_law_rows"] (aG DH):=by w_left
abbrev nL:Stmt:=gJ 72
theorem rD:aT ["_law_word","_law_parts"] ["_law_word"] (aG nL):=by w_left
abbrev iF:Stmt:=gJ 73
theorem gQ:aT ["_law_words","_law_pieces","_law_params","_law_inner","_law_row_here"] ["_law_words","_law_pieces"] (aG iF):=by w_left
abbrev oH:Stmt:=gJ 74
theorem eR:aT ["_law_text_here","_law_pieces","_law_found","_law_inside","_law_one","_law_words","_law_bad"] ["_law_text_here"] (aG oH):=by w_left
abbrev oI:Stmt:=gJ 75
theorem pX:aT ["_law_script","_law_rows","_law_text_here","_law_due_here","_law_found","_law_more"] ["_law_script"] (aG oI):=by w_left
def FD (K:Frag):Sp:=fun vs H Q _=>∃ (x:V) (t:Value) (b c:Bool),vs=[x]/\iL K H x t/\kitOne K t (.type "int")=some b/\kitOne K t (.type "bool")=some c/\Q (.bl (b&&!c)) H
def TM:Sp:=fun vs H Q _=>∃ (a b:Int),vs=[.int a,.int b]/\Q (.int (Int.gcd a b:Int)) H
def sY (K:Frag):Sp:=fun vs H Q _=>∃ (x:V) (r:Bool),vs=[x]/\Il K H x r/\Q (.bl r) H
def KS:Sp:=fun vs H Q _=>∃ (x y:V) (a b c d:Int),vs=[x,y]/\Jl H x a b/\Jl H y c d/\hV a d/\hV c b/\Q (.bl (decide (a * d < c * b))) H
def xC:Sp:=fun vs H Q _=>∃ z:Str,vs=[.str z]/\z.length<=1000/\∀ H',aI H H'->Q (.bl (cE z)) H'
def CZ (K:Frag):Sp:=fun vs H Q _=>∃ (x:V) (b:Bool),vs=[x]/\jI K H x b/\∀ H',aI H H'->Q (.bl b) H'
def FK (K:Frag):Sp:=fun vs H Q _=>∃ (x:V) (b:Bool),vs=[x]/\dM K H x b/\∀ H',aI H H'->Q (.bl b) H'
def FI (K:Frag) (x:Addr):Sp:=fun vs H Q E=>∃ v:V,vs=[v] /\
  ((∃ l vs' bs,v=.ref l/\H l=some (.lst vs')/\Paired (dM K H) vs' bs/\1<=vs'.length/\vs'.length<=120/\(∀ b∈bs,b=true)/\∀ l' H',H l'=none->aI H H'->H' l'=some (.lst vs')->Q (.ref l') H') ∨
   (An K H v/\∀ H',aI H H'->E (.ref x) none H'))
def FM:Sp:=fun vs H Q _=>∃ (v:V) (d:Addr) (E:List aQ) (r:eY),vs=[v,.ref d]/\bQ H v r/\CF H d E/\jS E/\sN E r/\Q (.int ((aR E r).length:Int)) H
def rB (K:Frag):Sp:=fun vs H Q _=>∃ (l:Addr) (gs:List bY),vs=[.ref l]/\zC H l gs/\iE gs/\∀ H',aI H H'->Q (.int ((gI [] gs).length:Int)) H'
def FO (K:Frag):Sp:=fun vs H Q _=>∃ (v:V) (t:Rat) (p:Addr) (ps:List Str),vs=[v,.ref p]/\qX H v t/\H p=some (.tup (ps.map V.str))/\1<=ps.length/\ps.length<=200/\∀ l H',H l=none->aI H H'->LQ aW H' l (kn (dH t ps))->Q (.ref l) H'
def wF:Sp:=fun vs H Q _=>∃ (x cl:Str) (d:Addr) (ps as:List Str),vs=[.str x,.ref d,.str cl]/\H d=some (.dK ((ps.map Sum.inr).zip (as.map V.str)))/\x.length<=1000/\cl.length<=1000/\Q (.str (gB ps as cl x)) H
def mI (K:Frag) (dd:Nat):Sp:=fun vs H Q _=>∃ (v:V) (d:Addr) (E:List aQ) (nm cl:Str) (as:List Str),vs=[v,.ref d]/\bQ H v (.put nm cl as)/\zA H d E/\(jS E/\E.length<=60)/\sN E (.put nm cl as)/\HQ E (.put nm cl as)<=dd/\(aR E (.put nm cl as)).length<=120/\∀ l H',H l=none->aI H H'->LQ aW H' l (kn (aR E (.put nm cl as)))->Q (.ref l) H'
def iS (K:Frag) (dd:Nat):Sp:=fun vs H Q _=>∃ (v:V) (d:Addr) (E:List aQ) (r:eY),vs=[v,.ref d]/\bQ H v r/\zA H d E/\(jS E/\E.length<=60)/\sN E r/\HQ E r<=dd/\(aR E r).length<=120/\∀ l H',H l=none->aI H H'->LQ aW H' l (kn (aR E r))->Q (.ref l) H'
theorem MC {P:Program}{w:World}{K:Frag}{mg:Str->Option Value}{base:Heap}{k:Nat} (d:Df K mg "runs_put" iU ["row","pieces"]):bD P w K mg base (k+1) "runs_put" ["row","pieces"] (mI K 0):=by
 have no:∀ {vs H Q E},mI K 0 vs H Q E->False:=fun {vs H Q E} h=>by
  obtain ⟨v,d,E,nm,cl,as,_,_,_,⟨hE,_⟩,⟨_,_,_,x,hx,rfl,_⟩,hrk,_⟩:=h
  obtain ⟨_,h2⟩:=hE.put hx cl as
  obtain ⟨h3,_⟩:=hE.at hx
  cases e:x.2.2 with
 |nil=>exact h3 e
 |cons r rs =>
   have:=h2 r (by rw [e]; simp)
   omega
 exact bD.of d dQ (fun vs H Q E h=>(no h).elim) (fun f cdv A outer s H vs Q E hr h=>(no h).elim)
def sW (x1 x4:Addr):Sp:=fun vs H Q E=>∃ (l:Addr) (gs:List bY),vs=[.ref l]/\zC H l gs/\iE gs/\(120 < (gI [] gs).length->∀ H',aI H H'->E (.ref x4) none H')/\((gI [] gs).length<=120->pQ (gI [] gs)->∀ H',aI H H'->E (.ref x1) none H') /\
 ((gI [] gs).length<=120->¬ pQ (gI [] gs)->∀ l' H',H l'=none->aI H H'->LQ aW H' l' (kn (gI [] gs))->Q (.ref l') H')
def KQ:Sp:=fun vs H Q _=>∃ z:Str,vs=[.str z,.int 12]/\JS z/\1<=z.length/\z.length<=12/\(∃ c r,z.cps.toList=c::r/\c≠48)/\∀ H',aI H H'->Q (.bl true) H'
def FG:Sp:=fun vs H Q _=>∃ t:Rat,vs=[.str (gK t)]/\iM t/\∀ v H',aI H H'->qX H' v t->Q v H'
theorem PR {H:Hp}{Q:VK} (k:Q (.int (10 ^ 64)) H):rI Aq (fun i j=>.int (i ^ j.toNat)) (.int 10) (.int 64) H Q:=Au ⟨by decide,by decide,by decide⟩ k
def zS:Sp:=fun vs H Q _=>∃ n:Int,vs=[.int n]/\0<=n/\n < 10 ^ 12/\Q (.str (cY n)) H
def zU:Sp:=fun vs H Q _=>∃ (v:V) (q:Rat),vs=[v]/\qX H v q/\iM q/\Q (.str (gK q)) H
def lP:Sp:=fun vs H Q _=>∃ v:V,vs=[.bl true,v]/\Q .non H
def mJ (K:Frag):Sp:=fun vs H Q _=>∃ (v:V) (l:Addr) (ps:List Str),vs=[v,.ref l]/\H l=some (.lst (ps.map V.str))/\(∀ s∈ps,cL s)/\ps.length<=100/\∀ p H',aI H H'->H' p=some (.tup (ps.map V.str))->Q (.ref p) H'
def sS:Sp:=fun vs H Q _=>∃ (v:V) (t:Rat),vs=[v,.str (gK t)]/\iM t/\∀ v H',aI H H'->qX H' v t->Q v H'
def FE (K:Frag):Sp:=fun vs H Q _=>∃ (l:Addr) (a b:Str) (t:Rat),vs=[.ref l]/\H l=some (.lst ((HC (.run a b t)).map V.str))/\cL a/\cL b/\iM t/\∀ v H',aI H H'->gZ H' v (.run a b t)->Q v H'
def sV (K:Frag):Sp:=fun vs H Q _=>∃ (l:Addr) (k:mG) (t:Rat) (ps:List Str),vs=[.ref l]/\H l=some (.lst ((HC (.path k t ps)).map V.str))/\IJ (.path k t ps)/\∀ v H',aI H H'->gZ H' v (.path k t ps)->Q v H'
def FH (K:Frag):Sp:=fun vs H Q _=>∃ (l d:Addr) (kd:List (cB×V)) (nm cl:Str) (as:List Str),vs=[.ref l,.ref d]/\H l=some (.lst ((cM (.put nm cl as)).map V.str))/\H d=some (.dK kd)/\dA kd (Sum.inr nm)=some (.int (as.length:Int))/\cE cl=true/\(∀ s∈as,cL s)/\(1<=as.length/\as.length<=8)/\∀ v H',aI H H'->bQ H' v (.put nm cl as)->Q v H'
def pT (K:Frag):Sp:=fun vs H Q _=>∃ (l d:Addr) (E:List aQ) (r:eY),vs=[.ref l,.ref d]/\H l=some (.lst ((cM r).map V.str))/\OZ H d E/\sN E r/\∀ v H',aI H H'->bQ H' v r->Q v H'
def wC (K:Frag):Sp:=fun vs H Q _=>∃ (l d:Addr) (E:List aQ) (x:aQ),vs=[.ref l,.ref d]/\Az H l (("piece"::x.1::x.2.1)::x.2.2.map cM)/\OZ H d E/\JW E x/\E.length<=60/\∀ v H',aI H H'->gH H' v x->Q v H'
def KW (K:Frag):Sp:=fun vs H Q _=>∃ (l:Addr) (ls:List (List Str)) (a b:Nat),vs=[.ref l,.int (a:Int)]/\Az H l ls/\ls.length<=60/\a<=b/\ls[b]?=some [("end":Str)]/\(∀ j,a<=j->j < b->∀ ws,ls[j]?=some ws->ws≠[("end":Str)])/\∀ H',aI H H'->Q (.int (b:Int)) H'
def wG (K:Frag):Sp:=fun vs H Q _=>∃ ls:List (List Str),vs=[.str (fR ls)]/\ls≠[]/\ls.length<=60/\(∀ ws∈ls,ws≠[]/\(∀ w∈ws,yZ w)/\(Str.join kN ws).length<=10000)/\(fR ls).length<=1000000/\∀ l H',aI H H'->Az H' l ls->Q (.ref l) H'
def sT (K:Frag):Sp:=fun vs H Q _=>∃ gs:List bY,vs=[.str (fR (gs.flatMap aN))]/\gs≠[]/\iE gs/\lE gs<=60/\(fR (gs.flatMap aN)).length<=1000000/\∀ l H',H l=none->aI H H'->zC H' l gs->Q (.ref l) H'
def BR:bY->List Str
|.one r=>cM r
|.piece p=>("piece":Str)::p.1::p.2.1
def wA (K:Frag):Sp:=fun vs H Q _=>∃ (v:V) (g:bY) (E:List aQ),vs=[v]/\iD H v g/\nH E [g]/\∀ l H',H l=none->aI H H'->H' l=some (.lst ((BR g).map V.str))->Q (.ref l) H'
theorem ZJ (g:bY):BR g∈aN g:=by cases g <;> exact mem_cons_self ..
theorem NG {E:List aQ}{g:bY} (h:nH E [g]):(BR g).length<=50:=by
 cases g with
|one r =>
  replace h:=h.1
  cases r with
 |plain r =>
   cases r with
  |run a b t=>show 4<=50; decide
  |path k t ps =>
    have:=h.2.2.2.1
    show ps.length+1+1<=50
    omega
 |put nm cl as =>
   have:=h.2.2.1.2
   show as.length+1+1+1<=50
   omega
|piece x =>
  have:=h.1.2.2.2.2.1.2.1
  show x.2.1.length+1+1<=50
  omega
def zT (K:Frag):Sp:=fun vs H Q _=>∃ (l:Addr) (gs:List bY),vs=[.ref l]/\zC H l gs/\iE gs/\lE gs<=60/\∀ H',aI H H'->Q (.str (fR (gs.flatMap aN))) H'
def KY (K:Frag):Sp:=fun vs H Q _=>∃ (a:Addr) (ns:List Int) (k:Int),vs=[.ref a,.int k]/\cN K H a (ns.map V.int)/\0<=k/\∀ r,Q (.int r) H
def DB (K:Frag):Sp:=fun vs H Q _=>∃ (a:Addr) (ns:List Int) (k:Int),vs=[.ref a,.int k]/\cN K H a (ns.map V.int)/\0<=k/\k<=1000/\∀ r,0<=r->Q (.int r) H
def AA:Sp:=fun vs H Q _=>∃ (t b:Int),vs=[.int t,.int b]/\0 < b/\Sm 8000 t/\Sm 8000 b /\
 ∀ p,H p=none->Q (.ref p) (upd H p (.tup [.int (lD t b),.int (kL t b)]))
def wD (K:Frag):Sp:=fun vs H Q _=>∃ (a:Addr) (ns:List Int),vs=[.ref a]/\cN K H a (ns.map V.int)/\∀ l H' (U:List Str),H l=none->aI H H'->H' l=some (.lst (U.map V.str))->U.length=8->(∀ s∈U,cE s=true)->U.Nodup->Q (.ref l) H'
theorem qN {x:Str}{r:List Str} (hx:∀ p∈x::r,cE p=true) (hl:r.length<=3):cL (Str.join ⟨#[46]⟩ (x::r)):=by
 constructor
 ·show QL _ 1 0=true
  rw [oM r x 1 fun c hc=>(cT (hx c hc)).2.2,decide_eq_true (show 1+r.length<=4 by omega),Bool.true_and,all_eq_true]
  exact hx
 ·have e2:=PyProof.Rows.len_join_cons ⟨#[46]⟩ x r
  have e3:(⟨#[46]⟩:Str).length=1:=rfl
  rw [e3] at e2
  have hs:=CY (cs:=x::r) fun c hc=>(cT (hx c hc)).2.1
  rw [length_cons] at hs
  omega
def zZ:Sp:=fun vs H Q _=>∃ (c:Int) (ln:Addr) (U:List Str),vs=[.int c,.ref ln]/\0<=c/\H ln=some (.lst (U.map V.str))/\U.length=8/\(∀ s∈U,cE s=true)/\∀ (s:Str) H',aI H H'->cL s->Q (.str s) H'
theorem Jf {x0 x1 x2:Int} (P:Int->Prop) (h0:P x0) (h1:P x1) (h2:P x2) (i:Int) (l:0<=i) (u:i < 3):∃ t:Int,fM [V.int x0,V.int x1,V.int x2] i=some (.int t)/\P t:=by
 have:i=0∨i=1∨i=2:=by omega
 rcases this with rfl|rfl|rfl
 ·exact ⟨_,rfl,h0⟩
 ·exact ⟨_,rfl,h1⟩
 ·exact ⟨_,rfl,h2⟩
def zQ:Sp:=fun vs H Q _=>∃ c:Int,vs=[.int c]/\0<=c/\∀ v q H',aI H H'->qX H' v q->iM q->Q v H'
theorem EY {t b:Int} (h1:0 < t) (h2:t<=999999999999) (h3:0 < b) (h4:b<=999999999999):iM (Rat.divInt t b):=by
 have hb0:b≠0:=by omega
 have e:=sD (t:=t) hb0
 have a1:=RM (t:=t) hb0
 have a2:=RN (t:=t) hb0
 refine ⟨RK h1 h3,?_,?_⟩
 ·rw [e.1]
  omega
 ·have:=e.2
  omega
def pS:Sp:=fun vs H Q _=>∃ (c:Int) (ln:Addr) (U:List Str) (m:Nat),vs=[.int c,.ref ln,.int (m:Int)]/\0<=c/\H ln=some (.lst (U.map V.str))/\U.length=8/\(∀ s∈U,cE s=true)/\m<=100/\∀ p H' (ps:List Str),aI H H'->H' p=some (.tup (ps.map V.str))->ps.length=m->(∀ s∈ps,cL s)->Q (.ref p) H'
theorem at5 (i:Int) (l:0<=i) (u:i < 5):∃ t:Nat,fM [V.int 2,V.int 2,V.int 3,V.int 4,V.int 5] i=some (.int (t:Int))/\2<=t/\t<=5:=by
 have:i=0∨i=1∨i=2∨i=3∨i=4:=by omega
 rcases this with rfl|rfl|rfl|rfl|rfl
 ·exact ⟨2,rfl,by decide,by decide⟩
 ·exact ⟨2,rfl,by decide,by decide⟩
 ·exact ⟨3,rfl,by decide,by decide⟩
 ·exact ⟨4,rfl,by decide,by decide⟩
 ·exact ⟨5,rfl,by decide,by decide⟩
def wB:Sp:=fun vs H Q _=>∃ (c:Int) (ln:Addr) (U:List Str),vs=[.int c,.ref ln]/\0<=c/\H ln=some (.lst (U.map V.str))/\U.length=8/\(∀ s∈U,cE s=true)/\∀ (v:V) H' (r:fI),aI H H'->gZ H' v r->IJ r->Q v H'
def FF (K:Frag):Sp:=fun vs H Q _=>∃ (c:Int) (ln:Addr) (U:List Str) (lk:Addr) (E:List aQ),vs=[.int c,.ref ln,.ref lk]/\0<=c/\H ln=some (.lst (U.map V.str))/\U.length=8/\(∀ s∈U,cE s=true)/\Fz H lk E/\E.length<=8/\(∀ p∈E,1<=p.2.1.length/\p.2.1.length<=8)/\∀ (v:V) H' (r:eY),aI H H'->bQ H' v r->sN E r->Q v H'
def sZ (K:Frag):Sp:=fun vs H Q _=>∃ (d lf lk:Addr) (U:List Str) (gs:List bY) (x:aQ) (H0:Hp) (n:Nat),vs=[.ref d]/\aI H0 H/\CG H0 H d lf lk U gs (some x) n/\x.2.2≠[]/\n<=55/\∀ H',aI H0 H'->CG H0 H' d lf lk U (gs++[.piece x]) none (n+1)->Q .non H'
def sR:Sp:=fun vs H Q _=>∃ (v:V) (q:Rat),vs=[v]/\qX H v q/\iM q/\Q (.str (gK q)) H
theorem oB:∀ {ys:List Str}{B:Nat},(∀ s∈ys,s.length<=B)->(ys.map (·.length)).sum<=ys.length * B
|[],_,_=>by simp
|y::ys,B,h=>by
  have h1:=h y (by simp)
  have h2:=oB (ys:=ys) fun s hs=>h s (mem_cons_of_mem _ hs)
  rw [map_cons,sum_cons,length_cons,succ_mul]
  omega
theorem AI (a b t:Str):Str.join (Str.ofString " ") ["run",a,b]++Str.ofString " "++t=Str.join kN ["run",a,b,t]:=by
 refine jM ?_
 rw [pI,pI,jR,jR]
 simp [yI]
theorem VQ {K:Frag}{H:Hp}{Q:VK}{p:Addr}{a b c d:V} (h:H p=some (.tup [a,b,c,d])) (k:∀ l,H l=none->Q (.ref l) (upd H l (.tup [a,b]))):AQ K (.ref p) none (some 2) H Q:=by
 have e2:HT.sIx 4 4 (some 2)=2:=by decide
 refine AH h ?_ ?_
 ·show ¬ (_/\HT.sIx 4 4 (some 2)=4)
  rw [e2]
  exact fun h=>absurd h.2 (by decide)
 ·rw [show fP [a,b,c,d] none (some 2)=[a,b] from uV (xs:=[a,b,c,d]) 2]
  exact k
def lL (ws:List Str):V:=.str (Str.join kN ws)
def zY (K:Frag):Sp:=fun vs H Q _=>∃ (v:V) (r:eY) (E:List aQ),vs=[v]/\bQ H v r/\sN E r/\jS E/\∀ l H',H l=none->aI H H'->H' l=some (.lst [lL (cM r)])->Q (.ref l) H'
def xB (K:Frag):Sp:=fun vs H Q _=>∃ (v:V) (g:bY) (E:List aQ),vs=[v]/\iD H v g/\nH E [g]/\jS E/\∀ l H',H l=none->aI H H'->H' l=some (.lst ((aN g).map lL))->Q (.ref l) H'
def KR (K:Frag):Sp:=fun vs H Q _=>∃ (c:Int) (d lf lk ln:Addr) (U:List Str) (gs:List bY) (ins:Option aQ) (H0:Hp) (n:Nat),vs=[.int c,.ref d,.ref ln]/\0<=c/\aI H0 H/\H0 ln=some (.lst (U.map V.str))/\(U.length=8/\(∀ s∈U,cE s=true)/\U.Nodup)/\CG H0 H d lf lk U gs ins n/\n<=50/\∀ H' gs' ins',aI H0 H'->CG H0 H' d lf lk U gs' ins' (n+1)->Q .non H'
def FN (K:Frag):Sp:=fun vs H Q _=>∃ (a:Addr) (ns:List Int) (m:Nat),vs=[.ref a,.int 2,.int (m:Int)]/\cN K H a (ns.map V.int)/\ns.length<=63/\m<=42/\∀ l H' (gs:List bY),aI H H'->H l=none->zC H' l gs->iE gs->gs≠[]->lE gs<=59->Q (.ref l) H'
theorem mX {gs:List bY} (hb:iE gs) (hn:lE gs<=60):(((gs.flatMap aN).map (Str.join kN)).map (·.length)).sum+((gs.flatMap aN).map (Str.join kN)).length * DC.length<=16777216/\(fR (gs.flatMap aN)).length<=1000000:=by
 have hok:=gX (E:=[]) trivial hb.wf
 have hll:=gO gs
 have e3:DC.length=3:=by decide +kernel
 have h1:=oB (ys:=(gs.flatMap aN).map (Str.join kN)) (B:=10000) fun s hs=>by
  obtain ⟨ws,hw,rfl⟩:=mem_map.mp hs
  exact (hok ws hw).2.2
 have h2:=StrLaws.join_length_le DC ((gs.flatMap aN).map (Str.join kN))
 rw [length_map] at h1 h2
 rw [length_map,e3]
 rw [e3] at h2
 refine ⟨by omega,?_⟩
 show (Str.join DC _).length<=_
 omega
def zR (K:Frag):Sp:=fun vs H Q _=>∃ (l:Addr) (gs:List bY),vs=[.ref l]/\zC H l gs/\iE gs/\lE gs<=60/\∀ H',aI H H'->Q (.str (fR (gs.flatMap aN))) H'
def tD (K:Frag):Sp:=fun vs H Q _=>∃ (x:Str) (v:V) (q:Addr) (nm cl:Str) (as ps:List Str),vs=[.str x,v,.ref q]/\bQ H v (.put nm cl as)/\vS H q (ps.map V.str)/\ps.length=as.length/\x.length<=1000/\cl.length<=1000/\Q (.str (gB ps as cl x)) H
def jN (K:Frag):Sp:=fun vs H Q _=>∃ (v:V) (d:Addr) (E:List aQ) (r:eY),vs=[v,.ref d]/\bQ H v r/\mZ H d E/\jS E/\E.length<=60/\sN E r/\∀ l H' n,H l=none->aI H H'->LQ aW H' l (kn n)->n.take 121=(aR E r).take 121->n.length<=200->Q (.ref l) H'
def zW (K:Frag):Sp:=fun vs H Q _=>∃ (z:Addr) (rs:List eY) (ys:List V) (dc:Addr) (E:List aQ),vs=[.ref z,.ref dc]/\H z=some (.tup ys)/\Paired (bQ H) ys rs/\mZ H dc E/\jS E/\E.length<=60/\(∀ r∈rs,sN E r)/\∀ l' H',H l'=none->aI H H'->LQ aW H' l' (kn ((rs.flatMap (aR E)).take 121))->Q (.ref l') H'
def zX (K:Frag):Sp:=fun vs H Q _=>∃ (l:Addr) (gs:List bY) (dc:Addr),vs=[.ref l,.ref dc]/\zC H l gs/\iE gs/\H dc=some (.dK [])/\∀ l' H',H l'=none->Kp dc H H'->LQ aW H' l' (kn ((gI [] gs).take 121))->Q (.ref l') H'
def zO (K:Frag):Sp:=fun vs H Q _=>∃ (l:Addr) (gs:List bY),vs=[.ref l]/\zC H l gs/\iE gs/\∀ v H',aI H H'->Ap H H' v (gI [] gs)->Q v H'
def KU:Sp:=fun vs H Q _=>∃ t:Rat,vs=[.str (gK t)]/\iM t/\∀ v H',aI H H'->qX H' v t->Q v H'
def rA (K:Frag):Sp:=fun vs H Q _=>∃ (l d:Addr) (E:List aQ) (r:eY),vs=[.ref l,.ref d]/\H l=some (.lst ((cM r).map V.str))/\mZ H d E/\jS E/\E.length<=60/\sN E r/\∀ l' H' n,H l'=none->aI H H'->LQ aW H' l' (kn n)->n.take 121=(aR E r).take 121->n.length<=200->Q (.ref l') H'
inductive Gr (gs:List bY) (HB G:Hp) (dp lf:Addr):V->List (List Str)->Prop
|out {E:List aQ} {A:List cV} {gs2:List bY} (hE:jS E) (hW:nH E gs2) (eA:gI [] gs=A++gI E gs2) (eE:cZ E gs2=cZ [] gs) (lq:LQ aW G lf (kn (A.take 121))) (pc:mZ G dp E):Gr gs HB G dp lf .non (gs2.flatMap aN)
|ins {E:List aQ} {A:List cV} {x:aQ} {rs rs':List eY} {gs2:List bY} {li q lr:Addr} (hE:jS E) (hx:JW E x) (ers:x.2.2=rs++rs') (hW:nH (x::E) gs2) (eA:gI [] gs=A++gI (x::E) gs2) (eE:cZ (x::E) gs2=cZ [] gs) (lq:LQ aW G lf (kn (A.take 121))) (pc:mZ G dp E)
  (hli:G li=some (.lst [.str x.1,.ref q,.ref lr])) (hf:HB li=none) (hq:G q=some (.lst (x.2.1.map V.str))) (lq2:LQ aW G lr (kn ((rs.flatMap (aR E)).take 121))):Gr gs HB G dp lf (.ref li) (rs'.map cM++([("end":Str)]::gs2.flatMap aN))
def zN (K:Frag):Sp:=fun vs H Q _=>∃ gs:List bY,vs=[.str (fR (gs.flatMap aN))]/\gs≠[]/\iE gs/\(fR (gs.flatMap aN)).length<=1000000/\∀ v H',aI H H'->Ap H H' v (gI [] gs)->Q v H'
theorem NN {gs:List bY} (h:gs≠[]):gs.flatMap aN≠[]:=by
 cases gs with
|nil=>exact absurd rfl h
|cons g gs=>cases g <;> exact fun z=>nomatch z
theorem PM {H:Hp}{l li:Addr}{n:List cV}{a:Str}{b c:Addr} (h:LQ aW H l (kn n)) (hl:H li=some (.lst [.str a,.ref b,.ref c])):l≠li:=fun z=>by
 obtain ⟨vs,hv,pv⟩:=h
 rw [z,hl] at hv
 cases hv
 cases n with
|nil=>cases pv
|cons r n =>
  cases pv with
 |cons r' _ =>
   obtain ⟨_,_,e,_⟩:=r'
   cases e
theorem AJ {H:Hp}{l li:Addr}{n:List cV}{o:HO} (h:LQ aW H l (kn n)) (ne:l≠li) (tk:TK H (upd H li o)):LQ aW (upd H li o) l (kn n):=by
 obtain ⟨vs,hv,pv⟩:=h
 exact ⟨vs,by rw [aZ ne]; exact hv,Pd.imp pv fun _ _ f=>aW.tk f tk⟩
def FJ (K:Frag):Sp:=fun vs H Q _=>∃ (a:Addr) (ns:List Int),vs=[.ref a]/\cN K H a (ns.map V.int)/\ns.length<=63/\∀ H',Q (.bl true) H'
abbrev Gj:bY:=.one (.plain (.run "q.q" "r.r" (Rat.divInt 7 2)))
abbrev LI:cV:=("q.q","r.r",Rat.divInt 7 2)
theorem VU:IJ (.run "q.q" "r.r" (Rat.divInt 7 2)):=⟨⟨by decide +kernel,by decide +kernel⟩,⟨by decide +kernel,by decide +kernel⟩,EY (by decide) (by decide) (by decide) (by decide)⟩
theorem FQ:¬ uZ LI:=by
 rintro (h|h|h)
 ·exact absurd h (by decide +kernel)
 ·exact absurd h (by decide +kernel)
 ·exact absurd h (by decide +kernel)
theorem OL {N:List cV} (h:¬ pQ N):¬ pQ (N++[LI]):=by
 rintro (e|⟨r,hr,hb⟩)
 ·exact absurd e (by simp)
 ·rcases mem_append.mp hr with h'|h'
  ·exact h (.inr ⟨r,h',hb⟩)
  ·rw [mem_singleton.mp h'] at hb
   exact FQ hb
theorem SI:¬ pQ [LI]:=by
 rintro (e|⟨r,hr,hb⟩)
 ·cases e
 ·rw [mem_singleton.mp hr] at hb
  exact FQ hb
theorem IM {gs:List bY} (h:gs≠[]):fR (gs.flatMap aN)++" ; run q.q r.r 7/2"=fR ((gs++[Gj]).flatMap aN):=by
 rw [flatMap_append]
 show _=fR (gs.flatMap aN++[[("run":Str),"q.q","r.r",gK (Rat.divInt 7 2)]])
 rw [HH (NN h),show gK (Rat.divInt 7 2)="7/2" by decide +kernel,show (DC++Str.join kN [("run":Str),"q.q","r.r","7/2"]:Str)=" ; run q.q r.r 7/2" by decide +kernel]
theorem RP (N:List cV):kn (N++[LI])=kn N++[((Sum.inr ("q.q":Str),Sum.inr ("r.r":Str),Rat.divInt 7 2):cB×cB×Rat)]:=by simp [kn]
section
variable {P:Program} {w:World} {K:Frag} {mg:Str -> Option Value} {base:Heap} {k:Nat} {xt x1 x4 x5:Addr}
theorem BC (T:Bl mg) (d:Df K mg "is_whole" nK ["thing"]) (W:XX K mg xt x1 x4 x5):bD P w K mg base (k+1) "is_whole" ["thing"] (FD K):=by
 refine bD.of d AF (fun vs H Q E h=>?_) (fun f cdv A outer s H vs Q E hr h=>?_)
 ·obtain ⟨x,t,b,c,rfl,_⟩:=h
  rfl
 ·obtain ⟨x,t,b,c,rfl,ty,e1,e2,q⟩:=h
  refine ⟨_,(@aC _ _ _ (@aM _ _ _ _ (@jA _ _ _ _ _ _ _ (@aP _ _ _ _ _ _ _ _ _ (fU (T:="int")) rfl T.z_isinstance bU (@dZ _ _ _ _ _ (pv 0) (@iJ _ _ (v:=.ty "int") _ _ rfl T.z_int mF rfl (by decide) (by decide)) (by rfl) (by rfl)) (by decide) (by decide) (by rfl) (by rfl)) (@lB _ _ _ _ _ (@YG _ _ _ _ (@aP _ _ _ _ _ _ _ _ _ (fU (T:="bool")) rfl T.z_isinstance bU (@dZ _ _ _ _ _ (pv 0) (@iJ _ _ (v:=.ty "bool") _ _ rfl T.z_bool SH rfl (by decide) (by decide)) (by rfl) (by rfl)) (by decide) (by decide) (by rfl) (by rfl))))))),?_⟩
  w_fin
  refine dX ty e1 ?_
  cases b
  ·w_fin
   exact q
  ·w_fin
   refine dX ty e2 ?_
   w_fin
   exact q
theorem oV (T:Bl mg) (d:Df K mg "common_divisor" gM ["one","other"]) (W:XX K mg xt x1 x4 x5):bD P w K mg base (k+1) "common_divisor" ["one","other"] TM:=by
 refine bD.of d eU (fun vs H Q E h=>?_) (fun f cdv A outer s H vs Q E hr h=>?_)
 ·obtain ⟨a,b,rfl,_⟩:=h
  rfl
 ·obtain ⟨a,b,rfl,q⟩:=h
  refine ⟨_,(@aA _ _ _ _ _ (@oN _ _ _ _ _ _ PassesOwn.never (@aK _ _ _ _ _ _ _ _ (jB hr.units) (pv 1) (@aD _ _ _ _) (aL _)) (@aA _ _ _ _ _ (@aO _ _ (i:=2) _ _ _ _ eU.nd rfl (by w_left) (@aJ _ _ _ _ _ _ _ _ QV (pv 0) (pv 1)) (by rfl) (by w_means)) (@aA _ _ _ _ _ (@aO _ _ (i:=0) _ _ _ _ eU.nd rfl (by w_left) (pv 1) (by rfl) (by w_means)) (@aC _ _ _ (@aO _ _ (i:=1) _ _ _ _ eU.nd rfl (by w_left) (pv 2) (by rfl) (by w_means)))))) (@aC _ _ _ (@aM _ _ _ _ (@aP _ _ _ _ _ _ _ _ _ OJ rfl T.z_abs EL (@bE _ _ _ (pv 0) (by rfl)) (by decide) (by decide) (by rfl) (by rfl))))),?_⟩
  w_fin
  refine zH (fun σ H'=>∃ (one other:Int) (o:Option V),σ=[some (.int one),some (.int other),o]/\H'=H/\Int.gcd one other=Int.gcd a b)
   (fun σ _=>match σ with|[_,some (.int z),_]=>z.natAbs|_=>0) ⟨_,_,_,rfl,rfl,rfl⟩ ?_ ?_
  ·rintro σ H' ⟨one,other,o,rfl,rfl,hg⟩
   w_fin
   refine lJ (fun c=>?_) (fun c=>?_)
   ·subst c
    w_fin
    rw [Int.gcd_zero_right] at hg
    have e:(if one < 0 then -one else one)=(Int.gcd a b:Int):=by rw [← hg]; split <;> omega
    rw [e]
    exact q
   ·w_fin
    refine ⟨⟨_,_,_,rfl,rfl,by rw [IX c]; exact hg⟩,?_⟩
    show (one.fmod other).natAbs < other.natAbs
    exact RU c
  ·intro σ H Q Q' hQ h
   obtain ⟨v,e1,h⟩:=h
   rcases h with ⟨e2,b',e3,q'⟩|⟨d,e,e2,e3,e4,e5,b',e6,q'⟩
   ·exact ⟨v,e1,.inl ⟨e2,b',e3,hQ _ _ q'⟩⟩
   ·exact ⟨v,e1,.inr ⟨d,e,e2,e3,e4,e5,b',e6,hQ _ _ q'⟩⟩
theorem uE (T:Bl mg) (d:Df K mg "is_fraction" jW ["thing"]) (W:XX K mg xt x1 x4 x5) (o0b:bD P w K mg base k "common_divisor" ["one","other"] TM) (o0s:bD P w K mg base k "is_whole" ["thing"] (FD K)):bD P w K mg base (k+1) "is_fraction" ["thing"] (sY K):=by
 refine bD.of d tI (fun vs H Q E h=>?_) (fun f cdv A outer s H vs Q E hr h=>?_)
 ·obtain ⟨x,r,rfl,_⟩:=h
  rfl
 ·obtain ⟨x,r,rfl,h,q⟩:=h
  refine ⟨_,(@aA _ _ _ _ _ (@bB _ _ _ _ _ _ _ _ (@PW.pt _ _ _ (@lW _ _ _ _ _ _ _ (@gA _ _ _ _ (@fN _ _ _ (@aP _ _ _ _ _ _ _ _ _ (fU (T:="tuple")) rfl T.z_isinstance bU (@dZ _ _ _ _ _ (pv 0) (@iJ _ _ (v:=.ty "tuple") _ _ rfl T.z_tuple fL rfl (by decide) (by decide)) (by rfl) (by rfl)) (by decide) (by decide) (by rfl) (by rfl)) (by intro _; rfl))) (@jZ _ _ _ _ (@aK _ _ _ _ _ _ _ _ (jB hr.units) (@aP _ _ _ _ _ _ _ _ _ dF rfl T.z_len bX (@bE _ _ _ (pv 0) (by rfl)) (by decide) (by decide) (by rfl) (by rfl)) (@aD _ _ _ _) (aL _))))) (@aC _ _ _ (@aM _ _ _ _ (@wK _ _ _ _))) (@aS _)) (@aA _ _ _ _ _ (@bB _ _ _ _ _ _ _ _ (@PW.pt _ _ _ (@lW _ _ _ _ _ _ _ (@gA _ _ _ _ (@fN _ _ _ (@aF _ _ _ _ _ _ _ _ _ _ o0s hr rfl (@bE _ _ _ (@bJ _ _ _ _ _ _ _ (pv 0)) (by rfl)) (by decide) (by rfl) (by rfl)) (by intro _; rfl))) (@jZ _ _ _ _ (@gA _ _ _ _ (@fN _ _ _ (@aF _ _ _ _ _ _ _ _ _ _ o0s hr rfl (@bE _ _ _ (@bJ _ _ _ _ _ _ _ (pv 0)) (by rfl)) (by decide) (by rfl) (by rfl)) (by intro _; rfl)))))) (@aC _ _ _ (@aM _ _ _ _ (@wK _ _ _ _))) (@aS _)) (@aC _ _ _ (@aM _ _ _ _ (@jA _ _ _ _ _ _ _ (@cO _ _ _ _ _ _ _ _ wM (@bJ _ _ _ _ _ _ _ (pv 0)) (@aD _ _ _ _) (aL _)) (@lB _ _ _ _ _ (@cO _ _ _ _ _ _ _ _ (aY hr.units) (@aF _ _ _ _ _ _ _ _ _ _ o0b hr rfl (@dZ _ _ _ _ _ (@bJ _ _ _ _ _ _ _ (pv 0)) (@bJ _ _ _ _ _ _ _ (pv 0)) (by rfl) (by rfl)) (by decide) (by rfl) (by rfl)) (@aD _ _ _ _) (aL _)))))))),?_⟩
  rcases h with ⟨⟨t,ty,e1⟩,rfl⟩|⟨p,xs,rfl,h1,h2,rfl⟩|⟨p,v,w',rfl,h1,fv,fw,hsm,rfl⟩
  ·w_fin
   refine dX ty e1 ?_
   w_fin
   exact q
  ·w_fin
   refine dX (.tup h1) cF ?_
   w_fin
   exact q
  ·w_fin
   refine dX (.tup h1) cF ?_
   w_fin
   refine lJ (fun _=>?_) (fun c=>absurd rfl c)
   w_fin
   obtain ⟨t1,b1,c1,ty1,k1,k2,e1⟩:=GQ (K:=K) (H:=H) fv
   refine ⟨v,t1,b1,c1,rfl,ty1,k1,k2,?_⟩
   rw [e1]
   w_fin
   cases v with
  |int a =>
    refine Ez rfl ?_
    w_fin
    obtain ⟨t2,b2,c2,ty2,k3,k4,e2⟩:=GQ (K:=K) (H:=H) fw
    refine ⟨w',t2,b2,c2,rfl,ty2,k3,k4,?_⟩
    rw [e2]
    w_fin
    cases w' with
   |int b =>
     refine Ez rfl ?_
     w_fin
     refine lJ (fun c=>?_) (fun c=>?_)
     ·w_fin
      refine ⟨a,b,rfl,?_⟩
      w_fin
      have e:decide ((Int.gcd a b:Int)=1)=Fd (.int a) (.int b):=by
       show _=(decide (1<=b)&&decide (Int.gcd a b=1))
       rw [decide_eq_true c,Bool.true_and]
       by_cases hg:Int.gcd a b=1
       ·rw [decide_eq_true hg,decide_eq_true (by omega)]
       ·rw [decide_eq_false hg,decide_eq_false (by omega)]
      rw [e]
      exact q
     ·w_fin
      have e:Fd (.int a) (.int b)=false:=by
       show (decide (1<=b)&&decide (Int.gcd a b=1))=false
       rw [decide_eq_false c,Bool.false_and]
      rw [e] at q
      exact q
   |non=>refine IV rfl ?_; walk_at "go"; exact q
   |bl _=>refine IV rfl ?_; walk_at "go"; exact q
   |str _=>refine IV rfl ?_; walk_at "go"; exact q
   |_=>exact absurd (show false=true from fw) Bool.false_ne_true
  |non=>refine IV rfl ?_; walk_at "go"; exact q
  |bl _=>refine IV rfl ?_; walk_at "go"; exact q
  |str _=>refine IV rfl ?_; walk_at "go"; exact q
  |_=>exact absurd (show false=true from fv) Bool.false_ne_true
theorem DV (T:Bl mg) (d:Df K mg "is_less" pZ ["one","other"]) (W:XX K mg xt x1 x4 x5):bD P w K mg base (k+1) "is_less" ["one","other"] KS:=by
 refine bD.of d DF (fun vs H Q E h=>?_) (fun f cdv A outer s H vs Q E hr h=>?_)
 ·obtain ⟨x,y,a,b,c,d,rfl,_⟩:=h
  rfl
 ·obtain ⟨x,y,a,b,c,d,rfl,⟨q1,rfl,h1⟩,⟨q2,rfl,h2⟩,m1,m2,q⟩:=h
  refine ⟨_,(@aC _ _ _ (@aM _ _ _ _ (@cO _ _ _ _ _ _ _ _ wL (@aJ _ _ _ _ _ _ _ _ eV (@bJ _ _ _ _ _ _ _ (pv 0)) (@bJ _ _ _ _ _ _ _ (pv 1))) (@aJ _ _ _ _ _ _ _ _ eV (@bJ _ _ _ _ _ _ _ (pv 1)) (@bJ _ _ _ _ _ _ _ (pv 0))) (aL _)))),?_⟩
  w_fin
  refine LO m1 ?_
  w_fin
  refine LO m2 ?_
  w_fin
  exact q
theorem DU (T:Bl mg) (d:Df K mg "is_part" mQ ["text"]) (W:XX K mg xt x1 x4 x5) {tk_LETTERS:Tok} (g_LETTERS:mg "LETTERS"=some (.str "abcdefghijklmnopqrstuvwxyz" tk_LETTERS)) {tk_MOST_LETTERS:Tok} (g_MOST_LETTERS:mg "MOST_LETTERS"=some (.int 8 tk_MOST_LETTERS)):bD P w K mg base (k+1) "is_part" ["text"] xC:=by
 refine bD.of d DE (fun vs H Q E h=>?_) (fun f cdv A outer s H vs Q E hr h=>?_)
 ·obtain ⟨z,rfl,_⟩:=h
  rfl
 ·obtain ⟨z,rfl,hz,q⟩:=h
  refine ⟨_,(@aC _ _ _ (@aM _ _ _ _ (@jA _ _ _ _ _ _ _ (@uB _ _ _ _ _ _ _ _ _ _ _ _ oR oR (@aD _ _ _ _) (@aP _ _ _ _ _ _ _ _ _ dF rfl T.z_len bX (@bE _ _ _ (pv 0) (by rfl)) (by decide) (by decide) (by rfl) (by rfl)) (@eC _ _ (v:=(.int 8)) _ _ rfl g_MOST_LETTERS ⟨_,rfl⟩ (by decide)) (by with_unfolding_all rfl)) (@lB _ _ _ _ _ (@aP _ _ _ _ _ _ _ _ _ (qR rfl) rfl T.z_all qT (@bE _ _ _ (@eF _ _ _ _ _ _ _ _ _ _ _ _ _ _ (@dD _ _ (sc:=aG mQ) (N:=["text"]) (tn:=["sign"]) (names:=[]) (is:=[]) rfl rfl (by decide +kernel) (by decide +kernel) rfl (by decide +kernel) rfl (by decide +kernel) (by decide +kernel) (by decide +kernel)) rfl (@AT _ _ _ _ (pv 0)) (fun _ _ _ _=>(@aU _ _ (i:=0) _ (show (["sign"]:List Str).Nodup by decide +kernel) rfl (Or.inl rfl) (Or.inr rfl))) (fun _ _ _ _=>(@cO _ _ _ _ _ _ _ _ GA (pv 0) (@eC _ _ (v:=(.str "abcdefghijklmnopqrstuvwxyz")) _ _ rfl g_LETTERS ⟨_,rfl⟩ (by decide)) (by with_unfolding_all rfl))) (fun _ _ _ _=>(@cI _)) (by intro _; rfl)) (by rfl)) (by decide) (by decide) (by rfl) (by rfl)))))),?_⟩
  w_fin
  have hzs:z.length<=sizeLine:=by rw [sizeLine_eq]; omega
  refine xL hzs ?_
  w_fin
  refine lJ (fun c1=>?_) (fun c1=>?_)
  ·w_fin
   refine lJ (fun c2=>?_) (fun c2=>?_)
   ·w_fin
    refine ⟨z,rfl,?_⟩
    refine FU hz (fun acc i ys G=>Kp acc H G/\ys=(z.cps.toList.take i).map fun c=>V.bl (decide (97<=c)&&decide (c < 123))) (fun acc h0=>⟨Kp.new h0,rfl⟩) ?_ ?_
    ·intro acc i ys G c h0 hx hyl hG ⟨kp,e⟩
     w_fin
     have hx':z.cps.toList[i]?=some c:=by simpa using hx
     have hi:i < z.cps.toList.length:=(List.getElem?_eq_some_iff.mp hx').1
     refine eS (by rw [cA]; exact hi) hyl hG ⟨Kp.trans kp Kp.upd,?_⟩
     have e2:z.cps.toList[i]=c:=by
      rw [List.getElem?_eq_getElem hi] at hx'
      exact Option.some.inj hx'
     rw [List.take_succ_eq_append_getElem hi,map_append,← e,e2,BK]
     rfl
    ·intro acc ys G h0 hG hl ⟨kp,e⟩
     w_fin
     rw [cA,take_length] at e
     subst e
     have e3:(z.cps.toList.map fun c=>V.bl (decide (97<=c)&&decide (c < 123)))=(z.cps.toList.map fun c=>(decide (97<=c)&&decide (c < 123))).map V.bl:=by rw [map_map]; rfl
     rw [e3] at hG
     refine qC hG ?_
     w_fin
     have e4:(z.cps.toList.map fun c=>(decide (97<=c)&&decide (c < 123))).all id=cE z:=by
      unfold cE
      rw [decide_eq_true (show 1<=z.length by omega),decide_eq_true (show z.length<=8 by omega),Bool.and_true,Bool.true_and,all_map]
      rfl
     rw [e4]
     exact q _ (aI.kpn h0 (aI.refl _) kp)
   ·w_fin
    have e:cE z=false:=by
     unfold cE
     rw [decide_eq_false (show ¬ z.length<=8 by omega),Bool.and_false,Bool.false_and]
    rw [e] at q
    exact q _ (aI.refl _)
  ·w_fin
   have e:cE z=false:=by
    unfold cE
    rw [decide_eq_false (show ¬ 1<=z.length by omega),Bool.false_and,Bool.false_and]
   rw [e] at q
   exact q _ (aI.refl _)
theorem DT (T:Bl mg) (d:Df K mg "is_post" mP ["thing"]) (W:XX K mg xt x1 x4 x5) {tk_MOST_PARTS:Tok} (g_MOST_PARTS:mg "MOST_PARTS"=some (.int 4 tk_MOST_PARTS)) (o1h:bD P w K mg base k "is_part" ["text"] xC):bD P w K mg base (k+1) "is_post" ["thing"] (CZ K):=by
 refine bD.of d tH (fun vs H Q E h=>?_) (fun f cdv A outer s H vs Q E hr h=>?_)
 ·obtain ⟨x,b,rfl,_⟩:=h
  rfl
 ·obtain ⟨x,b,rfl,h,q⟩:=h
  refine ⟨_,(@aA _ _ _ _ _ (@bB _ _ _ _ _ _ _ _ (@gA _ _ _ _ (@fN _ _ _ (@aP _ _ _ _ _ _ _ _ _ (fU (T:="str")) rfl T.z_isinstance bU (@dZ _ _ _ _ _ (pv 0) (@iJ _ _ (v:=.ty "str") _ _ rfl T.z_str qS rfl (by decide) (by decide)) (by rfl) (by rfl)) (by decide) (by decide) (by rfl) (by rfl)) (by intro _; rfl))) (@aC _ _ _ (@aM _ _ _ _ (@wK _ _ _ _))) (@aS _)) (@aA _ _ _ _ _ (@aO _ _ (i:=1) _ _ _ _ tH.nd rfl (by w_left) (@cP _ _ _ _ _ _ _ _ _ _ _ _ plainAttrs_str slot_str_split type_str_split jE (pv 0) (@bE _ _ _ (@aH _ _ _ _) (by rfl)) (by rfl) (by rfl) (by rfl) (by rfl) (by rfl)) (by rfl) (by w_means)) (@aC _ _ _ (@aM _ _ _ _ (@jA _ _ _ _ _ _ _ (@cO _ _ _ _ _ _ _ _ oR (@aP _ _ _ _ _ _ _ _ _ dF rfl T.z_len bX (@bE _ _ _ (pv 1) (by rfl)) (by decide) (by decide) (by rfl) (by rfl)) (@eC _ _ (v:=(.int 4)) _ _ rfl g_MOST_PARTS ⟨_,rfl⟩ (by decide)) (aL _)) (@lB _ _ _ _ _ (@aP _ _ _ _ _ _ _ _ _ (qR rfl) rfl T.z_all qT (@bE _ _ _ (@eF _ _ _ _ _ _ _ _ _ _ _ _ _ _ (@dD _ _ (sc:=aG mP) (N:=["thing","parts"]) (tn:=["part"]) (names:=[]) (is:=[]) rfl rfl (by decide +kernel) (by decide +kernel) rfl (by decide +kernel) rfl (by decide +kernel) (by decide +kernel) (by decide +kernel)) rfl (@dS _ _ _ _ (pv 1)) (fun _ _ _ _=>(@aU _ _ (i:=0) _ (show (["part"]:List Str).Nodup by decide +kernel) rfl (Or.inl rfl) (Or.inr rfl))) (fun _ _ _ _=>(@aF _ _ _ _ _ _ _ _ _ _ o1h hr rfl (@bE _ _ _ (pv 0) (by rfl)) (by decide) (by rfl) (by rfl))) (fun _ _ _ _=>(@cI _)) (by intro _; rfl)) (by rfl)) (by decide) (by decide) (by rfl) (by rfl)))))))),?_⟩
  rcases h with ⟨z,rfl,hz,rfl⟩|⟨⟨t,ty,e1⟩,rfl⟩
  ·w_fin
   refine dX (.str z) rE ?_
   w_fin
   have ep:(".":Str)=⟨#[46]⟩:=by decide +kernel
   rw [ep]
   refine kW (z:=z) (y:=⟨#[46]⟩) (by decide) (by omega) fun l hl=>?_
   have hps:=nP z
   have hsh:∀ p∈Txt.split z ⟨#[46]⟩,p.length<=1000:=fun p hp=>le_trans (KP hp) hz
   have hsl:=VM z ⟨#[46]⟩
   generalize Txt.split z ⟨#[46]⟩=ps at hps hsh hsl ⊢
   w_fin
   rw [length_map]
   refine lJ (fun c=>?_) (fun c=>?_)
   ·w_fin
    refine dR (cN.of aE) ?_
    refine mV (xs:=ps.map V.str) (by rw [length_map]; omega) (fun acc i ys G=>Kp acc (upd H l (.lst (ps.map V.str))) G/\ys=(ps.take i).map fun p=>V.bl (cE p)) (fun acc h0=>⟨Kp.new h0,rfl⟩) ?_ ?_ ?_
    ·intro acc i ys G h0 _ ⟨kp,_⟩
     exact cN.of (kp _ _ (aB aE h0) aE)
    ·intro acc i ys G x h0 hx hyl hG ⟨kp,e⟩
     rw [List.getElem?_map] at hx
     cases hy:ps[i]? with
    |none=>rw [hy] at hx; cases hx
    |some y =>
      rw [hy] at hx
      cases (Option.some.inj hx:V.str y=x)
      w_fin
      refine ⟨y,rfl,hsh y (mem_of_getElem? hy),fun G1 s1=>?_⟩
      have hi:i < ps.length:=(List.getElem?_eq_some_iff.mp hy).1
      refine eS (by rw [length_map]; exact hi) hyl (s1 _ _ hG) ⟨Kp.trans (Kp.trans kp s1.kp) Kp.upd,?_⟩
      have e2:ps[i]=y:=by
       rw [List.getElem?_eq_getElem hi] at hy
       exact Option.some.inj hy
      rw [List.take_succ_eq_append_getElem hi,map_append,← e,e2]
      rfl
    ·intro acc ys G h0 hG hyl ⟨kp,e⟩
     rw [length_map,take_length] at e
     subst e
     w_fin
     have e3:(ps.map fun p=>V.bl (cE p))=(ps.map cE).map V.bl:=by rw [map_map]; rfl
     rw [e3] at hG
     refine qC hG ?_
     w_fin
     have e4:(ps.map cE).all id=postB z:=by
      rw [hps,decide_eq_true (show ps.length<=4 by omega),Bool.true_and,all_map]
      rfl
     rw [e4]
     exact q _ ((aI.new hl).trans (aI.kpn h0 (aI.refl _) kp))
   ·w_fin
    rw [decide_eq_false (show ¬ ps.length<=4 by omega),Bool.false_and] at hps
    rw [hps] at q
    exact q _ (aI.new hl)
  ·w_fin
   refine dX ty e1 ?_
   w_fin
   exact q _ (aI.refl _)
theorem IG (T:Bl mg) (d:Df K mg "is_run" tR ["thing"]) (W:XX K mg xt x1 x4 x5) (o1d:bD P w K mg base k "is_less" ["one","other"] KS) (o0g:bD P w K mg base k "is_fraction" ["thing"] (sY K)) (o1i:bD P w K mg base k "is_post" ["thing"] (CZ K)):bD P w K mg base (k+1) "is_run" ["thing"] (FK K):=by
 refine bD.of d HN (fun vs H Q E h=>?_) (fun f cdv A outer s H vs Q E hr h=>?_)
 ·obtain ⟨x,b,rfl,_⟩:=h
  rfl
 ·obtain ⟨x,b,rfl,h,q⟩:=h
  refine ⟨_,(@aA _ _ _ _ _ (@bB _ _ _ _ _ _ _ _ (@PW.pt _ _ _ (@lW _ _ _ _ _ _ _ (@gA _ _ _ _ (@fN _ _ _ (@aP _ _ _ _ _ _ _ _ _ (fU (T:="tuple")) rfl T.z_isinstance bU (@dZ _ _ _ _ _ (pv 0) (@iJ _ _ (v:=.ty "tuple") _ _ rfl T.z_tuple fL rfl (by decide) (by decide)) (by rfl) (by rfl)) (by decide) (by decide) (by rfl) (by rfl)) (by intro _; rfl))) (@jZ _ _ _ _ (@aK _ _ _ _ _ _ _ _ (jB hr.units) (@aP _ _ _ _ _ _ _ _ _ dF rfl T.z_len bX (@bE _ _ _ (pv 0) (by rfl)) (by decide) (by decide) (by rfl) (by rfl)) (@aD _ _ _ _) (aL _))))) (@aC _ _ _ (@aM _ _ _ _ (@wK _ _ _ _))) (@aS _)) (@aA _ _ _ _ _ (@bB _ _ _ _ _ _ _ _ (@PW.pt _ _ _ (@lW _ _ _ _ _ _ _ (@gA _ _ _ _ (@fN _ _ _ (@aF _ _ _ _ _ _ _ _ _ _ o1i hr rfl (@bE _ _ _ (@bJ _ _ _ _ _ _ _ (pv 0)) (by rfl)) (by decide) (by rfl) (by rfl)) (by intro _; rfl))) (@lW _ _ _ _ _ _ _ (@gA _ _ _ _ (@fN _ _ _ (@aF _ _ _ _ _ _ _ _ _ _ o1i hr rfl (@bE _ _ _ (@bJ _ _ _ _ _ _ _ (pv 0)) (by rfl)) (by decide) (by rfl) (by rfl)) (by intro _; rfl))) (@jZ _ _ _ _ (@aK _ _ _ _ _ _ _ _ (aY hr.units) (@bJ _ _ _ _ _ _ _ (pv 0)) (@bJ _ _ _ _ _ _ _ (pv 0)) (aL _)))))) (@aC _ _ _ (@aM _ _ _ _ (@wK _ _ _ _))) (@aS _)) (@aC _ _ _ (@aM _ _ _ _ (@jA _ _ _ _ _ _ _ (@aF _ _ _ _ _ _ _ _ _ _ o0g hr rfl (@bE _ _ _ (@bJ _ _ _ _ _ _ _ (pv 0)) (by rfl)) (by decide) (by rfl) (by rfl)) (@lB _ _ _ _ _ (@aF _ _ _ _ _ _ _ _ _ _ o1d hr rfl (@dZ _ _ _ _ _ (@bM _ _ _ _ _ (@dZ _ _ _ _ _ (@aD _ _ _ _) (@aD _ _ _ _) (by rfl) (by rfl))) (@bJ _ _ _ _ _ _ _ (pv 0)) (by rfl) (by rfl)) (by decide) (by rfl) (by rfl)))))))),?_⟩
  cases h with
 |nt h =>
   obtain ⟨t,ty,e⟩:=h
   w_fin
   refine dX ty e ?_
   w_fin
   exact q _ (aI.refl _)
 |len h n =>
   w_fin
   refine dX (.tup h) cF ?_
   w_fin
   exact q _ (aI.refl _)
 |@one p u v t h hu =>
   w_fin
   refine dX (.tup h) cF ?_
   w_fin
   refine lJ (fun c=>?_) (fun c=>absurd rfl c)
   w_fin
   refine ⟨u,false,rfl,hu,fun H1 s1=>?_⟩
   w_fin
   exact q _ s1
 |@two p u v t h hu hv =>
   w_fin
   refine dX (.tup h) cF ?_
   w_fin
   refine lJ (fun c=>?_) (fun c=>absurd rfl c)
   w_fin
   refine ⟨u,true,rfl,hu,fun H1 s1=>?_⟩
   have h1:=s1 _ _ h
   w_fin
   refine ⟨v,false,rfl,hv.sm s1,fun H2 s2=>?_⟩
   w_fin
   exact q _ (s1.trans s2)
 |@same p z t h hu =>
   w_fin
   refine dX (.tup h) cF ?_
   w_fin
   refine lJ (fun c=>?_) (fun c=>absurd rfl c)
   w_fin
   refine ⟨_,true,rfl,hu,fun H1 s1=>?_⟩
   have h1:=s1 _ _ h
   w_fin
   refine ⟨_,true,rfl,hu.sm s1,fun H2 s2=>?_⟩
   have h2:=s2 _ _ h1
   w_fin
   refine lJ (fun _=>?_) (fun c=>absurd rfl c)
   w_fin
   exact q _ (s1.trans s2)
 |@time p z z' t h hu hv hn ht =>
   w_fin
   refine dX (.tup h) cF ?_
   w_fin
   refine lJ (fun c=>?_) (fun c=>absurd rfl c)
   w_fin
   refine ⟨_,true,rfl,hu,fun H1 s1=>?_⟩
   have h1:=s1 _ _ h
   w_fin
   refine ⟨_,true,rfl,hv.sm s1,fun H2 s2=>?_⟩
   have h2:=s2 _ _ h1
   w_fin
   refine lJ (fun c=>absurd c hn) (fun _=>?_)
   w_fin
   refine ⟨_,false,rfl,ht _ (s1.trans s2),?_⟩
   w_fin
   exact q _ (s1.trans s2)
 |@run p tp z z' a c h hu hv hn ht hf sa sc =>
   w_fin
   refine dX (.tup h) cF ?_
   w_fin
   refine lJ (fun _=>?_) (fun e=>absurd rfl e)
   w_fin
   refine ⟨_,true,rfl,hu,fun H1 s1=>?_⟩
   have h1:=s1 _ _ h
   w_fin
   refine ⟨_,true,rfl,hv.sm s1,fun H2 s2=>?_⟩
   have h2:=s2 _ _ h1
   have ht2:=s2 _ _ (s1 _ _ ht)
   w_fin
   refine lJ (fun e=>absurd e hn) (fun _=>?_)
   w_fin
   refine ⟨_,true,rfl,.inr (.inr ⟨tp,_,_,rfl,ht2,rfl,rfl,?_,hf.symm⟩),?_⟩
   ·intro a' c' e1 e2
    cases e1
    cases e2
    exact ⟨sa,sc⟩
   w_fin
   refine dJ fun p0 hp0=>?_
   w_fin
   refine ⟨_,_,0,1,a,c,rfl,⟨p0,rfl,aE⟩,⟨tp,rfl,fE hp0 ht2⟩,hV.l (by omega) (by omega),hV.r (by omega) (by omega),?_⟩
   w_fin
   rw [Int.zero_mul,Int.mul_one]
   exact q _ ((s1.trans s2).trans (aI.new hp0))
theorem IE (T:Bl mg) (d:Df K mg "net_of" tP ["runs"]) (W:XX K mg xt x1 x4 x5) {tk_MOST_RUNS:Tok} (g_MOST_RUNS:mg "MOST_RUNS"=some (.int 120 tk_MOST_RUNS)) (o1j:bD P w K mg base k "is_run" ["thing"] (FK K)):qV P w K mg base (k+1) "net_of" ["runs"] [] (FI K x1):=by
 refine qV.of d pW (fun vs H Q E h=>?_) (fun f cdv A outer s H vs Q E hr h=>?_)
 ·obtain ⟨v,rfl,_⟩:=h
  rfl
 ·obtain ⟨v,rfl,h⟩:=h
  refine ⟨_,(@aA _ _ _ _ _ (@bB _ _ _ _ _ _ _ _ (@PW.pt _ _ _ (@lW _ _ _ _ _ _ _ (@gA _ _ _ _ (@fN _ _ _ (@aP _ _ _ _ _ _ _ _ _ (fU (T:="list")) rfl T.z_isinstance bU (@dZ _ _ _ _ _ (pv 0) (@iJ _ _ (v:=.ty "list") _ _ rfl T.z_list mY rfl (by decide) (by decide)) (by rfl) (by rfl)) (by decide) (by decide) (by rfl) (by rfl)) (by intro _; rfl))) (@jZ _ _ _ _ (@gA _ _ _ _ (@MD _ _ _ _ _ _ _ _ _ _ _ _ oR oR (@aD _ _ _ _) (@aP _ _ _ _ _ _ _ _ _ dF rfl T.z_len bX (@bE _ _ _ (pv 0) (by rfl)) (by decide) (by decide) (by rfl) (by rfl)) (@eC _ _ (v:=(.int 120)) _ _ rfl g_MOST_RUNS ⟨_,rfl⟩ (by decide)) (by with_unfolding_all rfl)))))) (@aC _ _ _ (@qD _ _ _ _ _ _ _ _ _ _ (fun _ _ _ _ _ _ _ _ I m q=>CI I m q) rfl rfl W.1.m_NoNet W.2.1.e (@bE _ _ _ (@DO _ _ _ _ _ _ (@eL _ _ _ _ _ (@aH _ _ _ _) (@eL _ _ _ _ _ (@DP _ _ _ _ (@eC _ _ (v:=(.int 120)) _ _ rfl g_MOST_RUNS ⟨_,rfl⟩ (by decide))) (@eL _ _ _ _ _ (@aH _ _ _ _) (@uA _)))) (by decide)) (by rfl)) (by decide) (by rfl) (by rfl))) (@aS _)) (@aA _ _ _ _ _ (@fH _ _ _ _ _ _ _ _ PassesOwn.leaving rfl (@QO _ _ _ _ _ _ _ _ rfl T.z_enumerate (@bE _ _ _ (pv 0) (by rfl)) (by rfl)) (@qI _ _ _ _ _ (n:=2) rfl (@bP _ _ _ _ _ (@aU _ _ (i:=1) _ pW.nd rfl (by w_left) (by w_means)) (@bP _ _ _ _ _ (@aU _ _ (i:=2) _ pW.nd rfl (by w_left) (by w_means)) (@gW _) (by rfl)) (by rfl)) (by rfl) (by rfl)) (@aC _ _ _ (@bB _ _ _ _ _ _ _ _ (@gA _ _ _ _ (@fN _ _ _ (@aF _ _ _ _ _ _ _ _ _ _ o1j hr rfl (@bE _ _ _ (pv 2) (by rfl)) (by decide) (by rfl) (by rfl)) (by intro _; rfl))) (@aC _ _ _ (@qD _ _ _ _ _ _ _ _ _ _ (fun _ _ _ _ _ _ _ _ I m q=>CI I m q) rfl rfl W.1.m_NoNet W.2.1.e (@bE _ _ _ (@DO _ _ _ _ _ _ (@eL _ _ _ _ _ (@aH _ _ _ _) (@eL _ _ _ _ _ (@DP _ _ _ _ (pv 1)) (@eL _ _ _ _ _ (@aH _ _ _ _) (@uA _)))) (by decide)) (by rfl)) (by decide) (by rfl) (by rfl))) (@aS _))) (by intro _; rfl)) (@aC _ _ _ (@aM _ _ _ _ (@bF _ _ _ _ _ _ _ _ _ yW rfl T.z_list mY (@bE _ _ _ (pv 0) (by rfl)) (by decide) (by decide) (by rfl) (by rfl)))))),?_⟩
  rcases h with ⟨l,vs',bs,rfl,hl,pb,h1,h2,hall,q⟩|⟨h,q⟩
  ·w_fin
   refine dX (.lst hl) kB ?_
   w_fin
   refine Je hl ?_
   refine LV (xs:=vs') (fun i σ G=>∃ o1 o2,σ=[some (.ref l),o1,o2]/\aI H G) ⟨_,_,rfl,aI.refl _⟩ ?_ ?_ ?_
   ·rintro i σ G _ ⟨o1,o2,rfl,sG⟩
    exact cN.of (sG _ _ hl)
   ·rintro i x T0 σ G hx hT ⟨o1,o2,rfl,sG⟩
    obtain ⟨b,hb,qb⟩:=Paired.at pb hx
    have hbt:=hall b (mem_of_getElem? hb)
    subst hbt
    have s1:=sG.trans (aI.new (o:=.tup [.int i,x]) hT)
    have hT2:=aE (H:=G) (a:=T0) (o:=.tup [.int i,x])
    generalize upd G T0 (.tup [.int i,x])=G1 at s1 hT2 ⊢
    w_fin
    refine ⟨_,true,rfl,qb.sm s1,fun G2 s2=>?_⟩
    w_fin
    exact ⟨_,_,rfl,s1.trans s2⟩
   ·rintro σ G ⟨o1,o2,rfl,sG⟩
    w_fin
    refine Et (sG _ _ hl) fun l' g'=>?_
    w_fin
    exact q l' _ (sG.free g') (sG.trans (aI.new g')) aE
  ·rcases h with ⟨l,vs',bs,rfl,hl,pb,hlen,hbad⟩|⟨t,ty,e⟩
   ·w_fin
    refine dX (.lst hl) kB ?_
    w_fin
    refine lJ (fun c1=>?_) (fun c1=>?_)
    ·w_fin
     refine lJ (fun c2=>?_) (fun c2=>?_)
     ·w_fin
      refine Je hl ?_
      refine LV (xs:=vs') (fun i σ G=>∃ o1 o2,σ=[some (.ref l),o1,o2]/\aI H G/\∀ j,j < i->bs[j]?≠some false) ⟨_,_,rfl,aI.refl _,fun j hj=>absurd hj (not_lt_zero _)⟩ ?_ ?_ ?_
      ·rintro i σ G _ ⟨o1,o2,rfl,sG,_⟩
       exact cN.of (sG _ _ hl)
      ·rintro i x T0 σ G hx hT ⟨o1,o2,rfl,sG,hno⟩
       obtain ⟨b,hb,qb⟩:=Paired.at pb hx
       have s1:=sG.trans (aI.new (o:=.tup [.int i,x]) hT)
       have hT2:=aE (H:=G) (a:=T0) (o:=.tup [.int i,x])
       generalize upd G T0 (.tup [.int i,x])=G1 at s1 hT2 ⊢
       have hi:i < vs'.length:=(List.getElem?_eq_some_iff.mp hx).1
       w_fin
       refine ⟨_,b,rfl,qb.sm s1,fun G2 s2=>?_⟩
       cases b with
      |false =>
        w_fin
        refine AN (i:=i) (by omega) fun z hz=>?_
        w_fin
        intro z'
        w_fin
        exact ⟨by rw [sizeLine_eq]; exact (show 1<=16777216 by decide),q _ (s1.trans s2)⟩
      |true =>
        w_fin
        refine ⟨_,_,rfl,s1.trans s2,fun j hj=>?_⟩
        by_cases e:j=i
        ·subst e
         rw [hb]
         intro z
         cases z
        ·exact hno j (by omega)
      ·rintro σ G ⟨o1,o2,rfl,sG,hno⟩
       rcases hbad with hbad|hbad|hbad
       ·omega
       ·omega
       ·obtain ⟨j,hj,e⟩:=List.getElem_of_mem hbad
        have:=hno j (by rw [Paired.length pb]; exact hj)
        rw [List.getElem?_eq_getElem hj,e] at this
        exact absurd rfl this
     ·w_fin
      refine AN (i:=120) (by decide) fun z hz=>?_
      w_fin
      intro z'
      w_fin
      exact ⟨by rw [sizeLine_eq]; exact (show 1<=16777216 by decide),q _ (aI.refl _)⟩
    ·w_fin
     refine AN (i:=120) (by decide) fun z hz=>?_
     w_fin
     intro z'
     w_fin
     exact ⟨by rw [sizeLine_eq]; exact (show 1<=16777216 by decide),q _ (aI.refl _)⟩
   ·w_fin
    refine dX ty e ?_
    w_fin
    refine AN (i:=120) (by decide) fun z hz=>?_
    w_fin
    intro z'
    w_fin
    exact ⟨by rw [sizeLine_eq]; exact (show 1<=16777216 by decide),q _ (aI.refl _)⟩
theorem BE (T:Bl mg) (d:Df K mg "count_in" nM ["row","counts"]) (W:XX K mg xt x1 x4 x5):bD P w K mg base (k+1) "count_in" ["row","counts"] FM:=by
 refine bD.of d AG (fun vs H Q E h=>?_) (fun f cdv A outer s H vs Q E hr h=>?_)
 ·obtain ⟨v,d,E,r,rfl,_⟩:=h
  rfl
 ·obtain ⟨v,d,E,r,rfl,hro,hc,hE,hw,q⟩:=h
  refine ⟨_,(@aA _ _ _ _ _ (@bB _ _ _ _ _ _ _ _ (@aK _ _ _ _ _ _ _ _ (aY hr.units) (@bJ _ _ _ _ _ _ _ (pv 0)) (@aH _ _ _ _) (aL _)) (@aC _ _ _ (@aM _ _ _ _ (@aD _ _ _ _))) (@aS _)) (@aA _ _ _ _ _ (@bB _ _ _ _ _ _ _ _ (@aK _ _ _ _ _ _ _ _ (aY hr.units) (@bJ _ _ _ _ _ _ _ (pv 0)) (@aH _ _ _ _) (aL _)) (@aC _ _ _ (@aM _ _ _ _ (@cH _ _ _ _ _ _ hr.u1 (pv 1) (@bJ _ _ _ _ _ _ _ (pv 0)) (fun _ _=>rfl)))) (@aS _)) (@aC _ _ _ (@aM _ _ _ _ (@oP _ _ _ _ _ _ _ _ (@aK _ _ _ _ _ _ _ _ (aY hr.units) (@bJ _ _ _ _ _ _ _ (pv 0)) (@aH _ _ _ _) (aL _)) (@aP _ _ _ _ _ _ _ _ _ dF rfl T.z_len bX (@bE _ _ _ (@bJ _ _ _ _ _ _ _ (pv 0)) (by rfl)) (by decide) (by decide) (by rfl) (by rfl)) (@aJ _ _ _ _ _ _ _ _ xV (@aP _ _ _ _ _ _ _ _ _ dF rfl T.z_len bX (@bE _ _ _ (@bJ _ _ _ _ _ _ _ (pv 0)) (by rfl)) (by decide) (by decide) (by rfl) (by rfl)) (@aD _ _ _ _))))))),?_⟩
  cases r with
 |plain r =>
   rw [dW] at q
   replace hro:gZ H v r:=hro
   replace hw:IJ r:=hw
   cases r with
  |run a b t =>
    obtain ⟨p,u,rfl,hp,_⟩:=hro
    w_fin
    exact q
  |path k t ps =>
    obtain ⟨p,u,z,rfl,hp,_,hz⟩:=hro
    have hl':2<=ps.length/\ps.length<=200:=⟨hw.2.2.1,le_trans hw.2.2.2.1 (by decide)⟩
    have hlm:(ps.map V.str).length=ps.length:=length_map _
    cases k with
   |row =>
     have e:((fI.path .row t ps).runs.length:Int)=((ps.map V.str).length:Int) - 1:=by
      rw [show (fI.path .row t ps).runs=dH t ps from rfl,fF]
      omega
     rw [e] at q
     w_fin
     exact q
   |star =>
     have e:((fI.path .star t ps).runs.length:Int)=((ps.map V.str).length:Int) - 1:=by
      rw [show (fI.path .star t ps).runs=ps.tail.map fun x=>(ps.headD "",x,t) from rfl,length_map,length_tail]
      omega
     rw [e] at q
     w_fin
     exact q
   |ring =>
     have e:((fI.path .ring t ps).runs.length:Int)=((ps.map V.str).length:Int):=by
      rw [show (fI.path .ring t ps).runs=dH t (ps++ps.take 1) from rfl,fF,length_append,length_take]
      omega
     rw [e] at q
     w_fin
     exact q
 |put nm cl as =>
   obtain ⟨p,q',rfl,hp,hq⟩:=hro
   obtain ⟨_,_,_,x,hx,rfl,_⟩:=hw
   obtain ⟨kvs,hk,_,hv⟩:=hc
   rw [(hE.put hx cl as).1,length_map] at q
   w_fin
   refine eQ (.inl hk) (hv x hx) ?_
   w_fin
   exact q
theorem DW (T:Bl mg) (d:Df K mg "counted" mR ["rows"]) (W:XX K mg xt x1 x4 x5) (o0u:bD P w K mg base k "count_in" ["row","counts"] FM):bD P w K mg base (k+1) "counted" ["rows"] (rB K):=by
 refine bD.of d iT (fun vs H Q E h=>?_) (fun f cdv A outer s H vs Q E hr h=>?_)
 ·obtain ⟨l,gs,rfl,_⟩:=h
  rfl
 ·obtain ⟨l,gs,rfl,hl,hb,q⟩:=h
  refine ⟨_,(@aA _ _ _ _ _ (@aO _ _ (i:=1) _ _ _ _ iT.nd rfl (by w_left) (@aD _ _ _ _) (by rfl) (by w_means)) (@aA _ _ _ _ _ (@aO _ _ (i:=2) _ _ _ _ iT.nd rfl (by w_left) (@kJ _ _) (by rfl) (by w_means)) (@aA _ _ _ _ _ (@fH _ _ _ _ _ _ _ _ PassesOwn.never rfl (@dS _ _ _ _ (pv 0)) (@aU _ _ (i:=3) _ iT.nd rfl (by w_left) (by w_means)) (@aC _ _ _ (@bB _ _ _ _ _ _ _ _ (@aK _ _ _ _ _ _ _ _ (aY hr.units) (@bJ _ _ _ _ _ _ _ (pv 3)) (@aH _ _ _ _) (aL _)) (@aC _ _ _ (@gR _ _ _ _ _ _ _ _ _ hr.u1 (pv 2) (@bJ _ _ _ _ _ _ _ (pv 3)) (@aP _ _ _ _ _ _ _ _ _ (ZZ rfl) rfl T.z_sum Ac (@bE _ _ _ (@eF _ _ _ _ _ _ _ _ _ _ _ _ _ _ (@dD _ _ (sc:=aG mR) (N:=["rows","count","counts","row"]) (tn:=["inner"]) (names:=["counts"]) (is:=[2]) rfl rfl (by decide +kernel) (by decide +kernel) rfl (by decide +kernel) rfl (by decide +kernel) (by decide +kernel) (by decide +kernel)) rfl (@qG _ _ _ _ (@bJ _ _ _ _ _ _ _ (pv 3))) (fun _ _ _ _=>(@aU _ _ (i:=0) _ (show (["inner","counts"]:List Str).Nodup by decide +kernel) rfl (Or.inl rfl) (Or.inr rfl))) (fun _ _ _ _=>(@aF _ _ _ _ _ _ _ _ _ _ o0u hr rfl (@dZ _ _ _ _ _ (pv 0) (pv 1) (by rfl) (by rfl)) (by decide) (by rfl) (by rfl))) (fun _ _ _ _=>(@cI _)) (by intro _; rfl)) (by rfl)) (by decide) (by decide) (by rfl) (by rfl)) rfl)) (@aC _ _ _ (@MF _ _ (i:=1) _ _ _ _ _ _ iT.nd rfl (by w_left) (@aF _ _ _ _ _ _ _ _ _ _ o0u hr rfl (@dZ _ _ _ _ _ (pv 3) (pv 2) (by rfl) (by rfl)) (by decide) (by rfl) (by rfl)) NC (by first|exact .inl rfl|exact .inr rfl))))) (by intro _; rfl)) (@aC _ _ _ (@aM _ _ _ _ (pv 1)))))),?_⟩
  obtain ⟨xs,hxs,pr⟩:=hl
  have hlen:=Paired.length pr
  have few:=hb.few
  w_fin
  refine lU fun dc hdc=>?_
  obtain ⟨H0,zE,s0,g0⟩:=jK hdc (.dK [])
  rw [zE]
  have ndl:l≠dc:=aB hxs hdc
  w_fin
  refine dR (cN.of (s0 _ _ hxs)) ?_
  refine nO (xs:=xs) (fun i σ G=>∃ (E:List aQ) (A:List cV) (o3:Option V),σ=[some (.ref l),some (.int (A.length:Int)),some (.ref dc),o3]/\Kp dc H0 G/\TK H0 G/\CF G dc E/\jS E/\nH E (gs.drop i)/\gI [] gs=A++gI E (gs.drop i)/\cZ E (gs.drop i)=cZ [] gs) ⟨[],[],_,rfl,Kp.refl _ _,TK.refl _,⟨[],g0,le_refl _,fun _ h=>nomatch h⟩,trivial,hb.wf,rfl,rfl⟩ ?_ ?_ ?_
  ·rintro i σ G _ ⟨E,A,o3,rfl,kp,_⟩
   exact cN.of (kp _ _ ndl (s0 _ _ hxs))
  ·rintro i x σ G hx ⟨E,A,o3,rfl,kp,tk,cq,hE,hW,eA,eE⟩
   obtain ⟨g,hg0,gq⟩:=Paired.at pr hx
   rw [iK hg0] at hW eA eE
   replace gq:=(gq.tk s0.tk).tk tk
   have h8:E.length<=20:=hb.le20 hE eE
   cases g with
  |one r =>
    replace gq:bQ G x r:=gq
    obtain ⟨p,k,ys,rfl,hp,npc⟩:=gq.head
    w_fin
    refine fG hp (aX (show (V.str k::ys)[0]?=some (V.str k) from rfl)) ?_
    w_fin
    rw [if_neg (show ¬ (k=="piece")=true by simpa using npc)]
    w_fin
    refine UA rfl ?_
    w_fin
    refine ⟨_,dc,E,r,rfl,gq,cq,hE,hW.1,?_⟩
    w_fin
    refine ⟨_,_,rfl,rfl,⟨E,A++aR E r,some (.ref p),?_,kp,tk,cq,hE,hW.2,by rw [eA,append_assoc]; rfl,eE⟩⟩
    rw [length_append,Int.natCast_add]
    rfl
  |piece pc =>
    obtain ⟨p,q',z,ys,rfl,hp,hq,hz,vG⟩:=(show gH G x pc from gq)
    obtain ⟨hWp,hWr⟩:=hW
    w_fin
    refine mU (fV.of hz) ?_
    have hyl:=Paired.length vG
    have hy60:=hWp.2.2.1
    refine xO (xs:=ys) (by omega) (fun acc i ws G'=>Kp acc G G'/\ws=((pc.2.2.take i).map fun r=>((aR E r).length:Int)).map V.int) ?_ ?_ ?_ ?_
    ·intro acc h0
     exact ⟨Kp.new h0,rfl⟩
    ·rintro acc j ws G' h0 hj ⟨kp',_⟩
     exact fV.of (kp' _ _ (aB hz h0) hz)
    ·rintro acc j ws G' x' h0 hx' hwl hG' ⟨kp',rfl⟩
     obtain ⟨r,hr0,rq⟩:=Paired.at vG hx'
     have sG':aI G G':=fun b o h=>kp' _ _ (aB h h0) h
     w_fin
     refine ⟨_,dc,E,r,rfl,rq.tk sG'.tk,cq.sm sG',hE,hWp.1 r (mem_of_getElem? hr0),?_⟩
     refine eS (by have:=(List.getElem?_eq_some_iff.mp hx').1; exact this) hwl hG' ⟨kp'.trans Kp.upd,?_⟩
     rw [take_add_one,hr0,map_append,map_append]
     rfl
    ·rintro acc ws G' h0 hG' hwl ⟨kp',rfl⟩
     rw [hyl,take_length] at hG'
     have sG':aI G G':=fun b o h=>kp' _ _ (aB h h0) h
     have esum:((pc.2.2.map fun r=>((aR E r).length:Int)).sum)=((pc.2.2.flatMap (aR E)).length:Int):=KN pc.2.2
     have hbnd:=HW hE hWp.1 (by have:wE E+pc.2.2.length+2<=60:=hb.wE (E:=pc::E) eE; omega)
     w_fin
     refine ⟨acc,_,rfl,cN.of hG',fun n hn=>?_,?_,?_⟩
     ·obtain ⟨r,_,rfl⟩:=mem_map.mp hn
      exact Int.natCast_nonneg _
     ·rw [esum]
      omega
     rw [esum]
     have hpG:=sG' _ _ hp
     w_fin
     obtain ⟨kvs,hk,hkl,hv⟩:=cq.sm sG'
     refine lV hk (by omega) ?_
     w_fin
     have kd:Kp dc H0 (L2.upd G' dc (.dK (dY kvs (Sum.inr pc.1) (.int ((pc.2.2.flatMap (aR E)).length:Int))))):=(kp.trans sG'.kp).trans Kp.upd
     exact ⟨pc::E,A,_,rfl,kd,(tk.trans sG'.tk).trans (TK.dic hk),CF.put hE hWp hkl hv,⟨hWp,hE⟩,hWr,eA,eE⟩
  rintro σ G ⟨E,A,o3,rfl,kp,tk,cq,hE,hW,eA,eE⟩
  w_fin
  rw [hlen,drop_length] at eA
  rw [eA,show gI E []=[] from rfl,append_nil] at q
  exact q _ fun b o h=>kp _ _ (aB h hdc) (s0 _ _ h)
theorem vM (T:Bl mg) (d:Df K mg "runs_along" iH ["time","posts"]) (W:XX K mg xt x1 x4 x5):bD P w K mg base (k+1) "runs_along" ["time","posts"] (FO K):=by
 refine bD.of d vI (fun vs H Q E h=>?_) (fun f cdv A outer s H vs Q E hr h=>?_)
 ·obtain ⟨v,t,p,ps,rfl,_⟩:=h
  rfl
 ·obtain ⟨v,t,p,ps,rfl,hv,hp,h0,hn,q⟩:=h
  refine ⟨_,(@aC _ _ _ (@aM _ _ _ _ (@eF _ _ _ _ _ _ _ _ _ _ _ _ _ _ (@dD _ _ (sc:=aG iH) (N:=["time","posts"]) (tn:=["place","post"]) (names:=["time","posts"]) (is:=[0,1]) rfl rfl (by decide +kernel) (by decide +kernel) rfl (by decide +kernel) rfl (by decide +kernel) (by decide +kernel) (by decide +kernel)) rfl (MH rfl T.z_enumerate (eG (bI dB (pv 1) cC (bV (UN KC aD))) dL)) (fun _ _ _ _=>(@rY _ _ _ _ _ _ _ _ _ _ _ (n:=2) _ rfl (@bP _ _ _ _ _ (@aU _ _ (i:=0) _ (show (["place","post","time","posts"]:List Str).Nodup by decide +kernel) rfl (Or.inl rfl) (Or.inr rfl)) (@bP _ _ _ _ _ (@aU _ _ (i:=1) _ (show (["place","post","time","posts"]:List Str).Nodup by decide +kernel) rfl (Or.inl rfl) (Or.inr rfl)) (@gW _) (by rfl)) (by rfl)) (by rfl) (by rfl))) (fun _ _ _ _=>(@bM _ _ _ _ _ (@kC _ _ _ _ _ _ _ (pv 1) (@cD _ _ _ _ _ _ _ jG (pv 3) (@aJ _ _ _ _ _ _ _ _ jC (pv 0) (@aD _ _ _ _)) (fun _ _=>rfl)) (pv 2) (by rfl) (by rfl) (by rfl)))) (fun _ _ _ _=>(@cI _)) (by intro _; rfl)))),?_⟩
  have hlm:(ps.map V.str).length=ps.length:=length_map _
  w_fin
  refine VP hp (by omega) fun l1 hl1=>?_
  obtain ⟨G0,zE,s1,hl1'⟩:=jK hl1 (.tup (ps.map V.str).dropLast)
  rw [zE]
  have hdl:(ps.map V.str).dropLast.length=ps.length - 1:=by rw [List.length_dropLast,hlm]
  refine e_T hl1' ?_
  refine LY (xs:=(ps.map V.str).dropLast) (by omega) hl1' (fun acc i ys G=>Kp acc G0 G/\Paired (aW G) ys (kn ((dH t ps).take i))) ?_ ?_ ?_ ?_
  ·intro acc h0
   exact ⟨Kp.new h0,.nil⟩
  ·rintro acc i ys G h0 hi ⟨kp,_⟩
   exact fun p xs h=>kp _ _ (aB h h0) h
  ·rintro acc i ys G x T h0 hx hyl hG hT ⟨kp,pr⟩
   have hi:i < ps.length - 1:=by have:=(List.getElem?_eq_some_iff.mp hx).1; omega
   obtain ⟨a,ea⟩:∃ a,ps[i]?=some a:=⟨_,List.getElem?_eq_getElem (by omega)⟩
   obtain ⟨b,eb⟩:∃ b,ps[i+1]?=some b:=⟨_,List.getElem?_eq_getElem (by omega)⟩
   have hxa:x=.str a:=by
    rw [List.getElem?_dropLast,if_pos (by omega),List.getElem?_map,ea] at hx
    cases hx
    rfl
   subst hxa
   have tG:aI H G:=s1.trans fun b o h=>kp _ _ (aB h h0) h
   have t1:=aI.new (o:=.tup [V.int i,V.str a]) hT
   generalize L2.upd G T (.tup [V.int i,V.str a])=G1 at t1 ⊢
   w_fin
   refine fG (v:=.str b) (t1 _ _ (tG _ _ hp)) ?_ ?_
   ·rw [show ((i:Int)+1)=((i+1:Nat):Int) by omega]
    exact aX (by rw [List.getElem?_map,eb]; rfl)
   w_fin
   refine dJ fun p9 hp9=>?_
   have t2:=t1.trans (aI.new (o:=.tup [.str a,.str b,v]) hp9)
   have h9:=aE (H:=G1) (a:=p9) (o:=.tup [.str a,.str b,v])
   generalize L2.upd G1 p9 (.tup [.str a,.str b,v])=G2 at t2 h9 ⊢
   have hG2:=t2 _ _ hG
   have tk:=TK.lst (o:=.lst (ys++[.ref p9])) hG2
   refine eS (by omega) hyl hG2 ⟨(kp.trans t2.kp).trans Kp.upd,?_⟩
   rw [pC _ _ (pN t ps i a b ea eb)]
   exact Pd.snoc (Pd.imp pr fun v b f=>(aW.tk f t2.tk).tk tk) (aW.mk3 (tk _ _ h9) (((hv.tk tG.tk).tk t2.tk).tk tk))
  ·rintro acc ys G h0 hG hyl ⟨kp,pr⟩
   rw [hdl,take_of_length_le (by rw [fF]; omega)] at pr
   exact q acc G (s1.free h0) (s1.trans fun b o h=>kp _ _ (aB h h0) h) ⟨ys,hG,pr⟩
theorem BA (T:Bl mg) (d:Df K mg "name_put" nJ ["post","names","called"]) (W:XX K mg xt x1 x4 x5):bD P w K mg base (k+1) "name_put" ["post","names","called"] wF:=by
 refine bD.of d AE (fun vs H Q E h=>?_) (fun f cdv A outer s H vs Q E hr h=>?_)
 ·obtain ⟨x,cl,d,ps,as,rfl,_⟩:=h
  rfl
 ·obtain ⟨x,cl,d,ps,as,rfl,hd,hx,hc,q⟩:=h
  refine ⟨_,(@aC _ _ _ (@aM _ _ _ _ (@MK _ _ _ _ _ _ _ _ _ hr.u1 (pv 1) (pv 0) (@MJ _ _ _ _ _ _ (@eL _ _ _ _ _ (@xT _ _ _ _ (pv 2)) (@eL _ _ _ _ _ (@aH _ _ _ _) (@eL _ _ _ _ _ (@xT _ _ _ _ (pv 0)) (@uA _)))) (by decide)) ⟨rfl,rfl,rfl,rfl⟩))),?_⟩
  have ep:(".":Str)=⟨#[46]⟩:=by decide +kernel
  have e0:∀ z:Str,Str.empty++z=z:=fun z=>jM (by show ((#[]:Array Nat)++z.cps).toList=_; simp)
  w_fin
  refine ⟨d,rfl,.inl ⟨_,.inl hd⟩,?_⟩
  w_fin
  refine FT hc ?_
  refine wJ hc ?_
  w_fin
  refine wJ (by decide) ?_
  w_fin
  refine FT hx ?_
  refine wJ hx ?_
  w_fin
  refine ⟨_,.inl ⟨_,Sum.inr x,.inl hd,rfl,rfl⟩,?_⟩
  rw [e0,ep,EW]
  exact q
theorem uD (T:Bl mg) (d:Df K mg "runs_of" kH ["row","pieces"]) {dd:Nat} (W:XX K mg xt x1 x4 x5) (o0j:bD P w K mg base k "runs_along" ["time","posts"] (FO K)) (o0x:bD P w K mg base k "runs_put" ["row","pieces"] (mI K dd)):bD P w K mg base (k+1) "runs_of" ["row","pieces"] (iS K dd):=by
 refine bD.of d DD (fun vs H Q E h=>?_) (fun f cdv A outer s H vs Q E hr h=>?_)
 ·obtain ⟨v,d,E,r,rfl,_⟩:=h
  rfl
 ·obtain ⟨v,d,E,r,rfl,hro,hpc,hE,hw,hrk,hn,q⟩:=h
  refine ⟨_,(@aA _ _ _ _ _ (@bB _ _ _ _ _ _ _ _ (@aK _ _ _ _ _ _ _ _ (aY hr.units) (@bJ _ _ _ _ _ _ _ (pv 0)) (@aH _ _ _ _) (aL _)) (@aC _ _ _ (@aM _ _ _ _ (@bC _ _ _ _ (@bE _ _ _ (@bM _ _ _ _ _ (@kC _ _ _ _ _ _ _ (@bJ _ _ _ _ _ _ _ (pv 0)) (@bJ _ _ _ _ _ _ _ (pv 0)) (@bJ _ _ _ _ _ _ _ (pv 0)) (by rfl) (by rfl) (by rfl))) (by rfl))))) (@aS _)) (@aA _ _ _ _ _ (@bB _ _ _ _ _ _ _ _ (@aK _ _ _ _ _ _ _ _ (aY hr.units) (@bJ _ _ _ _ _ _ _ (pv 0)) (@aH _ _ _ _) (aL _)) (@aC _ _ _ (@aM _ _ _ _ (@aF _ _ _ _ _ _ _ _ _ _ o0x hr rfl (@dZ _ _ _ _ _ (pv 0) (pv 1) (by rfl) (by rfl)) (by decide) (by rfl) (by rfl)))) (@aS _)) (@aA _ _ _ _ _ (@bB _ _ _ _ _ _ _ _ (@aK _ _ _ _ _ _ _ _ (aY hr.units) (@bJ _ _ _ _ _ _ _ (pv 0)) (@aH _ _ _ _) (aL _)) (@aC _ _ _ (@aM _ _ _ _ (@eF _ _ _ _ _ _ _ _ _ _ _ _ _ _ (@dD _ _ (sc:=aG kH) (N:=["row","pieces"]) (tn:=["post"]) (names:=["row"]) (is:=[0]) rfl rfl (by decide +kernel) (by decide +kernel) rfl (by decide +kernel) rfl (by decide +kernel) (by decide +kernel) (by decide +kernel)) rfl (@qG _ _ _ _ (@bI _ _ _ _ _ _ _ _ _ _ dB (@bJ _ _ _ _ _ _ _ (pv 0)) (@bV _ _ _ (@aD _ _ _ _)) (@cC _))) (fun _ _ _ _=>(@aU _ _ (i:=0) _ (show (["post","row"]:List Str).Nodup by decide +kernel) rfl (Or.inl rfl) (Or.inr rfl))) (fun _ _ _ _=>(@bM _ _ _ _ _ (@kC _ _ _ _ _ _ _ (@cD _ _ _ _ _ _ _ jG (@cD _ _ _ _ _ _ _ jG (pv 1) (@aD _ _ _ _) (fun _ _=>rfl)) (@aD _ _ _ _) (fun _ _=>rfl)) (pv 0) (@cD _ _ _ _ _ _ _ jG (pv 1) (@aD _ _ _ _) (fun _ _=>rfl)) (by rfl) (by rfl) (by rfl)))) (fun _ _ _ _=>(@cI _)) (by intro _; rfl)))) (@aS _)) (@aC _ _ _ (@aM _ _ _ _ (@aF _ _ _ _ _ _ _ _ _ _ o0j hr rfl (@dZ _ _ _ _ _ (@bJ _ _ _ _ _ _ _ (pv 0)) (@oP _ _ _ _ _ _ _ _ (@aK _ _ _ _ _ _ _ _ (aY hr.units) (@bJ _ _ _ _ _ _ _ (pv 0)) (@aH _ _ _ _) (aL _)) (@aJ _ _ _ _ _ _ _ _ aV (@bJ _ _ _ _ _ _ _ (pv 0)) (@bI _ _ _ _ _ _ _ _ _ _ dB (@bJ _ _ _ _ _ _ _ (pv 0)) (@cC _) (@bV _ _ _ (@aD _ _ _ _)))) (@bJ _ _ _ _ _ _ _ (pv 0))) (by rfl) (by rfl)) (by decide) (by rfl) (by rfl))))))),?_⟩
  cases r with
 |put nm cl as =>
   obtain ⟨p,q',rfl,hp,hq⟩:=id hro
   w_fin
   exact ⟨_,d,E,nm,cl,as,rfl,hro,hpc,hE,hw,hrk,hn,q⟩
 |plain r =>
   rw [dW] at q
   replace hro:gZ H v r:=hro
   replace hw:IJ r:=hw
   cases r with
  |run a b t =>
    obtain ⟨p,u,rfl,hp,hu⟩:=hro
    w_fin
    refine dJ fun p1 hp1=>?_
    have t1:=aI.new (o:=.tup [.str a,.str b,u]) hp1
    w_fin
    refine cG fun l1 hl1=>?_
    have t2:=t1.trans (aI.new (o:=.lst [.ref p1]) hl1)
    w_fin
    exact q l1 _ (t1.free hl1) t2 ⟨_,aE,.cons (aW.mk3 (fE hl1 aE) (hu.tk t2.tk)) .nil⟩
  |path k t ps =>
    obtain ⟨p,u,z,rfl,hp,hu,hz⟩:=hro
    have hl':2<=ps.length/\ps.length<=190:=⟨hw.2.2.1,le_trans hw.2.2.2.1 (by decide)⟩
    have hlm:(ps.map V.str).length=ps.length:=length_map _
    cases k with
   |row =>
     w_fin
     exact ⟨u,t,z,ps,rfl,hu,hz,by omega,by omega,q⟩
   |star =>
     w_fin
     refine LE hz (by omega) fun l1 hl1=>?_
     obtain ⟨G0,zE,s1,h1⟩:=jK hl1 (.tup ((ps.map V.str).drop 1))
     rw [zE]
     refine mU (fV.of h1) ?_
     have hdl:((ps.map V.str).drop 1).length=ps.length - 1:=by rw [length_drop,hlm]
     have hst:∀ {acc:Addr} {G:Hp},Kp acc G0 G->G0 acc=none->aI G0 G:=fun kp h0 b o h=>kp _ _ (aB h h0) h
     obtain ⟨a,eK,rfl⟩:∃ a eK,ps=a::eK:=by
      cases ps with
     |nil=>exact absurd hl'.1 (by decide)
     |cons a eK=>exact ⟨a,eK,rfl⟩
     have er:(fI.path .star t (a::eK)).runs=eK.map fun x=>(a,x,t):=rfl
     rw [er] at q
     refine xO (xs:=((a::eK).map V.str).drop 1) (by omega) (fun acc i ys G=>Kp acc G0 G/\Paired (aW G) ys (kn ((eK.map fun x=>(a,x,t)).take i))) ?_ ?_ ?_ ?_
     ·intro acc h0
      exact ⟨Kp.new h0,.nil⟩
     ·rintro acc i ys G h0 hi ⟨kp,_⟩
      exact fV.of (hst kp h0 _ _ h1)
     ·rintro acc i ys G x h0 hx hyl hG ⟨kp,pr⟩
      have hi:i < eK.length:=by have:=(List.getElem?_eq_some_iff.mp hx).1; rw [hdl] at this; exact this
      obtain ⟨b,eb⟩:∃ b,eK[i]?=some b:=⟨_,List.getElem?_eq_getElem (by omega)⟩
      have hxa:x=.str b:=by
       replace hx:(eK.map V.str)[i]?=some x:=hx
       rw [List.getElem?_map,eb] at hx
       cases hx
       rfl
      subst hxa
      have tG:aI H G:=s1.trans (hst kp h0)
      have hpG:=tG _ _ hp
      have hzG:=tG _ _ hz
      w_fin
      refine fG hzG (aX (show ((a::eK).map V.str)[0]?=some (V.str a) from rfl)) ?_
      w_fin
      refine eJ fun p9 G2 hp9 t2 h9=>?_
      have hG2:=t2 _ _ hG
      have tk:=TK.lst (o:=.lst (ys++[.ref p9])) hG2
      refine eS (by rw [hdl]; exact hi) hyl hG2 ⟨(kp.trans t2.kp).trans Kp.upd,?_⟩
      rw [pC _ _ (show (eK.map fun x=>(a,x,t))[i]?=some (a,b,t) by rw [List.getElem?_map,eb]; rfl)]
      exact Pd.snoc (Pd.imp pr fun v b f=>(aW.tk f t2.tk).tk tk) (aW.mk3 (tk _ _ h9) (((hu.tk tG.tk).tk t2.tk).tk tk))
     ·rintro acc ys G h0 hG hyl ⟨kp,pr⟩
      rw [hdl,take_of_length_le (by rw [length_map]; exact le_refl _)] at pr
      exact q acc G (s1.free h0) (s1.trans (hst kp h0)) ⟨ys,hG,pr⟩
   |ring =>
     w_fin
     refine Bv hz (by omega) fun l1 hl1=>?_
     obtain ⟨G0,zE,s1,h1⟩:=jK hl1 (.tup ((ps.map V.str).take 1))
     rw [zE]
     have hne:∀ {l:List V},1<=l.length->l≠[]:=fun h e=>by rw [e] at h; exact absurd h (by decide)
     refine wZ (s1 _ _ hz) h1 (by rw [length_take]; omega) (hne (by omega)) (hne (by rw [length_take]; omega)) fun l2 hl2=>?_
     rw [← map_take,← map_append]
     have s2:=s1.trans (aI.new (o:=.tup ((ps++ps.take 1).map V.str)) hl2)
     w_fin
     exact ⟨u,t,l2,ps++ps.take 1,rfl,hu.tk s2.tk,aE,by rw [length_append]; omega,by rw [length_append,length_take]; omega,fun l H' h0 sm lq=>q l H' (s2.free h0) (s2.trans sm) lq⟩
theorem AW (T:Bl mg) (d:Df K mg "runs_put" iU ["row","pieces"]) {dd:Nat} (W:XX K mg xt x1 x4 x5) (o1g:bD P w K mg base k "runs_of" ["row","pieces"] (iS K dd)) (o0t:bD P w K mg base k "name_put" ["post","names","called"] wF):bD P w K mg base (k+1) "runs_put" ["row","pieces"] (mI K (dd+1)):=by
 refine bD.of d dQ (fun vs H Q E h=>?_) (fun f cdv A outer s H vs Q E hr h=>?_)
 ·obtain ⟨v,d,E,nm,cl,as,rfl,_⟩:=h
  rfl
 ·obtain ⟨v,d,E,nm,cl,as,rfl,hro,hpc,hE,hw,hrk,hn,q⟩:=h
  refine ⟨_,(@aA _ _ _ _ _ (@aO _ _ (i:=2) _ _ _ _ dQ.nd rfl (by w_left) (@cH _ _ _ _ _ _ hr.u1 (pv 1) (@bJ _ _ _ _ _ _ _ (pv 0)) (fun _ _=>rfl)) (by rfl) (by w_means)) (@aA _ _ _ _ _ (@aO _ _ (i:=3) _ _ _ _ dQ.nd rfl (by w_left) (@QR _ _ _ _ _ _ _ _ rfl rfl T.z_dict rfl T.z_zip (@dZ _ _ _ _ _ (@bJ _ _ _ _ _ _ _ (pv 2)) (@bJ _ _ _ _ _ _ _ (pv 0)) (by rfl) (by rfl)) (by rfl) (by rfl) (by rfl)) (by rfl) (by w_means)) (@aA _ _ _ _ _ (@aO _ _ (i:=4) _ _ _ _ dQ.nd rfl (by w_left) (@bC _ _ _ _ (@dL _)) (by rfl) (by w_means)) (@aA _ _ _ _ _ (@fH _ _ _ _ _ _ _ _ PassesOwn.never rfl (@qG _ _ _ _ (@bJ _ _ _ _ _ _ _ (pv 2))) (@aU _ _ (i:=5) _ dQ.nd rfl (by w_left) (by w_means)) (@aC _ _ _ (@fH _ _ _ _ _ _ _ _ PassesOwn.never rfl (@dS _ _ _ _ (@aF _ _ _ _ _ _ _ _ _ _ o1g hr rfl (@dZ _ _ _ _ _ (pv 5) (pv 1) (by rfl) (by rfl)) (by decide) (by rfl) (by rfl))) (@qI _ _ _ _ _ (n:=3) rfl (@bP _ _ _ _ _ (@aU _ _ (i:=6) _ dQ.nd rfl (by w_left) (by w_means)) (@bP _ _ _ _ _ (@aU _ _ (i:=7) _ dQ.nd rfl (by w_left) (by w_means)) (@bP _ _ _ _ _ (@aU _ _ (i:=8) _ dQ.nd rfl (by w_left) (by w_means)) (@gW _) (by rfl)) (by rfl)) (by rfl)) (by rfl) (by rfl)) (@aC _ _ _ (@bO _ _ _ _ (@cP _ _ _ _ _ _ _ _ _ _ _ _ plainAttrs_list F.slot_list_append F.type_list_append cK (pv 4) (@bE _ _ _ (@bM _ _ _ _ _ (@kC _ _ _ _ _ _ _ (@aF _ _ _ _ _ _ _ _ _ _ o0t hr rfl (@kC _ _ _ _ _ _ _ (pv 6) (pv 3) (@bJ _ _ _ _ _ _ _ (pv 0)) (by rfl) (by rfl) (by rfl)) (by decide) (by rfl) (by rfl)) (@aF _ _ _ _ _ _ _ _ _ _ o0t hr rfl (@kC _ _ _ _ _ _ _ (pv 7) (pv 3) (@bJ _ _ _ _ _ _ _ (pv 0)) (by rfl) (by rfl) (by rfl)) (by decide) (by rfl) (by rfl)) (pv 8) (by rfl) (by rfl) (by rfl))) (by rfl)) (by rfl) (by rfl) (by rfl) (by rfl) (by rfl)) (by rfl))) (by intro _; rfl))) (by intro _; rfl)) (@aC _ _ _ (@aM _ _ _ _ (pv 4))))))),?_⟩
  obtain ⟨hE,h60⟩:=hE
  obtain ⟨p,q',rfl,hp,hq⟩:=hro
  obtain ⟨kvs,hk,_,hv⟩:=id hpc
  obtain ⟨w1,w2,w3,x,hx,rfl,wl⟩:=id hw
  obtain ⟨u,eu,pp,qq,zz,ys,rfl,hpp,hqq,hzz,vG⟩:=hv x hx
  obtain ⟨eput,erk⟩:=hE.put hx cl as
  obtain ⟨_,w60,wnd,w8,w88,_⟩:=hE.at hx
  rw [eput] at q hn
  rw [length_map] at hn
  have hyl:=Paired.length vG
  have cl8:=(cT w1).2.1
  w_fin
  refine eQ (.inl hk) eu ?_
  w_fin
  have asl:as.length=x.2.1.length:=wl.symm
  refine ⟨qq,q',x.2.1,as.map V.str,rfl,hqq,hq,by rw [length_map,asl],w8,by omega,fun dn hdn=>?_⟩
  rw [VD wnd wl]
  obtain ⟨H1,zE,s1,g1⟩:=jK hdn (.dK ((x.2.1.map Sum.inr).zip (as.map V.str)))
  rw [zE]
  w_fin
  refine cG fun lr hlr=>?_
  have hlr0:=s1.free hlr
  have hpp1:=s1 _ _ hpp
  w_fin
  refine mU (fV.of (fE hlr (s1 _ _ hzz))) ?_
  refine xN (xs:=ys) (fun i σ G=>∃ o5 o6 o7 o8,σ=[some (.ref p),some (.ref d),some (.ref pp),some (.ref dn),some (.ref lr),o5,o6,o7,o8]/\Kp lr H1 G/\TK H1 G/\LQ aW G lr (kn (((x.2.2.take i).flatMap (aR E)).map (jX x.2.1 as cl)))) ⟨_,_,_,_,rfl,Kp.new hlr,TK.new hlr,[],aE,.nil⟩ ?_ ?_ ?_
  ·rintro i σ G _ ⟨o5,o6,o7,o8,rfl,kp,_⟩
   exact fV.of (kp _ _ (aB (s1 _ _ hzz) hlr) (s1 _ _ hzz))
  ·rintro i y σ G hy ⟨o5,o6,o7,o8,rfl,kp,tk,vs,hvs,pv⟩
   obtain ⟨r,hr0,rq⟩:=Paired.at vG hy
   have hrm:=mem_of_getElem? hr0
   have rq':=(rq.tk s1.tk).tk tk
   have epart:(x.2.2.take (i+1)).flatMap (aR E)=(x.2.2.take i).flatMap (aR E)++aR E r:=by
    rw [take_add_one,hr0,flatMap_append]
    simp
   have hle:((x.2.2.take i).flatMap (aR E)).length+(aR E r).length<=120:=by
    have e1:x.2.2=x.2.2.take (i+1)++x.2.2.drop (i+1):=(take_append_drop _ _).symm
    rw [e1,flatMap_append,length_append,epart,length_append] at hn
    omega
   have sHG:aI H G:=fun b o h=>kp _ _ (aB (s1 _ _ h) hlr) (s1 _ _ h)
   w_fin
   refine ⟨_,d,E,r,rfl,rq',hpc.sm sHG,⟨hE,h60⟩,hE.row hx r hrm,by have:=erk r hrm; omega,by omega,fun l2 G1 hl2 t1 lq=>?_⟩
   obtain ⟨v2,hv2,pv2⟩:=lq
   have el2:v2.length=(aR E r).length:=(Paired.length pv2).trans (by simp [kn])
   have evs:vs.length=((x.2.2.take i).flatMap (aR E)).length:=(Paired.length pv).trans (by simp [kn])
   have okr:=mS hE (hE.row hx r hrm)
   have nl2:l2≠lr:=fun z=>by rw [z,hvs] at hl2; cases hl2
   w_fin
   refine dR (cN.of hv2) ?_
   refine nO (xs:=v2) (fun j σ G'=>∃ o6 o7 o8,σ=[some (.ref p),some (.ref d),some (.ref pp),some (.ref dn),some (.ref lr),some y,o6,o7,o8]/\Kp lr G1 G'/\TK G1 G'/\LQ aW G' lr (kn ((((x.2.2.take i).flatMap (aR E))++(aR E r).take j).map (jX x.2.1 as cl)))) ⟨_,_,_,rfl,Kp.refl _ _,TK.refl _,?_⟩ ?_ ?_ ?_
   ·rw [List.take_zero,append_nil]
    exact ⟨vs,t1 _ _ hvs,Pd.imp pv fun v b f=>aW.tk f t1.tk⟩
   ·rintro j σ G' _ ⟨o6,o7,o8,rfl,kp',_⟩
    exact cN.of (kp' _ _ nl2 hv2)
   ·rintro j w σ G' hw' ⟨o6,o7,o8,rfl,kp',tk',vs',hvs',pv'⟩
    obtain ⟨rr,hrr,p3,ut,rfl,hp3,ft⟩:=Paired.at pv2 hw'
    obtain ⟨r3,hr3,rfl⟩:=GH hrr
    replace hp3:G1 p3=some (.tup [.str r3.1,.str r3.2.1,ut]):=hp3
    have hp3':=tk' _ _ hp3
    obtain ⟨n1,n2,_⟩:=okr r3 (mem_of_getElem? hr3)
    have l1:=n1.2.2
    have l2':=n2.2.2
    have ndn:dn≠lr:=fun z=>by rw [z] at g1; rw [g1] at hlr; cases hlr
    have gdn:G' dn=some (.dK ((x.2.1.map Sum.inr).zip (as.map V.str))):=kp' _ _ ndn (t1 _ _ (kp _ _ ndn g1))
    have hpG':=tk' _ _ (t1.tk _ _ (tk _ _ (s1 _ _ hp)))
    w_fin
    refine ⟨r3.1,cl,dn,x.2.1,as,rfl,gdn,by omega,by omega,?_⟩
    w_fin
    refine ⟨r3.2.1,cl,dn,x.2.1,as,rfl,gdn,by omega,by omega,?_⟩
    w_fin
    refine eJ fun p9 G2 hp9 t9 g9=>?_
    have evs':vs'.length=((x.2.2.take i).flatMap (aR E)).length+((aR E r).take j).length:=by
     rw [(Paired.length pv'),← length_append]
     simp [kn]
    have tkl:=length_take_le j (aR E r)
    have tkl2:=List.length_take_le' j (aR E r)
    w_fin
    refine iB (t9 _ _ hvs') (by omega) ?_
    have tk2:=TK.lst (o:=.lst (vs'++[.ref p9])) (t9 _ _ hvs')
    w_fin
    refine ⟨_,_,_,rfl,(kp'.trans t9.kp).trans Kp.upd,(tk'.trans t9.tk).trans tk2,_,aE,?_⟩
    rw [take_add_one,hr3,← append_assoc,map_append]
    rw [show kn (List.map (jX x.2.1 as cl) (List.flatMap (aR E) (x.2.2.take i)++(aR E r).take j)++List.map (jX x.2.1 as cl) (some r3).toList)=kn (List.map (jX x.2.1 as cl) (List.flatMap (aR E) (x.2.2.take i)++(aR E r).take j))++[(Sum.inr (gB x.2.1 as cl r3.1),Sum.inr (gB x.2.1 as cl r3.2.1),r3.2.2)] by simp [kn,jX]]
    exact Pd.snoc (Pd.imp pv' fun v b f=>(aW.tk f t9.tk).tk tk2) (aW.mk3 (tk2 _ _ g9) (((ft.tk tk').tk t9.tk).tk tk2))
   rintro σ G' ⟨o6,o7,o8,rfl,kp',tk',lq'⟩
   rw [el2,take_length,← epart] at lq'
   w_fin
   exact ⟨_,_,_,_,rfl,(kp.trans t1.kp).trans kp',(tk.trans t1.tk).trans tk',lq'⟩
  rintro σ G ⟨o5,o6,o7,o8,rfl,kp,tk,lq⟩
  rw [hyl,take_length] at lq
  w_fin
  exact q lr G hlr0 (fun b o h=>kp _ _ (aB (s1 _ _ h) hlr) (s1 _ _ h)) lq
theorem IC (T:Bl mg) (d:Df K mg "opened" tM ["rows"]) (W:XX K mg xt x1 x4 x5) {tk_MOST_RUNS:Tok} (g_MOST_RUNS:mg "MOST_RUNS"=some (.int 120 tk_MOST_RUNS)) (o1o:qV P w K mg base k "net_of" ["runs"] [] (FI K x1)) (o1g:bD P w K mg base k "runs_of" ["row","pieces"] (iS K 23)) (o1b:bD P w K mg base k "counted" ["rows"] (rB K)):qV P w K mg base (k+1) "opened" ["rows"] [] (sW x1 x4):=by
 refine qV.of d mL (fun vs H Q E h=>?_) (fun f cdv A outer s H vs Q E hr h=>?_)
 ·obtain ⟨l,gs,rfl,_⟩:=h
  rfl
 ·obtain ⟨l,gs,rfl,hl,hb,q1,q2,q3⟩:=h
  refine ⟨_,(@aA _ _ _ _ _ (@bB _ _ _ _ _ _ _ _ (@aK _ _ _ _ _ _ _ _ oS (@aF _ _ _ _ _ _ _ _ _ _ o1b hr rfl (@bE _ _ _ (pv 0) (by rfl)) (by decide) (by rfl) (by rfl)) (@eC _ _ (v:=(.int 120)) _ _ rfl g_MOST_RUNS ⟨_,rfl⟩ (by decide)) (aL _)) (@aC _ _ _ (@qD _ _ _ _ _ _ _ _ _ _ (fun _ _ _ _ _ _ _ _ I m q=>CI I m q) rfl rfl W.1.m_TooMany W.2.2.e (@bE _ _ _ (@DO _ _ _ _ _ _ (@eL _ _ _ _ _ (@aH _ _ _ _) (@eL _ _ _ _ _ (@DP _ _ _ _ (@eC _ _ (v:=(.int 120)) _ _ rfl g_MOST_RUNS ⟨_,rfl⟩ (by decide))) (@eL _ _ _ _ _ (@aH _ _ _ _) (@uA _)))) (by decide)) (by rfl)) (by decide) (by rfl) (by rfl))) (@aS _)) (@aA _ _ _ _ _ (@aO _ _ (i:=1) _ _ _ _ mL.nd rfl (by w_left) (@kJ _ _) (by rfl) (by w_means)) (@aA _ _ _ _ _ (@aO _ _ (i:=2) _ _ _ _ mL.nd rfl (by w_left) (@bC _ _ _ _ (@dL _)) (by rfl) (by w_means)) (@aA _ _ _ _ _ (@fH _ _ _ _ _ _ _ _ PassesOwn.leaving rfl (@dS _ _ _ _ (pv 0)) (@aU _ _ (i:=3) _ mL.nd rfl (by w_left) (by w_means)) (@aC _ _ _ (@bB _ _ _ _ _ _ _ _ (@aK _ _ _ _ _ _ _ _ (aY hr.units) (@bJ _ _ _ _ _ _ _ (pv 3)) (@aH _ _ _ _) (aL _)) (@aC _ _ _ (@gR _ _ _ _ _ _ _ _ _ hr.u1 (pv 1) (@bJ _ _ _ _ _ _ _ (pv 3)) (pv 3) rfl)) (@aC _ _ _ (@bO _ _ _ _ (@cP _ _ _ _ _ _ _ _ _ _ _ _ plainAttrs_list PySem.F.slot_list_extend PySem.F.type_list_extend wO (pv 2) (@bE _ _ _ (@aF _ _ _ _ _ _ _ _ _ _ o1g hr rfl (@dZ _ _ _ _ _ (pv 3) (pv 1) (by rfl) (by rfl)) (by decide) (by rfl) (by rfl)) (by rfl)) (by rfl) (by rfl) (by rfl) (by rfl) (by rfl)) (by rfl))))) (by intro _; rfl)) (@aC _ _ _ (@aM _ _ _ _ (@MM _ _ _ _ _ _ _ _ _ _ _ _ o1o hr rfl Ee (@bE _ _ _ (pv 2) (by rfl)) (by decide) (by rfl) (by rfl)))))))),?_⟩
  obtain ⟨xs,hxs,pr⟩:=id hl
  have hlen:=Paired.length pr
  have few:=hb.few
  w_fin
  refine ⟨l,gs,rfl,hl,hb,fun H1 s1=>?_⟩
  w_fin
  refine lJ (fun hcm=>?_) (fun hcm=>?_)
  ·replace hcm:120 < (gI [] gs).length:=by omega
   w_fin
   refine AN (i:=120) (by decide) fun z hz=>?_
   w_fin
   intro z'
   w_fin
   exact ⟨by rw [sizeLine_eq]; exact (show 1<=16777216 by decide),q1 hcm _ s1⟩
  replace hcm:(gI [] gs).length<=120:=by omega
  w_fin
  refine lU fun dc hdc=>?_
  have s12:=aI.new (o:=.dK []) hdc
  have s2:=s1.trans s12
  have g2:=aE (H:=H1) (a:=dc) (o:=.dK [])
  generalize L2.upd H1 dc (.dK [])=H2 at s12 s2 g2 ⊢
  w_fin
  refine cG fun lr hlr=>?_
  have ndr:dc≠lr:=aB g2 hlr
  w_fin
  refine dR (cN.of (fE hlr (s2 _ _ hxs))) ?_
  have hlr0:=s2.free hlr
  have hdc0:=s1.free hdc
  have nl1:l≠lr:=aB (s2 _ _ hxs) hlr
  have nl2:l≠dc:=aB hxs hdc0
  have old:∀ {G:Hp},(∀ b o,b≠lr->b≠dc->H2 b=some o->G b=some o)->aI H G:=fun k b o h=>k b o (aB h hlr0) (aB h hdc0) (s2 _ _ h)
  refine nO (xs:=xs) (fun i σ G=>∃ (E:List aQ) (A:List cV) (o3:Option V),σ=[some (.ref l),some (.ref dc),some (.ref lr),o3]/\(∀ b o,b≠lr->b≠dc->H2 b=some o->G b=some o)/\TK H2 G/\LQ aW G lr (kn A)/\zA G dc E/\jS E/\nH E (gs.drop i)/\gI [] gs=A++gI E (gs.drop i)/\cZ E (gs.drop i)=cZ [] gs) ⟨[],[],_,rfl,fun b o n1 _ h=>by rw [aZ n1]; exact h,TK.new hlr,⟨[],aE,.nil⟩,⟨[],by rw [aZ ndr]; exact g2,le_refl _,fun _ h=>nomatch h⟩,trivial,hb.wf,rfl,rfl⟩ ?_ ?_ ?_
  ·rintro i σ G _ ⟨E,A,o3,rfl,kp,_⟩
   exact cN.of (kp _ _ nl1 nl2 (s2 _ _ hxs))
  ·rintro i x σ G hx ⟨E,A,o3,rfl,kp,tk,⟨vs,hvs,pv⟩,pq,hE,hW,eA,eE⟩
   obtain ⟨g,hg0,gq⟩:=Paired.at pr hx
   rw [iK hg0] at hW eA eE
   replace gq:=(gq.tk s2.tk).tk tk
   have h8:E.length<=20:=hb.le20 hE eE
   cases g with
  |one r =>
    replace gq:bQ G x r:=gq
    obtain ⟨p,k,ys,rfl,hp,npc⟩:=gq.head
    have hcnt:A.length+(aR E r).length<=120:=by
     have:=congrArg List.length eA
     rw [length_append,show gI E (.one r::gs.drop (i+1))=aR E r++gI E (gs.drop (i+1)) from rfl,length_append] at this
     omega
    have hrk:=VW E r
    w_fin
    refine fG hp (aX (show (V.str k::ys)[0]?=some (V.str k) from rfl)) ?_
    w_fin
    rw [if_neg (show ¬ (k=="piece")=true by simpa using npc)]
    w_fin
    refine ⟨_,dc,E,r,rfl,gq,pq,⟨hE,by omega⟩,hW.1,by omega,by omega,fun l2 G1 hl2 t1 lq=>?_⟩
    obtain ⟨v2,hv2,pv2⟩:=lq
    have e1:vs.length=A.length:=(Paired.length pv).trans (by simp [kn])
    have e2:v2.length=(aR E r).length:=(Paired.length pv2).trans (by simp [kn])
    w_fin
    refine TZ (t1 _ _ hvs) hv2 (by omega) ?_
    have tk2:=TK.lst (o:=.lst (vs++v2)) (t1 _ _ hvs)
    w_fin
    refine ⟨E,A++aR E r,_,rfl,fun b o n1 n2 h=>by rw [aZ n1]; exact t1 _ _ (kp b o n1 n2 h),(tk.trans t1.tk).trans tk2,⟨_,aE,?_⟩,?_,hE,hW.2,by rw [eA,append_assoc]; rfl,eE⟩
    ·rw [show kn (A++aR E r)=kn A++kn (aR E r) by simp [kn]]
     exact Pd.app (Pd.imp pv fun v b f=>(aW.tk f t1.tk).tk tk2) (Pd.imp pv2 fun v b f=>aW.tk f tk2)
    ·obtain ⟨kvs,hk,hkl,hv⟩:=pq.sm t1
     exact ⟨kvs,by rw [aZ ndr]; exact hk,hkl,fun p hp=>let ⟨v,e,f⟩:=hv p hp; ⟨v,e,f.tk tk2⟩⟩
  |piece pc =>
    have gq':gH G x pc:=gq
    obtain ⟨p,q',z,ys,rfl,hp,hq,hz,vG⟩:=gq'
    obtain ⟨hWp,hWr⟩:=hW
    obtain ⟨kvs,hk,hkl,hv⟩:=id pq
    w_fin
    refine lV hk (by omega) ?_
    have tk2:=TK.dic (o:=.dK (dY kvs (Sum.inr pc.1) (.ref p))) hk
    w_fin
    refine ⟨pc::E,A,_,rfl,fun b o n1 n2 h=>by rw [aZ n2]; exact kp b o n1 n2 h,tk.trans tk2,⟨vs,by rw [aZ ndr.symm]; exact hvs,Pd.imp pv fun v b f=>aW.tk f tk2⟩,zA.put hWp hkl hv gq tk2 aE,⟨hWp,hE⟩,hWr,eA,eE⟩
  rintro σ G ⟨E,A,o3,rfl,kp,tk,⟨vs,hvs,pv⟩,pq,hE,hW,eA,eE⟩
  rw [hlen,drop_length,show gI E []=[] from rfl,append_nil] at eA
  subst eA
  have hok:=yN (E:=[]) trivial hb.wf
  have e1:vs.length=(gI [] gs).length:=(Paired.length pv).trans (by simp [kn])
  have pb:=LH (K:=K) (by rw [length_nil]; omega) pv hok
  have sG:=old kp
  w_fin
  by_cases hbd:pQ (gI [] gs)
  ·refine ⟨_,rfl,.inr ⟨.inl ⟨lr,vs,_,rfl,hvs,pb,by omega,?_⟩,fun H' sm=>q2 hcm hbd _ (sG.trans sm)⟩⟩
   rcases hbd with h|⟨r,hr,e⟩
   ·rw [h] at e1
    exact .inl e1
   ·exact .inr (.inr (mem_map.mpr ⟨r,hr,by rw [decide_eq_false (fun z=>z e)]⟩))
  ·have h1:gI [] gs≠[]:=fun z=>hbd (.inl z)
   have h2:1<=vs.length:=by rw [e1]; exact length_pos_iff.mpr h1
   refine ⟨_,rfl,.inl ⟨lr,vs,_,rfl,hvs,pb,h2,by omega,fun b hm=>?_,fun l' H' hl' sm hv'=>q3 hcm hbd l' H' (sG.free hl') (sG.trans sm) ⟨vs,hv',Pd.imp pv fun v b f=>aW.tk f sm.tk⟩⟩⟩
   obtain ⟨r,hr,rfl⟩:=mem_map.mp hm
   exact decide_eq_true fun e=>hbd (.inr ⟨r,hr,e⟩)
theorem vN (T:Bl mg) (d:Df K mg "is_written" iI ["word","most"]) (W:XX K mg xt x1 x4 x5) {tk_FIGURES:Tok} (g_FIGURES:mg "FIGURES"=some (.str "0123456789" tk_FIGURES)):bD P w K mg base (k+1) "is_written" ["word","most"] KQ:=by
 refine bD.of d vJ (fun vs H Q E h=>?_) (fun f cdv A outer s H vs Q E hr h=>?_)
 ·obtain ⟨z,rfl,_⟩:=h
  rfl
 ·obtain ⟨z,rfl,hd,h1,h12,⟨c0,r0,e0,hc0⟩,q⟩:=h
  refine ⟨_,(@aC _ _ _ (@aM _ _ _ _ (@jA _ _ _ _ _ _ _ (@uB _ _ _ _ _ _ _ _ _ _ _ _ oR oR (@aD _ _ _ _) (@aP _ _ _ _ _ _ _ _ _ dF rfl T.z_len bX (@bE _ _ _ (pv 0) (by rfl)) (by decide) (by decide) (by rfl) (by rfl)) (pv 1) (by with_unfolding_all rfl)) (@jA _ _ _ _ _ _ _ (@aP _ _ _ _ _ _ _ _ _ (qR rfl) rfl T.z_all qT (@bE _ _ _ (@eF _ _ _ _ _ _ _ _ _ _ _ _ _ _ (@dD _ _ (sc:=aG iI) (N:=["word","most"]) (tn:=["sign"]) (names:=[]) (is:=[]) rfl rfl (by decide +kernel) (by decide +kernel) rfl (by decide +kernel) rfl (by decide +kernel) (by decide +kernel) (by decide +kernel)) rfl (@AT _ _ _ _ (pv 0)) (fun _ _ _ _=>(@aU _ _ (i:=0) _ (show (["sign"]:List Str).Nodup by decide +kernel) rfl (Or.inl rfl) (Or.inr rfl))) (fun _ _ _ _=>(@cO _ _ _ _ _ _ _ _ GA (pv 0) (@eC _ _ (v:=(.str "0123456789")) _ _ rfl g_FIGURES ⟨_,rfl⟩ (by decide)) (by with_unfolding_all rfl))) (fun _ _ _ _=>(@cI _)) (by intro _; rfl)) (by rfl)) (by decide) (by decide) (by rfl) (by rfl)) (@lB _ _ _ _ _ (@cO _ _ _ _ _ _ _ _ (jB hr.units) (@bJ _ _ _ _ _ _ _ (pv 0)) (@aH _ _ _ _) (aL _))))))),?_⟩
  w_fin
  have hzs:z.length<=sizeLine:=by rw [sizeLine_eq]; omega
  refine xL hzs ?_
  w_fin
  refine ⟨z,rfl,?_⟩
  refine FU (by omega) (fun acc i ys G=>Kp acc H G/\ys=(z.cps.toList.take i).map fun c=>V.bl (decide (48<=c)&&decide (c < 58))) (fun acc h0=>⟨Kp.new h0,rfl⟩) ?_ ?_
  ·intro acc i ys G c h0 hx hyl hG ⟨kp,e⟩
   w_fin
   have hx':z.cps.toList[i]?=some c:=by simpa using hx
   have hi:i < z.cps.toList.length:=(List.getElem?_eq_some_iff.mp hx').1
   refine eS (by rw [cA]; exact hi) hyl hG ⟨Kp.trans kp Kp.upd,?_⟩
   have e2:z.cps.toList[i]=c:=by
    rw [List.getElem?_eq_getElem hi] at hx'
    exact Option.some.inj hx'
   rw [List.take_succ_eq_append_getElem hi,map_append,← e,e2,BV]
   rfl
  ·intro acc ys G h0 hG hl ⟨kp,e⟩
   w_fin
   rw [cA,take_length] at e
   subst e
   have e3:(z.cps.toList.map fun c=>V.bl (decide (48<=c)&&decide (c < 58)))=(z.cps.toList.map fun c=>(decide (48<=c)&&decide (c < 58))).map V.bl:=by rw [map_map]; rfl
   rw [e3] at hG
   refine qC hG ?_
   have e4:(z.cps.toList.map fun c=>(decide (48<=c)&&decide (c < 58))).all id=true:=by
    rw [all_map,all_eq_true]
    intro c hc
    have:=hd c hc
    show (decide (48<=c)&&decide (c < 58))=true
    rw [decide_eq_true this.1,decide_eq_true this.2]
    rfl
   rw [e4]
   w_fin
   refine LP (by omega) (c:=c0) (by rw [e0]; exact (show fM (c0::r0) ((0:Nat):Int)=some c0 from aX rfl)) ?_
   w_fin
   have e5:((⟨#[c0]⟩:Str)==Str.ofString "0")=false:=by
    rw [show Str.ofString "0"=⟨#[48]⟩ by decide +kernel]
    exact beq_eq_false_iff_ne.mpr fun z=>hc0 (by simpa using z)
   rw [e5]
   exact q _ (aI.kpn h0 (aI.refl _) kp)
theorem yB (T:Bl mg) (d:Df K mg "read_time" jQ ["word"]) (W:XX K mg xt x1 x4 x5) {tk_MOST_FIGURES:Tok} (g_MOST_FIGURES:mg "MOST_FIGURES"=some (.int 12 tk_MOST_FIGURES)) (o0g:bD P w K mg base k "is_fraction" ["thing"] (sY K)) (o0i:bD P w K mg base k "is_written" ["word","most"] KQ):bD P w K mg base (k+1) "read_time" ["word"] FG:=by
 refine bD.of d kP (fun vs H Q E h=>?_) (fun f cdv A outer s H vs Q E hr h=>?_)
 ·obtain ⟨t,rfl,_⟩:=h
  rfl
 ·obtain ⟨t,rfl,ht,q⟩:=h
  refine ⟨_,(@aA _ _ _ _ _ (@aO _ _ (i:=1) _ _ _ _ kP.nd rfl (by w_left) (@cP _ _ _ _ _ _ _ _ _ _ _ _ plainAttrs_str slot_str_split type_str_split jE (pv 0) (@bE _ _ _ (@aH _ _ _ _) (by rfl)) (by rfl) (by rfl) (by rfl) (by rfl) (by rfl)) (by rfl) (by w_means)) (@aA _ _ _ _ _ (@bB _ _ _ _ _ _ _ _ (@PW.pt _ _ _ (@lW _ _ _ _ _ _ _ (@aK _ _ _ _ _ _ _ _ oS (@aP _ _ _ _ _ _ _ _ _ dF rfl T.z_len bX (@bE _ _ _ (pv 1) (by rfl)) (by decide) (by decide) (by rfl) (by rfl)) (@aD _ _ _ _) (aL _)) (@jZ _ _ _ _ (@gA _ _ _ _ (@fN _ _ _ (@aP _ _ _ _ _ _ _ _ _ (qR rfl) rfl T.z_all qT (@bE _ _ _ (@eF _ _ _ _ _ _ _ _ _ _ _ _ _ _ (@dD _ _ (sc:=aG jQ) (N:=["word","parts","time"]) (tn:=["part"]) (names:=[]) (is:=[]) rfl rfl (by decide +kernel) (by decide +kernel) rfl (by decide +kernel) rfl (by decide +kernel) (by decide +kernel) (by decide +kernel)) rfl (@dS _ _ _ _ (pv 1)) (fun _ _ _ _=>(@aU _ _ (i:=0) _ (show (["part"]:List Str).Nodup by decide +kernel) rfl (Or.inl rfl) (Or.inr rfl))) (fun _ _ _ _=>(@aF _ _ _ _ _ _ _ _ _ _ o0i hr rfl (@dZ _ _ _ _ _ (pv 0) (@eC _ _ (v:=(.int 12)) _ _ rfl g_MOST_FIGURES ⟨_,rfl⟩ (by decide)) (by rfl) (by rfl)) (by decide) (by rfl) (by rfl))) (fun _ _ _ _=>(@cI _)) (by intro _; rfl)) (by rfl)) (by decide) (by decide) (by rfl) (by rfl)) (by intro _; rfl)))))) (@aC _ _ _ (@aM _ _ _ _ (@fO _ _ _))) (@aS _)) (@aA _ _ _ _ _ (@bB _ _ _ _ _ _ _ _ (@aK _ _ _ _ _ _ _ _ (aY hr.units) (@aP _ _ _ _ _ _ _ _ _ dF rfl T.z_len bX (@bE _ _ _ (pv 1) (by rfl)) (by decide) (by decide) (by rfl) (by rfl)) (@aD _ _ _ _) (aL _)) (@aC _ _ _ (@aM _ _ _ _ (@bM _ _ _ _ _ (@dZ _ _ _ _ _ (@bF _ _ _ _ _ _ _ _ _ uX rfl T.z_int mF (@bE _ _ _ (pv 0) (by rfl)) (by decide) (by decide) (by rfl) (by rfl)) (@aD _ _ _ _) (by rfl) (by rfl))))) (@aS _)) (@aA _ _ _ _ _ (@aO _ _ (i:=2) _ _ _ _ kP.nd rfl (by w_left) (@bM _ _ _ _ _ (@dZ _ _ _ _ _ (@bF _ _ _ _ _ _ _ _ _ uX rfl T.z_int mF (@bE _ _ _ (@bJ _ _ _ _ _ _ _ (pv 1)) (by rfl)) (by decide) (by decide) (by rfl) (by rfl)) (@bF _ _ _ _ _ _ _ _ _ uX rfl T.z_int mF (@bE _ _ _ (@bJ _ _ _ _ _ _ _ (pv 1)) (by rfl)) (by decide) (by decide) (by rfl) (by rfl)) (by rfl) (by rfl))) (by rfl) (by w_means)) (@aC _ _ _ (@aM _ _ _ _ (@oP _ _ _ _ _ _ _ _ (@PW.pt _ _ _ (@kZ _ _ _ _ _ _ _ (@aK _ _ _ _ _ _ _ _ oS (@bJ _ _ _ _ _ _ _ (pv 2)) (@aD _ _ _ _) (aL _)) (@kY _ _ _ _ (@fN _ _ _ (@aF _ _ _ _ _ _ _ _ _ _ o0g hr rfl (@bE _ _ _ (pv 2) (by rfl)) (by decide) (by rfl) (by rfl)) (by intro _; rfl))))) (pv 2) (@fO _ _ _)))))))),?_⟩
  have n1:=ht.num
  have n2:=ht.den
  have w:=vX ht
  have ep:("/":Str)=⟨#[47]⟩:=by decide +kernel
  have es:=zJ ht
  have wr:∀ {z:Int},1<=z->z < 10 ^ 12->JS (cY z)/\1<=(cY z).length/\(cY z).length<=12/\∃ c r,(cY z).cps.toList=c::r/\c≠48:=fun h1 h2=>⟨mW (by omega),(eN (by omega) h2).1,(eN (by omega) h2).2,YT h1⟩
  w_fin
  rw [ep]
  refine kW (z:=gK t) (y:=⟨#[47]⟩) (by decide) (by have:=w.2.2; omega) fun l hl=>?_
  rw [es]
  obtain ⟨ps,eps,hpl,hall⟩:∃ ps:List Str,(if t.den=1 then [cY t.num] else [cY t.num,cY (t.den:Int)])=ps/\(1<=ps.length/\ps.length<=2)/\∀ p∈ps,JS p/\1<=p.length/\p.length<=12/\∃ c r,p.cps.toList=c::r/\c≠48:=by
   refine ⟨_,rfl,?_,?_⟩
   ·split
    ·exact ⟨le_refl 1,by show 1<=2; decide⟩
    ·exact ⟨by show 1<=2; decide,le_refl 2⟩
   ·intro p hp
    split at hp
    ·rw [mem_singleton.mp hp]
     exact wr n1.1 n1.2
    ·rcases mem_cons.mp hp with rfl|hp
     ·exact wr n1.1 n1.2
     ·rw [mem_singleton.mp hp]
      exact wr n2.1 n2.2
  rw [eps]
  obtain ⟨H1,zE,s1,g1⟩:=jK hl (.lst (ps.map V.str))
  rw [zE]
  have hml:(ps.map V.str).length=ps.length:=length_map _
  w_fin
  refine dR (cN.of g1) ?_
  refine mV (xs:=ps.map V.str) (by omega) (fun acc i ys G=>Kp acc H1 G/\ys=(List.replicate i true).map V.bl) (fun acc h0=>⟨Kp.new h0,rfl⟩) ?_ ?_ ?_
  ·intro acc i ys G h0 _ ⟨kp,_⟩
   exact cN.of (kp _ _ (aB g1 h0) g1)
  ·intro acc i ys G x h0 hx hyl hG ⟨kp,e⟩
   rw [List.getElem?_map] at hx
   cases hy:ps[i]? with
  |none=>rw [hy] at hx; cases hx
  |some y =>
    rw [hy] at hx
    cases (Option.some.inj hx:V.str y=x)
    obtain ⟨a1,a2,a3,a4⟩:=hall y (mem_of_getElem? hy)
    w_fin
    refine ⟨y,rfl,a1,a2,a3,a4,fun G1 t1=>?_⟩
    have hi:i < ps.length:=(List.getElem?_eq_some_iff.mp hy).1
    refine eS (by omega) hyl (t1 _ _ hG) ⟨Kp.trans (Kp.trans kp t1.kp) Kp.upd,?_⟩
    rw [e,List.replicate_succ',map_append]
    rfl
  intro acc ys G h0 hG hyl ⟨kp,e⟩
  subst e
  have sG:aI H1 G:=fun b o h=>kp _ _ (aB h h0) h
  have gG:=sG _ _ g1
  w_fin
  refine qC hG ?_
  rw [show (List.replicate (ps.map V.str).length true).all id=true by rw [all_eq_true]; intro b hb; rw [List.eq_of_mem_replicate hb]; rfl]
  w_fin
  by_cases hd:t.den=1
  ·have e1:ps=[cY t.num]:=by rw [← eps,if_pos hd]
   subst e1
   have hl1:(List.map V.str [cY t.num]).length=1:=rfl
   w_fin
   refine ⟨_,t.num,rfl,?_,by have:=w.2.2; omega,?_⟩
   ·rw [show gK t=cY t.num by unfold gK; rw [if_pos hd]]
    exact oW (by omega) n1.2
   w_fin
   refine dJ fun p hp=>?_
   w_fin
   exact q _ _ ((s1.trans sG).trans (aI.new hp)) ⟨p,rfl,by rw [aE,hd]; rfl⟩
  ·have e1:ps=[cY t.num,cY (t.den:Int)]:=by rw [← eps,if_neg hd]
   subst e1
   have hl1:(List.map V.str [cY t.num,cY (t.den:Int)]).length=2:=rfl
   have l1:=(eN (n:=t.num) (by omega) n1.2).2
   have l2:=(eN (n:=(t.den:Int)) (by omega) n2.2).2
   w_fin
   refine ⟨_,t.num,rfl,oW (by omega) n1.2,by omega,?_⟩
   w_fin
   refine ⟨_,(t.den:Int),rfl,oW (by omega) n2.2,by omega,?_⟩
   w_fin
   refine eJ fun p G2 hp s2 g2=>?_
   w_fin
   have hf:Il K G2 (.ref p) true:=.inr (.inr ⟨p,_,_,rfl,g2,rfl,rfl,(fun a b ea eb=>by cases ea; cases eb; exact ⟨(Sm.of (n:=64) (by omega) (by omega)).mono (by decide),(Sm.of (n:=64) (by omega) (by omega)).mono (by decide)⟩),(EE t).symm⟩)
   refine ⟨_,true,rfl,hf,?_⟩
   w_fin
   exact q _ _ ((s1.trans sG).trans s2) ⟨p,rfl,g2⟩
theorem uC (T:Bl mg) (d:Df K mg "shown_whole" jV ["whole"]) (W:XX K mg xt x1 x4 x5):bD P w K mg base (k+1) "shown_whole" ["whole"] zS:=by
 refine bD.of d eZ (fun vs H Q E h=>?_) (fun f cdv A outer s H vs Q E hr h=>?_)
 ·obtain ⟨n,rfl,_⟩:=h
  rfl
 ·obtain ⟨n,rfl,h0,h1,q⟩:=h
  refine ⟨_,(@aA _ _ _ _ _ (@aO _ _ (i:=1) _ _ _ _ eZ.nd rfl (by w_left) (@aJ _ _ _ _ _ _ _ _ xW (@aD _ _ _ _) (@aD _ _ _ _)) (by rfl) (by w_means)) (@aA _ _ _ _ _ (@aO _ _ (i:=2) _ _ _ _ eZ.nd rfl (by w_left) (@aP _ _ _ _ _ _ _ _ _ OJ rfl T.z_abs EL (@bE _ _ _ (pv 0) (by rfl)) (by decide) (by decide) (by rfl) (by rfl)) (by rfl) (by w_means)) (@aA _ _ _ _ _ (@aO _ _ (i:=3) _ _ _ _ eZ.nd rfl (by w_left) (@aH _ _ _ _) (by rfl) (by w_means)) (@aA _ _ _ _ _ (@oN _ _ _ _ _ _ PassesOwn.never (@aK _ _ _ _ _ _ _ _ wM (pv 2) (pv 1) (aL _)) (@aA _ _ _ _ _ (@fA _ _) (@aC _ _ _ (@fA _ _)))) (@aA _ _ _ _ _ (@aO _ _ (i:=3) _ _ _ _ eZ.nd rfl (by w_left) (@aJ _ _ _ _ _ _ _ _ aV (@bF _ _ _ _ _ _ _ _ _ yV rfl T.z_str qS (@bE _ _ _ (pv 2) (by rfl)) (by decide) (by decide) (by rfl) (by rfl)) (pv 3)) (by rfl) (by w_means)) (@aC _ _ _ (@aM _ _ _ _ (@oP _ _ _ _ _ _ _ _ (@aK _ _ _ _ _ _ _ _ wM (pv 0) (@aD _ _ _ _) (aL _)) (pv 3) (@aJ _ _ _ _ _ _ _ _ aV (@aH _ _ _ _) (pv 3)))))))))),?_⟩
  have hl:=(eN h0 h1).2
  w_fin
  refine PR ?_
  w_fin
  rw [if_neg (show ¬ n < 0 by omega)]
  w_fin
  refine AM (fun _ σ G=>σ=[some (.int n),some (.int (10 ^ 64)),some (.int n),some (.str "")]/\G=H) (m0:=0) ⟨rfl,rfl⟩ ?_
  rintro m σ G ⟨rfl,rfl⟩
  w_fin
  refine ⟨n,rfl,by omega,?_⟩
  w_fin
  refine gN (a:=cY n) (b:=Str.ofString "") (by show (cY n).length+0<=_; omega) ?_
  w_fin
  ·rw [show cY n++Str.ofString ""=cY n from jM (by rw [pI]; show _++[]=_; rw [append_nil])]
   exact q
theorem oU (T:Bl mg) (d:Df K mg "shown_fraction" gL ["each"]) (W:XX K mg xt x1 x4 x5) (o0h:bD P w K mg base k "shown_whole" ["whole"] zS):bD P w K mg base (k+1) "shown_fraction" ["each"] zU:=by
 refine bD.of d fY (fun vs H Q E h=>?_) (fun f cdv A outer s H vs Q E hr h=>?_)
 ·obtain ⟨v,t,rfl,_⟩:=h
  rfl
 ·obtain ⟨v,t,rfl,⟨p,rfl,hp⟩,ht,q⟩:=h
  refine ⟨_,(@aA _ _ _ _ _ (@aO _ _ (i:=1) _ _ _ _ fY.nd rfl (by w_left) (@aF _ _ _ _ _ _ _ _ _ _ o0h hr rfl (@bE _ _ _ (@bJ _ _ _ _ _ _ _ (pv 0)) (by rfl)) (by decide) (by rfl) (by rfl)) (by rfl) (by w_means)) (@aA _ _ _ _ _ (@bB _ _ _ _ _ _ _ _ (@aK _ _ _ _ _ _ _ _ (aY hr.units) (@bJ _ _ _ _ _ _ _ (pv 0)) (@aD _ _ _ _) (aL _)) (@aC _ _ _ (@aM _ _ _ _ (pv 1))) (@aS _)) (@aA _ _ _ _ _ (@aO _ _ (i:=2) _ _ _ _ fY.nd rfl (by w_left) (@aF _ _ _ _ _ _ _ _ _ _ o0h hr rfl (@bE _ _ _ (@bJ _ _ _ _ _ _ _ (pv 0)) (by rfl)) (by decide) (by rfl) (by rfl)) (by rfl) (by w_means)) (@aC _ _ _ (@aM _ _ _ _ (@MJ _ _ _ _ _ _ (@eL _ _ _ _ _ (@xT _ _ _ _ (pv 1)) (@eL _ _ _ _ _ (@aH _ _ _ _) (@eL _ _ _ _ _ (@xT _ _ _ _ (pv 2)) (@uA _)))) (by decide))))))),?_⟩
  have hn:=ht.num
  have hd:=ht.den
  have l1:=(eN (by omega:0<=t.num) hn.2).2
  have l2:=(eN (by omega:0<=(t.den:Int)) hd.2).2
  have e0:∀ z:Str,Str.empty++z=z:=fun z=>jM (by show ((#[]:Array Nat)++z.cps).toList=_; simp)
  have es:Str.ofString "/"=⟨#[47]⟩:=by decide +kernel
  w_fin
  refine ⟨t.num,rfl,by omega,hn.2,?_⟩
  w_fin
  refine lJ (fun c1=>?_) (fun c1=>?_)
  ·w_fin
   rw [show gK t=cY t.num from if_pos (by omega)] at q
   exact q
  w_fin
  refine ⟨(t.den:Int),rfl,by omega,hd.2,?_⟩
  w_fin
  refine FT (by omega) ?_
  refine wJ (by omega) ?_
  w_fin
  refine wJ (by decide) ?_
  w_fin
  refine FT (by omega) ?_
  refine wJ (by omega) ?_
  w_fin
  rw [show gK t=cY t.num++⟨#[47]⟩++cY (t.den:Int) from if_neg (by omega)] at q
  rw [e0,es]
  exact q
theorem qJ (T:Bl mg) (d:Df K mg "refuse_unless" hX ["holds","words"]) (W:XX K mg xt x1 x4 x5):bD P w K mg base (k+1) "refuse_unless" ["holds","words"] lP:=by
 refine bD.of d pV (fun vs H Q E h=>?_) (fun f cdv A outer s H vs Q E hr h=>?_)
 ·obtain ⟨v,rfl,_⟩:=h
  rfl
 ·obtain ⟨v,rfl,q⟩:=h
  refine ⟨_,(@aC _ _ _ (@bB _ _ _ _ _ _ _ _ (@gA _ _ _ _ (@fN _ _ _ (pv 0) (by intro _; rfl))) (@aA _ _ _ _ _ (@fA _ _) (@aC _ _ _ (@fA _ _))) (@aS _))),?_⟩
  w_fin
  exact q
theorem AY (T:Bl mg) (d:Df K mg "posts_in" kR ["words","told"]) (W:XX K mg xt x1 x4 x5) (o1i:bD P w K mg base k "is_post" ["thing"] (CZ K)) (o0c:bD P w K mg base k "refuse_unless" ["holds","words"] lP):bD P w K mg base (k+1) "posts_in" ["words","told"] (mJ K):=by
 refine bD.of d AD (fun vs H Q E h=>?_) (fun f cdv A outer s H vs Q E hr h=>?_)
 ·obtain ⟨v,l,ps,rfl,_⟩:=h
  rfl
 ·obtain ⟨v,l,ps,rfl,hl,hps,hn,q⟩:=h
  refine ⟨_,(@aA _ _ _ _ _ (@bO _ _ _ _ (@aF _ _ _ _ _ _ _ _ _ _ o0c hr rfl (@dZ _ _ _ _ _ (@aP _ _ _ _ _ _ _ _ _ (qR rfl) rfl T.z_all qT (@bE _ _ _ (@eF _ _ _ _ _ _ _ _ _ _ _ _ _ _ (@dD _ _ (sc:=aG kR) (N:=["words","told"]) (tn:=["word"]) (names:=[]) (is:=[]) rfl rfl (by decide +kernel) (by decide +kernel) rfl (by decide +kernel) rfl (by decide +kernel) (by decide +kernel) (by decide +kernel)) rfl (@dS _ _ _ _ (pv 1)) (fun _ _ _ _=>(@aU _ _ (i:=0) _ (show (["word"]:List Str).Nodup by decide +kernel) rfl (Or.inl rfl) (Or.inr rfl))) (fun _ _ _ _=>(@aF _ _ _ _ _ _ _ _ _ _ o1i hr rfl (@bE _ _ _ (pv 0) (by rfl)) (by decide) (by rfl) (by rfl))) (fun _ _ _ _=>(@cI _)) (by intro _; rfl)) (by rfl)) (by decide) (by decide) (by rfl) (by rfl)) (pv 0) (by rfl) (by rfl)) (by decide) (by rfl) (by rfl)) (by rfl)) (@aC _ _ _ (@aM _ _ _ _ (@bF _ _ _ _ _ _ _ _ _ dE rfl T.z_tuple fL (@bE _ _ _ (pv 1) (by rfl)) (by decide) (by decide) (by rfl) (by rfl))))),?_⟩
  have hml:(ps.map V.str).length=ps.length:=length_map _
  w_fin
  refine dR (cN.of hl) ?_
  refine mV (xs:=ps.map V.str) (by omega) (fun acc i ys G=>Kp acc H G/\ys=(List.replicate i true).map V.bl) (fun acc h0=>⟨Kp.new h0,rfl⟩) ?_ ?_ ?_
  ·intro acc i ys G h0 _ ⟨kp,_⟩
   exact cN.of (kp _ _ (aB hl h0) hl)
  ·intro acc i ys G x h0 hx hyl hG ⟨kp,e⟩
   rw [List.getElem?_map] at hx
   cases hy:ps[i]? with
  |none=>rw [hy] at hx; cases hx
  |some y =>
    rw [hy] at hx
    cases (Option.some.inj hx:V.str y=x)
    w_fin
    refine ⟨_,true,rfl,(hps y (mem_of_getElem? hy)).q,fun G1 t1=>?_⟩
    have hi:i < ps.length:=(List.getElem?_eq_some_iff.mp hy).1
    refine eS (by omega) hyl (t1 _ _ hG) ⟨Kp.trans (Kp.trans kp t1.kp) Kp.upd,?_⟩
    rw [e,List.replicate_succ',map_append]
    rfl
  intro acc ys G h0 hG hyl ⟨kp,e⟩
  subst e
  have sG:aI H G:=fun b o h=>kp _ _ (aB h h0) h
  have gG:=sG _ _ hl
  w_fin
  refine qC hG ?_
  rw [show (List.replicate (ps.map V.str).length true).all id=true by rw [all_eq_true]; intro b hb; rw [List.eq_of_mem_replicate hb]; rfl]
  w_fin
  refine ⟨v,rfl,?_⟩
  w_fin
  refine ⟨l,_,rfl,.inl ⟨cN.of gG,fun p hp=>?_⟩⟩
  w_fin
  exact q p _ (sG.trans (aI.new hp)) aE
theorem DR (T:Bl mg) (d:Df K mg "time_in" pY ["words","word"]) (W:XX K mg xt x1 x4 x5) (o0c:bD P w K mg base k "refuse_unless" ["holds","words"] lP) (o0q:bD P w K mg base k "read_time" ["word"] FG):bD P w K mg base (k+1) "time_in" ["words","word"] sS:=by
 refine bD.of d tF (fun vs H Q E h=>?_) (fun f cdv A outer s H vs Q E hr h=>?_)
 ·obtain ⟨v,t,rfl,_⟩:=h
  rfl
 ·obtain ⟨v,t,rfl,ht,q⟩:=h
  refine ⟨_,(@aA _ _ _ _ _ (@aO _ _ (i:=2) _ _ _ _ tF.nd rfl (by w_left) (@aF _ _ _ _ _ _ _ _ _ _ o0q hr rfl (@bE _ _ _ (pv 1) (by rfl)) (by decide) (by rfl) (by rfl)) (by rfl) (by w_means)) (@aA _ _ _ _ _ (@bO _ _ _ _ (@aF _ _ _ _ _ _ _ _ _ _ o0c hr rfl (@dZ _ _ _ _ _ (@cO _ _ _ _ _ _ _ _ oQ (pv 2) (@fO _ _ _) (aL _)) (pv 0) (by rfl) (by rfl)) (by decide) (by rfl) (by rfl)) (by rfl)) (@aC _ _ _ (@aM _ _ _ _ (pv 2))))),?_⟩
  w_fin
  refine ⟨t,rfl,ht,fun u H1 s1 fu=>?_⟩
  obtain ⟨p,rfl,hp⟩:=id fu
  w_fin
  refine ⟨v,rfl,?_⟩
  w_fin
  exact q _ _ s1 fu
theorem IA (T:Bl mg) (d:Df K mg "run_in" tK ["words"]) (W:XX K mg xt x1 x4 x5) (o1f:bD P w K mg base k "time_in" ["words","word"] sS) (o1a:bD P w K mg base k "posts_in" ["words","told"] (mJ K)) (o0c:bD P w K mg base k "refuse_unless" ["holds","words"] lP):bD P w K mg base (k+1) "run_in" ["words"] (FE K):=by
 refine bD.of d wI (fun vs H Q E h=>?_) (fun f cdv A outer s H vs Q E hr h=>?_)
 ·obtain ⟨l,a,b,t,rfl,_⟩:=h
  rfl
 ·obtain ⟨l,a,b,t,rfl,hl,ha,hb,ht,q⟩:=h
  refine ⟨_,(@aA _ _ _ _ _ (@bO _ _ _ _ (@aF _ _ _ _ _ _ _ _ _ _ o0c hr rfl (@dZ _ _ _ _ _ (@cO _ _ _ _ _ _ _ _ (aY hr.units) (@aP _ _ _ _ _ _ _ _ _ dF rfl T.z_len bX (@bE _ _ _ (pv 0) (by rfl)) (by decide) (by decide) (by rfl) (by rfl)) (@aD _ _ _ _) (aL _)) (pv 0) (by rfl) (by rfl)) (by decide) (by rfl) (by rfl)) (by rfl)) (@aA _ _ _ _ _ (@aO _ _ (i:=1) _ _ _ _ wI.nd rfl (by w_left) (@aF _ _ _ _ _ _ _ _ _ _ o1a hr rfl (@dZ _ _ _ _ _ (pv 0) (@bI _ _ _ _ _ _ _ _ _ _ dB (pv 0) (@bV _ _ _ (@aD _ _ _ _)) (@bV _ _ _ (@aD _ _ _ _))) (by rfl) (by rfl)) (by decide) (by rfl) (by rfl)) (by rfl) (by w_means)) (@aC _ _ _ (@aM _ _ _ _ (@bM _ _ _ _ _ (@eG _ _ _ _ _ (@aH _ _ _ _) (@kC _ _ _ _ _ _ _ (@bJ _ _ _ _ _ _ _ (pv 1)) (@bJ _ _ _ _ _ _ _ (pv 1)) (@aF _ _ _ _ _ _ _ _ _ _ o1f hr rfl (@dZ _ _ _ _ _ (pv 0) (@bJ _ _ _ _ _ _ _ (pv 0)) (by rfl) (by rfl)) (by decide) (by rfl) (by rfl)) (by rfl) (by rfl) (by rfl)) (by rfl))))))),?_⟩
  replace hl:H l=some (.lst [.str "run",.str a,.str b,.str (gK t)]):=hl
  have hl4:([V.str "run",.str a,.str b,.str (gK t)]:List V).length=4:=rfl
  w_fin
  refine ⟨_,rfl,?_⟩
  w_fin
  refine iY hl fun l1 hl1=>?_
  obtain ⟨H1,zE,s1,g1⟩:=jK hl1 (.lst (fP [.str "run",.str a,.str b,.str (gK t)] (some 1) (some 3)))
  rw [zE]
  replace g1:H1 l1=some (.lst ([a,b].map V.str)):=g1
  w_fin
  refine ⟨_,l1,[a,b],rfl,g1,fun s hs=>?_,(by show 2<=100; decide),fun p H2 s2 hp=>?_⟩
  ·rcases mem_cons.mp hs with rfl|hs
   ·exact ha
   ·rw [mem_singleton.mp hs]; exact hb
  replace hp:H2 p=some (.tup [.str a,.str b]):=hp
  have hl2:=s2 _ _ (s1 _ _ hl)
  w_fin
  refine ⟨_,t,rfl,ht,fun v H3 s3 fv=>?_⟩
  w_fin
  refine dJ fun p9 hp9=>?_
  w_fin
  exact q _ _ (((s1.trans s2).trans s3).trans (aI.new hp9)) ⟨p9,v,rfl,aE,fv.tk (TK.new hp9)⟩
theorem rN (T:Bl mg) (d:Df K mg "posts_row_in" iV ["words"]) (W:XX K mg xt x1 x4 x5) {ad_FEWEST_POSTS:Addr} (gd_FEWEST_POSTS:mg "FEWEST_POSTS"=some (.ref ad_FEWEST_POSTS)) (kd_FEWEST_POSTS:CD P w K ad_FEWEST_POSTS [(Sum.inr "row",.int 2),(Sum.inr "star",.int 2),(Sum.inr "ring",.int 3)]) (o1a:bD P w K mg base k "posts_in" ["words","told"] (mJ K)) (o1f:bD P w K mg base k "time_in" ["words","word"] sS) (o0c:bD P w K mg base k "refuse_unless" ["holds","words"] lP):bD P w K mg base (k+1) "posts_row_in" ["words"] (sV K):=by
 refine bD.of d rJ (fun vs H Q E h=>?_) (fun f cdv A outer s H vs Q E hr h=>?_)
 ·obtain ⟨l,k,t,ps,rfl,_⟩:=h
  rfl
 ·obtain ⟨l,k,t,ps,rfl,hl,ok,q⟩:=h
  refine ⟨_,(@aA _ _ _ _ _ (@bO _ _ _ _ (@aF _ _ _ _ _ _ _ _ _ _ o0c hr rfl (@dZ _ _ _ _ _ (@cO _ _ _ _ _ _ _ _ wM (@aP _ _ _ _ _ _ _ _ _ dF rfl T.z_len bX (@bE _ _ _ (pv 0) (by rfl)) (by decide) (by decide) (by rfl) (by rfl)) (@aJ _ _ _ _ _ _ _ _ aV (@aD _ _ _ _) (@QQ _ _ _ _ _ _ _ _ rfl gd_FEWEST_POSTS kd_FEWEST_POSTS (@bJ _ _ _ _ _ _ _ (pv 0)) (fun _ _=>rfl) (by decide))) (aL _)) (pv 0) (by rfl) (by rfl)) (by decide) (by rfl) (by rfl)) (by rfl)) (@aC _ _ _ (@aM _ _ _ _ (@bM _ _ _ _ _ (@kC _ _ _ _ _ _ _ (@bJ _ _ _ _ _ _ _ (pv 0)) (@aF _ _ _ _ _ _ _ _ _ _ o1f hr rfl (@dZ _ _ _ _ _ (pv 0) (@bJ _ _ _ _ _ _ _ (pv 0)) (by rfl) (by rfl)) (by decide) (by rfl) (by rfl)) (@aF _ _ _ _ _ _ _ _ _ _ o1a hr rfl (@dZ _ _ _ _ _ (pv 0) (@bI _ _ _ _ _ _ _ _ _ _ dB (pv 0) (@bV _ _ _ (@aD _ _ _ _)) (@cC _)) (by rfl) (by rfl)) (by decide) (by rfl) (by rfl)) (by rfl) (by rfl) (by rfl)))))),?_⟩
  obtain ⟨h1,h2,h3,h4,h5⟩:=ok
  replace hl:H l=some (.lst (.str k.nm::.str (gK t)::ps.map V.str)):=hl
  have hl4:(V.str k.nm::.str (gK t)::ps.map V.str:List V).length=ps.length+2:=by rw [length_cons,length_cons,length_map]
  have a0:fM (V.str k.nm::.str (gK t)::ps.map V.str) 0=some (.str k.nm):=show fM _ ((0:Nat):Int)=_ from aX rfl
  have a1:fM (V.str k.nm::.str (gK t)::ps.map V.str) 1=some (.str (gK t)):=show fM _ ((1:Nat):Int)=_ from aX rfl
  w_fin
  refine bH hl a0 ?_
  refine Cm (GO k) ?_
  w_fin
  have hk:Ht k<=(ps.length:Int):=by
   cases k with
  |ring=>have:=h5 rfl; show (3:Int)<=_; omega
  |row=>show (2:Int)<=_; omega
  |star=>show (2:Int)<=_; omega
  rw [show decide (2+Ht k<=((V.str k.nm::.str (gK t)::ps.map V.str:List V).length:Int))=true from decide_eq_true (by omega)]
  refine ⟨_,rfl,?_⟩
  w_fin
  refine bH hl a0 ?_
  w_fin
  refine bH hl a1 ?_
  w_fin
  refine ⟨_,t,rfl,h2,fun v H1 s1 fv=>?_⟩
  have hl1:=s1 _ _ hl
  w_fin
  refine iY hl1 fun l2 hl2=>?_
  rw [show fP (V.str k.nm::.str (gK t)::ps.map V.str) (some 2) none=ps.map V.str from gY (xs:=V.str k.nm::.str (gK t)::ps.map V.str) 2 (by omega)]
  obtain ⟨H2,zE,s2,g2⟩:=jK hl2 (.lst (ps.map V.str))
  rw [zE]
  w_fin
  refine ⟨_,l2,ps,rfl,g2,h1,by omega,fun p H3 s3 hp=>?_⟩
  w_fin
  refine dJ fun p9 hp9=>?_
  w_fin
  have s9:=aI.new (o:=.tup [.str k.nm,v,.ref p]) hp9
  exact q _ _ (((s1.trans s2).trans s3).trans s9) ⟨p9,v,p,rfl,aE,((fv.tk s2.tk).tk s3.tk).tk s9.tk,s9 _ _ hp⟩
theorem IB (T:Bl mg) (d:Df K mg "put_in" tL ["words","counts"]) (W:XX K mg xt x1 x4 x5) (o1a:bD P w K mg base k "posts_in" ["words","told"] (mJ K)) (o0c:bD P w K mg base k "refuse_unless" ["holds","words"] lP) (o1h:bD P w K mg base k "is_part" ["text"] xC):bD P w K mg base (k+1) "put_in" ["words","counts"] (FH K):=by
 refine bD.of d HM (fun vs H Q E h=>?_) (fun f cdv A outer s H vs Q E hr h=>?_)
 ·obtain ⟨l,d,kd,nm,cl,as,rfl,_⟩:=h
  rfl
 ·obtain ⟨l,d,kd,nm,cl,as,rfl,hl,hd,hv,hcl,has,hn,q⟩:=h
  refine ⟨_,(@aA _ _ _ _ _ (@bO _ _ _ _ (@aF _ _ _ _ _ _ _ _ _ _ o0c hr rfl (@dZ _ _ _ _ _ (@jA _ _ _ _ _ _ _ (@cO _ _ _ _ _ _ _ _ wM (@aP _ _ _ _ _ _ _ _ _ dF rfl T.z_len bX (@bE _ _ _ (pv 0) (by rfl)) (by decide) (by decide) (by rfl) (by rfl)) (@aD _ _ _ _) (aL _)) (@jA _ _ _ _ _ _ _ (@ML _ _ _ _ _ _ (@YJ _ _ _ _ _ hr.u1 (@bJ _ _ _ _ _ _ _ (pv 0)) (pv 1)) (by first|exact nobehind _ (by decide) (by decide)|rfl)) (@lB _ _ _ _ _ (@aF _ _ _ _ _ _ _ _ _ _ o1h hr rfl (@bE _ _ _ (@bJ _ _ _ _ _ _ _ (pv 0)) (by rfl)) (by decide) (by rfl) (by rfl))))) (pv 0) (by rfl) (by rfl)) (by decide) (by rfl) (by rfl)) (by rfl)) (@aA _ _ _ _ _ (@bO _ _ _ _ (@aF _ _ _ _ _ _ _ _ _ _ o0c hr rfl (@dZ _ _ _ _ _ (@cO _ _ _ _ _ _ _ _ (aY hr.units) (@aJ _ _ _ _ _ _ _ _ xV (@aP _ _ _ _ _ _ _ _ _ dF rfl T.z_len bX (@bE _ _ _ (pv 0) (by rfl)) (by decide) (by decide) (by rfl) (by rfl)) (@aD _ _ _ _)) (@cH _ _ _ _ _ _ hr.u1 (pv 1) (@bJ _ _ _ _ _ _ _ (pv 0)) (fun _ _=>rfl)) (aL _)) (pv 0) (by rfl) (by rfl)) (by decide) (by rfl) (by rfl)) (by rfl)) (@aC _ _ _ (@aM _ _ _ _ (@bM _ _ _ _ _ (@eG _ _ _ _ _ (@aH _ _ _ _) (@kC _ _ _ _ _ _ _ (@bJ _ _ _ _ _ _ _ (pv 0)) (@bJ _ _ _ _ _ _ _ (pv 0)) (@aF _ _ _ _ _ _ _ _ _ _ o1a hr rfl (@dZ _ _ _ _ _ (pv 0) (@bI _ _ _ _ _ _ _ _ _ _ dB (pv 0) (@bV _ _ _ (@aD _ _ _ _)) (@cC _)) (by rfl) (by rfl)) (by decide) (by rfl) (by rfl)) (by rfl) (by rfl) (by rfl)) (by rfl))))))),?_⟩
  replace hl:H l=some (.lst (.str "put"::.str nm::.str cl::as.map V.str)):=hl
  have hl4:(V.str "put"::.str nm::.str cl::as.map V.str:List V).length=as.length+3:=by rw [length_cons,length_cons,length_cons,length_map]
  have cl8:=(cT hcl).2.1
  have a1:fM (V.str "put"::.str nm::.str cl::as.map V.str) 1=some (.str nm):=show fM _ ((1:Nat):Int)=_ from aX rfl
  have a2:fM (V.str "put"::.str nm::.str cl::as.map V.str) 2=some (.str cl):=show fM _ ((2:Nat):Int)=_ from aX rfl
  w_fin
  refine bH hl a1 ?_
  w_fin
  refine Dc (.inl hd) ?_
  rw [hv]
  w_fin
  refine bH hl a2 ?_
  w_fin
  refine ⟨cl,rfl,by omega,fun H1 s1=>?_⟩
  rw [hcl]
  w_fin
  refine ⟨_,rfl,?_⟩
  have hl1:=s1 _ _ hl
  w_fin
  refine bH hl1 a1 ?_
  w_fin
  refine eQ (.inl (s1 _ _ hd)) hv ?_
  w_fin
  rw [show decide (((V.str "put"::.str nm::.str cl::as.map V.str).length:Int) - 3=(as.length:Int))=true from decide_eq_true (by omega)]
  refine ⟨_,rfl,?_⟩
  w_fin
  refine bH hl1 a1 ?_
  w_fin
  refine bH hl1 a2 ?_
  w_fin
  refine iY hl1 fun l2 hl2=>?_
  rw [show fP (V.str "put"::.str nm::.str cl::as.map V.str) (some 3) none=as.map V.str from gY (xs:=V.str "put"::.str nm::.str cl::as.map V.str) 3 (by omega)]
  obtain ⟨H2,zE,s2,g2⟩:=jK hl2 (.lst (as.map V.str))
  rw [zE]
  w_fin
  refine ⟨_,l2,as,rfl,g2,has,by omega,fun p H3 s3 hp=>?_⟩
  w_fin
  refine dJ fun p9 hp9=>?_
  w_fin
  have s9:=aI.new (o:=.tup [.str "put",.str nm,.str cl,.ref p]) hp9
  exact q _ _ (((s1.trans s2).trans s3).trans s9) ⟨p9,p,rfl,aE,s9 _ _ hp⟩
theorem rO (T:Bl mg) (d:Df K mg "plain_row_in" iW ["words","counts"]) (W:XX K mg xt x1 x4 x5) {ad_FEWEST_POSTS:Addr} (gd_FEWEST_POSTS:mg "FEWEST_POSTS"=some (.ref ad_FEWEST_POSTS)) (kd_FEWEST_POSTS:CD P w K ad_FEWEST_POSTS [(Sum.inr "row",.int 2),(Sum.inr "star",.int 2),(Sum.inr "ring",.int 3)]) (o1n:bD P w K mg base k "put_in" ["words","counts"] (FH K)) (o0c:bD P w K mg base k "refuse_unless" ["holds","words"] lP) (o0f:bD P w K mg base k "posts_row_in" ["words"] (sV K)) (o1q:bD P w K mg base k "run_in" ["words"] (FE K)):bD P w K mg base (k+1) "plain_row_in" ["words","counts"] (pT K):=by
 refine bD.of d rK (fun vs H Q E h=>?_) (fun f cdv A outer s H vs Q E hr h=>?_)
 ·obtain ⟨l,d,E,r,rfl,_⟩:=h
  rfl
 ·obtain ⟨l,d,E,r,rfl,hl,hd,hw,q⟩:=h
  refine ⟨_,(@aA _ _ _ _ _ (@bB _ _ _ _ _ _ _ _ (@aK _ _ _ _ _ _ _ _ (aY hr.units) (@bJ _ _ _ _ _ _ _ (pv 0)) (@aH _ _ _ _) (aL _)) (@aC _ _ _ (@aM _ _ _ _ (@aF _ _ _ _ _ _ _ _ _ _ o1q hr rfl (@bE _ _ _ (pv 0) (by rfl)) (by decide) (by rfl) (by rfl)))) (@aS _)) (@aA _ _ _ _ _ (@bB _ _ _ _ _ _ _ _ (@YA _ _ _ _ _ _ (@YI _ _ _ _ _ _ _ rfl gd_FEWEST_POSTS kd_FEWEST_POSTS (@bJ _ _ _ _ _ _ _ (pv 0)) (by decide)) (by first|exact nobehind _ (by decide) (by decide)|rfl)) (@aC _ _ _ (@aM _ _ _ _ (@aF _ _ _ _ _ _ _ _ _ _ o0f hr rfl (@bE _ _ _ (pv 0) (by rfl)) (by decide) (by rfl) (by rfl)))) (@aS _)) (@aA _ _ _ _ _ (@bO _ _ _ _ (@aF _ _ _ _ _ _ _ _ _ _ o0c hr rfl (@dZ _ _ _ _ _ (@cO _ _ _ _ _ _ _ _ (aY hr.units) (@bJ _ _ _ _ _ _ _ (pv 0)) (@aH _ _ _ _) (aL _)) (pv 0) (by rfl) (by rfl)) (by decide) (by rfl) (by rfl)) (by rfl)) (@aC _ _ _ (@aM _ _ _ _ (@aF _ _ _ _ _ _ _ _ _ _ o1n hr rfl (@dZ _ _ _ _ _ (pv 0) (pv 1) (by rfl) (by rfl)) (by decide) (by rfl) (by rfl))))))),?_⟩
  cases r with
 |plain r =>
   cases r with
  |run a b t =>
    have hl':H l=some (.lst [.str "run",.str a,.str b,.str (gK t)]):=hl
    w_fin
    exact ⟨l,a,b,t,rfl,hl,hw.1,hw.2.1,hw.2.2,fun v H' s rq=>q v H' s rq⟩
  |path k t ps =>
    have hl':H l=some (.lst (.str k.nm::.str (gK t)::ps.map V.str)):=hl
    have a0:fM (V.str k.nm::.str (gK t)::ps.map V.str) 0=some (.str k.nm):=show fM _ ((0:Nat):Int)=_ from aX rfl
    have nr:(k.nm==Str.ofString "run")=false:=by cases k <;> decide +kernel
    w_fin
    refine bH hl' a0 ?_
    w_fin
    rw [if_neg (show ¬ (k.nm==Str.ofString "run")=true by rw [nr]; decide)]
    w_fin
    refine bH hl' a0 ?_
    refine TW (b:=true) (by show (dA Go _).isSome=_; rw [GO k]; rfl) ?_
    w_fin
    exact ⟨l,k,t,ps,rfl,hl,hw,fun v H' s rq=>q v H' s rq⟩
 |put nm cl as =>
   have hl':H l=some (.lst (.str "put"::.str nm::.str cl::as.map V.str)):=hl
   have a0:fM (V.str "put"::.str nm::.str cl::as.map V.str) 0=some (.str "put"):=show fM _ ((0:Nat):Int)=_ from aX rfl
   obtain ⟨w1,w2,w3,x,hx,rfl,wl⟩:=hw
   obtain ⟨kd,hk,_,hv,_⟩:=hd
   w_fin
   refine bH hl' a0 ?_
   w_fin
   refine bH hl' a0 ?_
   refine TW (b:=false) (by show (dA Go _).isSome=_; rw [ZL]; rfl) ?_
   w_fin
   refine bH hl' a0 ?_
   w_fin
   refine ⟨_,rfl,?_⟩
   w_fin
   exact ⟨l,d,kd,x.1,cl,as,rfl,hl,hk,by rw [hv x hx,wl],w1,w2,w3,q⟩
theorem AZ (T:Bl mg) (d:Df K mg "piece_in" iX ["lines","counts"]) (W:XX K mg xt x1 x4 x5) {tk_MOST_PARAMS:Tok} (g_MOST_PARAMS:mg "MOST_PARAMS"=some (.int 8 tk_MOST_PARAMS)) (o0e:bD P w K mg base k "plain_row_in" ["words","counts"] (pT K)) (o0c:bD P w K mg base k "refuse_unless" ["holds","words"] lP) (o1h:bD P w K mg base k "is_part" ["text"] xC):bD P w K mg base (k+1) "piece_in" ["lines","counts"] (wC K):=by
 refine bD.of d lQ (fun vs H Q E h=>?_) (fun f cdv A outer s H vs Q E hr h=>?_)
 ·obtain ⟨l,d,E,x,rfl,_⟩:=h
  rfl
 ·obtain ⟨l,d,E,x,rfl,hl,hd,hw,h60,q⟩:=h
  refine ⟨_,(@aA _ _ _ _ _ (@aO _ _ (i:=2) _ _ _ _ lQ.nd rfl (by w_left) (@bJ _ _ _ _ _ _ _ (pv 0)) (by rfl) (by w_means)) (@aA _ _ _ _ _ (@aO _ _ (i:=3) _ _ _ _ lQ.nd rfl (by w_left) (@bI _ _ _ _ _ _ _ _ _ _ dB (pv 2) (@bV _ _ _ (@aD _ _ _ _)) (@cC _)) (by rfl) (by w_means)) (@aA _ _ _ _ _ (@bO _ _ _ _ (@aF _ _ _ _ _ _ _ _ _ _ o0c hr rfl (@dZ _ _ _ _ _ (@jA _ _ _ _ _ _ _ (@uB _ _ _ _ _ _ _ _ _ _ _ _ oR oR (@aD _ _ _ _) (@aP _ _ _ _ _ _ _ _ _ dF rfl T.z_len bX (@bE _ _ _ (pv 3) (by rfl)) (by decide) (by decide) (by rfl) (by rfl)) (@eC _ _ (v:=(.int 8)) _ _ rfl g_MOST_PARAMS ⟨_,rfl⟩ (by decide)) (by with_unfolding_all rfl)) (@lB _ _ _ _ _ (@aP _ _ _ _ _ _ _ _ _ (qR rfl) rfl T.z_all qT (@bE _ _ _ (@eF _ _ _ _ _ _ _ _ _ _ _ _ _ _ (@dD _ _ (sc:=aG iX) (N:=["lines","counts","words","params"]) (tn:=["word"]) (names:=[]) (is:=[]) rfl rfl (by decide +kernel) (by decide +kernel) rfl (by decide +kernel) rfl (by decide +kernel) (by decide +kernel) (by decide +kernel)) rfl (@dS _ _ _ _ (@bI _ _ _ _ _ _ _ _ _ _ dB (pv 2) (@bV _ _ _ (@aD _ _ _ _)) (@cC _))) (fun _ _ _ _=>(@aU _ _ (i:=0) _ (show (["word"]:List Str).Nodup by decide +kernel) rfl (Or.inl rfl) (Or.inr rfl))) (fun _ _ _ _=>(@aF _ _ _ _ _ _ _ _ _ _ o1h hr rfl (@bE _ _ _ (pv 0) (by rfl)) (by decide) (by rfl) (by rfl))) (fun _ _ _ _=>(@cI _)) (by intro _; rfl)) (by rfl)) (by decide) (by decide) (by rfl) (by rfl)))) (pv 2) (by rfl) (by rfl)) (by decide) (by rfl) (by rfl)) (by rfl)) (@aA _ _ _ _ _ (@bO _ _ _ _ (@aF _ _ _ _ _ _ _ _ _ _ o0c hr rfl (@dZ _ _ _ _ _ (@jA _ _ _ _ _ _ _ (@cO _ _ _ _ _ _ _ _ (aY hr.units) (@aP _ _ _ _ _ _ _ _ _ Aa rfl T.z_len bX (@bE _ _ _ (@bF _ _ _ _ _ _ _ _ _ (JK rfl) rfl T.z_set Ad (@bE _ _ _ (pv 3) (by rfl)) (by decide) (by decide) (by rfl) (by rfl)) (by rfl)) (by decide) (by decide) (by rfl) (by rfl)) (@aP _ _ _ _ _ _ _ _ _ dF rfl T.z_len bX (@bE _ _ _ (pv 3) (by rfl)) (by decide) (by decide) (by rfl) (by rfl)) (aL _)) (@lB _ _ _ _ _ (@ML _ _ _ _ _ _ (@HX _ _ _ _ _ hr.u1 (@bJ _ _ _ _ _ _ _ (pv 2)) (pv 1)) (by first|exact nobehind _ (by decide) (by decide)|rfl)))) (pv 2) (by rfl) (by rfl)) (by decide) (by rfl) (by rfl)) (by rfl)) (@aA _ _ _ _ _ (@bO _ _ _ _ (@aF _ _ _ _ _ _ _ _ _ _ o0c hr rfl (@dZ _ _ _ _ _ (@cO _ _ _ _ _ _ _ _ oS (@aP _ _ _ _ _ _ _ _ _ dF rfl T.z_len bX (@bE _ _ _ (pv 0) (by rfl)) (by decide) (by decide) (by rfl) (by rfl)) (@aD _ _ _ _) (aL _)) (pv 2) (by rfl) (by rfl)) (by decide) (by rfl) (by rfl)) (by rfl)) (@aC _ _ _ (@aM _ _ _ _ (@bM _ _ _ _ _ (@eG _ _ _ _ _ (@aH _ _ _ _) (@kC _ _ _ _ _ _ _ (@bJ _ _ _ _ _ _ _ (pv 2)) (@bF _ _ _ _ _ _ _ _ _ dE rfl T.z_tuple fL (@bE _ _ _ (pv 3) (by rfl)) (by decide) (by decide) (by rfl) (by rfl)) (@bF _ _ _ _ _ _ _ _ _ dE rfl T.z_tuple fL (@bE _ _ _ (@eF _ _ _ _ _ _ _ _ _ _ _ _ _ _ (@dD _ _ (sc:=aG iX) (N:=["lines","counts","words","params"]) (tn:=["line"]) (names:=["counts"]) (is:=[1]) rfl rfl (by decide +kernel) (by decide +kernel) rfl (by decide +kernel) rfl (by decide +kernel) (by decide +kernel) (by decide +kernel)) rfl (@dS _ _ _ _ (@bI _ _ _ _ _ _ _ _ _ _ dB (pv 0) (@bV _ _ _ (@aD _ _ _ _)) (@cC _))) (fun _ _ _ _=>(@aU _ _ (i:=0) _ (show (["line","counts"]:List Str).Nodup by decide +kernel) rfl (Or.inl rfl) (Or.inr rfl))) (fun _ _ _ _=>(@aF _ _ _ _ _ _ _ _ _ _ o0e hr rfl (@dZ _ _ _ _ _ (pv 0) (pv 1) (by rfl) (by rfl)) (by decide) (by rfl) (by rfl))) (fun _ _ _ _=>(@cI _)) (by intro _; rfl)) (by rfl)) (by decide) (by decide) (by rfl) (by rfl)) (by rfl) (by rfl) (by rfl)) (by rfl)))))))))),?_⟩
  obtain ⟨w1,w2,w3,w4,⟨w5,w6,w7⟩,w8⟩:=hw
  obtain ⟨vs,hvs,pv⟩:=hl
  obtain ⟨v0,vr,rfl,⟨a0,rfl,ha0⟩,pr⟩:∃ v0 vr,vs=v0::vr/\VC H v0 ("piece"::x.1::x.2.1)/\Paired (VC H) vr (x.2.2.map cM):=by
   cases pv with
  |cons h t=>exact ⟨_,_,rfl,h,t⟩
  replace ha0:H a0=some (.lst (.str "piece"::.str x.1::x.2.1.map V.str)):=ha0
  have hrl:=Paired.length pr
  rw [length_map] at hrl
  have rpos:1<=x.2.2.length:=length_pos_iff.mpr w2
  have hml:(V.str "piece"::.str x.1::x.2.1.map V.str:List V).length=x.2.1.length+2:=by rw [length_cons,length_cons,length_map]
  have hpl:(x.2.1.map V.str).length=x.2.1.length:=length_map _
  have i0:fM (V.ref a0::vr) 0=some (.ref a0):=show fM _ ((0:Nat):Int)=_ from aX rfl
  have i1:fM (V.str "piece"::.str x.1::x.2.1.map V.str) 1=some (.str x.1):=show fM _ ((1:Nat):Int)=_ from aX rfl
  obtain ⟨kd,hk,hkl,hkv,hkn⟩:=id hd
  w_fin
  refine bH hvs i0 ?_
  w_fin
  refine iY ha0 fun l1 hl1=>?_
  rw [show fP (V.str "piece"::.str x.1::x.2.1.map V.str) (some 2) none=x.2.1.map V.str from gY (xs:=V.str "piece"::.str x.1::x.2.1.map V.str) 2 (by omega)]
  obtain ⟨H1,zE,s1,g1⟩:=jK hl1 (.lst (x.2.1.map V.str))
  rw [zE]
  have ha1:=s1 _ _ ha0
  w_fin
  refine iY ha1 fun l2 hl2=>?_
  rw [show fP (V.str "piece"::.str x.1::x.2.1.map V.str) (some 1) none=(x.1::x.2.1).map V.str from gY (xs:=V.str "piece"::.str x.1::x.2.1.map V.str) 1 (by omega)]
  obtain ⟨H2,zE,s2,g2⟩:=jK hl2 (.lst ((x.1::x.2.1).map V.str))
  rw [zE]
  have hcl:((x.1::x.2.1).map V.str).length=x.2.1.length+1:=by rw [length_map,length_cons]
  refine dR (cN.of g2) ?_
  refine mV (xs:=(x.1::x.2.1).map V.str) (by omega) (fun acc i ys G=>Kp acc H2 G/\ys=(List.replicate i true).map V.bl) (fun acc h0=>⟨Kp.new h0,rfl⟩) ?_ ?_ ?_
  ·intro acc i ys G h0 _ ⟨kp,_⟩
   exact cN.of (kp _ _ (aB g2 h0) g2)
  ·intro acc i ys G y h0 hy hyl hG ⟨kp,e⟩
   rw [List.getElem?_map] at hy
   cases hz:(x.1::x.2.1)[i]? with
  |none=>rw [hz] at hy; cases hy
  |some z =>
    rw [hz] at hy
    cases (Option.some.inj hy:V.str z=y)
    have hzp:=w7 z (mem_of_getElem? hz)
    w_fin
    refine ⟨z,rfl,by have:=(cT hzp).2.1; omega,fun G1 t1=>?_⟩
    rw [hzp]
    have hi:i < (x.1::x.2.1).length:=(List.getElem?_eq_some_iff.mp hz).1
    refine eS (by rw [length_map]; exact hi) hyl (t1 _ _ hG) ⟨Kp.trans (Kp.trans kp t1.kp) Kp.upd,?_⟩
    rw [e,List.replicate_succ',map_append]
    rfl
  intro acc ys G h0 hG hyl ⟨kp,e⟩
  subst e
  have sG:aI H2 G:=fun b o h=>kp _ _ (aB h h0) h
  have s3:=(s1.trans s2).trans sG
  w_fin
  refine qC hG ?_
  rw [show (List.replicate ((x.1::x.2.1).map V.str).length true).all id=true by rw [all_eq_true]; intro b hb; rw [List.eq_of_mem_replicate hb]; rfl]
  w_fin
  refine ⟨_,rfl,?_⟩
  have g1G:=sG _ _ (s2 _ _ g1)
  have ha3:=s3 _ _ ha0
  w_fin
  refine WA g1G (by omega) fun l5 ys5 G5 hl5 s5 g5 nd5 mem5=>?_
  have e5:=RJ nd5 w4 mem5
  w_fin
  refine ⟨l5,ys5,rfl,g5,?_⟩
  have s35:=s3.trans s5
  have g15:=s5 _ _ g1G
  have ha5:=s35 _ _ ha0
  have hk5:=s35 _ _ hk
  w_fin
  refine bH ha5 i1 ?_
  w_fin
  refine Db (.inl hk5) ?_
  rw [hkn x.1 w8]
  w_fin
  refine ⟨_,rfl,?_⟩
  have hvs5:=s35 _ _ hvs
  have hvl:(V.ref a0::vr).length=x.2.2.length+1:=by rw [length_cons,hrl]
  w_fin
  rw [decide_eq_true (show (1:Int) < ((V.ref a0::vr).length:Int) by omega)]
  refine ⟨_,rfl,?_⟩
  w_fin
  refine bH ha5 i1 ?_
  w_fin
  refine ⟨l1,_,rfl,.inl ⟨cN.of g15,fun qa hqa=>?_⟩⟩
  obtain ⟨G6,zE,s6,g6⟩:=jK hqa (.tup (x.2.1.map V.str))
  rw [zE]
  have hvs6:=s6 _ _ hvs5
  w_fin
  refine iY hvs6 fun l7 hl7=>?_
  rw [show fP (V.ref a0::vr) (some 1) none=vr from gY (xs:=V.ref a0::vr) 1 (by omega)]
  obtain ⟨G7,zE,s7,g7⟩:=jK hl7 (.lst vr)
  rw [zE]
  have s37:=s35.trans (s6.trans s7)
  refine dR (cN.of g7) ?_
  refine mV (xs:=vr) (by omega) (fun acc i ys G=>Kp acc G7 G/\Paired (bQ G) ys (x.2.2.take i)) (fun acc h0=>⟨Kp.new h0,.nil⟩) ?_ ?_ ?_
  ·rintro acc i ys G h0 _ ⟨kp,_⟩
   exact cN.of (kp _ _ (aB g7 h0) g7)
  ·rintro acc i ys G y h0 hy hyl hG ⟨kp,pt⟩
   obtain ⟨ws,hws,a,rfl,ha⟩:=Paired.at pr hy
   rw [List.getElem?_map] at hws
   cases hr:x.2.2[i]? with
  |none=>rw [hr] at hws; cases hws
  |some r =>
    rw [hr] at hws
    cases (Option.some.inj hws:cM r=ws)
    have sG7:aI G7 G:=fun b o h=>kp _ _ (aB h h0) h
    have sHG:=s37.trans sG7
    w_fin
    refine ⟨a,d,E,r,rfl,sHG _ _ ha,hd.sm sHG,w1 r (mem_of_getElem? hr),fun v G8 s8 rq=>?_⟩
    have tk:=TK.lst (o:=.lst (ys++[v])) (s8 _ _ hG)
    refine eS (by have:=(List.getElem?_eq_some_iff.mp hy).1; exact this) hyl (s8 _ _ hG) ⟨(kp.trans s8.kp).trans Kp.upd,?_⟩
    rw [take_add_one,hr]
    exact Pd.snoc (Pd.imp pt fun v b f=>(bQ.tk f s8.tk).tk tk) (rq.tk tk)
  rintro acc ys G h0 hG hyl ⟨kp,pt⟩
  rw [hrl,take_length] at pt
  have sG7:aI G7 G:=fun b o h=>kp _ _ (aB h h0) h
  have sHG:=s37.trans sG7
  w_fin
  refine ⟨acc,_,rfl,.inl ⟨cN.of hG,fun p8 hp8=>?_⟩⟩
  obtain ⟨G8,zE,s8,g8⟩:=jK hp8 (.tup ys)
  rw [zE]
  w_fin
  refine dJ fun p9 hp9=>?_
  have s9:=aI.new (o:=.tup [.str "piece",.str x.1,.ref qa,.ref p8]) hp9
  w_fin
  exact q _ _ ((sHG.trans s8).trans s9) ⟨p9,qa,p8,ys,rfl,aE,s9 _ _ (s8 _ _ (sG7 _ _ (s7 _ _ g6))),s9 _ _ g8,Pd.imp pt fun v b f=>(bQ.tk f s8.tk).tk s9.tk⟩
theorem vO (T:Bl mg) (d:Df K mg "end_behind" kT ["lines","place"]) (W:XX K mg xt x1 x4 x5):bD P w K mg base (k+1) "end_behind" ["lines","place"] (KW K):=by
 refine bD.of d nB (fun vs H Q E h=>?_) (fun f cdv A outer s H vs Q E hr h=>?_)
 ·obtain ⟨l,ls,a,b,rfl,_⟩:=h
  rfl
 ·obtain ⟨l,ls,a,b,rfl,hl,hn,hab,he,hno,q⟩:=h
  refine ⟨_,(@aA _ _ _ _ _ (@fH _ _ _ _ _ _ _ _ PassesOwn.never rfl (@qH _ _ _ _ _ _ _ rfl T.z_range (@dZ _ _ _ _ _ (pv 1) (@aP _ _ _ _ _ _ _ _ _ dF rfl T.z_len bX (@bE _ _ _ (pv 0) (by rfl)) (by decide) (by decide) (by rfl) (by rfl)) (by rfl) (by rfl)) (by rfl) (by rfl)) (@aU _ _ (i:=2) _ nB.nd rfl (by w_left) (by w_means)) (@aC _ _ _ (@bB _ _ _ _ _ _ _ _ (@aK _ _ _ _ _ _ _ _ (aY hr.units) (@cD _ _ _ _ _ _ _ eB (pv 0) (pv 2) (fun _ _=>rfl)) (@bC _ _ _ _ (@bE _ _ _ (@aH _ _ _ _) (by rfl))) (aL _)) (@aC _ _ _ (@aM _ _ _ _ (pv 2))) (@aS _))) (by intro _; rfl)) (@aC _ _ _ (@fA _ _))),?_⟩
  obtain ⟨vs,hvs,pv⟩:=hl
  have hvl:=Paired.length pv
  have hb:b < ls.length:=(List.getElem?_eq_some_iff.mp he).1
  w_fin
  refine oK (by omega) (by omega) (by omega) (by omega) ?_
  refine jY (n:=((vs.length:Int) - (a:Int)).toNat) (fun i σ G=>∃ (o2:Option V),σ=[some (.ref l),some (.int (a:Int)),o2]/\aI H G/\a+i<=b) ⟨_,rfl,aI.refl _,hab⟩ ?_ ?_
  ·rintro i σ G hi ⟨o2,rfl,sG,hib⟩
   obtain ⟨ws,hws⟩:∃ ws,ls[a+i]?=some ws:=⟨_,List.getElem?_eq_getElem (by omega)⟩
   obtain ⟨v,hv⟩:∃ v,vs[a+i]?=some v:=⟨_,List.getElem?_eq_getElem (by omega)⟩
   obtain ⟨ws',hws',a1,rfl,ha1⟩:=Paired.at pv hv
   rw [hws] at hws'
   cases hws'
   w_fin
   rw [show ((a:Int)+(i:Int))=((a+i:Nat):Int) by omega]
   refine bH (sG _ _ hvs) (aX hv) ?_
   w_fin
   refine bW fun l9 G9 hl9 s9 g9=>?_
   refine yQ (xs:=ws) (ys:=[("end":Str)]) (s9 _ _ (sG _ _ ha1)) g9 ?_
   by_cases e:ws=[("end":Str)]
   ·have hj:a+i=b:=by
     rcases lt_or_ge (a+i) b with h|h
     ·exact absurd e (hno _ (by omega) h ws hws)
     ·omega
    rw [decide_eq_true e]
    w_fin
    rw [hj]
    exact q _ (sG.trans s9)
   ·rw [decide_eq_false e]
    w_fin
    refine ⟨_,rfl,sG.trans s9,?_⟩
    rcases lt_or_ge (a+i) b with h|h
    ·omega
    ·have:a+i=b:=by omega
     rw [this,he] at hws
     exact absurd (Option.some.inj hws).symm e
  rintro σ G ⟨o2,rfl,sG,hib⟩
  omega
theorem BB (T:Bl mg) (d:Df K mg "lines_in" kS ["text"]) (W:XX K mg xt x1 x4 x5) {tk_MOST_ROWS:Tok} (g_MOST_ROWS:mg "MOST_ROWS"=some (.int 60 tk_MOST_ROWS)):bD P w K mg base (k+1) "lines_in" ["text"] (wG K):=by
 refine bD.of d rC (fun vs H Q E h=>?_) (fun f cdv A outer s H vs Q E hr h=>?_)
 ·obtain ⟨ls,rfl,_⟩:=h
  rfl
 ·obtain ⟨ls,rfl,hne,hn,hw,hz,q⟩:=h
  refine ⟨_,(@aA _ _ _ _ _ (@bB _ _ _ _ _ _ _ _ (@gA _ _ _ _ (@fN _ _ _ (@aP _ _ _ _ _ _ _ _ _ (fU (T:="str")) rfl T.z_isinstance bU (@dZ _ _ _ _ _ (pv 0) (@iJ _ _ (v:=.ty "str") _ _ rfl T.z_str qS rfl (by decide) (by decide)) (by rfl) (by rfl)) (by decide) (by decide) (by rfl) (by rfl)) (by intro _; rfl))) (@aC _ _ _ (@fA _ _)) (@aS _)) (@aA _ _ _ _ _ (@xQ _ _ _ _ _ _ _ _ _ _ _ _ _ _ (i:=1) _ _ _ rC.nd rfl (by w_left) (@dD _ _ (sc:=aG kS) (N:=["text","lines"]) (tn:=["line"]) (names:=[]) (is:=[]) rfl rfl (by decide +kernel) (by decide +kernel) rfl (by decide +kernel) rfl (by decide +kernel) (by decide +kernel) (by decide +kernel)) rfl (@dS _ _ _ _ (@cP _ _ _ _ _ _ _ _ _ _ _ _ plainAttrs_str slot_str_split type_str_split jE (pv 0) (@bE _ _ _ (@aH _ _ _ _) (by rfl)) (by rfl) (by rfl) (by rfl) (by rfl) (by rfl))) (fun _ _ _ _=>(@aU _ _ (i:=0) _ (show (["line"]:List Str).Nodup by decide +kernel) rfl (Or.inl rfl) (Or.inr rfl))) (fun _ _ _ _=>(@xU _ _ _ _ _ _ _ _ _ _ _ _ _ _ _ _ _ _ _ plainAttrs_str slot_str_split type_str_split jE (pv 0) (@bE _ _ _ (@aH _ _ _ _) (by rfl)) (by rfl) (by rfl) (by rfl) (by rfl) (by rfl))) (fun _ _ _ _=>(@cI _)) (by intro _; rfl) (by rfl) (by w_means)) (@aA _ _ _ _ _ (@bB _ _ _ _ _ _ _ _ (@aK _ _ _ _ _ _ _ _ oS (@aP _ _ _ _ _ _ _ _ _ dF rfl T.z_len bX (@bE _ _ _ (pv 1) (by rfl)) (by decide) (by decide) (by rfl) (by rfl)) (@eC _ _ (v:=(.int 60)) _ _ rfl g_MOST_ROWS ⟨_,rfl⟩ (by decide)) (aL _)) (@aC _ _ _ (@fA _ _)) (@aS _)) (@aC _ _ _ (@aM _ _ _ _ (pv 1)))))),?_⟩
  have e1:=sQ hne fun ws hws=>(hw ws hws).2.1
  w_fin
  refine dX (.str _) rE ?_
  w_fin
  refine kW (z:=fR ls) (y:=DC) (by decide +kernel) hz fun l1 hl1=>?_
  rw [e1]
  have hml:((ls.map (Str.join kN)).map V.str).length=ls.length:=by rw [length_map,length_map]
  obtain ⟨H1,zE,s1,g1⟩:=jK hl1 (.lst ((ls.map (Str.join kN)).map V.str))
  rw [zE]
  refine dR (cN.of g1) ?_
  refine mV (xs:=(ls.map (Str.join kN)).map V.str) (by omega) (fun acc i ys G=>Kp acc H1 G/\Paired (VC G) ys (ls.take i)/\∀ v∈ys,v≠.ref acc) (fun acc h0=>⟨Kp.new h0,.nil,fun _ h=>nomatch h⟩) ?_ ?_ ?_
  ·rintro acc i ys G h0 _ ⟨kp,_⟩
   exact cN.of (kp _ _ (aB g1 h0) g1)
  ·rintro acc i ys G y h0 hy hyl hG ⟨kp,pt,hna⟩
   rw [List.getElem?_map,List.getElem?_map] at hy
   cases hr:ls[i]? with
  |none=>rw [hr] at hy; cases hy
  |some ws =>
    rw [hr] at hy
    cases (Option.some.inj hy:V.str (Str.join kN ws)=y)
    obtain ⟨q1,q2,q3⟩:=hw ws (mem_of_getElem? hr)
    w_fin
    refine kW (z:=Str.join kN ws) (y:=kN) (by decide +kernel) (by omega) fun l2 hl2=>?_
    rw [uJ q1 q2]
    obtain ⟨G2,zE,s2,g2⟩:=jK hl2 (.lst (ws.map V.str))
    rw [zE]
    have n2:l2≠acc:=fun e=>by rw [e,hG] at hl2; cases hl2
    refine eS (by have:=(List.getElem?_eq_some_iff.mp hr).1; omega) hyl (s2 _ _ hG) ⟨(kp.trans s2.kp).trans Kp.upd,?_,?_⟩
    ·rw [take_add_one,hr]
     refine Pd.snoc (Pd.keep pt fun v b hv ⟨a,e,f⟩=>⟨a,e,?_⟩) ⟨l2,rfl,by rw [aZ n2]; exact g2⟩
     rw [aZ fun z=>hna v hv (by rw [e,z])]
     exact s2 _ _ f
    ·intro v hv
     rcases mem_append.mp hv with h|h
     ·exact hna v h
     ·rw [mem_singleton.mp h]
      exact fun z=>n2 (by cases z; rfl)
  rintro acc ys G h0 hG hyl ⟨kp,pt,hna⟩
  rw [hml,take_length] at pt
  have sG:aI H1 G:=fun b o h=>kp _ _ (aB h h0) h
  have hyl':ys.length<=60:=by omega
  w_fin
  exact q acc G (s1.trans sG) ⟨ys,hG,pt⟩
theorem yC (T:Bl mg) (d:Df K mg "read_rows" lT ["text"]) (W:XX K mg xt x1 x4 x5) (o0y:bD P w K mg base k "piece_in" ["lines","counts"] (wC K)) (o0m:bD P w K mg base k "end_behind" ["lines","place"] (KW K)) (o0e:bD P w K mg base k "plain_row_in" ["words","counts"] (pT K)) (o0v:bD P w K mg base k "lines_in" ["text"] (wG K)):bD P w K mg base (k+1) "read_rows" ["text"] (sT K):=by
 refine bD.of d dC (fun vs H Q E h=>?_) (fun f cdv A outer s H vs Q E hr h=>?_)
 ·obtain ⟨gs,rfl,_⟩:=h
  rfl
 ·obtain ⟨gs,rfl,hne,hb,hn,hz,q⟩:=h
  refine ⟨_,(@aA _ _ _ _ _ (@aO _ _ (i:=1) _ _ _ _ dC.nd rfl (by w_left) (@aF _ _ _ _ _ _ _ _ _ _ o0v hr rfl (@bE _ _ _ (pv 0) (by rfl)) (by decide) (by rfl) (by rfl)) (by rfl) (by w_means)) (@aA _ _ _ _ _ (@aO _ _ (i:=2) _ _ _ _ dC.nd rfl (by w_left) (@bC _ _ _ _ (@dL _)) (by rfl) (by w_means)) (@aA _ _ _ _ _ (@aO _ _ (i:=3) _ _ _ _ dC.nd rfl (by w_left) (@kJ _ _) (by rfl) (by w_means)) (@aA _ _ _ _ _ (@aO _ _ (i:=4) _ _ _ _ dC.nd rfl (by w_left) (@aD _ _ _ _) (by rfl) (by w_means)) (@aA _ _ _ _ _ (@oN _ _ _ _ _ _ PassesOwn.never (@aK _ _ _ _ _ _ _ _ wL (pv 4) (@aP _ _ _ _ _ _ _ _ _ dF rfl T.z_len bX (@bE _ _ _ (pv 1) (by rfl)) (by decide) (by decide) (by rfl) (by rfl)) (aL _)) (@aC _ _ _ (@bB _ _ _ _ _ _ _ _ (@aK _ _ _ _ _ _ _ _ (aY hr.units) (@cD _ _ _ _ _ _ _ eB (@cD _ _ _ _ _ _ _ eB (pv 1) (pv 4) (fun _ _=>rfl)) (@aD _ _ _ _) (fun _ _=>rfl)) (@aH _ _ _ _) (aL _)) (@aA _ _ _ _ _ (@aO _ _ (i:=5) _ _ _ _ dC.nd rfl (by w_left) (@aF _ _ _ _ _ _ _ _ _ _ o0m hr rfl (@dZ _ _ _ _ _ (pv 1) (pv 4) (by rfl) (by rfl)) (by decide) (by rfl) (by rfl)) (by rfl) (by w_means)) (@aA _ _ _ _ _ (@aO _ _ (i:=6) _ _ _ _ dC.nd rfl (by w_left) (@aF _ _ _ _ _ _ _ _ _ _ o0y hr rfl (@dZ _ _ _ _ _ (@bI _ _ _ _ _ _ _ _ _ _ dB (pv 1) (@bV _ _ _ (pv 4)) (@bV _ _ _ (pv 5))) (pv 3) (by rfl) (by rfl)) (by decide) (by rfl) (by rfl)) (by rfl) (by w_means)) (@aA _ _ _ _ _ (@gR _ _ _ _ _ _ _ _ _ hr.u1 (pv 3) (@bJ _ _ _ _ _ _ _ (pv 6)) (@aP _ _ _ _ _ _ _ _ _ dF rfl T.z_len bX (@bE _ _ _ (@bJ _ _ _ _ _ _ _ (pv 6)) (by rfl)) (by decide) (by decide) (by rfl) (by rfl)) rfl) (@aA _ _ _ _ _ (@bO _ _ _ _ (@cP _ _ _ _ _ _ _ _ _ _ _ _ plainAttrs_list F.slot_list_append F.type_list_append cK (pv 2) (@bE _ _ _ (pv 6) (by rfl)) (by rfl) (by rfl) (by rfl) (by rfl) (by rfl)) (by rfl)) (@aC _ _ _ (@aO _ _ (i:=4) _ _ _ _ dC.nd rfl (by w_left) (@aJ _ _ _ _ _ _ _ _ aV (pv 5) (@aD _ _ _ _)) (by rfl) (by w_means))))))) (@aA _ _ _ _ _ (@bO _ _ _ _ (@cP _ _ _ _ _ _ _ _ _ _ _ _ plainAttrs_list F.slot_list_append F.type_list_append cK (pv 2) (@bE _ _ _ (@aF _ _ _ _ _ _ _ _ _ _ o0e hr rfl (@dZ _ _ _ _ _ (@cD _ _ _ _ _ _ _ eB (pv 1) (pv 4) (fun _ _=>rfl)) (pv 3) (by rfl) (by rfl)) (by decide) (by rfl) (by rfl)) (by rfl)) (by rfl) (by rfl) (by rfl) (by rfl) (by rfl)) (by rfl)) (@aC _ _ _ (@MF _ _ (i:=4) _ _ _ _ _ _ dC.nd rfl (by w_left) (@aD _ _ _ _) NC (by first|exact .inl rfl|exact .inr rfl))))))) (@aC _ _ _ (@aM _ _ _ _ (pv 2)))))))),?_⟩
  have hok:=gX (E:=[]) trivial hb.wf
  have hll:=gO gs
  have hpos:∀ g:bY,1<=(aN g).length:=fun g=>by cases g <;> exact succ_pos _
  have hlne:gs.flatMap aN≠[]:=fun e=>by
   rw [e] at hll
   have:=uI gs
   have:=length_pos_iff.mpr hne
   simp at hll
   omega
  w_fin
  refine ⟨gs.flatMap aN,rfl,hlne,by omega,hok,hz,fun ll H1 s1 hls=>?_⟩
  obtain ⟨vs,hvs,pv⟩:=id hls
  have hvl:=Paired.length pv
  w_fin
  refine bW fun lr H2 hlr a2 b2=>?_
  w_fin
  refine lU fun dc hdc=>?_
  obtain ⟨H3,zE,a3,b3⟩:=jK hdc (.dK [])
  rw [zE]
  have ndr:lr≠dc:=aB b2 hdc
  have hdc1:H1 dc=none:=a2.free hdc
  w_fin
  refine AM (fun m σ G=>∃ (i:Nat) (E:List aQ) (o5 o6:Option V),m+i=gs.length/\σ=[some (.str (fR (gs.flatMap aN))),some (.ref ll),some (.ref lr),some (.ref dc),some (.int ((((gs.take i).flatMap aN).length:Nat):Int)),o5,o6]/\(∀ b o,b≠lr->b≠dc->H1 b=some o->G b=some o)/\TK H1 G/\zC G lr (gs.take i)/\OZ G dc E/\jS E/\nH E (gs.drop i)/\cZ E (gs.drop i)=cZ [] gs) (m0:=gs.length) ⟨0,[],_,_,rfl,rfl,fun b o _ _ h=>a3 _ _ (a2 _ _ h),a2.tk.trans a3.tk,⟨[],a3 _ _ b2,.nil⟩,⟨[],b3,le_refl _,fun _ h=>(nomatch h),fun _ _=>rfl⟩,trivial,hb.wf,rfl⟩ ?_
  rintro m σ G ⟨i,E,o5,o6,him,rfl,kp,tk,⟨xs,hxs,px⟩,cd,hE,hW,eE⟩
  have sG:aI H1 G:=fun b o h=>kp b o (aB h hlr) (aB h hdc1) h
  have hvsG:=sG _ _ hvs
  have hxl:=Paired.length px
  rw [length_take] at hxl
  have few:=hb.few
  have tot:((gs.take i).flatMap aN).length<=(gs.flatMap aN).length:=by
   have e:=congrArg (fun l=>(List.flatMap aN l).length) (take_append_drop i gs)
   simp only [flatMap_append,length_append] at e
   omega
  w_fin
  refine lJ (fun c1=>?_) (fun c1=>?_)
  ·have hi:i < gs.length:=by
    rcases lt_or_ge i gs.length with h|h
    ·exact h
    ·rw [take_of_length_le h] at c1
     omega
   obtain ⟨g,hg⟩:∃ g,gs[i]?=some g:=⟨_,List.getElem?_eq_getElem hi⟩
   refine ⟨fun σ' G'=>∃ m',m' < m/\∃ (i:Nat) (E:List aQ) (o5 o6:Option V),m'+i=gs.length/\σ'=[some (.str (fR (gs.flatMap aN))),some (.ref ll),some (.ref lr),some (.ref dc),some (.int ((((gs.take i).flatMap aN).length:Nat):Int)),o5,o6]/\(∀ b o,b≠lr->b≠dc->H1 b=some o->G' b=some o)/\TK H1 G'/\zC G' lr (gs.take i)/\OZ G' dc E/\jS E/\nH E (gs.drop i)/\cZ E (gs.drop i)=cZ [] gs,fun σ' G' h=>h,?_⟩
   rw [iK hg] at hW eE
   have h8:E.length<=20:=hb.le20 hE eE
   have tk1:gs.take (i+1)=gs.take i++[g]:=by rw [take_add_one,hg]; rfl
   have pl1:((gs.take (i+1)).flatMap aN).length=((gs.take i).flatMap aN).length+(aN g).length:=by rw [tk1,flatMap_append,length_append]; simp
   have at0:=fun (j:Nat) (hj:j < (aN g).length)=>RO hg hj
   have lle:((gs.take i).flatMap aN).length+(aN g).length<=(gs.flatMap aN).length:=by
    rw [← pl1]
    have e:=congrArg (fun l=>(List.flatMap aN l).length) (take_append_drop (i+1) gs)
    simp only [flatMap_append,length_append] at e
    omega
   generalize hpl:((gs.take i).flatMap aN).length=pl at *
   obtain ⟨v,hv⟩:∃ v,vs[pl]?=some v:=⟨_,List.getElem?_eq_getElem (by have:=hpos g; omega)⟩
   obtain ⟨ws,hws,a,rfl,ha⟩:=Paired.at pv hv
   have hws0:(aN g)[0]?=some ws:=by rw [← at0 0 (hpos g)]; exact hws
   have haG:=sG _ _ ha
   cases g with
  |one r =>
    have e0:ws=cM r:=(Option.some.inj hws0).symm
    subst e0
    obtain ⟨kw,wr,ew,nk⟩:=kU r
    w_fin
    refine bH hvsG (aX hv) ?_
    w_fin
    refine bH haG (v:=.str kw) (by rw [ew]; exact show fM (V.str kw::wr.map V.str) ((0:Nat):Int)=_ from aX rfl) ?_
    w_fin
    rw [if_neg (show ¬ (kw=="piece")=true by simpa using nk)]
    w_fin
    refine bH hvsG (aX hv) ?_
    w_fin
    refine ⟨a,dc,E,r,rfl,haG,cd,hW.1,fun u G2 s2 rq=>?_⟩
    w_fin
    refine iB (s2 _ _ hxs) (by omega) ?_
    have k3:Kp lr G2 (L2.upd G2 lr (.lst (xs++[u]))):=Kp.upd
    have vY:=TK.lst (o:=.lst (xs++[u])) (s2 _ _ hxs)
    have g3:=aE (H:=G2) (a:=lr) (o:=.lst (xs++[u]))
    generalize L2.upd G2 lr (.lst (xs++[u]))=G3 at k3 vY g3 ⊢
    have g3r:zC G3 lr (gs.take (i+1)):=⟨_,g3,by rw [tk1]; exact Pd.snoc (Pd.imp px fun v b f=>(iD.tk f s2.tk).tk vY) (bQ.tk rq vY)⟩
    have e9:((pl:Int)+1)=(((((gs.take (i+1)).flatMap aN).length:Nat)):Int):=by rw [pl1]; rfl
    w_fin
    refine UA rfl ?_
    refine ⟨_,_,rfl,rfl,?_⟩
    dsimp only [List.set]
    rw [e9]
    refine ⟨m - 1,by omega,i+1,E,_,_,by omega,rfl,fun b o h1 h2 h=>k3 _ _ h1 (s2 _ _ (kp b o h1 h2 h)),(tk.trans s2.tk).trans vY,g3r,?_,hE,hW.2,eE⟩
    obtain ⟨kd,hk,hkl,hkv⟩:=cd.sm s2
    exact ⟨kd,k3 _ _ (fun e=>ndr e.symm) hk,hkl,hkv⟩
  |piece p =>
    have e0:ws=("piece":Str)::p.1::p.2.1:=(Option.some.inj hws0).symm
    subst e0
    have plen:=qF p
    have rne:=length_pos_iff.mpr hW.1.2.1
    have hend:(gs.flatMap aN)[pl+1+p.2.2.length]?=some [("end":Str)]:=by rw [Nat.add_assoc,at0 (1+p.2.2.length) (by omega),Nat.add_comm 1]; exact HV p
    have hnoe:∀ j,pl<=j->j < pl+1+p.2.2.length->∀ ws,(gs.flatMap aN)[j]?=some ws->ws≠[("end":Str)]:=by
     intro j hj1 hj2 ws hj
     rw [show j=pl+(j - pl) by omega,at0 (j - pl) (by omega)] at hj
     exact xS (by omega) hj
    w_fin
    refine bH hvsG (aX hv) ?_
    w_fin
    refine bH haG (v:=.str "piece") (show fM (V.str "piece"::_) ((0:Nat):Int)=_ from aX rfl) ?_
    w_fin
    refine ⟨ll,_,pl,pl+1+p.2.2.length,rfl,hls.sm sG,by omega,by omega,hend,hnoe,fun G1 t1=>?_⟩
    have hvs1:=t1 _ _ hvsG
    w_fin
    refine iY hvs1 fun l2 hl2=>?_
    have ec:=SD (xs:=vs) (a:=pl) (b:=pl+1+p.2.2.length) (by omega) (by omega)
    rw [show pl+1+p.2.2.length - pl=p.2.2.length+1 by omega] at ec
    rw [ec]
    have pc2:Paired (VC H1) ((vs.drop pl).take (p.2.2.length+1)) (("piece"::p.1::p.2.1)::p.2.2.map cM):=by
     have:=Pd.cut pv pl (p.2.2.length+1)
     rw [← hpl,AS hg,hpl] at this
     exact this
    generalize (vs.drop pl).take (p.2.2.length+1)=ys at pc2 ⊢
    obtain ⟨G2,zE,t2,g2⟩:=jK hl2 (.lst ys)
    rw [zE]
    have s12:=t1.trans t2
    w_fin
    refine ⟨l2,dc,E,p,rfl,⟨ys,g2,Pd.imp pc2 fun _ _ f=>f.sm (sG.trans s12)⟩,cd.sm s12,hW.1,by omega,fun u G3 t3 pq=>?_⟩
    obtain ⟨pp,q0,z0,xs0,rfl,h1,h2,h3,pt⟩:=id pq
    have s13:=s12.trans t3
    obtain ⟨kd,hk,hkl,hkv,hkn⟩:=cd.sm s13
    w_fin
    refine lV hk (by omega) ?_
    have tk4:=TK.dic (o:=.dK (dY kd (Sum.inr p.1) (.int ((p.2.1.map V.str).length:Int)))) hk
    have k4:Kp dc G3 (L2.upd G3 dc (.dK (dY kd (Sum.inr p.1) (.int ((p.2.1.map V.str).length:Int))))):=Kp.upd
    have g4:=aE (H:=G3) (a:=dc) (o:=.dK (dY kd (Sum.inr p.1) (.int ((p.2.1.map V.str).length:Int))))
    generalize L2.upd G3 dc (.dK (dY kd (Sum.inr p.1) (.int ((p.2.1.map V.str).length:Int))))=G4 at tk4 k4 g4 ⊢
    have hx4:=k4 _ _ ndr (s13 _ _ hxs)
    w_fin
    refine iB hx4 (by omega) ?_
    have k5:Kp lr G4 (L2.upd G4 lr (.lst (xs++[.ref pp]))):=Kp.upd
    have tk5:=TK.lst (o:=.lst (xs++[.ref pp])) hx4
    have g5:=aE (H:=G4) (a:=lr) (o:=.lst (xs++[.ref pp]))
    generalize L2.upd G4 lr (.lst (xs++[.ref pp]))=G5 at k5 tk5 g5 ⊢
    have tk35:=tk4.trans tk5
    have g5r:zC G5 lr (gs.take (i+1)):=⟨_,g5,by rw [tk1]; exact Pd.snoc (Pd.imp px fun v b f=>(iD.tk f s13.tk).tk tk35) (iD.tk (r:=.piece p) pq tk35)⟩
    have g5d:=k5 _ _ (fun e=>ndr e.symm) g4
    rw [length_map] at g5d
    have e9:(((pl+1+p.2.2.length:Nat):Int)+1)=(((((gs.take (i+1)).flatMap aN).length:Nat)):Int):=by rw [pl1,plen]; omega
    w_fin
    rw [e9]
    exact ⟨m - 1,by omega,i+1,p::E,_,_,by omega,rfl,fun b o h1 h2 h=>k5 _ _ h1 (k4 _ _ h2 (s13 _ _ (kp b o h1 h2 h))),(tk.trans s13.tk).trans tk35,g5r,OZ.put hW.1 hkl hkv hkn g5d,⟨hW.1,hE⟩,hW.2,eE⟩
  w_fin
  have hi:gs.length<=i:=by
   rcases lt_or_ge i gs.length with h|h
   ·exfalso
    obtain ⟨g,hg⟩:∃ g,gs[i]?=some g:=⟨_,List.getElem?_eq_getElem h⟩
    have e:=congrArg List.length (GL hg)
    rw [length_drop,length_append] at e
    have:=hpos g
    omega
   ·exact h
  rw [take_of_length_le hi] at px
  exact q lr G (s1.free hlr) (s1.trans sG) ⟨xs,hxs,px⟩
theorem AV (T:Bl mg) (d:Df K mg "words_of" nI ["row"]) (W:XX K mg xt x1 x4 x5) (o0a:bD P w K mg base k "shown_fraction" ["each"] zU):bD P w K mg base (k+1) "words_of" ["row"] (wA K):=by
 refine bD.of d AC (fun vs H Q E h=>?_) (fun f cdv A outer s H vs Q E hr h=>?_)
 ·obtain ⟨v,g,E,rfl,_⟩:=h
  rfl
 ·obtain ⟨v,g,E,rfl,hg,hw,q⟩:=h
  refine ⟨_,(@aA _ _ _ _ _ (@bB _ _ _ _ _ _ _ _ (@aK _ _ _ _ _ _ _ _ (aY hr.units) (@bJ _ _ _ _ _ _ _ (pv 0)) (@aH _ _ _ _) (aL _)) (@aC _ _ _ (@aM _ _ _ _ (@bC _ _ _ _ (@eG _ _ _ _ _ (@bJ _ _ _ _ _ _ _ (pv 0)) (@kC _ _ _ _ _ _ _ (@bJ _ _ _ _ _ _ _ (pv 0)) (@bJ _ _ _ _ _ _ _ (pv 0)) (@aF _ _ _ _ _ _ _ _ _ _ o0a hr rfl (@bE _ _ _ (@bJ _ _ _ _ _ _ _ (pv 0)) (by rfl)) (by decide) (by rfl) (by rfl)) (by rfl) (by rfl) (by rfl)) (by rfl))))) (@aS _)) (@aA _ _ _ _ _ (@bB _ _ _ _ _ _ _ _ (@aK _ _ _ _ _ _ _ _ (aY hr.units) (@bJ _ _ _ _ _ _ _ (pv 0)) (@aH _ _ _ _) (aL _)) (@aC _ _ _ (@aM _ _ _ _ (@aJ _ _ _ _ _ _ _ _ aV (@bC _ _ _ _ (@kC _ _ _ _ _ _ _ (@bJ _ _ _ _ _ _ _ (pv 0)) (@bJ _ _ _ _ _ _ _ (pv 0)) (@bJ _ _ _ _ _ _ _ (pv 0)) (by rfl) (by rfl) (by rfl))) (@bF _ _ _ _ _ _ _ _ _ yW rfl T.z_list mY (@bE _ _ _ (@bJ _ _ _ _ _ _ _ (pv 0)) (by rfl)) (by decide) (by decide) (by rfl) (by rfl))))) (@aS _)) (@aA _ _ _ _ _ (@bB _ _ _ _ _ _ _ _ (@aK _ _ _ _ _ _ _ _ (aY hr.units) (@bJ _ _ _ _ _ _ _ (pv 0)) (@aH _ _ _ _) (aL _)) (@aC _ _ _ (@aM _ _ _ _ (@aJ _ _ _ _ _ _ _ _ aV (@bC _ _ _ _ (@dZ _ _ _ _ _ (@bJ _ _ _ _ _ _ _ (pv 0)) (@bJ _ _ _ _ _ _ _ (pv 0)) (by rfl) (by rfl))) (@bF _ _ _ _ _ _ _ _ _ yW rfl T.z_list mY (@bE _ _ _ (@bJ _ _ _ _ _ _ _ (pv 0)) (by rfl)) (by decide) (by decide) (by rfl) (by rfl))))) (@aS _)) (@aC _ _ _ (@aM _ _ _ _ (@aJ _ _ _ _ _ _ _ _ aV (@bC _ _ _ _ (@dZ _ _ _ _ _ (@bJ _ _ _ _ _ _ _ (pv 0)) (@aF _ _ _ _ _ _ _ _ _ _ o0a hr rfl (@bE _ _ _ (@bJ _ _ _ _ _ _ _ (pv 0)) (by rfl)) (by decide) (by rfl) (by rfl)) (by rfl) (by rfl))) (@bF _ _ _ _ _ _ _ _ _ yW rfl T.z_list mY (@bE _ _ _ (@bJ _ _ _ _ _ _ _ (pv 0)) (by rfl)) (by decide) (by decide) (by rfl) (by rfl)))))))),?_⟩
  cases g with
 |one r =>
   replace hw:=hw.1
   cases r with
  |plain r =>
    cases r with
   |run a b t =>
     obtain ⟨p,u,rfl,hp,hu⟩:=hg
     w_fin
     refine ⟨u,t,rfl,hu,hw.2.2,?_⟩
     w_fin
     refine cG fun l hl=>?_
     w_fin
     exact q l _ hl (aI.new hl) aE
   |path k t ps =>
     obtain ⟨p,u,z,rfl,hp,hu,hz⟩:=hg
     have h4:=hw.2.2.2.1
     cases k with
    |row =>
      w_fin
      refine ⟨u,t,rfl,hu,hw.2.1,?_⟩
      w_fin
      refine bW fun l1 H1 hl1 t1 g1=>?_
      have hp1:=t1 _ _ hp
      w_fin
      refine ⟨z,_,rfl,.inr (fV.of (t1 _ _ hz)),fun l2 hl2=>?_⟩
      have t2:=t1.trans (aI.new (o:=.lst (ps.map V.str)) hl2)
      refine jH (fE hl2 g1) aE (by rw [length_map]; show 2+_<=_; omega) fun l3 hl3=>?_
      w_fin
      exact q l3 _ (t2.free hl3) (t2.trans (aI.new hl3)) aE
    |star =>
      w_fin
      refine ⟨u,t,rfl,hu,hw.2.1,?_⟩
      w_fin
      refine bW fun l1 H1 hl1 t1 g1=>?_
      have hp1:=t1 _ _ hp
      w_fin
      refine ⟨z,_,rfl,.inr (fV.of (t1 _ _ hz)),fun l2 hl2=>?_⟩
      have t2:=t1.trans (aI.new (o:=.lst (ps.map V.str)) hl2)
      refine jH (fE hl2 g1) aE (by rw [length_map]; show 2+_<=_; omega) fun l3 hl3=>?_
      w_fin
      exact q l3 _ (t2.free hl3) (t2.trans (aI.new hl3)) aE
    |ring =>
      w_fin
      refine ⟨u,t,rfl,hu,hw.2.1,?_⟩
      w_fin
      refine bW fun l1 H1 hl1 t1 g1=>?_
      have hp1:=t1 _ _ hp
      w_fin
      refine ⟨z,_,rfl,.inr (fV.of (t1 _ _ hz)),fun l2 hl2=>?_⟩
      have t2:=t1.trans (aI.new (o:=.lst (ps.map V.str)) hl2)
      refine jH (fE hl2 g1) aE (by rw [length_map]; show 2+_<=_; omega) fun l3 hl3=>?_
      w_fin
      exact q l3 _ (t2.free hl3) (t2.trans (aI.new hl3)) aE
  |put nm cl as =>
    obtain ⟨p,q',rfl,hp,hq⟩:=hg
    have h4:=hw.2.2.1.2
    w_fin
    refine bW fun l1 H1 hl1 t1 g1=>?_
    have hp1:=t1 _ _ hp
    w_fin
    refine ⟨q',_,rfl,.inr (fV.of (t1 _ _ hq)),fun l2 hl2=>?_⟩
    have t2:=t1.trans (aI.new (o:=.lst (as.map V.str)) hl2)
    refine jH (fE hl2 g1) aE (by rw [length_map]; show 3+_<=_; omega) fun l3 hl3=>?_
    w_fin
    exact q l3 _ (t2.free hl3) (t2.trans (aI.new hl3)) aE
 |piece x =>
   obtain ⟨p,q',z,xs,rfl,hp,hq,hz,px⟩:=hg
   have h4:=hw.1.2.2.2.2.1.2.1
   w_fin
   refine bW fun l1 H1 hl1 t1 g1=>?_
   have hp1:=t1 _ _ hp
   w_fin
   refine ⟨q',_,rfl,.inr (fV.of (t1 _ _ hq)),fun l2 hl2=>?_⟩
   have t2:=t1.trans (aI.new (o:=.lst (x.2.1.map V.str)) hl2)
   refine jH (fE hl2 g1) aE (by rw [length_map]; show 2+_<=_; omega) fun l3 hl3=>?_
   w_fin
   exact q l3 _ (t2.free hl3) (t2.trans (aI.new hl3)) aE
theorem vL (T:Bl mg) (d:Df K mg "shown_rows" iG ["rows"]) (W:XX K mg xt x1 x4 x5) (o0w:bD P w K mg base k "words_of" ["row"] (wA K)):bD P w K mg base (k+1) "shown_rows" ["rows"] (zT K):=by
 refine bD.of d jU (fun vs H Q E h=>?_) (fun f cdv A outer s H vs Q E hr h=>?_)
 ·obtain ⟨l,gs,rfl,_⟩:=h
  rfl
 ·obtain ⟨l,gs,rfl,hl,hb,hn,q⟩:=h
  refine ⟨_,(@aA _ _ _ _ _ (@aO _ _ (i:=1) _ _ _ _ jU.nd rfl (by w_left) (@bC _ _ _ _ (@dL _)) (by rfl) (by w_means)) (@aA _ _ _ _ _ (@fH _ _ _ _ _ _ _ _ PassesOwn.never rfl (@dS _ _ _ _ (pv 0)) (@aU _ _ (i:=2) _ jU.nd rfl (by w_left) (by w_means)) (@aA _ _ _ _ _ (@bO _ _ _ _ (@cP _ _ _ _ _ _ _ _ _ _ _ _ plainAttrs_list F.slot_list_append F.type_list_append cK (pv 1) (@bE _ _ _ (@cP _ _ _ _ _ _ _ _ _ _ _ _ plainAttrs_str slot_str_join type_str_join oX (@aH _ _ _ _) (@bE _ _ _ (@aF _ _ _ _ _ _ _ _ _ _ o0w hr rfl (@bE _ _ _ (pv 2) (by rfl)) (by decide) (by rfl) (by rfl)) (by rfl)) (by rfl) (by rfl) (by rfl) (by rfl) (by rfl)) (by rfl)) (by rfl) (by rfl) (by rfl) (by rfl) (by rfl)) (by rfl)) (@aC _ _ _ (@bB _ _ _ _ _ _ _ _ (@aK _ _ _ _ _ _ _ _ (aY hr.units) (@bJ _ _ _ _ _ _ _ (pv 2)) (@aH _ _ _ _) (aL _)) (@aA _ _ _ _ _ (@bO _ _ _ _ (@cP _ _ _ _ _ _ _ _ _ _ _ _ plainAttrs_list PySem.F.slot_list_extend PySem.F.type_list_extend wO (pv 1) (@bE _ _ _ (@eF _ _ _ _ _ _ _ _ _ _ _ _ _ _ (@dD _ _ (sc:=aG iG) (N:=["rows","lines","row"]) (tn:=["inner"]) (names:=[]) (is:=[]) rfl rfl (by decide +kernel) (by decide +kernel) rfl (by decide +kernel) rfl (by decide +kernel) (by decide +kernel) (by decide +kernel)) rfl (@qG _ _ _ _ (@bJ _ _ _ _ _ _ _ (pv 2))) (fun _ _ _ _=>(@aU _ _ (i:=0) _ (show (["inner"]:List Str).Nodup by decide +kernel) rfl (Or.inl rfl) (Or.inr rfl))) (fun _ _ _ _=>(@xU _ _ _ _ _ _ _ _ _ _ _ _ _ _ _ _ _ _ _ plainAttrs_str slot_str_join type_str_join oX (@aH _ _ _ _) (@bE _ _ _ (@aF _ _ _ _ _ _ _ _ _ _ o0w hr rfl (@bE _ _ _ (pv 0) (by rfl)) (by decide) (by rfl) (by rfl)) (by rfl)) (by rfl) (by rfl) (by rfl) (by rfl) (by rfl))) (fun _ _ _ _=>(@cI _)) (by intro _; rfl)) (by rfl)) (by rfl) (by rfl) (by rfl) (by rfl) (by rfl)) (by rfl)) (@aC _ _ _ (@bO _ _ _ _ (@cP _ _ _ _ _ _ _ _ _ _ _ _ plainAttrs_list F.slot_list_append F.type_list_append cK (pv 1) (@bE _ _ _ (@aH _ _ _ _) (by rfl)) (by rfl) (by rfl) (by rfl) (by rfl) (by rfl)) (by rfl)))) (@aS _)))) (by intro _; rfl)) (@aC _ _ _ (@aM _ _ _ _ (@cP _ _ _ _ _ _ _ _ _ _ _ _ plainAttrs_str slot_str_join type_str_join oX (@aH _ _ _ _) (@bE _ _ _ (pv 1) (by rfl)) (by rfl) (by rfl) (by rfl) (by rfl) (by rfl)))))),?_⟩
  obtain ⟨xs,hxs,px⟩:=hl
  have hxl:=Paired.length px
  have hll:=gO gs
  have hok:=gX (E:=[]) trivial hb.wf
  have es:(Str.ofString " ").length=1:=by decide +kernel
  have cap:∀ {ys:List Str},ys.length<=50->(∀ s∈ys,yZ s)->(ys.map (·.length)).sum+ys.length * (Str.ofString " ").length<=16777216:=fun {ys} hl hs=>by
   have h1:=oB fun s h=>(hs s h).2.2
   have h2:ys.length * 100<=50 * 100:=mul_le_mul_right _ hl
   rw [es]
   omega
  w_fin
  refine bW fun l0 H0 hl0 s0 g0=>?_
  have ndl:l≠l0:=aB hxs hl0
  w_fin
  refine dR (cN.of (s0 _ _ hxs)) ?_
  refine nO (xs:=xs) (fun i σ G=>∃ (E:List aQ) (o2:Option V),σ=[some (.ref l),some (.ref l0),o2]/\Kp l0 H G/\TK H G/\G l0=some (.lst (((gs.take i).flatMap aN).map lL))/\jS E/\nH E (gs.drop i)) ⟨[],_,rfl,s0.kp,s0.tk,g0,trivial,hb.wf⟩ ?_ ?_ ?_
  ·rintro i σ G _ ⟨E,o2,rfl,kp,_⟩
   exact cN.of (kp _ _ ndl hxs)
  ·rintro i y σ G hy ⟨E,o2,rfl,kp,tk,gl0,hE,hW⟩
   obtain ⟨g,hg,gq⟩:=Paired.at px hy
   rw [iK hg] at hW
   have tk1:gs.take (i+1)=gs.take i++[g]:=by rw [take_add_one,hg]; rfl
   have hd:nH E [g]/\∃ E',jS E'/\nH E' (gs.drop (i+1)):=by
    cases g with
   |one r=>exact ⟨⟨hW.1,trivial⟩,E,hE,hW.2⟩
   |piece p=>exact ⟨⟨hW.1,trivial⟩,p::E,⟨hW.1,hE⟩,hW.2⟩
   obtain ⟨hd,E',hE',hW'⟩:=hd
   have lok:=gX (E:=E) hE hd
   have cnt:((gs.take i).flatMap aN).length+(aN g).length<=(gs.flatMap aN).length:=by
    have e:=congrArg List.length (GL hg)
    rw [length_drop,length_append] at e
    have e2:=congrArg (fun l=>(List.flatMap aN l).length) (take_append_drop i gs)
    simp only [flatMap_append,length_append] at e2
    omega
   have gq1:=iD.tk gq tk
   have hdok:(BR g).length<=50/\∀ s∈BR g,yZ s:=⟨NG hd,(lok (BR g) (by rw [flatMap_cons]; exact mem_append_left _ (ZJ g))).2.1⟩
   w_fin
   refine ⟨y,g,E,rfl,gq1,hd,fun l4 G4 hl4 t4 g4=>?_⟩
   w_fin
   refine ⟨_,l4,_,rfl,rfl,g4,cap hdok.1 hdok.2,?_⟩
   w_fin
   have g40:=t4 _ _ gl0
   refine iB g40 (by rw [length_map]; omega) ?_
   change (fun G5=>_) (L2.upd G4 l0 (.lst (((gs.take i).flatMap aN).map lL++[lL (BR g)])))
   have tk5:=TK.lst (o:=.lst (((gs.take i).flatMap aN).map lL++[lL (BR g)])) g40
   have k5:Kp l0 G4 (L2.upd G4 l0 (.lst (((gs.take i).flatMap aN).map lL++[lL (BR g)]))):=Kp.upd
   have g5:=aE (H:=G4) (a:=l0) (o:=.lst (((gs.take i).flatMap aN).map lL++[lL (BR g)]))
   generalize L2.upd G4 l0 (.lst (((gs.take i).flatMap aN).map lL++[lL (BR g)]))=G5 at tk5 k5 g5 ⊢
   dsimp only
   replace k5:=(kp.trans t4.kp).trans k5
   replace tk5:=t4.tk.trans tk5
   cases g with
  |one r =>
    obtain ⟨p,kk,ys,rfl,hp,hk⟩:=bQ.head (show bQ G _ r from gq1)
    have hp5:=tk5 _ _ hp
    w_fin
    refine fG hp5 (show fM (V.str kk::ys) ((0:Nat):Int)=_ from aX rfl) ?_
    w_fin
    rw [if_neg (show ¬ (kk=="piece")=true by simpa using hk)]
    w_fin
    refine ⟨E',_,rfl,k5,tk.trans tk5,?_,hE',hW'⟩
    rw [g5,tk1,flatMap_append,map_append]
    rfl
  |piece x =>
    obtain ⟨p,q',z,ys,rfl,hp,hq,hz,px'⟩:=(show gH G _ x from gq1)
    obtain ⟨w1,w2,w3,_⟩:=hd.1
    have hyl:=Paired.length px'
    have hp5:=tk5 _ _ hp
    have hz5:=tk5 _ _ hz
    w_fin
    refine mU (fV.of hz5) ?_
    refine xO (xs:=ys) (by omega) (fun acc j us G'=>Kp acc G5 G'/\us=((x.2.2.take j).map cM).map lL) (fun acc h0=>⟨Kp.new h0,rfl⟩) ?_ ?_ ?_
    ·rintro acc j us G' h0 hj ⟨kp',_⟩
     exact fV.of (kp' _ _ (aB hz5 h0) hz5)
    ·rintro acc j us G' x' h0 hx' hwl hG' ⟨kp',rfl⟩
     obtain ⟨r,hr0,rq⟩:=Paired.at px' hx'
     have sG':aI G5 G':=fun b o h=>kp' _ _ (aB h h0) h
     have hwr:=w1 r (mem_of_getElem? hr0)
     have rok:=iZ hE hwr
     w_fin
     refine ⟨_,.one r,E,rfl,bQ.tk rq (tk5.trans sG'.tk),⟨hwr,trivial⟩,fun l6 G6 hl6 t6 g6=>?_⟩
     w_fin
     refine ⟨_,l6,_,rfl,rfl,g6,cap (NG (E:=E) (g:=.one r) ⟨hwr,trivial⟩) rok.2.1,?_⟩
     refine eS (by have:=(List.getElem?_eq_some_iff.mp hx').1; exact this) hwl (t6 _ _ hG') ⟨(kp'.trans t6.kp).trans Kp.upd,?_⟩
     rw [take_add_one,hr0,map_append,map_append]
     rfl
    ·rintro acc us G' h0 hG' hwl ⟨kp',rfl⟩
     rw [hyl,take_length] at hG'
     have sG':aI G5 G':=fun b o h=>kp' _ _ (aB h h0) h
     have hn0:l0≠acc:=aB g5 h0
     have cl:=qF x
     w_fin
     refine TZ (sG' _ _ g5) hG' (by simp only [length_map,length_append,List.length_singleton]; omega) ?_
     have tk6:=TK.lst (o:=.lst (((gs.take i).flatMap aN).map lL++[lL (BR (.piece x))]++(x.2.2.map cM).map lL)) (sG' _ _ g5)
     have k6:Kp l0 G' (L2.upd G' l0 (.lst (((gs.take i).flatMap aN).map lL++[lL (BR (.piece x))]++(x.2.2.map cM).map lL))):=Kp.upd
     have g6:=aE (H:=G') (a:=l0) (o:=.lst (((gs.take i).flatMap aN).map lL++[lL (BR (.piece x))]++(x.2.2.map cM).map lL))
     generalize L2.upd G' l0 (.lst (((gs.take i).flatMap aN).map lL++[lL (BR (.piece x))]++(x.2.2.map cM).map lL))=G6 at tk6 k6 g6 ⊢
     w_fin
     refine iB g6 (by simp only [length_map,length_append,List.length_singleton]; omega) ?_
     w_fin
     refine ⟨E',_,rfl,((k5.trans sG'.kp).trans k6).trans Kp.upd,(tk.trans ((tk5.trans sG'.tk).trans tk6)).trans (TK.lst g6),?_,hE',hW'⟩
     rw [aE,tk1,flatMap_append,map_append]
     show some (HO.lst (_++[lL (BR (.piece x))]++(x.2.2.map cM).map lL++[V.str "end"]))=some (HO.lst (_++((BR (.piece x)::(x.2.2.map cM++[[("end":Str)]]))++[]).map lL))
     rw [append_nil,map_cons,map_append,append_assoc,append_assoc]
     rfl
  rintro σ G ⟨E,o2,rfl,kp,tk,gl0,_⟩
  rw [hxl,take_length] at gl0
  have glf2:G l0=some (.lst (((gs.flatMap aN).map (Str.join kN)).map V.str)):=by rw [gl0,map_map]; rfl
  w_fin
  refine ⟨_,l0,_,rfl,rfl,glf2,(mX hb hn).1,?_⟩
  w_fin
  exact q G (fun b o h=>kp b o (aB h hl0) h)
theorem DX (T:Bl mg) (d:Df K mg "_law_cell_at" qA ["_law_script","_law_k"]) (W:XX K mg xt x1 x4 x5):bD P w K mg base (k+1) "_law_cell_at" ["_law_script","_law_k"] (KY K):=by
 refine bD.of d DG (fun vs H Q E h=>?_) (fun f cdv A outer s H vs Q E hr h=>?_)
 ·obtain ⟨a,ns,k',rfl,_⟩:=h
  rfl
 ·obtain ⟨a,ns,k',rfl,hS,h0,q⟩:=h
  refine ⟨_,(@aA _ _ _ _ _ (@bB _ _ _ _ _ _ _ _ (@aK _ _ _ _ _ _ _ _ wL (pv 1) (@aP _ _ _ _ _ _ _ _ _ dF rfl T.z_len bX (@bE _ _ _ (pv 0) (by rfl)) (by decide) (by decide) (by rfl) (by rfl)) (aL _)) (@aC _ _ _ (@aM _ _ _ _ (@cD _ _ _ _ _ _ _ eB (pv 0) (pv 1) (fun _ _=>rfl)))) (@aS _)) (@aC _ _ _ (@aM _ _ _ _ (@aD _ _ _ _)))),?_⟩
  w_fin
  refine DL hS ?_
  w_fin
  refine lJ (fun c=>?_) (fun c=>?_)
  ·rw [length_map] at c
   obtain ⟨z,_,hz⟩:=Hn (ns:=ns) h0 c
   w_fin
   refine Cq hS hz ?_
   w_fin
   exact q z
  ·w_fin
   exact q 0
theorem ID (T:Bl mg) (d:Df K mg "_law_number" tN ["_law_script","_law_k"]) (W:XX K mg xt x1 x4 x5) (o1e:bD P w K mg base k "_law_cell_at" ["_law_script","_law_k"] (KY K)):bD P w K mg base (k+1) "_law_number" ["_law_script","_law_k"] (DB K):=by
 refine bD.of d iN (fun vs H Q E h=>?_) (fun f cdv A outer s H vs Q E hr h=>?_)
 ·obtain ⟨a,ns,k',rfl,_⟩:=h
  rfl
 ·obtain ⟨a,ns,k',rfl,hS,h0,hk,q⟩:=h
  refine ⟨_,(@aA _ _ _ _ _ (@aO _ _ (i:=2) _ _ _ _ iN.nd rfl (by w_left) (@aF _ _ _ _ _ _ _ _ _ _ o1e hr rfl (@dZ _ _ _ _ _ (pv 0) (pv 1) (by rfl) (by rfl)) (by decide) (by rfl) (by rfl)) (by rfl) (by w_means)) (@aA _ _ _ _ _ (@bB _ _ _ _ _ _ _ _ (@PW.pt _ _ _ (@kZ _ _ _ _ _ _ _ (@aK _ _ _ _ _ _ _ _ (aY hr.units) (@aJ _ _ _ _ _ _ _ _ bR (@aF _ _ _ _ _ _ _ _ _ _ o1e hr rfl (@dZ _ _ _ _ _ (pv 0) (@aD _ _ _ _) (by rfl) (by rfl)) (by decide) (by rfl) (by rfl)) (@aD _ _ _ _)) (@aD _ _ _ _) (aL _)) (@kY _ _ _ _ (@aK _ _ _ _ _ _ _ _ wM (pv 2) (@aJ _ _ _ _ _ _ _ _ xW (@aD _ _ _ _) (@aD _ _ _ _)) (aL _))))) (@aC _ _ _ (@aM _ _ _ _ (pv 2))) (@aS _)) (@aA _ _ _ _ _ (@aO _ _ (i:=3) _ _ _ _ iN.nd rfl (by w_left) (@aJ _ _ _ _ _ _ _ _ bR (@aJ _ _ _ _ _ _ _ _ eV (@aJ _ _ _ _ _ _ _ _ aV (@aJ _ _ _ _ _ _ _ _ aV (@aJ _ _ _ _ _ _ _ _ bR (pv 2) (@aD _ _ _ _)) (@aJ _ _ _ _ _ _ _ _ eV (@aJ _ _ _ _ _ _ _ _ eV (@aD _ _ _ _) (pv 1)) (pv 1))) (@aD _ _ _ _)) (@aD _ _ _ _)) (@aD _ _ _ _)) (by rfl) (by w_means)) (@aA _ _ _ _ _ (@aO _ _ (i:=4) _ _ _ _ iN.nd rfl (by w_left) (@aJ _ _ _ _ _ _ _ _ bR (@aJ _ _ _ _ _ _ _ _ eV (pv 3) (@aJ _ _ _ _ _ _ _ _ aV (@aJ _ _ _ _ _ _ _ _ bR (pv 3) (@aD _ _ _ _)) (@aD _ _ _ _))) (@aD _ _ _ _)) (by rfl) (by w_means)) (@aA _ _ _ _ _ (@aO _ _ (i:=5) _ _ _ _ iN.nd rfl (by w_left) (@aJ _ _ _ _ _ _ _ _ bR (@aJ _ _ _ _ _ _ _ _ eV (@aJ _ _ _ _ _ _ _ _ aV (pv 4) (@aJ _ _ _ _ _ _ _ _ eV (@aJ _ _ _ _ _ _ _ _ eV (@aD _ _ _ _) (pv 1)) (pv 1))) (@aJ _ _ _ _ _ _ _ _ aV (@aJ _ _ _ _ _ _ _ _ bR (pv 3) (@aD _ _ _ _)) (@aD _ _ _ _))) (@aD _ _ _ _)) (by rfl) (by w_means)) (@aA _ _ _ _ _ (@aO _ _ (i:=6) _ _ _ _ iN.nd rfl (by w_left) (@aJ _ _ _ _ _ _ _ _ aV (@aJ _ _ _ _ _ _ _ _ eV (@aJ _ _ _ _ _ _ _ _ aV (@aJ _ _ _ _ _ _ _ _ eV (pv 3) (@aD _ _ _ _)) (pv 4)) (@aD _ _ _ _)) (pv 5)) (by rfl) (by w_means)) (@aA _ _ _ _ _ (@bB _ _ _ _ _ _ _ _ (@aK _ _ _ _ _ _ _ _ (aY hr.units) (@aJ _ _ _ _ _ _ _ _ bR (@aF _ _ _ _ _ _ _ _ _ _ o1e hr rfl (@dZ _ _ _ _ _ (pv 0) (@aD _ _ _ _) (by rfl) (by rfl)) (by decide) (by rfl) (by rfl)) (@aD _ _ _ _)) (@aD _ _ _ _) (aL _)) (@aC _ _ _ (@aM _ _ _ _ (@aJ _ _ _ _ _ _ _ _ aV (@aJ _ _ _ _ _ _ _ _ eV (pv 6) (@aJ _ _ _ _ _ _ _ _ xW (@aD _ _ _ _) (@aD _ _ _ _))) (@aJ _ _ _ _ _ _ _ _ bR (pv 2) (@aJ _ _ _ _ _ _ _ _ xW (@aD _ _ _ _) (@aD _ _ _ _)))))) (@aS _)) (@aC _ _ _ (@aM _ _ _ _ (pv 6)))))))))),?_⟩
  w_fin
  refine ⟨a,ns,k',rfl,hS,h0,fun c=>?_⟩
  w_fin
  refine ⟨a,ns,0,rfl,hS,Int.le_refl 0,fun c0=>?_⟩
  w_fin
  refine lJ (fun e1=>?_) (fun e1=>?_)
  ·w_fin
   refine lJ (fun e2=>?_) (fun e2=>?_)
   ·w_fin
    exact q _ (by omega)
   ·w_fin
    refine ⟨a,ns,0,rfl,hS,Int.le_refl 0,fun c1=>?_⟩
    w_fin
    have hone:∀ z:Int,0<=z % 2147483629:=fun z=>Int.emod_nonneg z (by decide)
    have htwo:∀ z:Int,0<=z % 2147483587:=fun z=>Int.emod_nonneg z (by decide)
    have hthr:∀ z:Int,0<=z % 2147483543:=fun z=>Int.emod_nonneg z (by decide)
    have h1:=hone ((c % 2147483647+7919 * k' * k'+11) * 69621)
    generalize (c % 2147483647+7919 * k' * k'+11) * 69621 % 2147483629=one at h1 ⊢
    have h2:=htwo (one * (one % 65521+48271))
    generalize one * (one % 65521+48271) % 2147483587=two at h2 ⊢
    have h3:=hthr ((two+40692 * k' * k') * (one % 7919+39373))
    generalize (two+40692 * k' * k') * (one % 7919+39373) % 2147483543=thr at h3 ⊢
    refine lJ (fun e3=>?_) (fun e3=>?_)
    ·w_fin
     exact q _ (Em (RH h1 h2 h3))
    ·w_fin
     exact q _ (RH h1 h2 h3)
  ·w_fin
   refine ⟨a,ns,0,rfl,hS,Int.le_refl 0,fun c1=>?_⟩
   w_fin
   have hone:∀ z:Int,0<=z % 2147483629:=fun z=>Int.emod_nonneg z (by decide)
   have htwo:∀ z:Int,0<=z % 2147483587:=fun z=>Int.emod_nonneg z (by decide)
   have hthr:∀ z:Int,0<=z % 2147483543:=fun z=>Int.emod_nonneg z (by decide)
   have h1:=hone ((c % 2147483647+7919 * k' * k'+11) * 69621)
   generalize (c % 2147483647+7919 * k' * k'+11) * 69621 % 2147483629=one at h1 ⊢
   have h2:=htwo (one * (one % 65521+48271))
   generalize one * (one % 65521+48271) % 2147483587=two at h2 ⊢
   have h3:=hthr ((two+40692 * k' * k') * (one % 7919+39373))
   generalize (two+40692 * k' * k') * (one % 7919+39373) % 2147483543=thr at h3 ⊢
   refine lJ (fun e3=>?_) (fun e3=>?_)
   ·w_fin
    exact q _ (Em (RH h1 h2 h3))
   ·w_fin
    exact q _ (RH h1 h2 h3)
theorem IF (T:Bl mg) (d:Df K mg "_law_lowest" tQ ["_law_top","_law_bottom"]) (W:XX K mg xt x1 x4 x5):bD P w K mg base (k+1) "_law_lowest" ["_law_top","_law_bottom"] AA:=by
 refine bD.of d mM (fun vs H Q E h=>?_) (fun f cdv A outer s H vs Q E hr h=>?_)
 ·obtain ⟨t,b,rfl,_⟩:=h
  rfl
 ·obtain ⟨t,b,rfl,hb,hs1,hs2,q⟩:=h
  refine ⟨_,(@aA _ _ _ _ _ (@aO _ _ (i:=2) _ _ _ _ mM.nd rfl (by w_left) (@aP _ _ _ _ _ _ _ _ _ OJ rfl T.z_abs EL (@bE _ _ _ (pv 0) (by rfl)) (by decide) (by decide) (by rfl) (by rfl)) (by rfl) (by w_means)) (@aA _ _ _ _ _ (@aO _ _ (i:=3) _ _ _ _ mM.nd rfl (by w_left) (pv 1) (by rfl) (by w_means)) (@aA _ _ _ _ _ (@oN _ _ _ _ _ _ PassesOwn.never (@aK _ _ _ _ _ _ _ _ (jB hr.units) (pv 3) (@aD _ _ _ _) (aL _)) (@aC _ _ _ (@YC _ _ (i:=2) (j:=3) _ _ _ _ _ _ _ _ _ _ _ rfl mM.nd rfl rfl (by decide) rfl rfl (@dZ _ _ _ _ _ (pv 3) (@aJ _ _ _ _ _ _ _ _ bR (pv 2) (pv 3)) (by rfl) (by rfl)) rfl (by rfl)))) (@aC _ _ _ (@aM _ _ _ _ (@bM _ _ _ _ _ (@dZ _ _ _ _ _ (@aJ _ _ _ _ _ _ _ _ bG (pv 0) (pv 2)) (@aJ _ _ _ _ _ _ _ _ bG (pv 1) (pv 2)) (by rfl) (by rfl)))))))),?_⟩
  w_fin
  refine zH (fun σ H'=>∃ one other:Int,σ=[some (.int t),some (.int b),some (.int one),some (.int other)]/\H'=H/\0<=one/\0<=other/\Int.gcd one other=Int.gcd t b)
   (fun σ _=>match σ with|[_,_,_,some (.int z)]=>z.toNat|_=>0) ⟨_,_,rfl,rfl,by split <;> omega,by omega,?_⟩ ?_ ?_
  ·have e:∀ z:Int,(if z < 0 then -z else z)=(z.natAbs:Int):=fun z=>by split <;> omega
   rw [e]
   simp [Int.gcd]
  ·rintro σ H' ⟨one,other,rfl,rfl,h1,h2,hg⟩
   w_fin
   refine lJ (fun c=>?_) (fun c=>?_)
   ·subst c
    have e1:one=(Int.gcd t b:Int):=by rw [← hg,Int.gcd_zero_right]; omega
    have hb0:b≠0:=by omega
    have hgb:(Int.gcd t b:Int).natAbs<=b.natAbs:=by
     have:=Nat.le_of_dvd (by omega) (Int.gcd_dvd_natAbs_right t b)
     omega
    subst e1
    w_fin
    have es:(Int.gcd t b:Int)=sg t b:=by unfold sg; rw [if_neg (by omega)]
    rw [es]
    have hc:∀ z,rH z (sg t b):=fun _=>⟨AB hb0,Sm.le (by rw [wH]; omega) hs2⟩
    refine DM (hc _) ?_
    w_fin
    refine DM (hc _) ?_
    w_fin
    refine dJ fun p hp=>?_
    w_fin
    exact q p hp
   ·w_fin
    refine ⟨⟨_,_,rfl,rfl,h2,Int.emod_nonneg _ (by omega),by rw [NH (by omega)]; exact hg⟩,?_⟩
    have:=Int.emod_lt_of_pos one (show 0 < other by omega)
    show (one % other).toNat < other.toNat
    omega
  ·intro σ H Q Q' hQ h
   obtain ⟨v,e1,h⟩:=h
   rcases h with ⟨e2,b',e3,q'⟩|⟨d,e,e2,e3,e4,e5,b',e6,q'⟩
   ·exact ⟨v,e1,.inl ⟨e2,b',e3,hQ _ _ q'⟩⟩
   ·exact ⟨v,e1,.inr ⟨d,e,e2,e3,e4,e5,b',e6,hQ _ _ q'⟩⟩
theorem MQ (T:Bl mg) (d:Df K mg "_law_names" rW ["_law_script"]) (W:XX K mg xt x1 x4 x5) (o1l:bD P w K mg base k "_law_number" ["_law_script","_law_k"] (DB K)):bD P w K mg base (k+1) "_law_names" ["_law_script"] (wD K):=by
 refine bD.of d lR (fun vs H Q E h=>?_) (fun f cdv A outer s H vs Q E hr h=>?_)
 ·obtain ⟨a,ns,rfl,_⟩:=h
  rfl
 ·obtain ⟨a,ns,rfl,hS,q⟩:=h
  refine ⟨_,(@aA _ _ _ _ _ (@aO _ _ (i:=1) _ _ _ _ lR.nd rfl (by w_left) (@aH _ _ _ _) (by rfl) (by w_means)) (@aA _ _ _ _ _ (@aO _ _ (i:=2) _ _ _ _ lR.nd rfl (by w_left) (@aF _ _ _ _ _ _ _ _ _ _ o1l hr rfl (@dZ _ _ _ _ _ (pv 0) (@aD _ _ _ _) (by rfl) (by rfl)) (by decide) (by rfl) (by rfl)) (by rfl) (by w_means)) (@aA _ _ _ _ _ (@aO _ _ (i:=3) _ _ _ _ lR.nd rfl (by w_left) (@bI _ _ _ _ _ _ _ _ _ _ VO (pv 1) (@cC _) (@bV _ _ _ (@aJ _ _ _ _ _ _ _ _ bR (pv 2) (@aD _ _ _ _)))) (by rfl) (by w_means)) (@aA _ _ _ _ _ (@aO _ _ (i:=4) _ _ _ _ lR.nd rfl (by w_left) (@aJ _ _ _ _ _ _ _ _ QU (@cD _ _ _ _ _ _ _ eB (pv 1) (@aJ _ _ _ _ _ _ _ _ bR (@aJ _ _ _ _ _ _ _ _ bG (pv 2) (@aD _ _ _ _)) (@aD _ _ _ _)) (fun _ _=>rfl)) (@aJ _ _ _ _ _ _ _ _ bR (@aJ _ _ _ _ _ _ _ _ bG (pv 2) (@aD _ _ _ _)) (@aD _ _ _ _))) (by rfl) (by w_means)) (@aC _ _ _ (@aM _ _ _ _ (@eF _ _ _ _ _ _ _ _ _ _ _ _ _ _ (@dD _ _ (sc:=aG rW) (N:=["_law_script","_law_letters","_law_number_here","_law_before","_law_behind"]) (tn:=["_law_k"]) (names:=["_law_number_here","_law_letters","_law_behind","_law_before"]) (is:=[2,1,4,3]) rfl rfl (by decide +kernel) (by decide +kernel) rfl (by decide +kernel) rfl (by decide +kernel) (by decide +kernel) (by decide +kernel)) rfl (@kI _ _ _ _ _ _ rfl T.z_range (@bE _ _ _ (@aD _ _ _ _) (by rfl)) (by rfl)) (fun _ _ _ _=>(@aU _ _ (i:=0) _ (show (["_law_k","_law_number_here","_law_letters","_law_behind","_law_before"]:List Str).Nodup by decide +kernel) rfl (Or.inl rfl) (Or.inr rfl))) (fun _ _ _ _=>(@aJ _ _ _ _ _ _ _ _ jC (@aJ _ _ _ _ _ _ _ _ jC (pv 4) (@cD _ _ _ _ _ _ _ jG (pv 2) (@aJ _ _ _ _ _ _ _ _ bR (@aJ _ _ _ _ _ _ _ _ jC (@aJ _ _ _ _ _ _ _ _ bG (pv 1) (@aD _ _ _ _)) (@aJ _ _ _ _ _ _ _ _ eV (@aD _ _ _ _) (pv 0))) (@aD _ _ _ _)) (fun _ _=>rfl))) (pv 3))) (fun _ _ _ _=>(@cI _)) (by intro _; rfl)))))))),?_⟩
  have h26:Av.length<=100000:=by rw [SL]; decide
  w_fin
  refine ⟨a,ns,1,rfl,hS,by decide,by decide,fun r hr=>?_⟩
  w_fin
  obtain ⟨i,hi,ei⟩:∃ i:Nat,i < 4/\r % 4=i:=⟨(r % 4).toNat,by omega,by omega⟩
  rw [ei]
  refine VZ h26 ?_
  obtain ⟨lb,Lb⟩:=sl4 i hi
  generalize Txt.slice Av none (some (i:Int))=EO at lb Lb ⊢
  w_fin
  obtain ⟨j,hj,ej⟩:∃ j:Nat,j < 26/\r.fdiv 4 % 26=(j:Int):=⟨(r.fdiv 4 % 26).toNat,by omega,by omega⟩
  rw [ej]
  refine LP h26 (OP j hj) ?_
  w_fin
  have m0:0<=r.fdiv 104 % 5/\r.fdiv 104 % 5 < 5:=by omega
  generalize r.fdiv 104 % 5=mm at m0 ⊢
  have l1:∀ c:Nat,(⟨#[c]⟩:Str).length=1:=fun _=>rfl
  refine ⟨_,_,rfl,rfl,m0.1,by omega,by rw [l1]; decide,fun EN hb=>?_⟩
  obtain ⟨lh,Lh⟩:=PP hb (l1 _) (qW.one (by omega) (by omega))
  clear hb
  w_fin
  refine ⟨8,rfl,by decide,by decide,?_⟩
  refine xP (n:=8) (by omega) (fun acc k ys G=>Kp acc H G/\ys=((List.range k).map (yD EO EN (r.fdiv 520))).map V.str) ?_ ?_ ?_
  ·intro acc h0
   exact ⟨Kp.new h0,rfl⟩
  ·rintro acc k ys G h0 hk hyl hG ⟨kp,rfl⟩
   w_fin
   obtain ⟨o,ho,eo⟩:∃ j:Nat,j < 26/\(r.fdiv 520+3 * (0+(k:Int))) % 26=(j:Int):=⟨((r.fdiv 520+3 * (0+(k:Int))) % 26).toNat,by omega,by omega⟩
   have e1:yD EO EN (r.fdiv 520) k=EO++⟨#[97+o]⟩++EN:=by
    unfold yD
    rw [show ((r.fdiv 520+3 * (k:Int)) % 26).toNat=o by rw [Int.zero_add] at eo; omega]
   rw [eo]
   refine LP h26 (OP o ho) ?_
   refine gN (by rw [l1]; omega) ?_
   w_fin
   refine gN (by rw [eW,l1]; omega) ?_
   refine eS hk hyl hG ⟨kp.trans Kp.upd,?_⟩
   rw [List.range_succ,map_append,map_append]
   show _=_++[V.str (yD EO EN (r.fdiv 520) k)]
   rw [e1]
  rintro acc ys G h0 hG hyl ⟨kp,rfl⟩
  w_fin
  refine q acc G _ h0 (fun b o h=>kp _ _ (aB h h0) h) hG (by simp) (fun s hs=>?_) (En _ _ _)
  obtain ⟨k,hk,rfl⟩:=mem_map.mp hs
  have ho:((r.fdiv 520+3 * (k:Int)) % 26).toNat < 26:=by omega
  unfold yD
  exact MN (by rw [eW,eW,l1]; omega) (by rw [eW,eW,l1]; omega) ((Lb.app (qW.one (by omega) (by omega))).app Lh)
theorem RE (T:Bl mg) (d:Df K mg "_law_post" xH ["_law_number_here","_law_names_here"]) (W:XX K mg xt x1 x4 x5):bD P w K mg base (k+1) "_law_post" ["_law_number_here","_law_names_here"] zZ:=by
 refine bD.of d rV (fun vs H Q E h=>?_) (fun f cdv A outer s H vs Q E hr h=>?_)
 ·obtain ⟨c,ln,U,rfl,_⟩:=h
  rfl
 ·obtain ⟨c,ln,U,rfl,hc,hln,hUl,hU,q⟩:=h
  refine ⟨_,(@aA _ _ _ _ _ (@aO _ _ (i:=2) _ _ _ _ rV.nd rfl (by w_left) (@aJ _ _ _ _ _ _ _ _ bR (pv 0) (@aD _ _ _ _)) (by rfl) (by w_means)) (@aA _ _ _ _ _ (@aO _ _ (i:=3) _ _ _ _ rV.nd rfl (by w_left) (@aJ _ _ _ _ _ _ _ _ bR (@aJ _ _ _ _ _ _ _ _ bG (pv 0) (@aD _ _ _ _)) (@aD _ _ _ _)) (by rfl) (by w_means)) (@aA _ _ _ _ _ (@bB _ _ _ _ _ _ _ _ (@aK _ _ _ _ _ _ _ _ wL (pv 2) (@aD _ _ _ _) (aL _)) (@aC _ _ _ (@aM _ _ _ _ (@cD _ _ _ _ _ _ _ eB (pv 1) (pv 3) (fun _ _=>rfl)))) (@aS _)) (@aA _ _ _ _ _ (@bB _ _ _ _ _ _ _ _ (@aK _ _ _ _ _ _ _ _ (aY hr.units) (pv 2) (@aD _ _ _ _) (aL _)) (@aC _ _ _ (@aM _ _ _ _ (@aJ _ _ _ _ _ _ _ _ aV (@aJ _ _ _ _ _ _ _ _ aV (@cD _ _ _ _ _ _ _ eB (pv 1) (pv 3) (fun _ _=>rfl)) (@aH _ _ _ _)) (@cD _ _ _ _ _ _ _ eB (pv 1) (@aJ _ _ _ _ _ _ _ _ bR (@aJ _ _ _ _ _ _ _ _ bG (pv 0) (@aD _ _ _ _)) (@aD _ _ _ _)) (fun _ _=>rfl))))) (@aS _)) (@aA _ _ _ _ _ (@xQ _ _ _ _ _ _ _ _ _ _ _ _ _ _ (i:=4) _ _ _ rV.nd rfl (by w_left) (@dD _ _ (sc:=aG xH) (N:=["_law_number_here","_law_names_here","_law_kind","_law_first","_law_more"]) (tn:=["_law_k"]) (names:=["_law_number_here","_law_names_here","_law_first"]) (is:=[0,1,3]) rfl rfl (by decide +kernel) (by decide +kernel) rfl (by decide +kernel) rfl (by decide +kernel) (by decide +kernel) (by decide +kernel)) rfl (@kI _ _ _ _ _ _ rfl T.z_range (@bE _ _ _ (@aJ _ _ _ _ _ _ _ _ aV (@aD _ _ _ _) (@aJ _ _ _ _ _ _ _ _ bR (@aJ _ _ _ _ _ _ _ _ bG (pv 0) (@aD _ _ _ _)) (@aD _ _ _ _))) (by rfl)) (by rfl)) (fun _ _ _ _=>(@aU _ _ (i:=0) _ (show (["_law_k","_law_number_here","_law_names_here","_law_first"]:List Str).Nodup by decide +kernel) rfl (Or.inl rfl) (Or.inr rfl))) (fun _ _ _ _=>(@cD _ _ _ _ _ _ _ jG (pv 2) (@aJ _ _ _ _ _ _ _ _ bR (@aJ _ _ _ _ _ _ _ _ jC (@aJ _ _ _ _ _ _ _ _ jC (pv 3) (@aD _ _ _ _)) (@aJ _ _ _ _ _ _ _ _ eV (@aJ _ _ _ _ _ _ _ _ bR (@aJ _ _ _ _ _ _ _ _ bG (pv 1) (@aD _ _ _ _)) (@aD _ _ _ _)) (pv 0))) (@aD _ _ _ _)) (fun _ _=>rfl))) (fun _ _ _ _=>(@cI _)) (by intro _; rfl) (by rfl) (by w_means)) (@aC _ _ _ (@aM _ _ _ _ (@cP _ _ _ _ _ _ _ _ _ _ _ _ plainAttrs_str slot_str_join type_str_join oX (@aH _ _ _ _) (@bE _ _ _ (@aJ _ _ _ _ _ _ _ _ aV (@bC _ _ _ _ (@bE _ _ _ (@cD _ _ _ _ _ _ _ eB (pv 1) (pv 3) (fun _ _=>rfl)) (by rfl))) (pv 4)) (by rfl)) (by rfl) (by rfl) (by rfl) (by rfl) (by rfl))))))))),?_⟩
  have ep:(".":Str)=⟨#[46]⟩:=by decide +kernel
  have one:∀ {s:Str},s∈U->cL s:=fun {s} hs=>by
   have:=qN (x:=s) (r:=[]) (fun p hp=>by rw [mem_singleton.mp hp]; exact hU s hs) (by decide)
   exact this
  w_fin
  have i0:0<=c.fdiv 5 % 8/\c.fdiv 5 % 8 < 8:=by omega
  generalize c.fdiv 5 % 8=fi at i0 ⊢
  obtain ⟨s1,m1,e1⟩:=nR (nm:=U) i0.1 (by omega)
  refine lJ (fun c1=>?_) (fun c1=>?_)
  ·w_fin
   refine bH hln e1 ?_
   w_fin
   exact q _ _ (aI.refl _) (one m1)
  w_fin
  refine lJ (fun c2=>?_) (fun c2=>?_)
  ·w_fin
   refine bH hln e1 ?_
   w_fin
   obtain ⟨p1,p2,_⟩:=cT (hU s1 m1)
   rw [ep]
   have l1:(⟨#[46]⟩:Str).length=1:=rfl
   refine gN (by rw [l1]; omega) ?_
   w_fin
   have i1:0<=c.fdiv 40 % 8/\c.fdiv 40 % 8 < 8:=by omega
   generalize c.fdiv 40 % 8=fj at i1 ⊢
   obtain ⟨s2,m2,e2⟩:=nR (nm:=U) i1.1 (by omega)
   refine bH hln e2 ?_
   obtain ⟨p3,p4,_⟩:=cT (hU s2 m2)
   refine gN (by rw [eW,l1]; omega) ?_
   w_fin
   refine q _ _ (aI.refl _) ?_
   have:=qN (x:=s1) (r:=[s2]) (fun p hp=>by
    rcases mem_cons.mp hp with rfl|hp
    ·exact hU _ m1
    ·rw [mem_singleton.mp hp]; exact hU _ m2) (show 1<=3 by decide)
   rw [show s1++⟨#[46]⟩++s2=Str.join ⟨#[46]⟩ [s1,s2] from by
    show Str.mk _=Str.mk _
    congr 1]
   exact this
  w_fin
  have n0:0<=c.fdiv 280 % 3/\c.fdiv 280 % 3 < 3:=by omega
  generalize c.fdiv 280 % 3=mm at n0 ⊢
  refine kX (by omega) (by omega) ?_
  refine xP (n:=(1+mm).toNat) (by omega) (fun acc k ys G=>Kp acc H G/\∃ r:List Str,ys=r.map V.str/\∀ s∈r,s∈U) ?_ ?_ ?_
  ·intro acc h0
   exact ⟨Kp.new h0,[],rfl,fun _ h=>nomatch h⟩
  ·rintro acc k ys G h0 hk hyl hG ⟨kp,r,rfl,hr'⟩
   w_fin
   obtain ⟨s2,m2,e2⟩:=nR (nm:=U) (i:=(fi+1+c.fdiv 40 % 7 * (0+(k:Int))) % 8) (Int.emod_nonneg _ (by decide)) (by have:=Int.emod_lt_of_pos (fi+1+c.fdiv 40 % 7 * (0+(k:Int))) (show (0:Int) < 8 by decide); omega)
   refine bH (kp _ _ (aB hln h0) hln) e2 ?_
   refine eS hk hyl hG ⟨kp.trans Kp.upd,r++[s2],by simp,fun s hs=>?_⟩
   rcases mem_append.mp hs with h|h
   ·exact hr' s h
   ·rw [mem_singleton.mp h]
    exact m2
  rintro acc ys G h0 hG hyl ⟨kp,r,rfl,hr'⟩
  rw [length_map] at hyl
  have sG:aI H G:=fun b o h=>kp _ _ (aB h h0) h
  w_fin
  refine bH (sG _ _ hln) e1 ?_
  w_fin
  refine cG fun l2 hl2=>?_
  have s2:=aI.new (o:=.lst [.str s1]) hl2
  w_fin
  refine jH aE (s2 _ _ hG) (by rw [length_map]; show 1+_<=_; omega) fun l3 hl3=>?_
  rw [show ([V.str s1]++r.map V.str)=(s1::r).map V.str from rfl]
  w_fin
  rw [ep]
  have hall:∀ p∈s1::r,cE p=true:=fun p hp=>(mem_cons.mp hp).elim (fun e=>by rw [e]; exact hU _ m1) fun h=>hU _ (hr' p h)
  have hsum:=CY (cs:=s1::r) fun c hc=>(cT (hall c hc)).2.1
  rw [length_cons] at hsum
  refine ⟨_,l3,_,rfl,rfl,aE,?_,?_⟩
  ·show _+(s1::r).length * 1<=_
   rw [length_cons]
   omega
  w_fin
  exact q _ _ ((sG.trans s2).trans (aI.new hl3)) (qN hall (by omega))
theorem RB (T:Bl mg) (d:Df K mg "_law_time" DI ["_law_number_here"]) (W:XX K mg xt x1 x4 x5) (o1p:bD P w K mg base k "_law_lowest" ["_law_top","_law_bottom"] AA):bD P w K mg base (k+1) "_law_time" ["_law_number_here"] zQ:=by
 refine bD.of d rS (fun vs H Q E h=>?_) (fun f cdv A outer s H vs Q E hr h=>?_)
 ·obtain ⟨c,rfl,_⟩:=h
  rfl
 ·obtain ⟨c,rfl,hc,q⟩:=h
  refine ⟨_,(@aA _ _ _ _ _ (@aO _ _ (i:=1) _ _ _ _ rS.nd rfl (by w_left) (@cD _ _ _ _ _ _ _ eB (@bC _ _ _ _ (@kC _ _ _ _ _ _ _ (@aD _ _ _ _) (@aD _ _ _ _) (@aD _ _ _ _) (by rfl) (by rfl) (by rfl))) (@aJ _ _ _ _ _ _ _ _ bR (pv 0) (@aD _ _ _ _)) (fun _ _=>rfl)) (by rfl) (by w_means)) (@aA _ _ _ _ _ (@aO _ _ (i:=2) _ _ _ _ rS.nd rfl (by w_left) (@aD _ _ _ _) (by rfl) (by w_means)) (@aA _ _ _ _ _ (@bB _ _ _ _ _ _ _ _ (@aK _ _ _ _ _ _ _ _ (aY hr.units) (@aJ _ _ _ _ _ _ _ _ bR (@aJ _ _ _ _ _ _ _ _ bG (pv 0) (@aD _ _ _ _)) (@aD _ _ _ _)) (@aD _ _ _ _) (aL _)) (@aC _ _ _ (@aO _ _ (i:=2) _ _ _ _ rS.nd rfl (by w_left) (@aJ _ _ _ _ _ _ _ _ aV (@aD _ _ _ _) (@aJ _ _ _ _ _ _ _ _ bR (@aJ _ _ _ _ _ _ _ _ bG (@aJ _ _ _ _ _ _ _ _ bG (pv 0) (@aD _ _ _ _)) (pv 1)) (pv 1))) (by rfl) (by w_means))) (@aS _)) (@aC _ _ _ (@aM _ _ _ _ (@aF _ _ _ _ _ _ _ _ _ _ o1p hr rfl (@dZ _ _ _ _ _ (@aJ _ _ _ _ _ _ _ _ aV (@aD _ _ _ _) (@aJ _ _ _ _ _ _ _ _ bR (@aJ _ _ _ _ _ _ _ _ bG (pv 0) (@aD _ _ _ _)) (pv 1))) (pv 2) (by rfl) (by rfl)) (by decide) (by rfl) (by rfl))))))),?_⟩
  w_fin
  refine bW fun l4 G2 hl4 s1 hl'=>?_
  w_fin
  obtain ⟨t,et,ht⟩:=Jf (x0:=9) (x1:=30) (x2:=999999999999) (fun z=>0 < z/\z<=999999999999) (by decide) (by decide) (by decide) (c % 3) (Int.emod_nonneg _ (by decide)) (Int.emod_lt_of_pos _ (by decide))
  refine bH hl' et ?_
  have fin:∀ b:Int,0 < b->b<=999999999999->∀ (p:Addr),G2 p=none->Q (.ref p) (L2.upd G2 p (.tup [.int (lD (1+c.fdiv 6 % t) b),.int (kL (1+c.fdiv 6 % t) b)])):=fun b h1 h2 p hp=>by
   have m0:=Int.emod_nonneg (c.fdiv 6) (show t≠0 by omega)
   have m1:=Int.emod_lt_of_pos (c.fdiv 6) ht.1
   exact q _ _ _ (s1.trans (aI.new hp)) (qX.low (by omega) aE) (EY (by omega) (by omega) h1 h2)
  have sm:∀ {z:Int},0<=z->z<=10 ^ 12->Sm 8000 z:=fun {z} h0 h1=>lt_of_le_of_lt (show z.natAbs<=10 ^ 12 by omega) (by decide)
  have m0:=Int.emod_nonneg (c.fdiv 6) (show t≠0 by omega)
  have m1:=Int.emod_lt_of_pos (c.fdiv 6) ht.1
  w_fin
  refine lJ (fun c1=>?_) (fun c1=>?_)
  ·w_fin
   have n0:=Int.emod_nonneg ((c.fdiv 6).fdiv t) (show t≠0 by omega)
   have n1:=Int.emod_lt_of_pos ((c.fdiv 6).fdiv t) ht.1
   generalize (c.fdiv 6).fdiv t % t=bb at n0 n1 ⊢
   exact ⟨_,_,rfl,by omega,sm (by omega) (by omega),sm (by omega) (by omega),fin _ (by omega) (by omega)⟩
  ·w_fin
   exact ⟨_,_,rfl,by omega,sm (by omega) (by omega),sm (by omega) (by omega),fin _ (by omega) (by omega)⟩
theorem MO (T:Bl mg) (d:Df K mg "_law_posts" xG ["_law_number_here","_law_names_here","_law_many"]) (W:XX K mg xt x1 x4 x5) (o2b:bD P w K mg base k "_law_post" ["_law_number_here","_law_names_here"] zZ):bD P w K mg base (k+1) "_law_posts" ["_law_number_here","_law_names_here","_law_many"] pS:=by
 refine bD.of d oE (fun vs H Q E h=>?_) (fun f cdv A outer s H vs Q E hr h=>?_)
 ·obtain ⟨c,ln,U,m,rfl,_⟩:=h
  rfl
 ·obtain ⟨c,ln,U,m,rfl,hc,hln,hUl,hU,hm,q⟩:=h
  refine ⟨_,(@aA _ _ _ _ _ (@aO _ _ (i:=3) _ _ _ _ oE.nd rfl (by w_left) (@bC _ _ _ _ (@dL _)) (by rfl) (by w_means)) (@aA _ _ _ _ _ (@fH _ _ _ _ _ _ _ _ PassesOwn.never rfl (@kI _ _ _ _ _ _ rfl T.z_range (@bE _ _ _ (pv 2) (by rfl)) (by rfl)) (@aU _ _ (i:=4) _ oE.nd rfl (by w_left) (by w_means)) (@aA _ _ _ _ _ (@bO _ _ _ _ (@cP _ _ _ _ _ _ _ _ _ _ _ _ plainAttrs_list F.slot_list_append F.type_list_append cK (pv 3) (@bE _ _ _ (@aF _ _ _ _ _ _ _ _ _ _ o2b hr rfl (@dZ _ _ _ _ _ (pv 0) (pv 1) (by rfl) (by rfl)) (by decide) (by rfl) (by rfl)) (by rfl)) (by rfl) (by rfl) (by rfl) (by rfl) (by rfl)) (by rfl)) (@aC _ _ _ (@aO _ _ (i:=0) _ _ _ _ oE.nd rfl (by w_left) (@aJ _ _ _ _ _ _ _ _ bG (pv 0) (@aD _ _ _ _)) (by rfl) (by w_means)))) (by intro _; rfl)) (@aC _ _ _ (@aM _ _ _ _ (@bF _ _ _ _ _ _ _ _ _ dE rfl T.z_tuple fL (@bE _ _ _ (pv 3) (by rfl)) (by decide) (by decide) (by rfl) (by rfl)))))),?_⟩
  w_fin
  refine cG fun l0 hl0=>?_
  w_fin
  refine kX (by omega) (by omega) ?_
  rw [Int.toNat_natCast]
  refine jY (n:=m) (fun i σ G=>∃ (c:Int) (ps:List Str) (o4:Option V),σ=[some (.int c),some (.ref ln),some (.int (m:Int)),some (.ref l0),o4]/\0<=c/\Kp l0 H G/\G l0=some (.lst (ps.map V.str))/\ps.length=i/\∀ s∈ps,cL s) ⟨c,[],_,rfl,hc,Kp.new hl0,aE,rfl,fun _ h=>nomatch h⟩ ?_ ?_
  ·rintro i σ G hi ⟨c,ps,o4,rfl,hc,kp,hG,hpl,hps⟩
   have hnl:=aB hln hl0
   w_fin
   refine ⟨c,ln,U,rfl,hc,kp _ _ hnl hln,hUl,hU,fun s G1 s1 ps1=>?_⟩
   w_fin
   refine iB (s1 _ _ hG) (by rw [length_map]; omega) ?_
   w_fin
   refine ⟨c.fdiv 840,ps++[s],_,rfl,cR hc (by decide),(kp.trans s1.kp).trans Kp.upd,by rw [map_append]; exact aE,by rw [length_append,hpl]; rfl,fun x hx=>?_⟩
   rcases mem_append.mp hx with h|h
   ·exact hps x h
   ·rw [mem_singleton.mp h]
    exact ps1
  rintro σ G ⟨c,ps,o4,rfl,hc,kp,hG,hpl,hps⟩
  w_fin
  refine ⟨l0,_,rfl,.inl ⟨cN.of hG,fun p hp=>?_⟩⟩
  w_fin
  have sG:aI H G:=fun b o h=>kp _ _ (aB h hl0) h
  exact q p _ ps (sG.trans (aI.new hp)) aE hpl hps
theorem MP (T:Bl mg) (d:Df K mg "_law_plain" xI ["_law_number_here","_law_names_here"]) (W:XX K mg xt x1 x4 x5) (o2a:bD P w K mg base k "_law_time" ["_law_number_here"] zQ) (o1w:bD P w K mg base k "_law_posts" ["_law_number_here","_law_names_here","_law_many"] pS):bD P w K mg base (k+1) "_law_plain" ["_law_number_here","_law_names_here"] wB:=by
 refine bD.of d fJ (fun vs H Q E h=>?_) (fun f cdv A outer s H vs Q E hr h=>?_)
 ·obtain ⟨c,ln,U,rfl,_⟩:=h
  rfl
 ·obtain ⟨c,ln,U,rfl,hc,hln,hUl,hU,q⟩:=h
  refine ⟨_,(@aA _ _ _ _ _ (@aO _ _ (i:=2) _ _ _ _ fJ.nd rfl (by w_left) (@aJ _ _ _ _ _ _ _ _ bR (pv 0) (@aD _ _ _ _)) (by rfl) (by w_means)) (@aA _ _ _ _ _ (@aO _ _ (i:=3) _ _ _ _ fJ.nd rfl (by w_left) (@cD _ _ _ _ _ _ _ eB (@bC _ _ _ _ (@eG _ _ _ _ _ (@aD _ _ _ _) (@eG _ _ _ _ _ (@aD _ _ _ _) (@kC _ _ _ _ _ _ _ (@aD _ _ _ _) (@aD _ _ _ _) (@aD _ _ _ _) (by rfl) (by rfl) (by rfl)) (by rfl)) (by rfl))) (@aJ _ _ _ _ _ _ _ _ bR (@aJ _ _ _ _ _ _ _ _ bG (pv 0) (@aD _ _ _ _)) (@aD _ _ _ _)) (fun _ _=>rfl)) (by rfl) (by w_means)) (@aA _ _ _ _ _ (@bB _ _ _ _ _ _ _ _ (@aK _ _ _ _ _ _ _ _ (aY hr.units) (pv 2) (@aD _ _ _ _) (aL _)) (@aC _ _ _ (@aO _ _ (i:=3) _ _ _ _ fJ.nd rfl (by w_left) (@aD _ _ _ _) (by rfl) (by w_means))) (@aS _)) (@aA _ _ _ _ _ (@bB _ _ _ _ _ _ _ _ (@aK _ _ _ _ _ _ _ _ (aY hr.units) (pv 2) (@aD _ _ _ _) (aL _)) (@aC _ _ _ (@aO _ _ (i:=3) _ _ _ _ fJ.nd rfl (by w_left) (@aP _ _ _ _ _ _ _ _ _ (VA rfl) rfl T.z_max OK (@dZ _ _ _ _ _ (@aD _ _ _ _) (pv 3) (by rfl) (by rfl)) (by decide) (by decide) (by rfl) (by rfl)) (by rfl) (by w_means))) (@aS _)) (@aA _ _ _ _ _ (@aO _ _ (i:=4) _ _ _ _ fJ.nd rfl (by w_left) (@aF _ _ _ _ _ _ _ _ _ _ o1w hr rfl (@kC _ _ _ _ _ _ _ (@aJ _ _ _ _ _ _ _ _ bG (pv 0) (@aD _ _ _ _)) (pv 1) (pv 3) (by rfl) (by rfl) (by rfl)) (by decide) (by rfl) (by rfl)) (by rfl) (by w_means)) (@aA _ _ _ _ _ (@aO _ _ (i:=5) _ _ _ _ fJ.nd rfl (by w_left) (@aJ _ _ _ _ _ _ _ _ bG (pv 0) (@aD _ _ _ _)) (by rfl) (by w_means)) (@aA _ _ _ _ _ (@fH _ _ _ _ _ _ _ _ PassesOwn.never rfl (@kI _ _ _ _ _ _ rfl T.z_range (@bE _ _ _ (pv 3) (by rfl)) (by rfl)) (@aU _ _ (i:=6) _ fJ.nd rfl (by w_left) (by w_means)) (@aC _ _ _ (@aO _ _ (i:=5) _ _ _ _ fJ.nd rfl (by w_left) (@aJ _ _ _ _ _ _ _ _ bG (pv 5) (@aD _ _ _ _)) (by rfl) (by w_means))) (by intro _; rfl)) (@aA _ _ _ _ _ (@aO _ _ (i:=7) _ _ _ _ fJ.nd rfl (by w_left) (@aF _ _ _ _ _ _ _ _ _ _ o2a hr rfl (@bE _ _ _ (pv 5) (by rfl)) (by decide) (by rfl) (by rfl)) (by rfl) (by w_means)) (@aA _ _ _ _ _ (@bB _ _ _ _ _ _ _ _ (@aK _ _ _ _ _ _ _ _ (aY hr.units) (pv 2) (@aD _ _ _ _) (aL _)) (@aC _ _ _ (@aM _ _ _ _ (@bM _ _ _ _ _ (@eG _ _ _ _ _ (@aH _ _ _ _) (@kC _ _ _ _ _ _ _ (@bJ _ _ _ _ _ _ _ (pv 4)) (@bJ _ _ _ _ _ _ _ (pv 4)) (pv 7) (by rfl) (by rfl) (by rfl)) (by rfl))))) (@aS _)) (@aC _ _ _ (@aM _ _ _ _ (@bM _ _ _ _ _ (@kC _ _ _ _ _ _ _ (@cD _ _ _ _ _ _ _ eB (@bC _ _ _ _ (@kC _ _ _ _ _ _ _ (@aH _ _ _ _) (@aH _ _ _ _) (@aH _ _ _ _) (by rfl) (by rfl) (by rfl))) (@aJ _ _ _ _ _ _ _ _ xV (pv 2) (@aD _ _ _ _)) (fun _ _=>rfl)) (pv 7) (pv 4) (by rfl) (by rfl) (by rfl)))))))))))))),?_⟩
  w_fin
  refine bW fun l5 G0 hl5 s1 hl5'=>?_
  w_fin
  obtain ⟨m,em,hm2,hm5⟩:=at5 (c.fdiv 4 % 5) (Int.emod_nonneg _ (by decide)) (Int.emod_lt_of_pos _ (by decide))
  refine bH hl5' em ?_
  have hk:c % 4=0∨c % 4=1∨c % 4=2∨c % 4=3:=by omega
  rcases hk with ek|ek|ek|ek
  ·rw [ek]
   w_fin
   refine ⟨_,ln,U,2,rfl,cR hc (by decide),s1 _ _ hln,hUl,hU,by omega,fun pp G1 ps t1 hpp hpl hps=>?_⟩
   w_fin
   refine kX (by omega) (by omega) ?_
   refine jY (n:=2) (fun i σ G=>∃ (z:Int) (o6:Option V),σ=[some (.int c),some (.ref ln),some (.int 0),some (.int (2:Int)),some (.ref pp),some (.int z),o6,none]/\G=G1/\0<=z) ⟨_,_,rfl,rfl,cR hc (by decide)⟩ ?_ ?_
   ·rintro i σ G hi ⟨z,o6,rfl,rfl,hz⟩
    w_fin
    exact ⟨_,_,rfl,rfl,cR hz (by decide)⟩
   rintro σ G ⟨z,o6,rfl,rfl,hz⟩
   w_fin
   refine ⟨z,rfl,hz,fun vt qt G2 t2 ft tr=>?_⟩
   have hpp2:=t2 _ _ hpp
   have sG:=(s1.trans t1).trans t2
   w_fin
   obtain ⟨a,b,rfl⟩:∃ a b,ps=[a,b]:=by
    match ps,hpl with
   |[a,b],_=>exact ⟨a,b,rfl⟩
   refine fG hpp2 (aX (show ([a,b].map V.str)[0]?=some (V.str a) from rfl)) ?_
   w_fin
   refine dJ fun p9 hp9=>?_
   w_fin
   exact q _ _ (.run a b qt) (sG.trans (aI.new hp9)) ⟨p9,vt,rfl,aE,ft.tk (TK.new hp9)⟩ ⟨hps a (by simp),hps b (by simp),tr⟩
  ·rw [ek]
   w_fin
   refine ⟨_,ln,U,m,rfl,cR hc (by decide),s1 _ _ hln,hUl,hU,by omega,fun pp G1 ps t1 hpp hpl hps=>?_⟩
   w_fin
   refine kX (by omega) (by omega) ?_
   refine jY (n:=m) (fun i σ G=>∃ (z:Int) (o6:Option V),σ=[some (.int c),some (.ref ln),some (.int 1),some (.int (m:Int)),some (.ref pp),some (.int z),o6,none]/\G=G1/\0<=z) ⟨_,_,rfl,rfl,cR hc (by decide)⟩ ?_ ?_
   ·rintro i σ G hi ⟨z,o6,rfl,rfl,hz⟩
    w_fin
    exact ⟨_,_,rfl,rfl,cR hz (by decide)⟩
   rintro σ G ⟨z,o6,rfl,rfl,hz⟩
   w_fin
   refine ⟨z,rfl,hz,fun vt qt G2 t2 ft tr=>?_⟩
   have hpp2:=t2 _ _ hpp
   have sG:=(s1.trans t1).trans t2
   w_fin
   refine cG fun l8 hl8=>?_
   have t8:=aI.new (o:=.lst [V.str "row",V.str "star",V.str "ring"]) hl8
   w_fin
   refine dJ fun p9 hp9=>?_
   have t9:=t8.trans (aI.new (o:=.tup [.str (mG.nm .row),vt,.ref pp]) hp9)
   w_fin
   exact q _ _ (.path .row qt ps) (sG.trans t9) ⟨p9,vt,pp,rfl,aE,ft.tk t9.tk,t9 _ _ hpp2⟩ ⟨hps,tr,by omega,by omega,fun z=>nomatch z⟩
  ·rw [ek]
   w_fin
   refine ⟨_,ln,U,m,rfl,cR hc (by decide),s1 _ _ hln,hUl,hU,by omega,fun pp G1 ps t1 hpp hpl hps=>?_⟩
   w_fin
   refine kX (by omega) (by omega) ?_
   refine jY (n:=m) (fun i σ G=>∃ (z:Int) (o6:Option V),σ=[some (.int c),some (.ref ln),some (.int 2),some (.int (m:Int)),some (.ref pp),some (.int z),o6,none]/\G=G1/\0<=z) ⟨_,_,rfl,rfl,cR hc (by decide)⟩ ?_ ?_
   ·rintro i σ G hi ⟨z,o6,rfl,rfl,hz⟩
    w_fin
    exact ⟨_,_,rfl,rfl,cR hz (by decide)⟩
   rintro σ G ⟨z,o6,rfl,rfl,hz⟩
   w_fin
   refine ⟨z,rfl,hz,fun vt qt G2 t2 ft tr=>?_⟩
   have hpp2:=t2 _ _ hpp
   have sG:=(s1.trans t1).trans t2
   w_fin
   refine cG fun l8 hl8=>?_
   have t8:=aI.new (o:=.lst [V.str "row",V.str "star",V.str "ring"]) hl8
   w_fin
   refine dJ fun p9 hp9=>?_
   have t9:=t8.trans (aI.new (o:=.tup [.str (mG.nm .star),vt,.ref pp]) hp9)
   w_fin
   exact q _ _ (.path .star qt ps) (sG.trans t9) ⟨p9,vt,pp,rfl,aE,ft.tk t9.tk,t9 _ _ hpp2⟩ ⟨hps,tr,by omega,by omega,fun z=>nomatch z⟩
  ·rw [ek]
   w_fin
   obtain ⟨m',em',h3,h5⟩:∃ m':Nat,(if (m:Int) > 3 then (m:Int) else 3)=(m':Int)/\3<=m'/\m'<=5:=by
    by_cases h:(m:Int) > 3
    ·exact ⟨m,by rw [if_pos h],by omega,hm5⟩
    ·exact ⟨3,by rw [if_neg h]; rfl,le_refl _,by decide⟩
   rw [em']
   w_fin
   refine ⟨_,ln,U,m',rfl,cR hc (by decide),s1 _ _ hln,hUl,hU,by omega,fun pp G1 ps t1 hpp hpl hps=>?_⟩
   w_fin
   refine kX (by omega) (by omega) ?_
   refine jY (n:=m') (fun i σ G=>∃ (z:Int) (o6:Option V),σ=[some (.int c),some (.ref ln),some (.int 3),some (.int (m':Int)),some (.ref pp),some (.int z),o6,none]/\G=G1/\0<=z) ⟨_,_,rfl,rfl,cR hc (by decide)⟩ ?_ ?_
   ·rintro i σ G hi ⟨z,o6,rfl,rfl,hz⟩
    w_fin
    exact ⟨_,_,rfl,rfl,cR hz (by decide)⟩
   rintro σ G ⟨z,o6,rfl,rfl,hz⟩
   w_fin
   refine ⟨z,rfl,hz,fun vt qt G2 t2 ft tr=>?_⟩
   have hpp2:=t2 _ _ hpp
   have sG:=(s1.trans t1).trans t2
   w_fin
   refine cG fun l8 hl8=>?_
   have t8:=aI.new (o:=.lst [V.str "row",V.str "star",V.str "ring"]) hl8
   w_fin
   refine dJ fun p9 hp9=>?_
   have t9:=t8.trans (aI.new (o:=.tup [.str (mG.nm .ring),vt,.ref pp]) hp9)
   w_fin
   exact q _ _ (.path .ring qt ps) (sG.trans t9) ⟨p9,vt,pp,rfl,aE,ft.tk t9.tk,t9 _ _ hpp2⟩ ⟨hps,tr,by omega,by omega,fun _=>by omega⟩
theorem YR (T:Bl mg) (d:Df K mg "_law_row" LF ["_law_number_here","_law_names_here","_law_known"]) (W:XX K mg xt x1 x4 x5) (o1v:bD P w K mg base k "_law_plain" ["_law_number_here","_law_names_here"] wB) (o1w:bD P w K mg base k "_law_posts" ["_law_number_here","_law_names_here","_law_many"] pS):bD P w K mg base (k+1) "_law_row" ["_law_number_here","_law_names_here","_law_known"] (FF K):=by
 refine bD.of d xF (fun vs H Q E h=>?_) (fun f cdv A outer s H vs Q E hr h=>?_)
 ·obtain ⟨c,ln,U,lk,E,rfl,_⟩:=h
  rfl
 ·obtain ⟨c,ln,U,lk,E,rfl,hc,hln,hUl,hU,hk,hE8,hps,q⟩:=h
  refine ⟨_,(@aA _ _ _ _ _ (@bB _ _ _ _ _ _ _ _ (@PW.pt _ _ _ (@kZ _ _ _ _ _ _ _ (@aK _ _ _ _ _ _ _ _ (aY hr.units) (@aJ _ _ _ _ _ _ _ _ bR (pv 0) (@aD _ _ _ _)) (@aD _ _ _ _) (aL _)) (@kY _ _ _ _ (@aK _ _ _ _ _ _ _ _ oS (@aP _ _ _ _ _ _ _ _ _ dF rfl T.z_len bX (@bE _ _ _ (pv 2) (by rfl)) (by decide) (by decide) (by rfl) (by rfl)) (@aD _ _ _ _) (aL _))))) (@aA _ _ _ _ _ (@tY _ _ _ _ _ _ (@cD _ _ _ _ _ _ _ eB (pv 2) (@aJ _ _ _ _ _ _ _ _ bR (@aJ _ _ _ _ _ _ _ _ bG (pv 0) (@aD _ _ _ _)) (@aP _ _ _ _ _ _ _ _ _ dF rfl T.z_len bX (@bE _ _ _ (pv 2) (by rfl)) (by decide) (by decide) (by rfl) (by rfl))) (fun _ _=>rfl)) (@qI _ _ _ _ _ (n:=2) rfl (@bP _ _ _ _ _ (@aU _ _ (i:=3) _ xF.nd rfl (by w_left) (by w_means)) (@bP _ _ _ _ _ (@aU _ _ (i:=4) _ xF.nd rfl (by w_left) (by w_means)) (@gW _) (by rfl)) (by rfl)) (by rfl) (by rfl)) (by rfl) (by rfl) (by rfl)) (@aA _ _ _ _ _ (@aO _ _ (i:=0) _ _ _ _ xF.nd rfl (by w_left) (@aJ _ _ _ _ _ _ _ _ bG (@aJ _ _ _ _ _ _ _ _ bG (pv 0) (@aD _ _ _ _)) (@aP _ _ _ _ _ _ _ _ _ dF rfl T.z_len bX (@bE _ _ _ (pv 2) (by rfl)) (by decide) (by decide) (by rfl) (by rfl))) (by rfl) (by w_means)) (@aC _ _ _ (@aM _ _ _ _ (@bM _ _ _ _ _ (@eG _ _ _ _ _ (@aH _ _ _ _) (@kC _ _ _ _ _ _ _ (pv 3) (@cD _ _ _ _ _ _ _ eB (pv 1) (@aJ _ _ _ _ _ _ _ _ bR (pv 0) (@aD _ _ _ _)) (fun _ _=>rfl)) (@aF _ _ _ _ _ _ _ _ _ _ o1w hr rfl (@kC _ _ _ _ _ _ _ (@aJ _ _ _ _ _ _ _ _ bG (pv 0) (@aD _ _ _ _)) (pv 1) (pv 4) (by rfl) (by rfl) (by rfl)) (by decide) (by rfl) (by rfl)) (by rfl) (by rfl) (by rfl)) (by rfl))))))) (@aS _)) (@aC _ _ _ (@aM _ _ _ _ (@aF _ _ _ _ _ _ _ _ _ _ o1v hr rfl (@dZ _ _ _ _ _ (@aJ _ _ _ _ _ _ _ _ bG (pv 0) (@aD _ _ _ _)) (pv 1) (by rfl) (by rfl)) (by decide) (by rfl) (by rfl))))),?_⟩
  obtain ⟨ks,hks,pk⟩:=hk
  have hkl:=Paired.length pk
  rw [length_reverse] at hkl
  w_fin
  refine lJ (fun c1=>?_) (fun c1=>?_)
  ·w_fin
   refine lJ (fun c2=>?_) (fun c2=>?_)
   ·have hpos:(0:Int) < (ks.length:Int):=by omega
    w_fin
    have m0:=Int.emod_nonneg (c.fdiv 3) (show (ks.length:Int)≠0 by omega)
    have m1:=Int.emod_lt_of_pos (c.fdiv 3) hpos
    obtain ⟨j,hj,ej⟩:∃ j:Nat,j < ks.length/\c.fdiv 3 % (ks.length:Int)=(j:Int):=⟨(c.fdiv 3 % (ks.length:Int)).toNat,by omega,by omega⟩
    rw [ej]
    obtain ⟨v,hv⟩:∃ v,ks[j]?=some v:=⟨_,List.getElem?_eq_getElem hj⟩
    obtain ⟨p,hp0,a,rfl,ha⟩:=Paired.at pk hv
    have hpm:p∈E:=mem_reverse.mp (mem_of_getElem? hp0)
    have h8:=hps p hpm
    refine bH hks (aX hv) ?_
    w_fin
    have d0:0<=(c.fdiv 3).fdiv (ks.length:Int):=cR (cR hc (by decide)) hpos
    generalize (c.fdiv 3).fdiv (ks.length:Int)=c' at d0 ⊢
    obtain ⟨s1,ms1,e1⟩:=nR (nm:=U) (i:=c' % 8) (Int.emod_nonneg _ (by decide)) (by have:=Int.emod_lt_of_pos c' (show (0:Int) < 8 by decide); omega)
    refine bH hln e1 ?_
    w_fin
    refine ⟨_,ln,U,p.2.1.length,rfl,cR d0 (by decide),hln,hUl,hU,by omega,fun pp G ps sG hpp hpl hps'=>?_⟩
    w_fin
    refine dJ fun p9 hp9=>?_
    w_fin
    have t9:=aI.new (o:=.tup [.str "put",.str p.1,.str s1,.ref pp]) hp9
    exact q _ _ (.put p.1 s1 ps) (sG.trans t9) ⟨p9,pp,rfl,aE,t9 _ _ hpp⟩ ⟨hU s1 ms1,hps',by omega,p,hpm,rfl,hpl.symm⟩
   ·w_fin
    exact ⟨_,ln,U,rfl,cR hc (by decide),hln,hUl,hU,fun v H' r s rq ok=>q v H' (.plain r) s rq ok⟩
  ·w_fin
   exact ⟨_,ln,U,rfl,cR hc (by decide),hln,hUl,hU,fun v H' r s rq ok=>q v H' (.plain r) s rq ok⟩
theorem IH (T:Bl mg) (d:Df K mg "_law_closed" tS ["_law_state"]) (W:XX K mg xt x1 x4 x5):bD P w K mg base (k+1) "_law_closed" ["_law_state"] (sZ K):=by
 refine bD.of d mO (fun vs H Q E h=>?_) (fun f cdv A outer s H vs Q E hr h=>?_)
 ·obtain ⟨d,lf,lk,U,gs,x,H0,n,rfl,_⟩:=h
  rfl
 ·obtain ⟨d,lf,lk,U,gs,x,H0,n,rfl,s0,st,hne,hn,q⟩:=h
  refine ⟨_,(@aA _ _ _ _ _ (@tY _ _ _ _ _ _ (@cH _ _ _ _ _ _ hr.u1 (pv 0) (@aH _ _ _ _) (fun _ _=>rfl)) (@YE _ _ _ _ (n:=3) _ rfl (@bP _ _ _ _ _ (@aU _ _ (i:=1) _ mO.nd rfl (by w_left) (by w_means)) (@bP _ _ _ _ _ (@aU _ _ (i:=2) _ mO.nd rfl (by w_left) (by w_means)) (@bP _ _ _ _ _ (@aU _ _ (i:=3) _ mO.nd rfl (by w_left) (by w_means)) (@gW _) (by rfl)) (by rfl)) (by rfl)) (by rfl) (by rfl)) (by rfl) (by rfl) (by rfl)) (@aA _ _ _ _ _ (@bO _ _ _ _ (@cP _ _ _ _ _ _ _ _ _ _ _ _ plainAttrs_list F.slot_list_append F.type_list_append cK (@cH _ _ _ _ _ _ hr.u1 (pv 0) (@aH _ _ _ _) (fun _ _=>rfl)) (@bE _ _ _ (@bM _ _ _ _ _ (@eG _ _ _ _ _ (@aH _ _ _ _) (@kC _ _ _ _ _ _ _ (pv 1) (pv 2) (@bF _ _ _ _ _ _ _ _ _ dE rfl T.z_tuple fL (@bE _ _ _ (pv 3) (by rfl)) (by decide) (by decide) (by rfl) (by rfl)) (by rfl) (by rfl) (by rfl)) (by rfl))) (by rfl)) (by rfl) (by rfl) (by rfl) (by rfl) (by rfl)) (by rfl)) (@aA _ _ _ _ _ (@bO _ _ _ _ (@cP _ _ _ _ _ _ _ _ _ _ _ _ plainAttrs_list F.slot_list_append F.type_list_append cK (@cH _ _ _ _ _ _ hr.u1 (pv 0) (@aH _ _ _ _) (fun _ _=>rfl)) (@bE _ _ _ (@bM _ _ _ _ _ (@dZ _ _ _ _ _ (pv 1) (@aP _ _ _ _ _ _ _ _ _ dF rfl T.z_len bX (@bE _ _ _ (pv 2) (by rfl)) (by decide) (by decide) (by rfl) (by rfl)) (by rfl) (by rfl))) (by rfl)) (by rfl) (by rfl) (by rfl) (by rfl) (by rfl)) (by rfl)) (@aA _ _ _ _ _ (@gR _ _ _ _ _ _ _ _ _ hr.u1 (pv 0) (@aH _ _ _ _) (@fO _ _ _) rfl) (@aC _ _ _ (@gR _ _ _ _ _ _ _ _ _ hr.u1 (pv 0) (@aH _ _ _ _) (@aJ _ _ _ _ _ _ _ _ aV (@cH _ _ _ _ _ _ hr.u1 (pv 0) (@aH _ _ _ _) (fun _ _=>rfl)) (@aD _ _ _ _)) rfl)))))),?_⟩
  obtain ⟨⟨vi,u,hd,⟨⟨li,qa,ls,ys,rfl,hli,hqa,hls,vG,f1,f2,n1,n2,n3,n4,n5⟩,inm,inw,ind',ile,iwf,ipb⟩⟩,ne,⟨fd,ff,fk⟩,⟨xs,hxs,px⟩,⟨ks,hks,pk⟩,wf,nm,le⟩:=st
  have hxl:=Paired.length px
  have hkl:=Paired.length pk
  rw [length_reverse] at hkl
  have le':lE gs+(x.2.2.length+1)<=n:=le
  have lnl:=uI gs
  have hyl:=Paired.length vG
  have hel:(cZ [] gs).length<=55:=by
   have:=yP gs []
   rw [length_nil] at this
   omega
  have rpos:1<=x.2.2.length:=length_pos_iff.mpr hne
  have hdl:∀ {b:Addr} {zs:List V},H b=some (.lst zs)->b≠d:=fun h e=>by rw [e,hd] at h; cases h
  w_fin
  refine eQ (.inl hd) kE ?_
  refine WZ hli rfl ?_
  w_fin
  refine eQ (.inl hd) kG ?_
  w_fin
  refine ⟨ls,_,rfl,.inl ⟨cN.of hls,fun p1 hp1=>?_⟩⟩
  obtain ⟨H1,zE,t1,g1⟩:=jK hp1 (.tup ys)
  rw [zE]
  w_fin
  refine eJ fun p2 H2 hp2 t2 g2=>?_
  have t12:=t1.trans t2
  have pq:gH H2 (.ref p2) x:=⟨p2,qa,p1,ys,rfl,g2,t12 _ _ hqa,t2 _ _ g1,Pd.imp vG fun v b f=>f.tk t12.tk⟩
  w_fin
  refine iB (t12 _ _ hxs) (by omega) ?_
  have k3:Kp lf H2 (L2.upd H2 lf (.lst (xs++[.ref p2]))):=Kp.upd
  have vY:=TK.lst (o:=.lst (xs++[.ref p2])) (t12 _ _ hxs)
  have g3:=aE (H:=H2) (a:=lf) (o:=.lst (xs++[.ref p2]))
  generalize L2.upd H2 lf (.lst (xs++[.ref p2]))=H3 at k3 vY g3 ⊢
  have hd3:=k3 _ _ (hdl hxs).symm (t12 _ _ hd)
  have hks3:=k3 _ _ ne.symm (t12 _ _ hks)
  have hqa3:=vY _ _ (t12 _ _ hqa)
  w_fin
  refine eQ (.inl hd3) oD ?_
  w_fin
  refine eJ fun p4 H4 hp4 t4 g4=>?_
  rw [length_map] at g4
  w_fin
  refine iB (t4 _ _ hks3) (by omega) ?_
  have k5:Kp lk H4 (L2.upd H4 lk (.lst (ks++[.ref p4]))):=Kp.upd
  have tk5:=TK.lst (o:=.lst (ks++[.ref p4])) (t4 _ _ hks3)
  have g5:=aE (H:=H4) (a:=lk) (o:=.lst (ks++[.ref p4]))
  generalize L2.upd H4 lk (.lst (ks++[.ref p4]))=H5 at k5 tk5 g5 ⊢
  have hd5:=k5 _ _ (hdl hks).symm (t4 _ _ hd3)
  w_fin
  refine lV hd5 (by show 4<=1000; decide) ?_
  rw [KO]
  have k6:Kp d H5 (L2.upd H5 d (.dK (lI lf lk .non u))):=Kp.upd
  have tk6:=TK.dic (o:=.dK (lI lf lk .non u)) hd5
  have g6:=aE (H:=H5) (a:=d) (o:=.dK (lI lf lk .non u))
  generalize L2.upd H5 d (.dK (lI lf lk .non u))=H6 at k6 tk6 g6 ⊢
  w_fin
  refine eQ (.inl g6) oC ?_
  w_fin
  refine lV g6 (by show 4<=1000; decide) ?_
  rw [xA]
  have k7:Kp d H6 (L2.upd H6 d (.dK (lI lf lk .non (u+6)))):=Kp.upd
  have tk7:=TK.dic (o:=.dK (lI lf lk .non (u+6))) g6
  have g7:=aE (H:=H6) (a:=d) (o:=.dK (lI lf lk .non (u+6)))
  generalize L2.upd H6 d (.dK (lI lf lk .non (u+6)))=H7 at k7 tk7 g7 ⊢
  w_fin
  have tk37:=((t4.tk.trans tk5).trans tk6).trans tk7
  have tk27:=vY.trans tk37
  have hlf7:H7 lf=some (.lst (xs++[.ref p2])):=k7 _ _ (hdl hxs) (k6 _ _ (hdl hxs) (k5 _ _ ne (t4 _ _ g3)))
  have hlk7:H7 lk=some (.lst (ks++[.ref p4])):=k7 _ _ (hdl hks) (k6 _ _ (hdl hks) g5)
  refine q H7 (fun b o h=>?_) ⟨⟨_,_,g7,rfl⟩,ne,⟨fd,ff,fk⟩,⟨_,hlf7,?_⟩,?_,?_,?_,?_⟩
  ·have b1:=aB h fd
   have b2:=aB h ff
   have b3:=aB h fk
   exact k7 _ _ b1 (k6 _ _ b1 (k5 _ _ b3 (t4 _ _ (k3 _ _ b2 (t12 _ _ (s0 _ _ h))))))
  ·exact Pd.snoc (Pd.imp px fun v b f=>(f.tk t12.tk).tk tk27) (show iD H7 (.ref p2) (.piece x) from pq.tk tk27)
  ·rw [mC]
   refine ⟨_,hlk7,?_⟩
   rw [show (cZ (cZ [] gs) [.piece x]).reverse=(cZ [] gs).reverse++[x] from List.reverse_cons]
   exact Pd.snoc (Pd.imp pk fun v b ⟨a,e,f⟩=>⟨a,e,tk37 _ _ (vY _ _ (t12 _ _ f))⟩) ⟨p4,rfl,((tk5.trans tk6).trans tk7) _ _ g4⟩
  ·exact (lN gs [] (.piece x)).mpr ⟨wf,⟨iwf,hne,by omega,ind',⟨ile.1,ile.2,ipb⟩,inw⟩,trivial⟩
  ·rw [mC]
   intro p hp
   rcases mem_cons.mp (show p∈x::cZ [] gs from hp) with rfl|hp
   ·exact inm
   ·exact nm p hp
  ·rw [oZ]
   show lE gs+(0+x.2.2.length+2)+0<=_
   omega
theorem xZ (T:Bl mg) (d:Df K mg "_law_time_text" lS ["_law_time_here"]) (W:XX K mg xt x1 x4 x5):bD P w K mg base (k+1) "_law_time_text" ["_law_time_here"] sR:=by
 refine bD.of d xE (fun vs H Q E h=>?_) (fun f cdv A outer s H vs Q E hr h=>?_)
 ·obtain ⟨v,t,rfl,_⟩:=h
  rfl
 ·obtain ⟨v,t,rfl,⟨p,rfl,hp⟩,ht,q⟩:=h
  refine ⟨_,(@aA _ _ _ _ _ (@bB _ _ _ _ _ _ _ _ (@aK _ _ _ _ _ _ _ _ (aY hr.units) (@bJ _ _ _ _ _ _ _ (pv 0)) (@aD _ _ _ _) (aL _)) (@aC _ _ _ (@aM _ _ _ _ (@bF _ _ _ _ _ _ _ _ _ yV rfl T.z_str qS (@bE _ _ _ (@bJ _ _ _ _ _ _ _ (pv 0)) (by rfl)) (by decide) (by decide) (by rfl) (by rfl)))) (@aS _)) (@aC _ _ _ (@aM _ _ _ _ (@aJ _ _ _ _ _ _ _ _ aV (@aJ _ _ _ _ _ _ _ _ aV (@bF _ _ _ _ _ _ _ _ _ yV rfl T.z_str qS (@bE _ _ _ (@bJ _ _ _ _ _ _ _ (pv 0)) (by rfl)) (by decide) (by decide) (by rfl) (by rfl)) (@aH _ _ _ _)) (@bF _ _ _ _ _ _ _ _ _ yV rfl T.z_str qS (@bE _ _ _ (@bJ _ _ _ _ _ _ _ (pv 0)) (by rfl)) (by decide) (by decide) (by rfl) (by rfl)))))),?_⟩
  have hn:=ht.num
  have hd:=ht.den
  have b1:(Str.ofString (toString t.num)).length<=12:=(eN (by omega:0<=t.num) hn.2).2
  have b2:(Str.ofString (toString (t.den:Int))).length<=12:=(eN (by omega:0<=(t.den:Int)) hd.2).2
  have b3:(Str.ofString "/").length=1:=by decide +kernel
  have es:Str.ofString "/"=⟨#[47]⟩:=by decide +kernel
  w_fin
  refine lJ (fun c1=>?_) (fun c1=>?_)
  ·w_fin
   refine ⟨t.num,rfl,by omega,?_⟩
   w_fin
   rw [show gK t=cY t.num from if_pos (by omega)] at q
   exact q
  w_fin
  refine ⟨t.num,rfl,by omega,?_⟩
  refine gN (by omega) ?_
  w_fin
  refine ⟨(t.den:Int),rfl,by omega,?_⟩
  refine gN (by rw [eW]; omega) ?_
  w_fin
  rw [show gK t=cY t.num++⟨#[47]⟩++cY (t.den:Int) from if_neg (by omega)] at q
  rw [es]
  exact q
theorem rM (T:Bl mg) (d:Df K mg "_law_row_texts" jP ["_law_row_here"]) (W:XX K mg xt x1 x4 x5) (o0n:bD P w K mg base k "_law_time_text" ["_law_time_here"] sR):bD P w K mg base (k+1) "_law_row_texts" ["_law_row_here"] (zY K):=by
 refine bD.of d fZ (fun vs H Q E h=>?_) (fun f cdv A outer s H vs Q E hr h=>?_)
 ·obtain ⟨v,r,E,rfl,_⟩:=h
  rfl
 ·obtain ⟨v,r,E,rfl,hro,hw,hE,q⟩:=h
  refine ⟨_,(@aA _ _ _ _ _ (@bB _ _ _ _ _ _ _ _ (@aK _ _ _ _ _ _ _ _ (aY hr.units) (@bJ _ _ _ _ _ _ _ (pv 0)) (@aH _ _ _ _) (aL _)) (@aC _ _ _ (@aM _ _ _ _ (@bC _ _ _ _ (@bE _ _ _ (@aJ _ _ _ _ _ _ _ _ aV (@aJ _ _ _ _ _ _ _ _ aV (@cP _ _ _ _ _ _ _ _ _ _ _ _ plainAttrs_str slot_str_join type_str_join jF (@aH _ _ _ _) (@bE _ _ _ (@bI _ _ _ _ _ _ _ _ _ _ dB (pv 0) (@cC _) (@bV _ _ _ (@aD _ _ _ _))) (by rfl)) (by rfl) (by rfl) (by rfl) (by rfl) (by rfl)) (@aH _ _ _ _)) (@aF _ _ _ _ _ _ _ _ _ _ o0n hr rfl (@bE _ _ _ (@bJ _ _ _ _ _ _ _ (pv 0)) (by rfl)) (by decide) (by rfl) (by rfl))) (by rfl))))) (@aS _)) (@aA _ _ _ _ _ (@bB _ _ _ _ _ _ _ _ (@aK _ _ _ _ _ _ _ _ (aY hr.units) (@bJ _ _ _ _ _ _ _ (pv 0)) (@aH _ _ _ _) (aL _)) (@aC _ _ _ (@aM _ _ _ _ (@bC _ _ _ _ (@bE _ _ _ (@cP _ _ _ _ _ _ _ _ _ _ _ _ plainAttrs_str slot_str_join type_str_join jF (@aH _ _ _ _) (@bE _ _ _ (@aJ _ _ _ _ _ _ _ _ aV (@bI _ _ _ _ _ _ _ _ _ _ dB (pv 0) (@cC _) (@bV _ _ _ (@aD _ _ _ _))) (@bJ _ _ _ _ _ _ _ (pv 0))) (by rfl)) (by rfl) (by rfl) (by rfl) (by rfl) (by rfl)) (by rfl))))) (@aS _)) (@aA _ _ _ _ _ (@bB _ _ _ _ _ _ _ _ (@aK _ _ _ _ _ _ _ _ (jB hr.units) (@bJ _ _ _ _ _ _ _ (pv 0)) (@aH _ _ _ _) (aL _)) (@aC _ _ _ (@aM _ _ _ _ (@bC _ _ _ _ (@bE _ _ _ (@cP _ _ _ _ _ _ _ _ _ _ _ _ plainAttrs_str slot_str_join type_str_join jF (@aH _ _ _ _) (@bE _ _ _ (@aJ _ _ _ _ _ _ _ _ aV (@bM _ _ _ _ _ (@dZ _ _ _ _ _ (@bJ _ _ _ _ _ _ _ (pv 0)) (@aF _ _ _ _ _ _ _ _ _ _ o0n hr rfl (@bE _ _ _ (@bJ _ _ _ _ _ _ _ (pv 0)) (by rfl)) (by decide) (by rfl) (by rfl)) (by rfl) (by rfl))) (@bJ _ _ _ _ _ _ _ (pv 0))) (by rfl)) (by rfl) (by rfl) (by rfl) (by rfl) (by rfl)) (by rfl))))) (@aS _)) (@aA _ _ _ _ _ (@fA _ _) (@aA _ _ _ _ _ (@fA _ _) (@aC _ _ _ (@fA _ _))))))),?_⟩
  have es:(Str.ofString " ").length=1:=by decide +kernel
  have cap:∀ {ys:List Str},ys.length<=40->(∀ s∈ys,yZ s)->(ys.map (·.length)).sum+ys.length * (Str.ofString " ").length<=16777216:=fun {ys} hl hs=>by
   have h1:=oB fun s h=>(hs s h).2.2
   have h2:ys.length * 100<=40 * 100:=mul_le_mul_right _ hl
   rw [es]
   omega
  cases r with
 |plain r =>
   cases r with
  |run a b t =>
    obtain ⟨p,u,rfl,hp,hu⟩:=hro
    obtain ⟨h1,h2,h3⟩:=(show cL a/\cL b/\iM t from hw)
    have lok:=iZ hE (r:=.plain (.run a b t)) hw
    have c1:=cap (ys:=["run",a,b]) (by show 3<=40; decide) (fun s hs=>lok.2.1 s (by
     show s∈[("run":Str),a,b]++[gK t]
     exact mem_append_left _ hs))
    have jl:(Str.join (Str.ofString " ") ["run",a,b]).length<=10000:=uM (ws:=["run",a,b]) (fun s hs=>(lok.2.1 s (by
     show s∈[("run":Str),a,b]++[gK t]
     exact mem_append_left _ hs)).2.2) (by show 3<=50; decide)
    have tl:=(vX h3).2.2
    w_fin
    refine xK hp fun l1 hl1=>?_
    obtain ⟨H1,zE,t1,g1⟩:=jK hl1 (.tup [.str "run",.str a,.str b])
    rw [zE]
    have hp1:=t1 _ _ hp
    w_fin
    refine ⟨_,l1,["run",a,b],rfl,rfl,g1,c1,?_⟩
    refine gN (by omega) ?_
    w_fin
    refine ⟨u,t,rfl,hu.tk t1.tk,h3,?_⟩
    refine gN (by rw [eW]; omega) ?_
    w_fin
    refine cG fun l2 hl2=>?_
    rw [AI a b (gK t)]
    w_fin
    exact q l2 _ (t1.free hl2) (t1.trans (aI.new hl2)) aE
  |path k t ps =>
    obtain ⟨p,u,z,rfl,hp,hu,hz⟩:=hro
    have lok:=iZ hE (r:=.plain (.path k t ps)) hw
    obtain ⟨h1,h2,h3,h4,_⟩:=hw
    have c1:=cap (ys:=mG.nm k::gK t::ps) (by rw [length_cons,length_cons]; omega) (fun s hs=>lok.2.1 s hs)
    cases k <;>
    ·w_fin
     refine ⟨u,t,rfl,hu,h2,?_⟩
     w_fin
     refine dJ fun l1 hl1=>?_
     w_fin
     refine wZ aE (fE hl1 hz) (by rw [length_map]; show 2+_<=_; omega) (cons_ne_nil _ _) (fun e=>by rw [map_eq_nil_iff] at e; rw [e] at h3; exact absurd h3 (by decide)) fun l2 hl2=>?_
     w_fin
     refine ⟨_,l2,_::gK t::ps,rfl,rfl,aE,c1,?_⟩
     w_fin
     refine cG fun l3 hl3=>?_
     w_fin
     exact q l3 _ (((aI.new hl1).trans (aI.new hl2)).free hl3) (((aI.new hl1).trans (aI.new hl2)).trans (aI.new hl3)) aE
 |put nm cl as =>
   have lok:=iZ hE (r:=.put nm cl as) hw
   obtain ⟨p,q',rfl,hp,hq⟩:=hro
   obtain ⟨w1,w2,w3,x,hx,rfl,wl⟩:=hw
   have c1:=cap (ys:="put"::x.1::cl::as) (by rw [length_cons,length_cons,length_cons]; omega) (fun s hs=>lok.2.1 s hs)
   w_fin
   refine xK hp fun l1 hl1=>?_
   obtain ⟨H1,zE,t1,g1⟩:=jK hl1 (.tup [.str "put",.str x.1,.str cl])
   rw [zE]
   have hp1:=t1 _ _ hp
   w_fin
   have has:as≠[]:=fun e=>by rw [e] at w3; exact absurd w3.1 (by decide)
   refine wZ g1 (t1 _ _ hq) (by rw [length_map]; show 3+_<=_; omega) (cons_ne_nil _ _) (fun e=>has (map_eq_nil_iff.mp e)) fun l2 hl2=>?_
   have t2:=t1.trans (aI.new (o:=.tup ([.str "put",.str x.1,.str cl]++as.map V.str)) hl2)
   w_fin
   refine ⟨_,l2,"put"::x.1::cl::as,rfl,rfl,aE,c1,?_⟩
   w_fin
   refine cG fun l3 hl3=>?_
   w_fin
   exact q l3 _ (t2.free hl3) (t2.trans (aI.new hl3)) aE
theorem yA (T:Bl mg) (d:Df K mg "_law_row_texts" jP ["_law_row_here"]) (W:XX K mg xt x1 x4 x5) (o0o:bD P w K mg base k "_law_row_texts" ["_law_row_here"] (zY K)) (o0n:bD P w K mg base k "_law_time_text" ["_law_time_here"] sR):bD P w K mg base (k+1) "_law_row_texts" ["_law_row_here"] (xB K):=by
 refine bD.of d fZ (fun vs H Q E h=>?_) (fun f cdv A outer s H vs Q E hr h=>?_)
 ·obtain ⟨v,g,E,rfl,_⟩:=h
  rfl
 ·obtain ⟨v,g,E,rfl,hg,hw,hE,q⟩:=h
  refine ⟨_,(@aA _ _ _ _ _ (@bB _ _ _ _ _ _ _ _ (@aK _ _ _ _ _ _ _ _ (aY hr.units) (@bJ _ _ _ _ _ _ _ (pv 0)) (@aH _ _ _ _) (aL _)) (@aC _ _ _ (@aM _ _ _ _ (@bC _ _ _ _ (@bE _ _ _ (@aJ _ _ _ _ _ _ _ _ aV (@aJ _ _ _ _ _ _ _ _ aV (@cP _ _ _ _ _ _ _ _ _ _ _ _ plainAttrs_str slot_str_join type_str_join jF (@aH _ _ _ _) (@bE _ _ _ (@bI _ _ _ _ _ _ _ _ _ _ dB (pv 0) (@cC _) (@bV _ _ _ (@aD _ _ _ _))) (by rfl)) (by rfl) (by rfl) (by rfl) (by rfl) (by rfl)) (@aH _ _ _ _)) (@aF _ _ _ _ _ _ _ _ _ _ o0n hr rfl (@bE _ _ _ (@bJ _ _ _ _ _ _ _ (pv 0)) (by rfl)) (by decide) (by rfl) (by rfl))) (by rfl))))) (@aS _)) (@aA _ _ _ _ _ (@bB _ _ _ _ _ _ _ _ (@aK _ _ _ _ _ _ _ _ (aY hr.units) (@bJ _ _ _ _ _ _ _ (pv 0)) (@aH _ _ _ _) (aL _)) (@aC _ _ _ (@aM _ _ _ _ (@bC _ _ _ _ (@bE _ _ _ (@cP _ _ _ _ _ _ _ _ _ _ _ _ plainAttrs_str slot_str_join type_str_join jF (@aH _ _ _ _) (@bE _ _ _ (@aJ _ _ _ _ _ _ _ _ aV (@bI _ _ _ _ _ _ _ _ _ _ dB (pv 0) (@cC _) (@bV _ _ _ (@aD _ _ _ _))) (@bJ _ _ _ _ _ _ _ (pv 0))) (by rfl)) (by rfl) (by rfl) (by rfl) (by rfl) (by rfl)) (by rfl))))) (@aS _)) (@aA _ _ _ _ _ (@bB _ _ _ _ _ _ _ _ (@aK _ _ _ _ _ _ _ _ (jB hr.units) (@bJ _ _ _ _ _ _ _ (pv 0)) (@aH _ _ _ _) (aL _)) (@aC _ _ _ (@aM _ _ _ _ (@bC _ _ _ _ (@bE _ _ _ (@cP _ _ _ _ _ _ _ _ _ _ _ _ plainAttrs_str slot_str_join type_str_join jF (@aH _ _ _ _) (@bE _ _ _ (@aJ _ _ _ _ _ _ _ _ aV (@bM _ _ _ _ _ (@dZ _ _ _ _ _ (@bJ _ _ _ _ _ _ _ (pv 0)) (@aF _ _ _ _ _ _ _ _ _ _ o0n hr rfl (@bE _ _ _ (@bJ _ _ _ _ _ _ _ (pv 0)) (by rfl)) (by decide) (by rfl) (by rfl)) (by rfl) (by rfl))) (@bJ _ _ _ _ _ _ _ (pv 0))) (by rfl)) (by rfl) (by rfl) (by rfl) (by rfl) (by rfl)) (by rfl))))) (@aS _)) (@aA _ _ _ _ _ (@aO _ _ (i:=1) _ _ _ _ fZ.nd rfl (by w_left) (@bC _ _ _ _ (@bE _ _ _ (@cP _ _ _ _ _ _ _ _ _ _ _ _ plainAttrs_str slot_str_join type_str_join jF (@aH _ _ _ _) (@bE _ _ _ (@aJ _ _ _ _ _ _ _ _ aV (@bI _ _ _ _ _ _ _ _ _ _ dB (pv 0) (@cC _) (@bV _ _ _ (@aD _ _ _ _))) (@bJ _ _ _ _ _ _ _ (pv 0))) (by rfl)) (by rfl) (by rfl) (by rfl) (by rfl) (by rfl)) (by rfl))) (by rfl) (by w_means)) (@aA _ _ _ _ _ (@fH _ _ _ _ _ _ _ _ PassesOwn.never rfl (@qG _ _ _ _ (@bJ _ _ _ _ _ _ _ (pv 0))) (@aU _ _ (i:=2) _ fZ.nd rfl (by w_left) (by w_means)) (@aC _ _ _ (@aO _ _ (i:=1) _ _ _ _ fZ.nd rfl (by w_left) (@aJ _ _ _ _ _ _ _ _ aV (pv 1) (@aF _ _ _ _ _ _ _ _ _ _ o0o hr rfl (@bE _ _ _ (pv 2) (by rfl)) (by decide) (by rfl) (by rfl))) (by rfl) (by w_means))) (by intro _; rfl)) (@aC _ _ _ (@aM _ _ _ _ (@aJ _ _ _ _ _ _ _ _ aV (pv 1) (@bC _ _ _ _ (@bE _ _ _ (@aH _ _ _ _) (by rfl))))))))))),?_⟩
  have es:(Str.ofString " ").length=1:=by decide +kernel
  have cap:∀ {ys:List Str},ys.length<=40->(∀ s∈ys,yZ s)->(ys.map (·.length)).sum+ys.length * (Str.ofString " ").length<=16777216:=fun {ys} hl hs=>by
   have h1:=oB fun s h=>(hs s h).2.2
   have h2:ys.length * 100<=40 * 100:=mul_le_mul_right _ hl
   rw [es]
   omega
  cases g with
 |one r =>
   replace hw:=hw.1
   have hro:bQ H v r:=hg
   cases r with
  |plain r =>
    cases r with
   |run a b t =>
     obtain ⟨p,u,rfl,hp,hu⟩:=hro
     obtain ⟨h1,h2,h3⟩:=(show cL a/\cL b/\iM t from hw)
     have lok:=iZ hE (r:=.plain (.run a b t)) hw
     have c1:=cap (ys:=["run",a,b]) (by show 3<=40; decide) (fun s hs=>lok.2.1 s (by
      show s∈[("run":Str),a,b]++[gK t]
      exact mem_append_left _ hs))
     have jl:(Str.join (Str.ofString " ") ["run",a,b]).length<=10000:=uM (ws:=["run",a,b]) (fun s hs=>(lok.2.1 s (by
      show s∈[("run":Str),a,b]++[gK t]
      exact mem_append_left _ hs)).2.2) (by show 3<=50; decide)
     have tl:=(vX h3).2.2
     w_fin
     refine xK hp fun l1 hl1=>?_
     obtain ⟨H1,zE,t1,g1⟩:=jK hl1 (.tup [.str "run",.str a,.str b])
     rw [zE]
     have hp1:=t1 _ _ hp
     w_fin
     refine ⟨_,l1,["run",a,b],rfl,rfl,g1,c1,?_⟩
     refine gN (by omega) ?_
     w_fin
     refine ⟨u,t,rfl,hu.tk t1.tk,h3,?_⟩
     refine gN (by rw [eW]; omega) ?_
     w_fin
     refine cG fun l2 hl2=>?_
     rw [AI a b (gK t)]
     w_fin
     exact q l2 _ (t1.free hl2) (t1.trans (aI.new hl2)) aE
   |path k t ps =>
     obtain ⟨p,u,z,rfl,hp,hu,hz⟩:=hro
     have lok:=iZ hE (r:=.plain (.path k t ps)) hw
     obtain ⟨h1,h2,h3,h4,_⟩:=hw
     have c1:=cap (ys:=mG.nm k::gK t::ps) (by rw [length_cons,length_cons]; omega) (fun s hs=>lok.2.1 s hs)
     cases k <;>
     ·w_fin
      refine ⟨u,t,rfl,hu,h2,?_⟩
      w_fin
      refine dJ fun l1 hl1=>?_
      w_fin
      refine wZ aE (fE hl1 hz) (by rw [length_map]; show 2+_<=_; omega) (cons_ne_nil _ _) (fun e=>by rw [map_eq_nil_iff] at e; rw [e] at h3; exact absurd h3 (by decide)) fun l2 hl2=>?_
      w_fin
      refine ⟨_,l2,_::gK t::ps,rfl,rfl,aE,c1,?_⟩
      w_fin
      refine cG fun l3 hl3=>?_
      w_fin
      exact q l3 _ (((aI.new hl1).trans (aI.new hl2)).free hl3) (((aI.new hl1).trans (aI.new hl2)).trans (aI.new hl3)) aE
  |put nm cl as =>
    have lok:=iZ hE (r:=.put nm cl as) hw
    obtain ⟨p,q',rfl,hp,hq⟩:=hro
    obtain ⟨w1,w2,w3,x,hx,rfl,wl⟩:=hw
    have c1:=cap (ys:="put"::x.1::cl::as) (by rw [length_cons,length_cons,length_cons]; omega) (fun s hs=>lok.2.1 s hs)
    w_fin
    refine xK hp fun l1 hl1=>?_
    obtain ⟨H1,zE,t1,g1⟩:=jK hl1 (.tup [.str "put",.str x.1,.str cl])
    rw [zE]
    have hp1:=t1 _ _ hp
    w_fin
    have has:as≠[]:=fun e=>by rw [e] at w3; exact absurd w3.1 (by decide)
    refine wZ g1 (t1 _ _ hq) (by rw [length_map]; show 3+_<=_; omega) (cons_ne_nil _ _) (fun e=>has (map_eq_nil_iff.mp e)) fun l2 hl2=>?_
    have t2:=t1.trans (aI.new (o:=.tup ([.str "put",.str x.1,.str cl]++as.map V.str)) hl2)
    w_fin
    refine ⟨_,l2,"put"::x.1::cl::as,rfl,rfl,aE,c1,?_⟩
    w_fin
    refine cG fun l3 hl3=>?_
    w_fin
    exact q l3 _ (t2.free hl3) (t2.trans (aI.new hl3)) aE
 |piece x =>
   have lok:=gX (E:=E) hE hw
   obtain ⟨p,q',z,xs,rfl,hp,hq,hz,px⟩:=hg
   obtain ⟨w1,w2,w3,w4,⟨w5,w6,w7⟩,w8⟩:=hw.1
   have hxl:=Paired.length px
   have c1:=cap (ys:="piece"::x.1::x.2.1) (by rw [length_cons,length_cons]; omega) (fun s hs=>(lok ("piece"::x.1::x.2.1) (mem_append_left _ (mem_cons_self ..))).2.1 s hs)
   w_fin
   refine VQ hp fun l1 hl1=>?_
   obtain ⟨H1,zE,t1,g1⟩:=jK hl1 (.tup [.str "piece",.str x.1])
   rw [zE]
   have hp1:=t1 _ _ hp
   w_fin
   have has:x.2.1≠[]:=fun e=>by rw [e] at w5; exact absurd w5 (by decide)
   refine wZ g1 (t1 _ _ hq) (by rw [length_map]; show 2+_<=_; omega) (cons_ne_nil _ _) (fun e=>has (map_eq_nil_iff.mp e)) fun l2 hl2=>?_
   have t2:=t1.trans (aI.new (o:=.tup ([.str "piece",.str x.1]++x.2.1.map V.str)) hl2)
   have g2:=aE (H:=H1) (a:=l2) (o:=.tup ([.str "piece",.str x.1]++x.2.1.map V.str))
   generalize L2.upd H1 l2 (.tup ([.str "piece",.str x.1]++x.2.1.map V.str))=H2 at t2 g2 ⊢
   have hp2:=t2 _ _ hp
   w_fin
   refine ⟨_,l2,"piece"::x.1::x.2.1,rfl,rfl,g2,c1,?_⟩
   w_fin
   refine cG fun l3 hl3=>?_
   have t3:=t2.trans (aI.new (o:=.lst [lL ("piece"::x.1::x.2.1)]) hl3)
   have g3:=aE (H:=H2) (a:=l3) (o:=.lst [lL ("piece"::x.1::x.2.1)])
   change (fun H3=>_) (L2.upd H2 l3 (.lst [lL ("piece"::x.1::x.2.1)]))
   generalize L2.upd H2 l3 (.lst [lL ("piece"::x.1::x.2.1)])=H3 at t3 g3 ⊢
   have hp3:=t3 _ _ hp
   w_fin
   refine mU (fV.of (t3 _ _ hz)) ?_
   refine xN (xs:=xs) (fun i σ G=>∃ o2 lf,σ=[some (.ref p),some (.ref lf),o2]/\aI H G/\H lf=none/\G lf=some (.lst (((("piece":Str)::x.1::x.2.1)::(x.2.2.take i).map cM).map lL))) ⟨_,_,rfl,t3,t2.free hl3,g3⟩ ?_ ?_ ?_
   ·rintro i σ G _ ⟨o2,lf,rfl,sG,_⟩
    exact fV.of (sG _ _ hz)
   ·rintro i y σ G hy ⟨o2,lf,rfl,sG,hlf,glf⟩
    obtain ⟨r,hr0,rq⟩:=Paired.at px hy
    have hil:i < x.2.2.length:=(List.getElem?_eq_some_iff.mp hr0).1
    w_fin
    refine ⟨y,r,E,rfl,bQ.tk rq sG.tk,w1 r (mem_of_getElem? hr0),hE,fun l4 G4 hl4 t4 g4=>?_⟩
    refine jH (t4 _ _ glf) g4 (by simp; omega) fun l5 hl5=>?_
    have t5:=sG.trans t4
    w_fin
    refine ⟨_,l5,rfl,t5.trans (aI.new hl5),t5.free hl5,?_⟩
    rw [aE,take_add_one,hr0]
    simp
   rintro σ G ⟨o2,lf,rfl,sG,hlf,glf⟩
   rw [hxl,take_length] at glf
   w_fin
   refine bW fun l4 G4 hl4 t4 g4=>?_
   refine jH (t4 _ _ glf) g4 (by simp; omega) fun l5 hl5=>?_
   have t5:=sG.trans t4
   w_fin
   refine q l5 _ (t5.free hl5) (t5.trans (aI.new hl5)) ?_
   rw [aE]
   show some (HO.lst ((((("piece":Str)::x.1::x.2.1)::x.2.2.map cM).map lL)++[V.str "end"]))=some (HO.lst ((((("piece":Str)::x.1::x.2.1)::(x.2.2.map cM++[[("end":Str)]])).map lL)))
   rw [map_cons,map_cons,map_append]
   rfl
theorem RF (T:Bl mg) (d:Df K mg "_law_next" tO ["_law_number_here","_law_state","_law_names_here"]) (W:XX K mg xt x1 x4 x5) (o1s:bD P w K mg base k "_law_closed" ["_law_state"] (sZ K)) (o0o:bD P w K mg base k "_law_row_texts" ["_law_row_here"] (xB K)) (o2d:bD P w K mg base k "_law_row" ["_law_number_here","_law_names_here","_law_known"] (FF K)):bD P w K mg base (k+1) "_law_next" ["_law_number_here","_law_state","_law_names_here"] (KR K):=by
 refine bD.of d oF (fun vs H Q E h=>?_) (fun f cdv A outer s H vs Q E hr h=>?_)
 ·obtain ⟨c,d,lf,lk,ln,U,gs,ins,H0,n,rfl,_⟩:=h
  rfl
 ·obtain ⟨c,d,lf,lk,ln,U,gs,ins,H0,n,rfl,hc,s0,hln,⟨hU8,hUp,hUn⟩,st,hn,q⟩:=h
  refine ⟨_,(@aA _ _ _ _ _ (@aO _ _ (i:=3) _ _ _ _ oF.nd rfl (by w_left) (@cD _ _ _ _ _ _ _ eB (pv 2) (@aJ _ _ _ _ _ _ _ _ bR (@aJ _ _ _ _ _ _ _ _ bG (pv 0) (@aD _ _ _ _)) (@aD _ _ _ _)) (fun _ _=>rfl)) (by rfl) (by w_means)) (@aA _ _ _ _ _ (@aO _ _ (i:=4) _ _ _ _ oF.nd rfl (by w_left) (@cH _ _ _ _ _ _ hr.u1 (pv 1) (@aH _ _ _ _) (fun _ _=>rfl)) (by rfl) (by w_means)) (@aC _ _ _ (@bB _ _ _ _ _ _ _ _ (@PW.pt _ _ _ (@kZ _ _ _ _ _ _ _ (@aK _ _ _ _ _ _ _ _ xY (pv 4) (@fO _ _ _) (aL _)) (@kZ _ _ _ _ _ _ _ (@aK _ _ _ _ _ _ _ _ (aY hr.units) (@aJ _ _ _ _ _ _ _ _ bR (pv 0) (@aD _ _ _ _)) (@aD _ _ _ _) (aL _)) (@kY _ _ _ _ (@aK _ _ _ _ _ _ _ _ xX (pv 3) (@eF _ _ _ _ _ _ _ _ _ _ _ _ _ _ (@dD _ _ (sc:=aG tO) (N:=["_law_number_here","_law_state","_law_names_here","_law_name","_law_inside","_law_many","_law_row_here"]) (tn:=["_law_told_here","_law_many"]) (names:=[]) (is:=[]) rfl rfl (by decide +kernel) (by decide +kernel) rfl (by decide +kernel) rfl (by decide +kernel) (by decide +kernel) (by decide +kernel)) rfl (@dS _ _ _ _ (@cH _ _ _ _ _ _ hr.u1 (pv 1) (@aH _ _ _ _) (fun _ _=>rfl))) (fun _ _ _ _=>(@rY _ _ _ _ _ _ _ _ _ _ _ (n:=2) _ rfl (@bP _ _ _ _ _ (@aU _ _ (i:=0) _ (show (["_law_told_here","_law_many"]:List Str).Nodup by decide +kernel) rfl (Or.inl rfl) (Or.inr rfl)) (@bP _ _ _ _ _ (@aU _ _ (i:=1) _ (show (["_law_told_here","_law_many"]:List Str).Nodup by decide +kernel) rfl (Or.inl rfl) (Or.inr rfl)) (@gW _) (by rfl)) (by rfl)) (by rfl) (by rfl))) (fun _ _ _ _=>(pv 0)) (fun _ _ _ _=>(@cI _)) (by intro _; rfl)) (by with_unfolding_all rfl)))))) (@aA _ _ _ _ _ (@aO _ _ (i:=5) _ _ _ _ oF.nd rfl (by w_left) (@aJ _ _ _ _ _ _ _ _ aV (@aD _ _ _ _) (@aJ _ _ _ _ _ _ _ _ bR (@aJ _ _ _ _ _ _ _ _ bG (pv 0) (@aD _ _ _ _)) (@cD _ _ _ _ _ _ _ eB (@bC _ _ _ _ (@kC _ _ _ _ _ _ _ (@aD _ _ _ _) (@aD _ _ _ _) (@aD _ _ _ _) (by rfl) (by rfl) (by rfl))) (@aJ _ _ _ _ _ _ _ _ bR (@aJ _ _ _ _ _ _ _ _ bG (pv 0) (@aD _ _ _ _)) (@aD _ _ _ _)) (fun _ _=>rfl)))) (by rfl) (by w_means)) (@aA _ _ _ _ _ (@gR _ _ _ _ _ _ _ _ _ hr.u1 (pv 1) (@aH _ _ _ _) (@bC _ _ _ _ (@kC _ _ _ _ _ _ _ (pv 3) (@bF _ _ _ _ _ _ _ _ _ dE rfl T.z_tuple fL (@bE _ _ _ (@eF _ _ _ _ _ _ _ _ _ _ _ _ _ _ (@dD _ _ (sc:=aG tO) (N:=["_law_number_here","_law_state","_law_names_here","_law_name","_law_inside","_law_many","_law_row_here"]) (tn:=["_law_j"]) (names:=["_law_number_here","_law_names_here"]) (is:=[0,2]) rfl rfl (by decide +kernel) (by decide +kernel) rfl (by decide +kernel) rfl (by decide +kernel) (by decide +kernel) (by decide +kernel)) rfl (@kI _ _ _ _ _ _ rfl T.z_range (@bE _ _ _ (pv 5) (by rfl)) (by rfl)) (fun _ _ _ _=>(@aU _ _ (i:=0) _ (show (["_law_j","_law_number_here","_law_names_here"]:List Str).Nodup by decide +kernel) rfl (Or.inl rfl) (Or.inr rfl))) (fun _ _ _ _=>(@cD _ _ _ _ _ _ _ jG (pv 2) (@aJ _ _ _ _ _ _ _ _ bR (@aJ _ _ _ _ _ _ _ _ jC (@aJ _ _ _ _ _ _ _ _ bG (pv 1) (@aD _ _ _ _)) (pv 0)) (@aD _ _ _ _)) (fun _ _=>rfl))) (fun _ _ _ _=>(@cI _)) (by intro _; rfl)) (by rfl)) (by decide) (by decide) (by rfl) (by rfl)) (@bC _ _ _ _ (@dL _)) (by rfl) (by rfl) (by rfl))) rfl) (@aC _ _ _ (@gR _ _ _ _ _ _ _ _ _ hr.u1 (pv 1) (@aH _ _ _ _) (@aJ _ _ _ _ _ _ _ _ aV (@cH _ _ _ _ _ _ hr.u1 (pv 1) (@aH _ _ _ _) (fun _ _=>rfl)) (@aD _ _ _ _)) rfl)))) (@aC _ _ _ (@bB _ _ _ _ _ _ _ _ (@PW.pt _ _ _ (@kZ _ _ _ _ _ _ _ (@aK _ _ _ _ _ _ _ _ oQ (pv 4) (@fO _ _ _) (aL _)) (@kZ _ _ _ _ _ _ _ (@aK _ _ _ _ _ _ _ _ (aY hr.units) (@aJ _ _ _ _ _ _ _ _ bR (pv 0) (@aD _ _ _ _)) (@aD _ _ _ _) (aL _)) (@kY _ _ _ _ (@aK _ _ _ _ _ _ _ _ (jB hr.units) (@bJ _ _ _ _ _ _ _ (pv 4)) (@bC _ _ _ _ (@dL _)) (aL _)))))) (@aC _ _ _ (@bO _ _ _ _ (@aF _ _ _ _ _ _ _ _ _ _ o1s hr rfl (@bE _ _ _ (pv 1) (by rfl)) (by decide) (by rfl) (by rfl)) (by rfl))) (@aA _ _ _ _ _ (@aO _ _ (i:=6) _ _ _ _ oF.nd rfl (by w_left) (@aF _ _ _ _ _ _ _ _ _ _ o2d hr rfl (@kC _ _ _ _ _ _ _ (@aJ _ _ _ _ _ _ _ _ bG (pv 0) (@aD _ _ _ _)) (pv 2) (@cH _ _ _ _ _ _ hr.u1 (pv 1) (@aH _ _ _ _) (fun _ _=>rfl)) (by rfl) (by rfl) (by rfl)) (by decide) (by rfl) (by rfl)) (by rfl) (by w_means)) (@aA _ _ _ _ _ (@gR _ _ _ _ _ _ _ _ _ hr.u1 (pv 1) (@aH _ _ _ _) (@aJ _ _ _ _ _ _ _ _ aV (@aJ _ _ _ _ _ _ _ _ aV (@cH _ _ _ _ _ _ hr.u1 (pv 1) (@aH _ _ _ _) (fun _ _=>rfl)) (@aP _ _ _ _ _ _ _ _ _ dF rfl T.z_len bX (@bE _ _ _ (@cD _ _ _ _ _ _ _ eB (@aF _ _ _ _ _ _ _ _ _ _ o0o hr rfl (@bE _ _ _ (pv 6) (by rfl)) (by decide) (by rfl) (by rfl)) (@aD _ _ _ _) (fun _ _=>rfl)) (by rfl)) (by decide) (by decide) (by rfl) (by rfl))) (@aD _ _ _ _)) rfl) (@aC _ _ _ (@bB _ _ _ _ _ _ _ _ (@aK _ _ _ _ _ _ _ _ xY (pv 4) (@fO _ _ _) (aL _)) (@aC _ _ _ (@bO _ _ _ _ (@cP _ _ _ _ _ _ _ _ _ _ _ _ plainAttrs_list F.slot_list_append F.type_list_append cK (@cH _ _ _ _ _ _ hr.u1 (pv 1) (@aH _ _ _ _) (fun _ _=>rfl)) (@bE _ _ _ (pv 6) (by rfl)) (by rfl) (by rfl) (by rfl) (by rfl) (by rfl)) (by rfl))) (@aC _ _ _ (@bO _ _ _ _ (@cP _ _ _ _ _ _ _ _ _ _ _ _ plainAttrs_list F.slot_list_append F.type_list_append cK (@bJ _ _ _ _ _ _ _ (pv 4)) (@bE _ _ _ (pv 6) (by rfl)) (by rfl) (by rfl) (by rfl) (by rfl) (by rfl)) (by rfl))))))))))))),?_⟩
  have hwE:=CJ (E:=[]) trivial st.wf
  have h8:=Hu hU8 hwE st.nm
  have hps8:∀ p∈cZ [] gs,1<=p.2.1.length/\p.2.1.length<=8:=fun p hp=>⟨(hwE.at hp).2.2.2.1,(hwE.at hp).2.2.2.2.1⟩
  have st':=st
  obtain ⟨⟨vi,u,hd,hins⟩,ne,⟨fd,ff,fk⟩,⟨xs,hxs,px⟩,hkn,wf,nm,le⟩:=st
  have hxl:=Paired.length px
  have hdl:∀ {b:Addr} {zs:List V},H b=some (.lst zs)->b≠d:=fun h e=>by rw [e,hd] at h; cases h
  have hgl:gs.length<=n:=by have:=uI gs; omega
  w_fin
  have i0:0<=c.fdiv 9 % 8/\c.fdiv 9 % 8 < 8:=by omega
  obtain ⟨s1,ms1,e1⟩:=nR (nm:=U) (i:=c.fdiv 9 % 8) i0.1 (by omega)
  refine bH (s0 _ _ hln) e1 ?_
  w_fin
  refine eQ (.inl hd) kE ?_
  cases ins with
 |none =>
   cases (show vi=.non from hins)
   refine xM ?_
   refine PY ?_
   refine LS (fun GX=>aI H GX) ?_ ?_
   ·intro GX sX
    w_fin
    refine eQ (.inl (sX _ _ hd)) oD ?_
    w_fin
    refine ⟨_,ln,U,lk,cZ [] gs,rfl,cR hc (by decide),sX _ _ (s0 _ _ hln),hU8,hUp,hkn.sm sX,h8,hps8,fun v G r sG rq wr=>?_⟩
    have sXG:=sX.trans sG
    w_fin
    refine eQ (.inl (sXG _ _ hd)) oC ?_
    w_fin
    refine ⟨v,.one r,cZ [] gs,rfl,rq,⟨wr,trivial⟩,hwE,fun l G2 hl s2 gl=>?_⟩
    have hz:=(iZ hwE wr).2.2
    replace gl:G2 l=some (.lst [.str (Str.join kN (cM r))]):=gl
    generalize Str.join kN (cM r)=z at hz gl
    w_fin
    refine xL (by rw [sizeLine_eq]; omega) ?_
    w_fin
    have sX2:=sXG.trans s2
    have hd2:=sX2 _ _ hd
    refine lV hd2 (by show 4<=1000; decide) ?_
    rw [xA]
    generalize u+(z.length:Int)+3=u'
    have k3:Kp d G2 (L2.upd G2 d (.dK (lI lf lk .non u'))):=Kp.upd
    have vY:=TK.dic (o:=.dK (lI lf lk .non u')) hd2
    have g3:=aE (H:=G2) (a:=d) (o:=.dK (lI lf lk .non u'))
    generalize L2.upd G2 d (.dK (lI lf lk .non u'))=G3 at k3 vY g3 ⊢
    have rq3:bQ G3 v r:=(rq.tk s2.tk).tk vY
    have tkX:=sX2.tk.trans vY
    w_fin
    refine eQ (.inl g3) kG ?_
    have hxs3:=k3 _ _ (hdl hxs) (sX2 _ _ hxs)
    w_fin
    refine iB hxs3 (by omega) ?_
    have k4:Kp lf G3 (L2.upd G3 lf (.lst (xs++[v]))):=Kp.upd
    have tk4:=TK.lst (o:=.lst (xs++[v])) hxs3
    have g4:=aE (H:=G3) (a:=lf) (o:=.lst (xs++[v]))
    generalize L2.upd G3 lf (.lst (xs++[v]))=G4 at k4 tk4 g4 ⊢
    have eE:cZ [] (gs++[.one r])=cZ [] gs:=mC gs [] (.one r)
    w_fin
    refine q G4 (gs++[.one r]) none (fun b o h=>?_) ⟨⟨_,_,k4 _ _ (hdl hxs).symm g3,rfl⟩,ne,⟨fd,ff,fk⟩,⟨_,g4,?_⟩,?_,?_,?_,?_⟩
    ·exact k4 _ _ (aB h ff) (k3 _ _ (aB h fd) (sX2 _ _ (s0 _ _ h)))
    ·exact Pd.snoc (Pd.imp px fun v b f=>(f.tk tkX).tk tk4) (show iD G4 v (.one r) from rq3.tk tk4)
    ·rw [eE]
     obtain ⟨ks,hks,pk⟩:=hkn
     exact ⟨ks,k4 _ _ ne.symm (k3 _ _ (hdl hks) (sX2 _ _ hks)),Pd.imp pk fun v b ⟨a,e,f⟩=>⟨a,e,tk4 _ _ (tkX _ _ f)⟩⟩
    ·exact (lN gs [] (.one r)).mpr ⟨wf,wr,trivial⟩
    ·rw [eE]
     exact nm
    ·rw [oZ]
     show lE gs+(0+1)+0<=_
     have:lE gs+0<=n:=le
     omega
   intro NB hNB
   w_fin
   refine lJ (fun c1=>?_) (fun c1=>?_)
   ·w_fin
    refine eQ (.inl hd) oD ?_
    obtain ⟨ks,hks,pk⟩:=id hkn
    have hkl:=Paired.length pk
    rw [length_reverse] at hkl
    refine dR (cN.of hks) ?_
    refine QF (xs:=ks) (by omega) (fun acc i ys G=>Kp acc H G/\ys=(((cZ [] gs).reverse.take i).map (·.1)).map V.str) ?_ ?_ ?_ ?_
    ·intro acc h0
     exact ⟨Kp.new h0,rfl⟩
    ·rintro acc i ys G h0 hi ⟨kp,_⟩
     exact cN.of (kp _ _ (aB hks h0) hks)
    ·rintro acc i ys G y h0 hy hyl hG ⟨kp,rfl⟩
     obtain ⟨p,hp0,a,rfl,ha⟩:=Paired.at pk hy
     refine ⟨a,_,_,rfl,kp _ _ (aB ha h0) ha,?_⟩
     w_fin
     refine eS (by have:=(List.getElem?_eq_some_iff.mp hy).1; exact this) hyl hG ⟨kp.trans Kp.upd,?_⟩
     rw [take_add_one,hp0,map_append,map_append]
     rfl
    ·rintro acc ys G h0 hG hyl ⟨kp,rfl⟩
     rw [hkl,← length_reverse,take_length] at hG
     have sX:aI H G:=fun b o h=>kp _ _ (aB h h0) h
     refine WK hG ?_
     by_cases hm:s1∈(cZ [] gs).reverse.map (·.1)
     ·rw [decide_eq_true hm]
      w_fin
      exact hNB _ sX
     ·rw [decide_eq_false hm]
      w_fin
      refine bW fun l4 G2 hl4 t4 hl4'=>?_
      w_fin
      obtain ⟨t,et,ht⟩:=Jf (x0:=2) (x1:=3) (x2:=8) (fun z=>0 < z/\z<=8) (by decide) (by decide) (by decide) (c.fdiv 576 % 3) (Int.emod_nonneg _ (by decide)) (Int.emod_lt_of_pos _ (by decide))
      refine bH hl4' et ?_
      refine TV ht.1 ?_
      have m0:=Int.emod_nonneg (c.fdiv 72) (show t≠0 by omega)
      have m1:=Int.emod_lt_of_pos (c.fdiv 72) ht.1
      obtain ⟨m,hm1,em⟩:∃ m:Nat,(1<=m/\m<=8)/\1+c.fdiv 72 % t=(m:Int):=⟨(1+c.fdiv 72 % t).toNat,by omega,by omega⟩
      w_fin
      rw [em]
      clear em
      refine kX (by omega) (by omega) ?_
      have sX2:=sX.trans t4
      have hln2:=sX2 _ _ (s0 _ _ hln)
      refine xP (n:=(m:Int).toNat) (by omega) (fun acc k ys G'=>Kp acc G2 G'/\∃ ps:List Str,ys=ps.map V.str/\ps.length=k/\∀ j,j < k->∃ s,ps[j]?=some s/\U[((c.fdiv 1728+(j:Int)) % 8).toNat]?=some s) ?_ ?_ ?_
      ·intro acc h0
       exact ⟨Kp.new h0,[],rfl,rfl,fun j h=>absurd h (not_lt_zero _)⟩
      ·rintro acc k ys G' h0 hk hyl hG' ⟨kp',ps,rfl,hpl,hps⟩
       w_fin
       obtain ⟨s3,hs3⟩:∃ s,U[((c.fdiv 1728+(k:Int)) % 8).toNat]?=some s:=⟨_,List.getElem?_eq_getElem (by omega)⟩
       refine bH (kp' _ _ (aB hln2 h0) hln2) (v:=.str s3) ?_ ?_
       ·rw [Int.zero_add,show (c.fdiv 1728+(k:Int)) % 8=((((c.fdiv 1728+(k:Int)) % 8).toNat:Nat):Int) by omega]
        exact aX (by rw [List.getElem?_map,hs3]; rfl)
       refine eS hk hyl hG' ⟨kp'.trans Kp.upd,ps++[s3],by simp,by rw [length_append,hpl]; rfl,fun j hj=>?_⟩
       rcases lt_or_ge j k with h|h
       ·obtain ⟨s,h1,h2⟩:=hps j h
        exact ⟨s,by rw [List.getElem?_append_left (by omega)]; exact h1,h2⟩
       ·have:j=k:=by omega
        subst this
        exact ⟨s3,by rw [List.getElem?_append_right (by omega),hpl,Nat.sub_self]; rfl,hs3⟩
      rintro acc ys G' h0' hG' hyl ⟨kp',ps,rfl,hpl,hps⟩
      rw [Int.toNat_natCast] at hpl hps
      have sG':aI G2 G':=fun b o h=>kp' _ _ (aB h h0') h
      w_fin
      refine ⟨acc,_,rfl,.inl ⟨cN.of hG',fun qa hqa=>?_⟩⟩
      have t5:=sG'.trans (aI.new (o:=.tup (ps.map V.str)) hqa)
      have g5:=aE (H:=G') (a:=qa) (o:=.tup (ps.map V.str))
      generalize L2.upd G' qa (.tup (ps.map V.str))=G5 at t5 g5 ⊢
      w_fin
      refine bW fun ls G6 hls t6 g6=>?_
      w_fin
      refine bW fun li G7 hli t7 g7=>?_
      have u5:=sX2.trans t5
      have u6:=u5.trans t6
      have u7:=u6.trans t7
      have hd7:=u7 _ _ hd
      w_fin
      refine lV hd7 (by show 4<=1000; decide) ?_
      rw [KO]
      have k8:Kp d G7 (L2.upd G7 d (.dK (lI lf lk (.ref li) u))):=Kp.upd
      have tk8:=TK.dic (o:=.dK (lI lf lk (.ref li) u)) hd7
      have g8:=aE (H:=G7) (a:=d) (o:=.dK (lI lf lk (.ref li) u))
      generalize L2.upd G7 d (.dK (lI lf lk (.ref li) u))=G8 at k8 tk8 g8 ⊢
      w_fin
      refine eQ (.inl g8) oC ?_
      w_fin
      refine lV g8 (by show 4<=1000; decide) ?_
      rw [xA]
      have k9:Kp d G8 (L2.upd G8 d (.dK (lI lf lk (.ref li) (u+100)))):=Kp.upd
      have tk9:=TK.dic (o:=.dK (lI lf lk (.ref li) (u+100))) g8
      have g9:=aE (H:=G8) (a:=d) (o:=.dK (lI lf lk (.ref li) (u+100)))
      generalize L2.upd G8 d (.dK (lI lf lk (.ref li) (u+100)))=G9 at k9 tk9 g9 ⊢
      w_fin
      have kd:∀ b o,b≠d->G7 b=some o->G9 b=some o:=fun b o nb h=>k9 _ _ nb (k8 _ _ nb h)
      have nsd:ls≠d:=fun e=>by rw [e] at hls; rw [u5 _ _ hd] at hls; cases hls
      have nid:li≠d:=fun e=>by rw [e] at hli; rw [u6 _ _ hd] at hli; cases hli
      have tkX:=u7.tk.trans (tk8.trans tk9)
      refine q G9 gs (some (s1,ps,[])) (fun b o h=>kd _ _ (aB h fd) (u7 _ _ (s0 _ _ h))) ⟨⟨_,_,g9,⟨⟨li,qa,ls,[],rfl,kd _ _ nid g7,(tk8.trans tk9) _ _ (t7 _ _ (t6 _ _ g5)),kd _ _ nsd (t7 _ _ g6),.nil,(s0.trans u6).free hli,(s0.trans u5).free hls,(aB (u6 _ _ hxs) hli).symm,(aB (u6 _ _ hks) hli).symm,(aB g6 hli).symm,(aB (u5 _ _ hxs) hls).symm,(aB (u5 _ _ hks) hls).symm⟩,ms1,fun p hp e=>?_,QN hU8 hUn _ hm1.2 hpl hps,by show 1<=ps.length/\ps.length<=8; omega,(fun _ h=>nomatch h),fun s hs=>?_⟩⟩,ne,⟨fd,ff,fk⟩,⟨xs,kd _ _ (hdl hxs) (u7 _ _ hxs),Pd.imp px fun v b f=>f.tk tkX⟩,⟨ks,kd _ _ (hdl hks) (u7 _ _ hks),Pd.imp pk fun v b ⟨a,e,f⟩=>⟨a,e,tkX _ _ f⟩⟩,wf,nm,?_⟩
      ·exact hm (mem_map.mpr ⟨p,mem_reverse.mpr hp,e⟩)
      ·rcases mem_cons.mp hs with rfl|hs
       ·exact hUp _ ms1
       ·obtain ⟨j,hj⟩:=List.getElem?_of_mem hs
        have hjl:j < ps.length:=(List.getElem?_eq_some_iff.mp hj).1
        obtain ⟨s',h1,h2⟩:=hps j (by omega)
        rw [hj] at h1
        cases h1
        exact hUp _ (mem_of_getElem? h2)
      ·show lE gs+(0+1)<=_
       have:lE gs+0<=n:=le
       omega
   ·w_fin
    exact hNB _ (aI.refl _)
 |some x =>
   obtain ⟨⟨li,qa,ls,ys,rfl,hli,hqa,hls,vG,f1,f2,n1,n2,n3,n4,n5⟩,inm,inw,ind',ile,iwf,ipb⟩:=(show ET H0 H d lf lk U (cZ [] gs) vi x from hins)
   have hyl:=Paired.length vG
   have le2:lE gs+(x.2.2.length+1)<=n:=le
   refine xM ?_
   refine PY ?_
   refine LS (fun GX=>GX=H) ?_ ?_
   rotate_left
   ·intro NB hNB
    w_fin
    exact hNB _ rfl
   rintro GX rfl
   refine LS (fun GY=>aI GX GY) ?_ ?_
   ·intro GY sX
    w_fin
    refine eQ (.inl (sX _ _ hd)) oD ?_
    w_fin
    refine ⟨_,ln,U,lk,cZ [] gs,rfl,cR hc (by decide),sX _ _ (s0 _ _ hln),hU8,hUp,hkn.sm sX,h8,hps8,fun v G r sG rq wr=>?_⟩
    have sXG:=sX.trans sG
    w_fin
    refine eQ (.inl (sXG _ _ hd)) oC ?_
    w_fin
    refine ⟨v,.one r,cZ [] gs,rfl,rq,⟨wr,trivial⟩,hwE,fun l G2 hl s2 gl=>?_⟩
    have hz:=(iZ hwE wr).2.2
    replace gl:G2 l=some (.lst [.str (Str.join kN (cM r))]):=gl
    generalize Str.join kN (cM r)=z at hz gl
    w_fin
    refine xL (by rw [sizeLine_eq]; omega) ?_
    w_fin
    have sX2:=sXG.trans s2
    have hd2:=sX2 _ _ hd
    refine lV hd2 (by show 4<=1000; decide) ?_
    rw [xA]
    generalize u+(z.length:Int)+3=u'
    have k3:Kp d G2 (L2.upd G2 d (.dK (lI lf lk (.ref li) u'))):=Kp.upd
    have vY:=TK.dic (o:=.dK (lI lf lk (.ref li) u')) hd2
    have g3:=aE (H:=G2) (a:=d) (o:=.dK (lI lf lk (.ref li) u'))
    generalize L2.upd G2 d (.dK (lI lf lk (.ref li) u'))=G3 at k3 vY g3 ⊢
    have rq3:bQ G3 v r:=(rq.tk s2.tk).tk vY
    have tkX:=sX2.tk.trans vY
    w_fin
    have nid:li≠d:=hdl hli
    have nsd:ls≠d:=hdl hls
    have hli3:=k3 _ _ nid (sX2 _ _ hli)
    have hls3:=k3 _ _ nsd (sX2 _ _ hls)
    refine bH hli3 (show fM [V.str x.1,.ref qa,.ref ls] ((2:Nat):Int)=some (.ref ls) from aX rfl) ?_
    w_fin
    refine iB hls3 (by omega) ?_
    have k4:Kp ls G3 (L2.upd G3 ls (.lst (ys++[v]))):=Kp.upd
    have tk4:=TK.lst (o:=.lst (ys++[v])) hls3
    have g4:=aE (H:=G3) (a:=ls) (o:=.lst (ys++[v]))
    generalize L2.upd G3 ls (.lst (ys++[v]))=G4 at k4 tk4 g4 ⊢
    w_fin
    refine q G4 gs (some (x.1,x.2.1,x.2.2++[r])) (fun b o h=>?_) ⟨⟨_,_,k4 _ _ nsd.symm g3,⟨⟨li,qa,ls,_,rfl,k4 _ _ n3 hli3,(tkX.trans tk4) _ _ hqa,g4,?_,f1,f2,n1,n2,n3,n4,n5⟩,inm,inw,ind',ile,?_,ipb⟩⟩,ne,⟨fd,ff,fk⟩,⟨xs,k4 _ _ n4.symm (k3 _ _ (hdl hxs) (sX2 _ _ hxs)),Pd.imp px fun v b f=>(f.tk tkX).tk tk4⟩,?_,wf,nm,?_⟩
    ·exact k4 _ _ (aB h f2) (k3 _ _ (aB h fd) (sX2 _ _ (s0 _ _ h)))
    ·exact Pd.snoc (Pd.imp vG fun v b f=>(f.tk tkX).tk tk4) (rq3.tk tk4)
    ·intro r' hr'
     rcases mem_append.mp hr' with h|h
     ·exact iwf r' h
     ·rw [mem_singleton.mp h]
      exact wr
    ·obtain ⟨ks,hks,pk⟩:=hkn
     exact ⟨ks,k4 _ _ n5.symm (k3 _ _ (hdl hks) (sX2 _ _ hks)),Pd.imp pk fun v b ⟨a,e,f⟩=>⟨a,e,tk4 _ _ (tkX _ _ f)⟩⟩
    ·show lE gs+((x.2.2++[r]).length+1)<=_
     have:lE gs+(x.2.2.length+1)<=n:=le
     rw [length_append]
     show _+(_+1+1)<=_
     omega
   intro NB hNB
   w_fin
   refine lJ (fun c1=>?_) (fun c1=>?_)
   ·w_fin
    refine bW fun le1 GZ hle1 sX ge=>?_
    refine Eo (sX _ _ hls) (Pd.imp vG fun v b f=>f.tk sX.tk) ge ?_
    by_cases hr0:x.2.2=[]
    ·rw [show (!x.2.2.isEmpty)=false by rw [hr0]; rfl]
     w_fin
     exact hNB _ sX
    ·rw [show (!x.2.2.isEmpty)=true by cases e:x.2.2 with|nil=>exact absurd e hr0|cons a b=>rfl]
     w_fin
     refine ⟨d,lf,lk,U,gs,x,H0,n,rfl,s0.trans sX,st'.sm sX,hr0,by omega,fun H' s' st2=>?_⟩
     w_fin
     exact q H' _ _ s' st2
   ·w_fin
    exact hNB _ (aI.refl _)
theorem MR (T:Bl mg) (d:Df K mg "_law_built" xJ ["_law_script","_law_first","_law_end"]) (W:XX K mg xt x1 x4 x5) (o1s:bD P w K mg base k "_law_closed" ["_law_state"] (sZ K)) (o1l:bD P w K mg base k "_law_number" ["_law_script","_law_k"] (DB K)) (o1z:bD P w K mg base k "_law_next" ["_law_number_here","_law_state","_law_names_here"] (KR K)) (o1t:bD P w K mg base k "_law_names" ["_law_script"] (wD K)):bD P w K mg base (k+1) "_law_built" ["_law_script","_law_first","_law_end"] (FN K):=by
 refine bD.of d oG (fun vs H Q E h=>?_) (fun f cdv A outer s H vs Q E hr h=>?_)
 ·obtain ⟨a,ns,m,rfl,_⟩:=h
  rfl
 ·obtain ⟨a,ns,m,rfl,hS,h63,hm,q⟩:=h
  refine ⟨_,(@aA _ _ _ _ _ (@aO _ _ (i:=3) _ _ _ _ oG.nd rfl (by w_left) (@aF _ _ _ _ _ _ _ _ _ _ o1t hr rfl (@bE _ _ _ (pv 0) (by rfl)) (by decide) (by rfl) (by rfl)) (by rfl) (by w_means)) (@aA _ _ _ _ _ (@aO _ _ (i:=4) _ _ _ _ oG.nd rfl (by w_left) (@QS _ _ _ _ _ (@oO _ _ _ _ _ _ _ _ _ (@aH _ _ _ _) (@bC _ _ _ _ (@dL _)) (@oO _ _ _ _ _ _ _ _ _ (@aH _ _ _ _) (@bC _ _ _ _ (@dL _)) (@oO _ _ _ _ _ _ _ _ _ (@aH _ _ _ _) (@fO _ _ _) (@oO _ _ _ _ _ _ _ _ _ (@aH _ _ _ _) (@aD _ _ _ _) (@QM _ _))))) rfl rfl (cons_ne_nil _ _) (le_of_ble_eq_true rfl)) (by rfl) (by w_means)) (@aA _ _ _ _ _ (@fH _ _ _ _ _ _ _ _ PassesOwn.never rfl (@qH _ _ _ _ _ _ _ rfl T.z_range (@dZ _ _ _ _ _ (pv 1) (pv 2) (by rfl) (by rfl)) (by rfl) (by rfl)) (@aU _ _ (i:=5) _ oG.nd rfl (by w_left) (by w_means)) (@aC _ _ _ (@bB _ _ _ _ _ _ _ _ (@aK _ _ _ _ _ _ _ _ wL (@cH _ _ _ _ _ _ hr.u1 (pv 4) (@aH _ _ _ _) (fun _ _=>rfl)) (@aD _ _ _ _) (aL _)) (@aC _ _ _ (@bO _ _ _ _ (@aF _ _ _ _ _ _ _ _ _ _ o1z hr rfl (@kC _ _ _ _ _ _ _ (@aF _ _ _ _ _ _ _ _ _ _ o1l hr rfl (@dZ _ _ _ _ _ (pv 0) (pv 5) (by rfl) (by rfl)) (by decide) (by rfl) (by rfl)) (pv 4) (pv 3) (by rfl) (by rfl) (by rfl)) (by decide) (by rfl) (by rfl)) (by rfl))) (@aS _))) (by intro _; rfl)) (@aA _ _ _ _ _ (@bB _ _ _ _ _ _ _ _ (@aK _ _ _ _ _ _ _ _ oQ (@cH _ _ _ _ _ _ hr.u1 (pv 4) (@aH _ _ _ _) (fun _ _=>rfl)) (@fO _ _ _) (aL _)) (@aA _ _ _ _ _ (@bB _ _ _ _ _ _ _ _ (@aK _ _ _ _ _ _ _ _ (aY hr.units) (@cD _ _ _ _ _ _ _ eB (@cH _ _ _ _ _ _ hr.u1 (pv 4) (@aH _ _ _ _) (fun _ _=>rfl)) (@aD _ _ _ _) (fun _ _=>rfl)) (@bC _ _ _ _ (@dL _)) (aL _)) (@aC _ _ _ (@bO _ _ _ _ (@cP _ _ _ _ _ _ _ _ _ _ _ _ plainAttrs_list F.slot_list_append F.type_list_append cK (@cD _ _ _ _ _ _ _ eB (@cH _ _ _ _ _ _ hr.u1 (pv 4) (@aH _ _ _ _) (fun _ _=>rfl)) (@aD _ _ _ _) (fun _ _=>rfl)) (@bE _ _ _ (@bM _ _ _ _ _ (@eG _ _ _ _ _ (@aH _ _ _ _) (@kC _ _ _ _ _ _ _ (@bJ _ _ _ _ _ _ _ (pv 3)) (@bJ _ _ _ _ _ _ _ (pv 3)) (@bM _ _ _ _ _ (@dZ _ _ _ _ _ (@aD _ _ _ _) (@aD _ _ _ _) (by rfl) (by rfl))) (by rfl) (by rfl) (by rfl)) (by rfl))) (by rfl)) (by rfl) (by rfl) (by rfl) (by rfl) (by rfl)) (by rfl))) (@aS _)) (@aC _ _ _ (@bO _ _ _ _ (@aF _ _ _ _ _ _ _ _ _ _ o1s hr rfl (@bE _ _ _ (pv 4) (by rfl)) (by decide) (by rfl) (by rfl)) (by rfl)))) (@aS _)) (@aA _ _ _ _ _ (@bB _ _ _ _ _ _ _ _ (@aK _ _ _ _ _ _ _ _ (aY hr.units) (@cH _ _ _ _ _ _ hr.u1 (pv 4) (@aH _ _ _ _) (fun _ _=>rfl)) (@bC _ _ _ _ (@dL _)) (aL _)) (@aC _ _ _ (@bO _ _ _ _ (@cP _ _ _ _ _ _ _ _ _ _ _ _ plainAttrs_list F.slot_list_append F.type_list_append cK (@cH _ _ _ _ _ _ hr.u1 (pv 4) (@aH _ _ _ _) (fun _ _=>rfl)) (@bE _ _ _ (@bM _ _ _ _ _ (@eG _ _ _ _ _ (@aH _ _ _ _) (@kC _ _ _ _ _ _ _ (@bJ _ _ _ _ _ _ _ (pv 3)) (@bJ _ _ _ _ _ _ _ (pv 3)) (@bM _ _ _ _ _ (@dZ _ _ _ _ _ (@aD _ _ _ _) (@aD _ _ _ _) (by rfl) (by rfl))) (by rfl) (by rfl) (by rfl)) (by rfl))) (by rfl)) (by rfl) (by rfl) (by rfl) (by rfl) (by rfl)) (by rfl))) (@aS _)) (@aC _ _ _ (@aM _ _ _ _ (@cH _ _ _ _ _ _ hr.u1 (pv 4) (@aH _ _ _ _) (fun _ _=>rfl))))))))),?_⟩
  w_fin
  refine ⟨a,ns,rfl,hS,fun ln H1 U hln0 s1 hln hU8 hUp hUn=>?_⟩
  have hS1:=s1.seq hS
  obtain ⟨n0,hn0,e0⟩:=nR (nm:=U) (i:=0) (by decide) (by omega)
  obtain ⟨n1,hn1,e1⟩:=nR (nm:=U) (i:=1) (by decide) (by omega)
  have okr:IJ (.run n0 n1 (Rat.divInt 1 1)):=⟨fX.part (hUp _ hn0),fX.part (hUp _ hn1),iM.of2 (by decide) (by decide) (by decide) (by decide) (by decide)⟩
  w_fin
  refine QD fun dd hdd=>?_
  obtain ⟨A1,zE,a1,b1⟩:=jK hdd (.dK [])
  rw [zE]
  w_fin
  refine bW fun lf A2 hlf a2 b2=>?_
  w_fin
  refine bW fun lk A3 hlk a3 b3=>?_
  w_fin
  have nfk:lf≠lk:=aB b2 hlk
  have ndf:dd≠lf:=aB b1 hlf
  have ndk:dd≠lk:=aB (a2 _ _ b1) hlk
  refine RY (a3 _ _ (a2 _ _ b1)) ?_
  have k4:Kp dd A3 (L2.upd A3 dd (.dK (lI lf lk .non 0))):=Kp.upd
  have b4:=aE (H:=A3) (a:=dd) (o:=.dK (lI lf lk .non 0))
  generalize L2.upd A3 dd (.dK (lI lf lk .non 0))=A4 at k4 b4 ⊢
  have hlf1:H1 lf=none:=a1.free hlf
  have hlk1:H1 lk=none:=(a1.trans a2).free hlk
  have s4:aI H1 A4:=fun b o h=>k4 _ _ (aB h hdd) (a3 _ _ (a2 _ _ (a1 _ _ h)))
  have st0:CG H1 A4 dd lf lk U [] none 0:=⟨⟨.non,0,b4,rfl⟩,nfk,⟨hdd,hlf1,hlk1⟩,⟨[],k4 _ _ ndf.symm (a3 _ _ b2),.nil⟩,⟨[],k4 _ _ ndk.symm b3,.nil⟩,trivial,fun _ h=>(nomatch h),le_refl _⟩
  w_fin
  refine oK (by decide) (by decide) (by omega) (by omega) ?_
  refine jY (n:=((m:Int) - 2).toNat) (fun i σ G=>∃ (gs:List bY) (ins:Option aQ) (o5:Option V),σ=[some (.ref a),some (.int 2),some (.int (m:Int)),some (.ref ln),some (.ref dd),o5]/\aI H1 G/\CG H1 G dd lf lk U gs ins i) ⟨[],none,_,rfl,s4,st0⟩ ?_ ?_
  ·rintro i σ G hi ⟨gs,ins,o5,rfl,sG,st⟩
   obtain ⟨vi,u,hd,_⟩:=st.st
   w_fin
   refine eQ (.inl hd) oC ?_
   w_fin
   refine lJ (fun c1=>?_) (fun c1=>?_)
   ·w_fin
    refine ⟨a,ns,_,rfl,sG.seq hS1,by omega,by omega,fun r hr=>?_⟩
    w_fin
    refine ⟨r,dd,lf,lk,ln,U,gs,ins,H1,i,rfl,hr,sG,hln,⟨hU8,hUp,hUn⟩,st,by omega,fun H' gs' ins' s' st'=>?_⟩
    w_fin
    exact ⟨gs',ins',_,rfl,s',st'⟩
   ·w_fin
    exact ⟨gs,ins,_,rfl,sG,st.up (le_succ _)⟩
  rintro σ G ⟨gs,ins,o5,rfl,sG,st⟩
  have hn40:((m:Int) - 2).toNat<=40:=by omega
  generalize ((m:Int) - 2).toNat=nn at st hn40
  obtain ⟨⟨vi,u,hd,hi⟩,ne,⟨fd,ff,fk⟩,⟨xs,hxs,px⟩,hkn,wf,nm,le⟩:=id st
  walk_at "gos"
  refine PY ?_
  refine LM ?_
  refine Dd (fun σ G=>∃ gsF nF,σ=[some (.ref a),some (.int 2),some (.int (m:Int)),some (.ref ln),some (.ref dd),o5]/\aI H1 G/\CG H1 G dd lf lk U gsF none nF/\nF<=59) ?_ ?_
  ·rintro σ GF ⟨gsF,nF,rfl,sF,stF,hnF⟩
   have gqF:=stF.gq
   obtain ⟨⟨viF,uF,hdF,hiF⟩,neF,⟨fdF,ffF,fkF⟩,⟨xsF,hxsF,pxF⟩,hknF,wfF,nmF,leF⟩:=id stF
   have hlnF:=sF _ _ hln
   w_fin
   refine eQ (.inl hdF) kG ?_
   w_fin
   refine bW fun le9 G9 hle9 s9 g9=>?_
   refine Fg (gqF.sm s9) g9 ?_
   have sF9:=sF.trans s9
   have hdF9:=s9 _ _ hdF
   have hxs9:=s9 _ _ hxsF
   by_cases hg0:gsF=[]
   ·rw [show gsF.isEmpty=true by rw [hg0]; rfl]
    w_fin
    refine eQ (.inl hdF9) kG ?_
    w_fin
    refine bH (s9 _ _ hlnF) e0 ?_
    w_fin
    refine bH (s9 _ _ hlnF) e1 ?_
    w_fin
    refine eJ fun pt J1 hpt v1 w1=>?_
    w_fin
    refine eJ fun pr J2 hpr v12 w2=>?_
    have v2:=v1.trans v12
    have rq0:bQ J2 (.ref pr) (.plain (.run n0 n1 (Rat.divInt 1 1))):=⟨pr,_,rfl,w2,(qX.of2 (by decide) (by decide) w1).tk v12.tk⟩
    w_fin
    have hxs2:=v2 _ _ (s9 _ _ hxsF)
    refine iB hxs2 (by have:=Paired.length pxF; rw [hg0] at this; rw [this]; decide) ?_
    have kF:Kp lf J2 (L2.upd J2 lf (.lst (xsF++[.ref pr]))):=Kp.upd
    have tkF:=TK.lst (o:=.lst (xsF++[.ref pr])) hxs2
    have gF:=aE (H:=J2) (a:=lf) (o:=.lst (xsF++[.ref pr]))
    generalize L2.upd J2 lf (.lst (xsF++[.ref pr]))=J3 at kF tkF gF ⊢
    have ndf:lf≠dd:=fun e=>by rw [e,hdF] at hxsF; cases hxsF
    have hdJ:=kF _ _ ndf.symm (v2 _ _ hdF9)
    w_fin
    refine eQ (.inl hdJ) kG ?_
    w_fin
    refine q lf J3 [.one (.plain (.run n0 n1 (Rat.divInt 1 1)))] (s1.trans fun b o h=>kF _ _ (aB h ffF) (v2 _ _ (s9 _ _ (sF _ _ h)))) (s1.free ffF) ⟨_,gF,?_⟩ ⟨⟨okr,trivial⟩,(by show 1<=60; decide),(by show 1<=60; decide)⟩ (cons_ne_nil _ _) (by show 1<=59; decide)
    have:xsF=[]:=List.length_eq_zero_iff.mp (by rw [Paired.length pxF,hg0]; rfl)
    rw [this]
    exact .cons (rq0.tk tkF) .nil
   ·rw [show gsF.isEmpty=false by cases e:gsF with|nil=>exact absurd e hg0|cons a b=>rfl]
    w_fin
    refine eQ (.inl hdF9) kG ?_
    w_fin
    exact q lf G9 gsF (s1.trans sF9) (s1.free ffF) (gqF.sm s9) (stF.built hU8 (by omega)) hg0 (by have:lE gsF+0<=nF:=leF; omega)
  ·intro NX hNX
   have hlnG:=sG _ _ hln
   w_fin
   refine eQ (.inl hd) kE ?_
   cases ins with
  |none =>
    cases (show vi=.non from hi)
    w_fin
    exact hNX _ _ ⟨gs,nn,rfl,sG,st,by omega⟩
  |some x =>
    obtain ⟨⟨li,qa,ls,ys,rfl,hli,hqa,hls,vG,f1,f2,n1',n2,n3,n4,n5⟩,inm,inw,ind',ile,iwf,ipb⟩:=(show ET H1 G dd lf lk U (cZ [] gs) vi x from hi)
    have le2:lE gs+(x.2.2.length+1)<=nn:=le
    have hdl:∀ {b:Addr} {zs:List V},G b=some (.lst zs)->b≠dd:=fun h e=>by rw [e,hd] at h; cases h
    w_fin
    refine eQ (.inl hd) kE ?_
    w_fin
    refine bW fun le1 GX hle1 sX ge=>?_
    refine Fe (sX _ _ hls) (Pd.imp vG fun v b f=>f.tk sX.tk) ge ?_
    by_cases hr0:x.2.2=[]
    ·rw [show x.2.2.isEmpty=true by rw [hr0]; rfl]
     w_fin
     refine eQ (.inl (sX _ _ hd)) kE ?_
     have hliX:=sX _ _ hli
     have hlsX:=sX _ _ hls
     w_fin
     refine bH (sX _ _ hlnG) e0 ?_
     w_fin
     refine bH (sX _ _ hlnG) e1 ?_
     w_fin
     refine eJ fun pt J1 hpt v1 w1=>?_
     w_fin
     refine eJ fun pr J2 hpr v12 w2=>?_
     have v2:=v1.trans v12
     have rq0:bQ J2 (.ref pr) (.plain (.run n0 n1 (Rat.divInt 1 1))):=⟨pr,_,rfl,w2,(qX.of2 (by decide) (by decide) w1).tk v12.tk⟩
     w_fin
     have hls2:=v2 _ _ hlsX
     have hyl:=Paired.length vG
     refine iB hls2 (by rw [hyl,hr0]; decide) ?_
     have k4':Kp ls J2 (L2.upd J2 ls (.lst (ys++[.ref pr]))):=Kp.upd
     have tk4:=TK.lst (o:=.lst (ys++[.ref pr])) hls2
     have g4:=aE (H:=J2) (a:=ls) (o:=.lst (ys++[.ref pr]))
     generalize L2.upd J2 ls (.lst (ys++[.ref pr]))=G4 at k4' tk4 g4 ⊢
     have u2:=sX.trans v2
     have tkX:=u2.tk.trans tk4
     have hy0:ys=[]:=List.length_eq_zero_iff.mp (by rw [hyl,hr0]; rfl)
     have st4:CG H1 G4 dd lf lk U gs (some (x.1,x.2.1,[.plain (.run n0 n1 (Rat.divInt 1 1))])) (nn+1):=by
      refine ⟨⟨_,_,k4' _ _ (hdl hls).symm (u2 _ _ hd),⟨⟨li,qa,ls,_,rfl,k4' _ _ n3 (u2 _ _ hli),tkX _ _ hqa,g4,?_,f1,f2,n1',n2,n3,n4,n5⟩,inm,inw,ind',ile,(fun r hr=>?_),ipb⟩⟩,ne,⟨fd,ff,fk⟩,⟨xs,k4' _ _ n4.symm (u2 _ _ hxs),Pd.imp px fun v b f=>f.tk tkX⟩,?_,wf,nm,?_⟩
      ·rw [hy0]
       exact .cons (rq0.tk tk4) .nil
      ·rw [mem_singleton.mp hr]
       exact okr
      ·obtain ⟨ks,hks,pk⟩:=hkn
       exact ⟨ks,k4' _ _ n5.symm (u2 _ _ hks),Pd.imp pk fun v b ⟨a,e,f⟩=>⟨a,e,tkX _ _ f⟩⟩
      ·show lE gs+(1+1)<=_
       omega
     w_fin
     refine ⟨dd,lf,lk,U,gs,_,H1,nn+1,rfl,fun b o h=>k4' _ _ (aB h f2) (u2 _ _ (sG _ _ h)),st4,cons_ne_nil _ _,by omega,fun H' s' st2=>?_⟩
     w_fin
     exact hNX _ _ ⟨_,_,rfl,s',st2,by omega⟩
    ·rw [show x.2.2.isEmpty=false by cases e:x.2.2 with|nil=>exact absurd e hr0|cons a b=>rfl]
     w_fin
     refine ⟨dd,lf,lk,U,gs,x,H1,nn,rfl,sG.trans sX,st.sm sX,hr0,by omega,fun H' s' st2=>?_⟩
     w_fin
     exact hNX _ _ ⟨_,_,rfl,s',st2,by omega⟩
theorem RC (T:Bl mg) (d:Df K mg "_law_text" DJ ["_law_rows"]) (W:XX K mg xt x1 x4 x5) (o0o:bD P w K mg base k "_law_row_texts" ["_law_row_here"] (xB K)):bD P w K mg base (k+1) "_law_text" ["_law_rows"] (zR K):=by
 refine bD.of d rT (fun vs H Q E h=>?_) (fun f cdv A outer s H vs Q E hr h=>?_)
 ·obtain ⟨l,gs,rfl,_⟩:=h
  rfl
 ·obtain ⟨l,gs,rfl,hl,hb,hn,q⟩:=h
  refine ⟨_,(@aA _ _ _ _ _ (@aO _ _ (i:=1) _ _ _ _ rT.nd rfl (by w_left) (@bC _ _ _ _ (@dL _)) (by rfl) (by w_means)) (@aA _ _ _ _ _ (@fH _ _ _ _ _ _ _ _ PassesOwn.never rfl (@dS _ _ _ _ (pv 0)) (@aU _ _ (i:=2) _ rT.nd rfl (by w_left) (by w_means)) (@aC _ _ _ (@aO _ _ (i:=1) _ _ _ _ rT.nd rfl (by w_left) (@aJ _ _ _ _ _ _ _ _ aV (pv 1) (@aF _ _ _ _ _ _ _ _ _ _ o0o hr rfl (@bE _ _ _ (pv 2) (by rfl)) (by decide) (by rfl) (by rfl))) (by rfl) (by w_means))) (by intro _; rfl)) (@aC _ _ _ (@aM _ _ _ _ (@cP _ _ _ _ _ _ _ _ _ _ _ _ plainAttrs_str slot_str_join type_str_join oX (@aH _ _ _ _) (@bE _ _ _ (pv 1) (by rfl)) (by rfl) (by rfl) (by rfl) (by rfl) (by rfl)))))),?_⟩
  obtain ⟨xs,hxs,px⟩:=hl
  have hxl:=Paired.length px
  have hll:=gO gs
  w_fin
  refine bW fun l0 H0 hl0 s0 g0=>?_
  w_fin
  refine dR (cN.of (s0 _ _ hxs)) ?_
  refine nO (xs:=xs) (fun i σ G=>∃ (E:List aQ) (o2:Option V) (lf:Addr),σ=[some (.ref l),some (.ref lf),o2]/\aI H G/\H lf=none/\G lf=some (.lst (((gs.take i).flatMap aN).map lL))/\jS E/\nH E (gs.drop i)) ⟨[],_,_,rfl,s0,hl0,g0,trivial,hb.wf⟩ ?_ ?_ ?_
  ·rintro i σ G _ ⟨E,o2,lf,rfl,sG,_⟩
   exact cN.of (sG _ _ hxs)
  ·rintro i y σ G hy ⟨E,o2,lf,rfl,sG,hlf,glf,hE,hW⟩
   obtain ⟨g,hg,gq⟩:=Paired.at px hy
   rw [iK hg] at hW
   have tk1:gs.take (i+1)=gs.take i++[g]:=by rw [take_add_one,hg]; rfl
   have hd:nH E [g]/\∃ E',jS E'/\nH E' (gs.drop (i+1)):=by
    cases g with
   |one r=>exact ⟨⟨hW.1,trivial⟩,E,hE,hW.2⟩
   |piece p=>exact ⟨⟨hW.1,trivial⟩,p::E,⟨hW.1,hE⟩,hW.2⟩
   obtain ⟨hd,E',hE',hW'⟩:=hd
   have cnt:((gs.take i).flatMap aN).length+(aN g).length<=(gs.flatMap aN).length:=by
    have e:=congrArg List.length (GL hg)
    rw [length_drop,length_append] at e
    have e2:=congrArg (fun l=>(List.flatMap aN l).length) (take_append_drop i gs)
    simp only [flatMap_append,length_append] at e2
    omega
   w_fin
   refine ⟨y,g,E,rfl,iD.tk gq sG.tk,hd,hE,fun l4 G4 hl4 t4 g4=>?_⟩
   refine jH (t4 _ _ glf) g4 (by rw [length_map,length_map]; omega) fun l5 hl5=>?_
   have t5:=sG.trans t4
   w_fin
   refine ⟨E',_,l5,rfl,t5.trans (aI.new hl5),t5.free hl5,?_,hE',hW'⟩
   rw [aE,tk1,flatMap_append,map_append]
   simp
  rintro σ G ⟨E,o2,lf,rfl,sG,hlf,glf,_⟩
  rw [hxl,take_length] at glf
  have glf2:G lf=some (.lst (((gs.flatMap aN).map (Str.join kN)).map V.str)):=by rw [glf,map_map]; rfl
  w_fin
  refine ⟨_,lf,_,rfl,rfl,glf2,(mX hb hn).1,?_⟩
  w_fin
  exact q G sG
theorem II (T:Bl mg) (d:Df K mg "_law_called" tT ["_law_name","_law_row_here","_law_params"]) (W:XX K mg xt x1 x4 x5):bD P w K mg base (k+1) "_law_called" ["_law_name","_law_row_here","_law_params"] (tD K):=by
 refine bD.of d HP (fun vs H Q E h=>?_) (fun f cdv A outer s H vs Q E hr h=>?_)
 ·obtain ⟨x,v,q',nm,cl,as,ps,rfl,_⟩:=h
  rfl
 ·obtain ⟨x,v,q',nm,cl,as,ps,rfl,hro,hq,hl,hx,hc,q⟩:=h
  refine ⟨_,(@aA _ _ _ _ _ (@bB _ _ _ _ _ _ _ _ (@aK _ _ _ _ _ _ _ _ HY (pv 0) (pv 2) (by with_unfolding_all rfl)) (@aC _ _ _ (@aM _ _ _ _ (@cD _ _ _ _ _ _ _ eB (@bJ _ _ _ _ _ _ _ (pv 1)) (@YH _ _ _ _ _ _ _ _ _ _ _ _ _ PySem.F.plainAttrs_tuple PySem.F.slot_tuple_index PySem.F.type_tuple_index YX plainAttrs_list PySem.F.slot_list_index PySem.F.type_list_index YY (pv 2) (@bE _ _ _ (pv 0) (by rfl)) (by rfl) (by rfl) (by rfl) (by rfl) (by rfl)) (fun _ _=>rfl)))) (@aS _)) (@aC _ _ _ (@aM _ _ _ _ (@aJ _ _ _ _ _ _ _ _ aV (@aJ _ _ _ _ _ _ _ _ aV (@bJ _ _ _ _ _ _ _ (pv 1)) (@aH _ _ _ _)) (pv 0))))),?_⟩
  have ep:(".":Str)=⟨#[46]⟩:=by decide +kernel
  have l1:(⟨#[46]⟩:Str).length=1:=rfl
  obtain ⟨p,a,rfl,hp,ha⟩:=hro
  w_fin
  refine WU hq ?_
  by_cases hm:x∈ps
  ·obtain ⟨j,hj,hno⟩:=NR hm
   obtain ⟨y,hy⟩:∃ y,as[j]?=some y:=⟨_,List.getElem?_eq_getElem (by have:=(List.getElem?_eq_some_iff.mp hj).1; omega)⟩
   rw [GC hj hno hy] at q
   rw [decide_eq_true hm]
   have fin:∀ {vs:List V},vs=as.map V.str->fM vs ((j:Nat):Int)=some (.str y):=fun e=>by rw [e]; exact aX (by rw [List.getElem?_map,hy]; rfl)
   w_fin
   rcases hq with hq|hq
   ·refine XN hq ?_
    w_fin
    refine ⟨q',ps,x,j,rfl,rfl,hq,hj,hno,?_⟩
    w_fin
    refine fG ha (fin rfl) ?_
    w_fin
    exact q
   ·refine XO hq ?_
    w_fin
    refine ⟨q',ps,x,j,rfl,rfl,hq,hj,hno,?_⟩
    w_fin
    refine fG ha (fin rfl) ?_
    w_fin
    exact q
  ·rw [GB hm] at q
   rw [decide_eq_false hm]
   w_fin
   rw [ep]
   refine gN (by rw [l1]; omega) ?_
   w_fin
   refine gN (by rw [eW,l1]; omega) ?_
   w_fin
   exact q
theorem AX (T:Bl mg) (d:Df K mg "_law_row_runs" kQ ["_law_row_here","_law_pieces"]) (W:XX K mg xt x1 x4 x5) (o1k:bD P w K mg base k "_law_called" ["_law_name","_law_row_here","_law_params"] (tD K)):bD P w K mg base (k+1) "_law_row_runs" ["_law_row_here","_law_pieces"] (jN K):=by
 refine bD.of d fS (fun vs H Q E h=>?_) (fun f cdv A outer s H vs Q E hr h=>?_)
 ·obtain ⟨v,d,E,r,rfl,_⟩:=h
  rfl
 ·obtain ⟨v,d,E,r,rfl,hro,hpc,hE,h60,hw,q⟩:=h
  refine ⟨_,(@aA _ _ _ _ _ (@bB _ _ _ _ _ _ _ _ (@aK _ _ _ _ _ _ _ _ (aY hr.units) (@bJ _ _ _ _ _ _ _ (pv 0)) (@aH _ _ _ _) (aL _)) (@aC _ _ _ (@aM _ _ _ _ (@bC _ _ _ _ (@bE _ _ _ (@bI _ _ _ _ _ _ _ _ _ _ dB (pv 0) (@bV _ _ _ (@aD _ _ _ _)) (@cC _)) (by rfl))))) (@aS _)) (@aA _ _ _ _ _ (@bB _ _ _ _ _ _ _ _ (@aK _ _ _ _ _ _ _ _ (aY hr.units) (@bJ _ _ _ _ _ _ _ (pv 0)) (@aH _ _ _ _) (aL _)) (@aA _ _ _ _ _ (@tY _ _ _ _ _ _ (@cH _ _ _ _ _ _ hr.u1 (pv 1) (@bJ _ _ _ _ _ _ _ (pv 0)) (fun _ _=>rfl)) (@qI _ _ _ _ _ (n:=2) rfl (@bP _ _ _ _ _ (@aU _ _ (i:=2) _ fS.nd rfl (by w_left) (by w_means)) (@bP _ _ _ _ _ (@aU _ _ (i:=3) _ fS.nd rfl (by w_left) (by w_means)) (@gW _) (by rfl)) (by rfl)) (by rfl) (by rfl)) (by rfl) (by rfl) (by rfl)) (@aC _ _ _ (@aM _ _ _ _ (@eF _ _ _ _ _ _ _ _ _ _ _ _ _ _ (@dD _ _ (sc:=aG kQ) (N:=["_law_row_here","_law_pieces","_law_params","_law_inner","_law_posts_here","_law_found","_law_k"]) (tn:=["_law_one","_law_other","_law_time_here"]) (names:=["_law_row_here","_law_params"]) (is:=[0,2]) rfl rfl (by decide +kernel) (by decide +kernel) rfl (by decide +kernel) rfl (by decide +kernel) (by decide +kernel) (by decide +kernel)) rfl (@dS _ _ _ _ (pv 3)) (fun _ _ _ _=>(@rY _ _ _ _ _ _ _ _ _ _ _ (n:=3) _ rfl (@bP _ _ _ _ _ (@aU _ _ (i:=0) _ (show (["_law_one","_law_other","_law_time_here","_law_row_here","_law_params"]:List Str).Nodup by decide +kernel) rfl (Or.inl rfl) (Or.inr rfl)) (@bP _ _ _ _ _ (@aU _ _ (i:=1) _ (show (["_law_one","_law_other","_law_time_here","_law_row_here","_law_params"]:List Str).Nodup by decide +kernel) rfl (Or.inl rfl) (Or.inr rfl)) (@bP _ _ _ _ _ (@aU _ _ (i:=2) _ (show (["_law_one","_law_other","_law_time_here","_law_row_here","_law_params"]:List Str).Nodup by decide +kernel) rfl (Or.inl rfl) (Or.inr rfl)) (@gW _) (by rfl)) (by rfl)) (by rfl)) (by rfl) (by rfl))) (fun _ _ _ _=>(@bM _ _ _ _ _ (@kC _ _ _ _ _ _ _ (@aF _ _ _ _ _ _ _ _ _ _ o1k hr rfl (@kC _ _ _ _ _ _ _ (pv 0) (pv 3) (pv 4) (by rfl) (by rfl) (by rfl)) (by decide) (by rfl) (by rfl)) (@aF _ _ _ _ _ _ _ _ _ _ o1k hr rfl (@kC _ _ _ _ _ _ _ (pv 1) (pv 3) (pv 4) (by rfl) (by rfl) (by rfl)) (by decide) (by rfl) (by rfl)) (pv 2) (by rfl) (by rfl) (by rfl)))) (fun _ _ _ _=>(@cI _)) (by intro _; rfl))))) (@aS _)) (@aA _ _ _ _ _ (@aO _ _ (i:=4) _ _ _ _ fS.nd rfl (by w_left) (@bJ _ _ _ _ _ _ _ (pv 0)) (by rfl) (by w_means)) (@aA _ _ _ _ _ (@aO _ _ (i:=5) _ _ _ _ fS.nd rfl (by w_left) (@bC _ _ _ _ (@dL _)) (by rfl) (by w_means)) (@aA _ _ _ _ _ (@fH _ _ _ _ _ _ _ _ PassesOwn.never rfl (@qH _ _ _ _ _ _ _ rfl T.z_range (@dZ _ _ _ _ _ (@aD _ _ _ _) (@aP _ _ _ _ _ _ _ _ _ dF rfl T.z_len bX (@bE _ _ _ (pv 4) (by rfl)) (by decide) (by decide) (by rfl) (by rfl)) (by rfl) (by rfl)) (by rfl) (by rfl)) (@aU _ _ (i:=6) _ fS.nd rfl (by w_left) (by w_means)) (@aC _ _ _ (@bO _ _ _ _ (@cP _ _ _ _ _ _ _ _ _ _ _ _ plainAttrs_list F.slot_list_append F.type_list_append cK (pv 5) (@bE _ _ _ (@bM _ _ _ _ _ (@kC _ _ _ _ _ _ _ (@cD _ _ _ _ _ _ _ eB (@bC _ _ _ _ (@dZ _ _ _ _ _ (@cD _ _ _ _ _ _ _ eB (pv 4) (@aJ _ _ _ _ _ _ _ _ xV (pv 6) (@aD _ _ _ _)) (fun _ _=>rfl)) (@bJ _ _ _ _ _ _ _ (pv 4)) (by rfl) (by rfl))) (@bF _ _ _ _ _ _ _ _ _ VB rfl T.z_int mF (@bE _ _ _ (@cO _ _ _ _ _ _ _ _ (aY hr.units) (@bJ _ _ _ _ _ _ _ (pv 0)) (@aH _ _ _ _) (aL _)) (by rfl)) (by decide) (by decide) (by rfl) (by rfl)) (fun _ _=>rfl)) (@cD _ _ _ _ _ _ _ eB (pv 4) (pv 6) (fun _ _=>rfl)) (@bJ _ _ _ _ _ _ _ (pv 0)) (by rfl) (by rfl) (by rfl))) (by rfl)) (by rfl) (by rfl) (by rfl) (by rfl) (by rfl)) (by rfl))) (by intro _; rfl)) (@aA _ _ _ _ _ (@bB _ _ _ _ _ _ _ _ (@aK _ _ _ _ _ _ _ _ (aY hr.units) (@bJ _ _ _ _ _ _ _ (pv 0)) (@aH _ _ _ _) (aL _)) (@aC _ _ _ (@bO _ _ _ _ (@cP _ _ _ _ _ _ _ _ _ _ _ _ plainAttrs_list F.slot_list_append F.type_list_append cK (pv 5) (@bE _ _ _ (@bM _ _ _ _ _ (@kC _ _ _ _ _ _ _ (@cD _ _ _ _ _ _ _ eB (pv 4) (@UN _ _ _ _ _ _ KC (@aD _ _ _ _)) (fun _ _=>rfl)) (@bJ _ _ _ _ _ _ _ (pv 4)) (@bJ _ _ _ _ _ _ _ (pv 0)) (by rfl) (by rfl) (by rfl))) (by rfl)) (by rfl) (by rfl) (by rfl) (by rfl) (by rfl)) (by rfl))) (@aS _)) (@aC _ _ _ (@aM _ _ _ _ (pv 5))))))))),?_⟩
  cases r with
 |put nm cl as =>
   obtain ⟨p,q',rfl,hp,hq⟩:=id hro
   obtain ⟨w1,w2,w3,x,hx,rfl,wl⟩:=id hw
   obtain ⟨kvs,hk,_,hv⟩:=hpc
   obtain ⟨t,a,li,et,ht,ha,vs,hvs,pv⟩:=hv x hx
   have hrun:=(hE.put hx cl as).1
   have okx:∀ y∈(x.2.2.flatMap (aR E)).take 121,OW (3+E.length) y:=fun y hy=>by
    obtain ⟨r,hr,hy⟩:=mem_flatMap.mp (mem_of_mem_take hy)
    exact mS hE (hE.row hx r hr) y hy
   have cl8:=(cT w1).2.1
   have evs:vs.length=((x.2.2.flatMap (aR E)).take 121).length:=(Paired.length pv).trans (by simp [kn])
   have tl:=length_take_le 121 (x.2.2.flatMap (aR E))
   w_fin
   refine eQ (.inl hk) et ?_
   w_fin
   refine dR (cN.of hvs) ?_
   refine AO (xs:=vs) (by omega) (fun acc i ys G=>Kp acc H G/\Paired (aW G) ys (kn ((((x.2.2.flatMap (aR E)).take 121).take i).map (jX x.2.1 as cl)))) ?_ ?_ ?_ ?_
   ·intro acc h0
    exact ⟨Kp.new h0,.nil⟩
   ·rintro acc i ys G h0 hi ⟨kp,_⟩
    exact cN.of (kp _ _ (aB hvs h0) hvs)
   ·rintro acc i ys G y h0 hy hyl hG ⟨kp,pr⟩
    obtain ⟨rr,hrr,p3,ut,rfl,hp3,ft⟩:=Paired.at pv hy
    obtain ⟨r3,hr3,rfl⟩:=GH hrr
    replace hp3:H p3=some (.tup [.str r3.1,.str r3.2.1,ut]):=hp3
    have sG:aI H G:=fun b o h=>kp _ _ (aB h h0) h
    obtain ⟨n1,n2,_⟩:=okx r3 (mem_of_getElem? hr3)
    have l1:=n1.2.2
    have l2':=n2.2.2
    refine ⟨p3,_,_,_,rfl,sG _ _ hp3,?_⟩
    w_fin
    refine ⟨r3.1,_,a,x.1,cl,as,x.2.1,rfl,bQ.tk (r:=.put x.1 cl as) hro sG.tk,ha.sm sG,wl,by omega,by omega,?_⟩
    w_fin
    refine ⟨r3.2.1,_,a,x.1,cl,as,x.2.1,rfl,bQ.tk (r:=.put x.1 cl as) hro sG.tk,ha.sm sG,wl,by omega,by omega,?_⟩
    w_fin
    refine eJ fun p9 G2 hp9 t9 g9=>?_
    have hG2:=t9 _ _ hG
    have tk:=TK.lst (o:=.lst (ys++[.ref p9])) hG2
    refine eS (by have:=(List.getElem?_eq_some_iff.mp hy).1; exact this) hyl hG2 ⟨(kp.trans t9.kp).trans Kp.upd,?_⟩
    rw [take_add_one,hr3,map_append]
    generalize ((x.2.2.flatMap (aR E)).take 121).take i=m at pr
    rw [show kn (List.map (jX x.2.1 as cl) m++List.map (jX x.2.1 as cl) (some r3).toList)=kn (List.map (jX x.2.1 as cl) m)++[(Sum.inr (gB x.2.1 as cl r3.1),Sum.inr (gB x.2.1 as cl r3.2.1),r3.2.2)] by simp [kn,jX]]
    exact Pd.snoc (Pd.imp pr fun v b f=>(aW.tk f t9.tk).tk tk) (aW.mk3 (tk _ _ g9) (((ft.tk sG.tk).tk t9.tk).tk tk))
   ·rintro acc ys G h0 hG hyl ⟨kp,pr⟩
    rw [evs,take_length] at pr
    w_fin
    exact q acc G _ h0 (fun b o h=>kp _ _ (aB h h0) h) ⟨ys,hG,pr⟩ (by rw [hrun,← map_take,take_take,min_self,map_take]) (by rw [length_map]; omega)
 |plain r =>
   replace hro:gZ H v r:=hro
   replace hw:IJ r:=hw
   rw [dW] at q
   have hl31:=qE hw
   replace q:∀ l H',H l=none->aI H H'->LQ aW H' l (kn r.runs)->Q (.ref l) H':=fun l H' h0 s lq=>q l H' r.runs h0 s lq rfl (by omega)
   cases r with
  |run a b t =>
    obtain ⟨p,u,rfl,hp,hu⟩:=hro
    w_fin
    refine LE hp (show 1<=4 by decide) fun p1 hp1=>?_
    have t1:=aI.new (o:=.tup [.str a,.str b,u]) hp1
    w_fin
    refine cG fun l1 hl1=>?_
    have t2:=t1.trans (aI.new (o:=.lst [.ref p1]) hl1)
    w_fin
    exact q l1 _ (t1.free hl1) t2 ⟨_,aE,.cons (aW.mk3 (fE hl1 aE) (hu.tk t2.tk)) .nil⟩
  |path k t ps =>
    obtain ⟨p,u,z,rfl,hp,hu,hz⟩:=hro
    have hl':2<=ps.length/\ps.length<=190:=⟨hw.2.2.1,le_trans hw.2.2.2.1 (by decide)⟩
    have hlm:(ps.map V.str).length=ps.length:=length_map _
    obtain ⟨c0,ec⟩:∃ c,ps[0]?=some c:=⟨_,List.getElem?_eq_getElem (by omega)⟩
    cases k with
   |row =>
     w_fin
     refine cG fun lf hlf=>?_
     have sf:=aI.new (o:=.lst []) hlf
     w_fin
     refine oK (by decide) (by decide) (by omega) (by omega) ?_
     rw [show (((ps.map V.str).length:Int) - 1).toNat=ps.length - 1 by omega]
     refine jY (n:=ps.length - 1) (fun i σ G=>∃ o6,σ=[some (.ref p),some (.ref d),none,none,some (.ref z),some (.ref lf),o6]/\Kp lf H G/\TK H G/\LQ aW G lf (kn ((dH t ps).take i))) ⟨_,rfl,Kp.new hlf,TK.new hlf,[],aE,.nil⟩ ?_ ?_
     ·rintro i σ G hi ⟨o6,rfl,kp,tk,vs,hvs,pv⟩
      obtain ⟨a,ea⟩:∃ a,ps[i]?=some a:=⟨_,List.getElem?_eq_getElem (by omega)⟩
      obtain ⟨b,eb⟩:∃ b,ps[i+1]?=some b:=⟨_,List.getElem?_eq_getElem (by omega)⟩
      have hzG:=tk _ _ hz
      have hpG:=tk _ _ hp
      w_fin
      rw [show (1+(i:Int) - 1)=(i:Int) by omega]
      refine fG hzG (aX (show (ps.map V.str)[i]?=some (.str a) by rw [List.getElem?_map,ea]; rfl)) ?_
      w_fin
      refine fG hzG (aX (show (ps.map V.str)[0]?=some (.str c0) by rw [List.getElem?_map,ec]; rfl)) ?_
      w_fin
      refine bW fun l8 G1 hl8 t1 g8=>?_
      have hzG1:=t1 _ _ hzG
      have hpG1:=t1 _ _ hpG
      w_fin
      rw [show (1+(i:Int))=((i+1:Nat):Int) by omega]
      refine fG hzG1 (aX (show (ps.map V.str)[i+1]?=some (.str b) by rw [List.getElem?_map,eb]; rfl)) ?_
      w_fin
      refine dJ fun p9 hp9=>?_
      have t2:=t1.trans (aI.new (o:=.tup [.str a,.str b,u]) hp9)
      have h9:=aE (H:=G1) (a:=p9) (o:=.tup [.str a,.str b,u])
      generalize L2.upd G1 p9 (.tup [.str a,.str b,u])=G2 at t2 h9 ⊢
      have el:vs.length=((dH t ps).take i).length:=(Paired.length pv).trans (by simp [kn])
      have el2:=length_take_le i (dH t ps)
      w_fin
      refine iB (t2 _ _ hvs) (by omega) ?_
      have tk2:=TK.lst (o:=.lst (vs++[.ref p9])) (t2 _ _ hvs)
      w_fin
      refine ⟨_,rfl,(kp.trans t2.kp).trans Kp.upd,(tk.trans t2.tk).trans tk2,_,aE,?_⟩
      rw [pC _ _ (show (dH t ps)[i]?=some (a,b,t) from pN t ps i a b ea eb)]
      exact Pd.snoc (Pd.imp pv fun v b f=>(aW.tk f t2.tk).tk tk2) (aW.mk3 (tk2 _ _ h9) (((hu.tk tk).tk t2.tk).tk tk2))
     rintro σ G ⟨o6,rfl,kp,tk,vs,hvs,pv⟩
     have hzG:=tk _ _ hz
     have hpG:=tk _ _ hp
     rw [take_of_length_le (by rw [fF]; exact le_refl _)] at pv
     w_fin
     exact q lf G hlf (fun b o h=>kp _ _ (aB h hlf) h) ⟨vs,hvs,pv⟩
   |star =>
     w_fin
     refine cG fun lf hlf=>?_
     have sf:=aI.new (o:=.lst []) hlf
     w_fin
     refine oK (by decide) (by decide) (by omega) (by omega) ?_
     rw [show (((ps.map V.str).length:Int) - 1).toNat=ps.length - 1 by omega]
     refine jY (n:=ps.length - 1) (fun i σ G=>∃ o6,σ=[some (.ref p),some (.ref d),none,none,some (.ref z),some (.ref lf),o6]/\Kp lf H G/\TK H G/\LQ aW G lf (kn ((ps.tail.map fun x=>(ps.headD "",x,t)).take i))) ⟨_,rfl,Kp.new hlf,TK.new hlf,[],aE,.nil⟩ ?_ ?_
     ·rintro i σ G hi ⟨o6,rfl,kp,tk,vs,hvs,pv⟩
      obtain ⟨a,ea⟩:∃ a,ps[i]?=some a:=⟨_,List.getElem?_eq_getElem (by omega)⟩
      obtain ⟨b,eb⟩:∃ b,ps[i+1]?=some b:=⟨_,List.getElem?_eq_getElem (by omega)⟩
      have hzG:=tk _ _ hz
      have hpG:=tk _ _ hp
      w_fin
      rw [show (1+(i:Int) - 1)=(i:Int) by omega]
      refine fG hzG (aX (show (ps.map V.str)[i]?=some (.str a) by rw [List.getElem?_map,ea]; rfl)) ?_
      w_fin
      refine fG hzG (aX (show (ps.map V.str)[0]?=some (.str c0) by rw [List.getElem?_map,ec]; rfl)) ?_
      w_fin
      refine bW fun l8 G1 hl8 t1 g8=>?_
      have hzG1:=t1 _ _ hzG
      have hpG1:=t1 _ _ hpG
      w_fin
      rw [show (1+(i:Int))=((i+1:Nat):Int) by omega]
      refine fG hzG1 (aX (show (ps.map V.str)[i+1]?=some (.str b) by rw [List.getElem?_map,eb]; rfl)) ?_
      w_fin
      refine dJ fun p9 hp9=>?_
      have t2:=t1.trans (aI.new (o:=.tup [.str c0,.str b,u]) hp9)
      have h9:=aE (H:=G1) (a:=p9) (o:=.tup [.str c0,.str b,u])
      generalize L2.upd G1 p9 (.tup [.str c0,.str b,u])=G2 at t2 h9 ⊢
      have el:vs.length=((ps.tail.map fun x=>(ps.headD "",x,t)).take i).length:=(Paired.length pv).trans (by simp [kn])
      have el2:=length_take_le i (ps.tail.map fun x=>(ps.headD "",x,t))
      w_fin
      refine iB (t2 _ _ hvs) (by omega) ?_
      have tk2:=TK.lst (o:=.lst (vs++[.ref p9])) (t2 _ _ hvs)
      w_fin
      refine ⟨_,rfl,(kp.trans t2.kp).trans Kp.upd,(tk.trans t2.tk).trans tk2,_,aE,?_⟩
      rw [pC _ _ (show (ps.tail.map fun x=>(ps.headD "",x,t))[i]?=some (c0,b,t) from PJ ec eb)]
      exact Pd.snoc (Pd.imp pv fun v b f=>(aW.tk f t2.tk).tk tk2) (aW.mk3 (tk2 _ _ h9) (((hu.tk tk).tk t2.tk).tk tk2))
     rintro σ G ⟨o6,rfl,kp,tk,vs,hvs,pv⟩
     have hzG:=tk _ _ hz
     have hpG:=tk _ _ hp
     rw [take_of_length_le (by rw [length_map,length_tail]; exact le_refl _)] at pv
     w_fin
     exact q lf G hlf (fun b o h=>kp _ _ (aB h hlf) h) ⟨vs,hvs,pv⟩
   |ring =>
     w_fin
     refine cG fun lf hlf=>?_
     have sf:=aI.new (o:=.lst []) hlf
     w_fin
     refine oK (by decide) (by decide) (by omega) (by omega) ?_
     rw [show (((ps.map V.str).length:Int) - 1).toNat=ps.length - 1 by omega]
     refine jY (n:=ps.length - 1) (fun i σ G=>∃ o6,σ=[some (.ref p),some (.ref d),none,none,some (.ref z),some (.ref lf),o6]/\Kp lf H G/\TK H G/\LQ aW G lf (kn ((dH t ps).take i))) ⟨_,rfl,Kp.new hlf,TK.new hlf,[],aE,.nil⟩ ?_ ?_
     ·rintro i σ G hi ⟨o6,rfl,kp,tk,vs,hvs,pv⟩
      obtain ⟨a,ea⟩:∃ a,ps[i]?=some a:=⟨_,List.getElem?_eq_getElem (by omega)⟩
      obtain ⟨b,eb⟩:∃ b,ps[i+1]?=some b:=⟨_,List.getElem?_eq_getElem (by omega)⟩
      have hzG:=tk _ _ hz
      have hpG:=tk _ _ hp
      w_fin
      rw [show (1+(i:Int) - 1)=(i:Int) by omega]
      refine fG hzG (aX (show (ps.map V.str)[i]?=some (.str a) by rw [List.getElem?_map,ea]; rfl)) ?_
      w_fin
      refine fG hzG (aX (show (ps.map V.str)[0]?=some (.str c0) by rw [List.getElem?_map,ec]; rfl)) ?_
      w_fin
      refine bW fun l8 G1 hl8 t1 g8=>?_
      have hzG1:=t1 _ _ hzG
      have hpG1:=t1 _ _ hpG
      w_fin
      rw [show (1+(i:Int))=((i+1:Nat):Int) by omega]
      refine fG hzG1 (aX (show (ps.map V.str)[i+1]?=some (.str b) by rw [List.getElem?_map,eb]; rfl)) ?_
      w_fin
      refine dJ fun p9 hp9=>?_
      have t2:=t1.trans (aI.new (o:=.tup [.str a,.str b,u]) hp9)
      have h9:=aE (H:=G1) (a:=p9) (o:=.tup [.str a,.str b,u])
      generalize L2.upd G1 p9 (.tup [.str a,.str b,u])=G2 at t2 h9 ⊢
      have el:vs.length=((dH t ps).take i).length:=(Paired.length pv).trans (by simp [kn])
      have el2:=length_take_le i (dH t ps)
      w_fin
      refine iB (t2 _ _ hvs) (by omega) ?_
      have tk2:=TK.lst (o:=.lst (vs++[.ref p9])) (t2 _ _ hvs)
      w_fin
      refine ⟨_,rfl,(kp.trans t2.kp).trans Kp.upd,(tk.trans t2.tk).trans tk2,_,aE,?_⟩
      rw [pC _ _ (show (dH t ps)[i]?=some (a,b,t) from pN t ps i a b ea eb)]
      exact Pd.snoc (Pd.imp pv fun v b f=>(aW.tk f t2.tk).tk tk2) (aW.mk3 (tk2 _ _ h9) (((hu.tk tk).tk t2.tk).tk tk2))
     rintro σ G ⟨o6,rfl,kp,tk,vs,hvs,pv⟩
     have hzG:=tk _ _ hz
     have hpG:=tk _ _ hp
     rw [take_of_length_le (by rw [fF]; exact le_refl _)] at pv
     w_fin
     obtain ⟨y,ey⟩:∃ y,ps.getLast?=some y:=by
      cases hgl:ps.getLast? with
     |none=>rw [List.getLast?_eq_none_iff.mp hgl] at hl'; exact absurd hl'.1 (by decide)
     |some y=>exact ⟨y,rfl⟩
     refine fG (v:=.str y) hzG (SJ ey) ?_
     w_fin
     refine fG hzG (aX (show (ps.map V.str)[0]?=some (.str c0) by rw [List.getElem?_map,ec]; rfl)) ?_
     w_fin
     refine eJ fun p9 G2 hp9 t2 h9=>?_
     have el:vs.length=(dH t ps).length:=(Paired.length pv).trans (by simp [kn])
     rw [fF] at el
     w_fin
     refine iB (t2 _ _ hvs) (by omega) ?_
     have tk2:=TK.lst (o:=.lst (vs++[.ref p9])) (t2 _ _ hvs)
     w_fin
     refine q lf _ hlf (fun b o h=>Kp.upd _ _ (aB h hlf) (t2 _ _ (kp _ _ (aB h hlf) h))) ⟨_,aE,?_⟩
     rw [show (fI.path .ring t ps).runs=dH t ps++[(y,c0,t)] from HR ey ec,show kn (dH t ps++[(y,c0,t)])=kn (dH t ps)++[(Sum.inr y,Sum.inr c0,t)] by simp [kn]]
     exact Pd.snoc (Pd.imp pv fun v b f=>(aW.tk f t2.tk).tk tk2) (aW.mk3 (tk2 _ _ h9) (((hu.tk tk).tk t2.tk).tk tk2))
theorem DS (T:Bl mg) (d:Df K mg "_law_runs" tJ ["_law_rows","_law_pieces"]) (W:XX K mg xt x1 x4 x5) (o0z:bD P w K mg base k "_law_row_runs" ["_law_row_here","_law_pieces"] (jN K)):bD P w K mg base (k+1) "_law_runs" ["_law_rows","_law_pieces"] (zW K):=by
 refine bD.of d jO (fun vs H Q E h=>?_) (fun f cdv A outer s H vs Q E hr h=>?_)
 ·obtain ⟨z,rs,ys,dc,E,rfl,_⟩:=h
  rfl
 ·obtain ⟨z,rs,ys,dc,E,rfl,hz,vG,lpc,hE,h60,hws,q⟩:=h
  refine ⟨_,(@aA _ _ _ _ _ (@aO _ _ (i:=2) _ _ _ _ jO.nd rfl (by w_left) (@bC _ _ _ _ (@dL _)) (by rfl) (by w_means)) (@aA _ _ _ _ _ (@fH _ _ _ _ _ _ _ _ PassesOwn.never rfl (@qG _ _ _ _ (pv 0)) (@aU _ _ (i:=3) _ jO.nd rfl (by w_left) (by w_means)) (@aC _ _ _ (@bB _ _ _ _ _ _ _ _ (@aK _ _ _ _ _ _ _ _ (aY hr.units) (@bJ _ _ _ _ _ _ _ (pv 3)) (@aH _ _ _ _) (aL _)) (@aC _ _ _ (@fA _ _)) (@aC _ _ _ (@aO _ _ (i:=2) _ _ _ _ jO.nd rfl (by w_left) (@bI _ _ _ _ _ _ _ _ _ _ dB (@aJ _ _ _ _ _ _ _ _ aV (pv 2) (@aF _ _ _ _ _ _ _ _ _ _ o0z hr rfl (@dZ _ _ _ _ _ (pv 3) (pv 1) (by rfl) (by rfl)) (by decide) (by rfl) (by rfl))) (@cC _) (@bV _ _ _ (@aD _ _ _ _))) (by rfl) (by w_means))))) (by intro _; rfl)) (@aC _ _ _ (@aM _ _ _ _ (pv 2))))),?_⟩
  have hyl:=Paired.length vG
  w_fin
  refine cG fun l0 hl0=>?_
  w_fin
  have s0:=aI.new (o:=.lst []) hl0
  refine mU (fV.of (s0 _ _ hz)) ?_
  refine xN (xs:=ys) (fun i σ G=>∃ o3 lf,σ=[some (.ref z),some (.ref dc),some (.ref lf),o3]/\aI H G/\H lf=none/\LQ aW G lf (kn (((rs.take i).flatMap (aR E)).take 121))) ⟨_,_,rfl,s0,hl0,[],aE,.nil⟩ ?_ ?_ ?_
  ·rintro i σ G _ ⟨o3,lf,rfl,sG,_⟩
   exact fV.of (sG _ _ hz)
  ·rintro i x σ G hx ⟨o3,lf,rfl,sG,hlf,vs,hvs,pv⟩
   obtain ⟨r,hr0,rq⟩:=Paired.at vG hx
   replace rq:=rq.tk sG.tk
   have hwr:=hws r (mem_of_getElem? hr0)
   replace lpc:=lpc.sm sG
   have eA:(rs.take (i+1)).flatMap (aR E)=(rs.take i).flatMap (aR E)++aR E r:=by
    rw [take_add_one,hr0,flatMap_append,show List.flatMap (aR E) (some r).toList=aR E r by simp]
   generalize (rs.take i).flatMap (aR E)=A at pv eA
   obtain ⟨p,k,zs,rfl,hp,npc⟩:=rq.head
   w_fin
   refine fG hp (aX (show (V.str k::zs)[0]?=some (V.str k) from rfl)) ?_
   w_fin
   rw [if_neg (show ¬ (k=="piece")=true by simpa using npc)]
   w_fin
   refine ⟨_,dc,E,r,rfl,rq,lpc,hE,h60,hwr,fun l2 G1 n2 hl2 t1 lq en2 hn2=>?_⟩
   obtain ⟨v2,hv2,pv2⟩:=lq
   have e1:vs.length=(A.take 121).length:=(Paired.length pv).trans (by simp [kn])
   have e2:v2.length=n2.length:=(Paired.length pv2).trans (by simp [kn])
   have e3:=length_take_le 121 A
   w_fin
   refine jH (t1 _ _ hvs) hv2 (by omega) fun l3 hl3=>?_
   obtain ⟨G2,zE,t12,g3⟩:=jK hl3 (.lst (vs++v2))
   rw [zE]
   have t2:=t1.trans t12
   w_fin
   refine iY g3 fun l4 hl4=>?_
   rw [show (121:Int)=((121:Nat):Int) from rfl,uV]
   have t13:=t12.trans (aI.new (o:=.lst ((vs++v2).take 121)) hl4)
   have t3:=t1.trans t13
   have pnew:Paired (aW (L2.upd G2 l4 (.lst ((vs++v2).take 121)))) ((vs++v2).take 121) (kn ((A++aR E r).take 121)):=by
    rw [jL A (aR E r),← en2,show (A.take 121++n2.take 121).take 121=(A.take 121++n2).take 121 by
     rw [jL (A.take 121) n2,take_take,min_self]]
    generalize A.take 121=n1 at pv
    rw [show kn ((n1++n2).take 121)=(kn n1++kn n2).take 121 by simp [kn]]
    exact Pd.tak (Pd.app (Pd.imp pv fun v b f=>aW.tk f t3.tk) (Pd.imp pv2 fun v b f=>aW.tk f t13.tk)) 121
   w_fin
   exact ⟨_,l4,rfl,sG.trans t3,(sG.trans t2).free hl4,_,aE,by rw [eA]; exact pnew⟩
  rintro σ G ⟨o3,lf,rfl,sG,hlf,lq⟩
  rw [hyl,take_length] at lq
  w_fin
  exact q lf G hlf sG lq
theorem RD (T:Bl mg) (d:Df K mg "_law_runs" tJ ["_law_rows","_law_pieces"]) (W:XX K mg xt x1 x4 x5) (o2c:bD P w K mg base k "_law_runs" ["_law_rows","_law_pieces"] (zW K)) (o0z:bD P w K mg base k "_law_row_runs" ["_law_row_here","_law_pieces"] (jN K)):bD P w K mg base (k+1) "_law_runs" ["_law_rows","_law_pieces"] (zX K):=by
 refine bD.of d jO (fun vs H Q E h=>?_) (fun f cdv A outer s H vs Q E hr h=>?_)
 ·obtain ⟨l,gs,dc,rfl,_⟩:=h
  rfl
 ·obtain ⟨l,gs,dc,rfl,hl,hb,hdc,q⟩:=h
  refine ⟨_,(@aA _ _ _ _ _ (@aO _ _ (i:=2) _ _ _ _ jO.nd rfl (by w_left) (@bC _ _ _ _ (@dL _)) (by rfl) (by w_means)) (@aA _ _ _ _ _ (@fH _ _ _ _ _ _ _ _ PassesOwn.never rfl (@dS _ _ _ _ (pv 0)) (@aU _ _ (i:=3) _ jO.nd rfl (by w_left) (by w_means)) (@aC _ _ _ (@bB _ _ _ _ _ _ _ _ (@aK _ _ _ _ _ _ _ _ (aY hr.units) (@bJ _ _ _ _ _ _ _ (pv 3)) (@aH _ _ _ _) (aL _)) (@aC _ _ _ (@gR _ _ _ _ _ _ _ _ _ hr.u1 (pv 1) (@bJ _ _ _ _ _ _ _ (pv 3)) (@bM _ _ _ _ _ (@dZ _ _ _ _ _ (@bJ _ _ _ _ _ _ _ (pv 3)) (@bI _ _ _ _ _ _ _ _ _ _ dB (@aF _ _ _ _ _ _ _ _ _ _ o2c hr rfl (@dZ _ _ _ _ _ (@bJ _ _ _ _ _ _ _ (pv 3)) (pv 1) (by rfl) (by rfl)) (by decide) (by rfl) (by rfl)) (@cC _) (@bV _ _ _ (@aD _ _ _ _))) (by rfl) (by rfl))) rfl)) (@aC _ _ _ (@aO _ _ (i:=2) _ _ _ _ jO.nd rfl (by w_left) (@bI _ _ _ _ _ _ _ _ _ _ dB (@aJ _ _ _ _ _ _ _ _ aV (pv 2) (@aF _ _ _ _ _ _ _ _ _ _ o0z hr rfl (@dZ _ _ _ _ _ (pv 3) (pv 1) (by rfl) (by rfl)) (by decide) (by rfl) (by rfl))) (@cC _) (@bV _ _ _ (@aD _ _ _ _))) (by rfl) (by w_means))))) (by intro _; rfl)) (@aC _ _ _ (@aM _ _ _ _ (pv 2))))),?_⟩
  obtain ⟨xs,hxs,pr⟩:=hl
  have hlen:=Paired.length pr
  have few:=hb.few
  have ndl:l≠dc:=fun z=>by rw [z,hdc] at hxs; cases hxs
  w_fin
  refine cG fun l0 hl0=>?_
  w_fin
  have s0:=aI.new (o:=.lst []) hl0
  refine dR (cN.of (s0 _ _ hxs)) ?_
  refine nO (xs:=xs) (fun i σ G=>∃ (E:List aQ) (A:List cV) (o3:Option V) (lf:Addr),σ=[some (.ref l),some (.ref dc),some (.ref lf),o3]/\Kp dc H G/\TK H G/\H lf=none/\LQ aW G lf (kn (A.take 121))/\mZ G dc E/\jS E/\nH E (gs.drop i)/\gI [] gs=A++gI E (gs.drop i)/\cZ E (gs.drop i)=cZ [] gs) ⟨[],[],_,_,rfl,s0.kp,s0.tk,hl0,⟨[],aE,.nil⟩,⟨[],s0 _ _ hdc,le_refl _,fun _ h=>nomatch h⟩,trivial,hb.wf,rfl,rfl⟩ ?_ ?_ ?_
  ·rintro i σ G _ ⟨E,A,o3,lf,rfl,kp,_⟩
   exact cN.of (kp _ _ ndl hxs)
  ·rintro i x σ G hx ⟨E,A,o3,lf,rfl,kp,tk,hlf,⟨vs,hvs,pv⟩,lpc,hE,hW,eA,eE⟩
   obtain ⟨g,hg0,gq⟩:=Paired.at pr hx
   rw [iK hg0] at hW eA eE
   replace gq:=gq.tk tk
   have h8:E.length<=20:=hb.le20 hE eE
   have h60:E.length<=60:=by omega
   have fr:∀ {b:Addr} {G':Hp},Kp dc H G'->G' b=none->b≠dc->H b=none:=fun {b G'} k h n=>by
    cases e:H b with
   |none=>rfl
   |some o=>rw [k _ _ n e] at h; cases h
   cases g with
  |one r =>
    have rq:bQ G x r:=gq
    have hwr:=hW.1
    obtain ⟨p,k,zs,rfl,hp,npc⟩:=rq.head
    w_fin
    refine fG hp (aX (show (V.str k::zs)[0]?=some (V.str k) from rfl)) ?_
    w_fin
    rw [if_neg (show ¬ (k=="piece")=true by simpa using npc)]
    w_fin
    refine ⟨_,dc,E,r,rfl,rq,lpc,hE,h60,hwr,fun l2 G1 n2 hl2 t1 lq en2 hn2=>?_⟩
    obtain ⟨v2,hv2,pv2⟩:=lq
    have e1:vs.length=(A.take 121).length:=(Paired.length pv).trans (by simp [kn])
    have e2:v2.length=n2.length:=(Paired.length pv2).trans (by simp [kn])
    have e3:=length_take_le 121 A
    w_fin
    refine jH (t1 _ _ hvs) hv2 (by omega) fun l3 hl3=>?_
    obtain ⟨G2,zE,t12,g3⟩:=jK hl3 (.lst (vs++v2))
    rw [zE]
    have t2:=t1.trans t12
    w_fin
    refine iY g3 fun l4 hl4=>?_
    rw [show (121:Int)=((121:Nat):Int) from rfl,uV]
    have t13:=t12.trans (aI.new (o:=.lst ((vs++v2).take 121)) hl4)
    have t3:=t1.trans t13
    have pnew:Paired (aW (L2.upd G2 l4 (.lst ((vs++v2).take 121)))) ((vs++v2).take 121) (kn ((A++aR E r).take 121)):=by
     rw [jL A (aR E r),← en2,show (A.take 121++n2.take 121).take 121=(A.take 121++n2).take 121 by
      rw [jL (A.take 121) n2,take_take,min_self]]
     generalize A.take 121=n1 at pv
     rw [show kn ((n1++n2).take 121)=(kn n1++kn n2).take 121 by simp [kn]]
     exact Pd.tak (Pd.app (Pd.imp pv fun v b f=>aW.tk f t3.tk) (Pd.imp pv2 fun v b f=>aW.tk f t13.tk)) 121
    w_fin
    have nd4:l4≠dc:=fun z=>by
     obtain ⟨kvs,hk,_⟩:=lpc.sm t2
     rw [z,hk] at hl4
     cases hl4
    exact ⟨E,A++aR E r,_,l4,rfl,kp.trans t3.kp,tk.trans t3.tk,fr (kp.trans t2.kp) hl4 nd4,⟨_,aE,pnew⟩,lpc.sm t3,hE,hW.2,by rw [eA,append_assoc]; rfl,eE⟩
  |piece pc =>
    obtain ⟨p,q',z,ys,rfl,hp,hq,hz,vG⟩:=(show gH G x pc from gq)
    obtain ⟨hWp,hWr⟩:=hW
    w_fin
    refine ⟨z,pc.2.2,ys,dc,E,rfl,hz,vG,lpc,hE,h60,hWp.1,fun l2 G1 hl2 t1 lq=>?_⟩
    obtain ⟨v2,hv2,pv2⟩:=lq
    have e2:v2.length=((pc.2.2.flatMap (aR E)).take 121).length:=(Paired.length pv2).trans (by simp [kn])
    have e3:=length_take_le 121 (pc.2.2.flatMap (aR E))
    w_fin
    refine iY hv2 fun l4 hl4=>?_
    rw [show (121:Int)=((121:Nat):Int) from rfl,uV,take_of_length_le (by omega)]
    obtain ⟨G2,zE,t2,g4⟩:=jK hl4 (.lst v2)
    rw [zE]
    w_fin
    refine eJ fun p5 G3 hp5 t3 g5=>?_
    have t23:=t2.trans t3
    have t13:=t1.trans t23
    have hp3:=t13 _ _ hp
    have lpc3:=lpc.sm t13
    obtain ⟨kvs,hk,hkl,hv⟩:=id lpc3
    w_fin
    refine lV hk (by omega) ?_
    have tk2:=TK.dic (o:=.dK (dY kvs (Sum.inr pc.1) (.ref p5))) hk
    have kp2:Kp dc G3 (L2.upd G3 dc (.dK (dY kvs (Sum.inr pc.1) (.ref p5)))):=Kp.upd
    have nlf:lf≠dc:=fun e=>by rw [e,hdc] at hlf; cases hlf
    w_fin
    refine ⟨pc::E,A,_,lf,rfl,(kp.trans t13.kp).trans kp2,(tk.trans t13.tk).trans tk2,hlf,⟨vs,kp2 _ _ nlf (t13 _ _ hvs),Pd.imp pv fun v b f=>(aW.tk f t13.tk).tk tk2⟩,?_,⟨hWp,hE⟩,hWr,eA,eE⟩
    exact mZ.put hE hWp hk hkl hv g5 (.inl (t13 _ _ hq)) ⟨v2,t3 _ _ g4,Pd.imp pv2 fun v b f=>aW.tk f t23.tk⟩
  rintro σ G ⟨E,A,o3,lf,rfl,kp,tk,hlf,lq,lpc,hE,hW,eA,eE⟩
  rw [hlen,drop_length,show gI E []=[] from rfl,append_nil] at eA
  subst eA
  w_fin
  exact q lf G hlf kp lq
theorem RA (T:Bl mg) (d:Df K mg "_law_told" DH ["_law_rows"]) (W:XX K mg xt x1 x4 x5) (o1m:qV P w K mg base k "opened" ["rows"] [] (sW x1 x4)):bD P w K mg base (k+1) "_law_told" ["_law_rows"] (zO K):=by
 refine bD.of d mK (fun vs H Q E h=>?_) (fun f cdv A outer s H vs Q E hr h=>?_)
 ·obtain ⟨l,gs,rfl,_⟩:=h
  rfl
 ·obtain ⟨l,gs,rfl,hl,hn,q⟩:=h
  refine ⟨_,(@aA _ _ _ _ _ (@aO _ _ (i:=1) _ _ _ _ mK.nd rfl (by w_left) (@fO _ _ _) (by rfl) (by w_means)) (@aA _ _ _ _ _ (@aO _ _ (i:=2) _ _ _ _ mK.nd rfl (by w_left) (@fO _ _ _) (by rfl) (by w_means)) (@aA _ _ _ _ _ (@YB _ _ _ _ (i:=3) _ _ _ _ _ _ _ _ rfl rfl rfl rfl W.1.t mK.nd rfl rfl (@XZ _ _ _ _ (i:=1) _ _ mK.nd rfl (by w_left) (@MI _ _ _ _ _ _ _ _ _ _ _ o1m rfl (fun _ _ z=>z) hr rfl (@bE _ _ _ (pv 0) (by rfl)) (by decide) (by rfl) (by rfl)) (by rfl) (by first|exact .inl rfl|exact .inr rfl)) (fun y=>(@aC _ _ _ (@aO _ _ (i:=2) _ _ _ _ mK.nd rfl (by w_left) (pv 3) (by rfl) (by w_means)))) (by decide)) (@aA _ _ _ _ _ (@bB _ _ _ _ _ _ _ _ (@aK _ _ _ _ _ _ _ _ xY (pv 2) (@fO _ _ _) (aL _)) (@aC _ _ _ (@aM _ _ _ _ (pv 1))) (@aS _)) (@aA _ _ _ _ _ (@bB _ _ _ _ _ _ _ _ (@PW.pt _ _ _ (@lW _ _ _ _ _ _ _ (@gA _ _ _ _ (@fN _ _ _ (@aP _ _ _ _ _ _ _ _ _ pK rfl T.z_isinstance bU (@dZ _ _ _ _ _ (pv 2) (@iJ _ _ (v:=.ty "ValueError") _ _ rfl W.1.zV vR rfl (by decide) (by decide)) (by rfl) (by rfl)) (by decide) (by decide) (by rfl) (by rfl)) (by intro _; rfl))) (@jZ _ _ _ _ (@aK _ _ _ _ _ _ _ _ (aY hr.units) (@aP _ _ _ _ _ _ _ _ _ pK rfl T.z_isinstance bU (@dZ _ _ _ _ _ (pv 2) (@eC _ _ (v:=.ref x4) _ _ rfl W.1.m_TooMany rfl (by decide)) (by rfl) (by rfl)) (by decide) (by decide) (by rfl) (by rfl)) (@aP _ _ _ _ _ _ _ _ _ pK rfl T.z_isinstance bU (@dZ _ _ _ _ _ (pv 2) (@eC _ _ (v:=.ref x1) _ _ rfl W.1.m_NoNet rfl (by decide)) (by rfl) (by rfl)) (by decide) (by decide) (by rfl) (by rfl)) (aL _))))) (@aC _ _ _ (@aM _ _ _ _ (@aH _ _ _ _))) (@aS _)) (@aC _ _ _ (@aM _ _ _ _ (@cD _ _ _ _ _ _ _ eB (@bC _ _ _ _ (@dZ _ _ _ _ _ (@aH _ _ _ _) (@aH _ _ _ _) (by rfl) (by rfl))) (@bF _ _ _ _ _ _ _ _ _ VB rfl T.z_int mF (@bE _ _ _ (@aP _ _ _ _ _ _ _ _ _ pK rfl T.z_isinstance bU (@dZ _ _ _ _ _ (pv 2) (@eC _ _ (v:=.ref x4) _ _ rfl W.1.m_TooMany rfl (by decide)) (by rfl) (by rfl)) (by decide) (by decide) (by rfl) (by rfl)) (by rfl)) (by decide) (by decide) (by rfl) (by rfl)) (fun _ _=>rfl))))))))),?_⟩
  have q1:=fun (hc:120 < (gI [] gs).length) H' s=>q (.str "many") H' s (.inl ⟨hc,rfl⟩)
  have q2:=fun (hc:(gI [] gs).length<=120) (hb:pQ (gI [] gs)) H' s=>q (.str "none") H' s (.inr (.inl ⟨hc,hb,rfl⟩))
  have q3:=fun (hc:(gI [] gs).length<=120) (hb:¬ pQ (gI [] gs)) l' H' (h0:H l'=none) s lq=>q (.ref l') H' s (.inr (.inr ⟨hc,hb,l',rfl,h0,lq⟩))
  clear q
  w_fin
  refine ⟨l,gs,rfl,hl,hn,fun hc H1 s1=>?_,fun hc hb H1 s1=>?_,fun hc hb l' H' hl' sm lq=>?_⟩
  ·refine LL W.2.2.t fun y hy=>?_
   have t1:=s1.trans (aI.new (o:=qP y x4) hy)
   have y1:=aE (H:=H1) (a:=y) (o:=qP y x4)
   generalize L2.upd H1 y (qP y x4)=H2 at t1 y1 ⊢
   w_fin
   refine LR y1 W.2.2.x W.2.2.v ?_
   w_fin
   refine qB y1 W.2.2.x W.2.2.k4 ?_
   w_fin
   refine qB y1 W.2.2.x W.2.2.k1 ?_
   w_fin
   refine cG fun l9 hl9=>?_
   have t9:=aI.new (o:=.lst [V.str "none",V.str "many"]) hl9
   have y9:=t9 _ _ y1
   w_fin
   refine qB y9 W.2.2.x W.2.2.k4 ?_
   w_fin
   exact q1 hc _ (t1.trans t9)
  ·refine LL W.2.1.t fun y hy=>?_
   have t1:=s1.trans (aI.new (o:=qP y x1) hy)
   have y1:=aE (H:=H1) (a:=y) (o:=qP y x1)
   generalize L2.upd H1 y (qP y x1)=H2 at t1 y1 ⊢
   w_fin
   refine LR y1 W.2.1.x W.2.1.v ?_
   w_fin
   refine qB y1 W.2.1.x W.2.1.k4 ?_
   w_fin
   refine qB y1 W.2.1.x W.2.1.k1 ?_
   w_fin
   refine cG fun l9 hl9=>?_
   have t9:=aI.new (o:=.lst [V.str "none",V.str "many"]) hl9
   have y9:=t9 _ _ y1
   w_fin
   refine qB y9 W.2.1.x W.2.1.k4 ?_
   w_fin
   exact q2 hc hb _ (t1.trans t9)
  ·w_fin
   exact q3 hc hb l' H' hl' sm lq
theorem BD (T:Bl mg) (d:Df K mg "_law_fraction" nL ["_law_word"]) (W:XX K mg xt x1 x4 x5):bD P w K mg base (k+1) "_law_fraction" ["_law_word"] KU:=by
 refine bD.of d rD (fun vs H Q E h=>?_) (fun f cdv A outer s H vs Q E hr h=>?_)
 ·obtain ⟨t,rfl,_⟩:=h
  rfl
 ·obtain ⟨t,rfl,ht,q⟩:=h
  refine ⟨_,(@aA _ _ _ _ _ (@aO _ _ (i:=1) _ _ _ _ rD.nd rfl (by w_left) (@aJ _ _ _ _ _ _ _ _ aV (@cP _ _ _ _ _ _ _ _ _ _ _ _ plainAttrs_str slot_str_split type_str_split jE (pv 0) (@bE _ _ _ (@aH _ _ _ _) (by rfl)) (by rfl) (by rfl) (by rfl) (by rfl) (by rfl)) (@bC _ _ _ _ (@bE _ _ _ (@aH _ _ _ _) (by rfl)))) (by rfl) (by w_means)) (@aC _ _ _ (@aM _ _ _ _ (@bM _ _ _ _ _ (@dZ _ _ _ _ _ (@bF _ _ _ _ _ _ _ _ _ uX rfl T.z_int mF (@bE _ _ _ (@bJ _ _ _ _ _ _ _ (pv 1)) (by rfl)) (by decide) (by decide) (by rfl) (by rfl)) (@bF _ _ _ _ _ _ _ _ _ uX rfl T.z_int mF (@bE _ _ _ (@bJ _ _ _ _ _ _ _ (pv 1)) (by rfl)) (by decide) (by decide) (by rfl) (by rfl)) (by rfl) (by rfl)))))),?_⟩
  have n1:=ht.num
  have n2:=ht.den
  have w:=vX ht
  have ep:("/":Str)=⟨#[47]⟩:=by decide +kernel
  have eo:("1":Str)=cY 1:=by decide +kernel
  have es:=zJ ht
  w_fin
  rw [ep]
  refine kW (z:=gK t) (y:=⟨#[47]⟩) (by decide) (by have:=w.2.2; omega) fun l hl=>?_
  rw [es]
  obtain ⟨ps,eps,hpl⟩:∃ ps:List Str,(if t.den=1 then [cY t.num] else [cY t.num,cY (t.den:Int)])=ps/\ps.length<=2:=by
   refine ⟨_,rfl,?_⟩
   split
   ·exact show 1<=2 by decide
   ·exact le_refl 2
  rw [eps]
  obtain ⟨H1,zE,s1,g1⟩:=jK hl (.lst (ps.map V.str))
  rw [zE]
  w_fin
  refine bW fun l2 H2 hl2 s2 g2=>?_
  refine jH (s2 _ _ g1) g2 (by rw [length_map]; show _+1<=_; omega) fun l3 hl3=>?_
  obtain ⟨H3,zE,s3,g3⟩:=jK hl3 (.lst (ps.map V.str++[V.str "1"]))
  rw [zE]
  have s03:=(s1.trans s2).trans s3
  obtain ⟨d,hd,hat,hdl⟩:∃ d:Int,d=(t.den:Int)/\(∃ z,fM (ps.map V.str++[V.str "1"]) 1=some (.str z)/\z=cY d)/\fM (ps.map V.str++[V.str "1"]) 0=some (.str (cY t.num)):=by
   refine ⟨_,rfl,?_⟩
   rw [← eps]
   split
   ·rename_i h
    exact ⟨⟨_,rfl,by rw [h]; exact eo⟩,rfl⟩
   ·exact ⟨⟨_,rfl,rfl⟩,rfl⟩
  obtain ⟨z,hat,rfl⟩:=hat
  have l1:=(eN (n:=t.num) (by omega) n1.2).2
  have l2':=(eN (n:=d) (by omega) (by omega)).2
  w_fin
  refine bH g3 hdl ?_
  refine ⟨_,t.num,rfl,oW (by omega) n1.2,by omega,?_⟩
  w_fin
  refine bH g3 hat ?_
  refine ⟨_,d,rfl,oW (by omega) (by omega),by omega,?_⟩
  w_fin
  refine dJ fun p hp=>?_
  w_fin
  exact q _ _ (s03.trans (aI.new hp)) ⟨p,rfl,by rw [aE,hd]⟩
theorem vK (T:Bl mg) (d:Df K mg "_law_words_runs" iF ["_law_words","_law_pieces"]) (W:XX K mg xt x1 x4 x5) (o0r:bD P w K mg base k "_law_fraction" ["_law_word"] KU) (o0z:bD P w K mg base k "_law_row_runs" ["_law_row_here","_law_pieces"] (jN K)) (o1k:bD P w K mg base k "_law_called" ["_law_name","_law_row_here","_law_params"] (tD K)):bD P w K mg base (k+1) "_law_words_runs" ["_law_words","_law_pieces"] (rA K):=by
 refine bD.of d gQ (fun vs H Q E h=>?_) (fun f cdv A outer s H vs Q E hr h=>?_)
 ·obtain ⟨l,d,E,r,rfl,_⟩:=h
  rfl
 ·obtain ⟨l,d,E,r,rfl,hl,hpc,hE,h60,hw,q⟩:=h
  refine ⟨_,(@aA _ _ _ _ _ (@bB _ _ _ _ _ _ _ _ (@aK _ _ _ _ _ _ _ _ (aY hr.units) (@bJ _ _ _ _ _ _ _ (pv 0)) (@aH _ _ _ _) (aL _)) (@aC _ _ _ (@aM _ _ _ _ (@bC _ _ _ _ (@bE _ _ _ (@bM _ _ _ _ _ (@kC _ _ _ _ _ _ _ (@bJ _ _ _ _ _ _ _ (pv 0)) (@bJ _ _ _ _ _ _ _ (pv 0)) (@aF _ _ _ _ _ _ _ _ _ _ o0r hr rfl (@bE _ _ _ (@bJ _ _ _ _ _ _ _ (pv 0)) (by rfl)) (by decide) (by rfl) (by rfl)) (by rfl) (by rfl) (by rfl))) (by rfl))))) (@aS _)) (@aA _ _ _ _ _ (@bB _ _ _ _ _ _ _ _ (@aK _ _ _ _ _ _ _ _ (aY hr.units) (@bJ _ _ _ _ _ _ _ (pv 0)) (@aH _ _ _ _) (aL _)) (@aA _ _ _ _ _ (@tY _ _ _ _ _ _ (@cH _ _ _ _ _ _ hr.u1 (pv 1) (@bJ _ _ _ _ _ _ _ (pv 0)) (fun _ _=>rfl)) (@qI _ _ _ _ _ (n:=2) rfl (@bP _ _ _ _ _ (@aU _ _ (i:=2) _ gQ.nd rfl (by w_left) (by w_means)) (@bP _ _ _ _ _ (@aU _ _ (i:=3) _ gQ.nd rfl (by w_left) (by w_means)) (@gW _) (by rfl)) (by rfl)) (by rfl) (by rfl)) (by rfl) (by rfl) (by rfl)) (@aA _ _ _ _ _ (@aO _ _ (i:=4) _ _ _ _ gQ.nd rfl (by w_left) (@bM _ _ _ _ _ (@eG _ _ _ _ _ (@aH _ _ _ _) (@kC _ _ _ _ _ _ _ (@bJ _ _ _ _ _ _ _ (pv 0)) (@bJ _ _ _ _ _ _ _ (pv 0)) (@bF _ _ _ _ _ _ _ _ _ dE rfl T.z_tuple fL (@bE _ _ _ (@bI _ _ _ _ _ _ _ _ _ _ dB (pv 0) (@bV _ _ _ (@aD _ _ _ _)) (@cC _)) (by rfl)) (by decide) (by decide) (by rfl) (by rfl)) (by rfl) (by rfl) (by rfl)) (by rfl))) (by rfl) (by w_means)) (@aC _ _ _ (@aM _ _ _ _ (@eF _ _ _ _ _ _ _ _ _ _ _ _ _ _ (@dD _ _ (sc:=aG iF) (N:=["_law_words","_law_pieces","_law_params","_law_inner","_law_row_here"]) (tn:=["_law_one","_law_other","_law_time_here"]) (names:=["_law_row_here","_law_params"]) (is:=[4,2]) rfl rfl (by decide +kernel) (by decide +kernel) rfl (by decide +kernel) rfl (by decide +kernel) (by decide +kernel) (by decide +kernel)) rfl (@dS _ _ _ _ (pv 3)) (fun _ _ _ _=>(@rY _ _ _ _ _ _ _ _ _ _ _ (n:=3) _ rfl (@bP _ _ _ _ _ (@aU _ _ (i:=0) _ (show (["_law_one","_law_other","_law_time_here","_law_row_here","_law_params"]:List Str).Nodup by decide +kernel) rfl (Or.inl rfl) (Or.inr rfl)) (@bP _ _ _ _ _ (@aU _ _ (i:=1) _ (show (["_law_one","_law_other","_law_time_here","_law_row_here","_law_params"]:List Str).Nodup by decide +kernel) rfl (Or.inl rfl) (Or.inr rfl)) (@bP _ _ _ _ _ (@aU _ _ (i:=2) _ (show (["_law_one","_law_other","_law_time_here","_law_row_here","_law_params"]:List Str).Nodup by decide +kernel) rfl (Or.inl rfl) (Or.inr rfl)) (@gW _) (by rfl)) (by rfl)) (by rfl)) (by rfl) (by rfl))) (fun _ _ _ _=>(@bM _ _ _ _ _ (@kC _ _ _ _ _ _ _ (@aF _ _ _ _ _ _ _ _ _ _ o1k hr rfl (@kC _ _ _ _ _ _ _ (pv 0) (pv 3) (pv 4) (by rfl) (by rfl) (by rfl)) (by decide) (by rfl) (by rfl)) (@aF _ _ _ _ _ _ _ _ _ _ o1k hr rfl (@kC _ _ _ _ _ _ _ (pv 1) (pv 3) (pv 4) (by rfl) (by rfl) (by rfl)) (by decide) (by rfl) (by rfl)) (pv 2) (by rfl) (by rfl) (by rfl)))) (fun _ _ _ _=>(@cI _)) (by intro _; rfl)))))) (@aS _)) (@aC _ _ _ (@aM _ _ _ _ (@aF _ _ _ _ _ _ _ _ _ _ o0z hr rfl (@dZ _ _ _ _ _ (@bM _ _ _ _ _ (@kC _ _ _ _ _ _ _ (@bJ _ _ _ _ _ _ _ (pv 0)) (@aF _ _ _ _ _ _ _ _ _ _ o0r hr rfl (@bE _ _ _ (@bJ _ _ _ _ _ _ _ (pv 0)) (by rfl)) (by decide) (by rfl) (by rfl)) (@bF _ _ _ _ _ _ _ _ _ dE rfl T.z_tuple fL (@bE _ _ _ (@bI _ _ _ _ _ _ _ _ _ _ dB (pv 0) (@bV _ _ _ (@aD _ _ _ _)) (@cC _)) (by rfl)) (by decide) (by decide) (by rfl) (by rfl)) (by rfl) (by rfl) (by rfl))) (pv 1) (by rfl) (by rfl)) (by decide) (by rfl) (by rfl)))))),?_⟩
  cases r with
 |put nm cl as =>
   replace hl:H l=some (.lst (.str "put"::.str nm::.str cl::as.map V.str)):=hl
   have hl4:(V.str "put"::.str nm::.str cl::as.map V.str:List V).length=as.length+3:=by rw [length_cons,length_cons,length_cons,length_map]
   have a0:fM (V.str "put"::.str nm::.str cl::as.map V.str) 0=some (.str "put"):=show fM _ ((0:Nat):Int)=_ from aX rfl
   have a1:fM (V.str "put"::.str nm::.str cl::as.map V.str) 1=some (.str nm):=show fM _ ((1:Nat):Int)=_ from aX rfl
   have a2:fM (V.str "put"::.str nm::.str cl::as.map V.str) 2=some (.str cl):=show fM _ ((2:Nat):Int)=_ from aX rfl
   obtain ⟨w1,w2,w3,x,hx,rfl,wl⟩:=id hw
   obtain ⟨kvs,hk,_,hv⟩:=hpc
   obtain ⟨t,a,li,et,ht,ha,vs,hvs,pv⟩:=hv x hx
   have hrun:=(hE.put hx cl as).1
   have okx:∀ y∈(x.2.2.flatMap (aR E)).take 121,OW (3+E.length) y:=fun y hy=>by
    obtain ⟨r,hr,hy⟩:=mem_flatMap.mp (mem_of_mem_take hy)
    exact mS hE (hE.row hx r hr) y hy
   have cl8:=(cT w1).2.1
   have evs:vs.length=((x.2.2.flatMap (aR E)).take 121).length:=(Paired.length pv).trans (by simp [kn])
   have tl:=length_take_le 121 (x.2.2.flatMap (aR E))
   w_fin
   refine bH hl a0 ?_
   w_fin
   refine bH hl a0 ?_
   w_fin
   refine bH hl a1 ?_
   w_fin
   refine eQ (.inl hk) et ?_
   w_fin
   refine bH hl a1 ?_
   w_fin
   refine bH hl a2 ?_
   w_fin
   refine iY hl fun l2 hl2=>?_
   rw [show fP (V.str "put"::.str x.1::.str cl::as.map V.str) (some 3) none=as.map V.str from gY (xs:=V.str "put"::.str x.1::.str cl::as.map V.str) 3 (by omega)]
   obtain ⟨H1,zE,s1,g1⟩:=jK hl2 (.lst (as.map V.str))
   rw [zE]
   w_fin
   refine ⟨l2,_,rfl,.inl ⟨cN.of g1,fun q' hq'=>?_⟩⟩
   obtain ⟨H2,zE,s2,g2⟩:=jK hq' (.tup (as.map V.str))
   rw [zE]
   w_fin
   refine eJ fun p H3 hp0 s3 hp=>?_
   have sH3:=(s1.trans s2).trans s3
   have hro:bQ H3 (.ref p) (.put x.1 cl as):=⟨p,q',rfl,hp,s3 _ _ g2⟩
   replace hvs:=sH3 _ _ hvs
   replace pv:=Pd.imp pv fun v b f=>aW.tk f sH3.tk
   replace ha:=ha.sm sH3
   have q3:∀ l' H' n,H3 l'=none->aI H3 H'->LQ aW H' l' (kn n)->n.take 121=(aR E (.put x.1 cl as)).take 121->n.length<=200->Q (.ref l') H':=fun l' H' n h0 s=>q l' H' n (sH3.free h0) (sH3.trans s)
   w_fin
   refine dR (cN.of hvs) ?_
   refine AO (xs:=vs) (by omega) (fun acc i ys G=>Kp acc H3 G/\Paired (aW G) ys (kn ((((x.2.2.flatMap (aR E)).take 121).take i).map (jX x.2.1 as cl)))) ?_ ?_ ?_ ?_
   ·intro acc h0
    exact ⟨Kp.new h0,.nil⟩
   ·rintro acc i ys G h0 hi ⟨kp,_⟩
    exact cN.of (kp _ _ (aB hvs h0) hvs)
   ·rintro acc i ys G y h0 hy hyl hG ⟨kp,pr⟩
    obtain ⟨rr,hrr,p3,ut,rfl,hp3,ft⟩:=Paired.at pv hy
    obtain ⟨r3,hr3,rfl⟩:=GH hrr
    replace hp3:H3 p3=some (.tup [.str r3.1,.str r3.2.1,ut]):=hp3
    have sG:aI H3 G:=fun b o h=>kp _ _ (aB h h0) h
    obtain ⟨n1,n2,_⟩:=okx r3 (mem_of_getElem? hr3)
    have l1:=n1.2.2
    have l2':=n2.2.2
    refine ⟨p3,_,_,_,rfl,sG _ _ hp3,?_⟩
    w_fin
    refine ⟨r3.1,_,a,x.1,cl,as,x.2.1,rfl,bQ.tk (r:=.put x.1 cl as) hro sG.tk,ha.sm sG,wl,by omega,by omega,?_⟩
    w_fin
    refine ⟨r3.2.1,_,a,x.1,cl,as,x.2.1,rfl,bQ.tk (r:=.put x.1 cl as) hro sG.tk,ha.sm sG,wl,by omega,by omega,?_⟩
    w_fin
    refine eJ fun p9 G2 hp9 t9 g9=>?_
    have hG2:=t9 _ _ hG
    have tk:=TK.lst (o:=.lst (ys++[.ref p9])) hG2
    refine eS (by have:=(List.getElem?_eq_some_iff.mp hy).1; exact this) hyl hG2 ⟨(kp.trans t9.kp).trans Kp.upd,?_⟩
    rw [take_add_one,hr3,map_append]
    generalize ((x.2.2.flatMap (aR E)).take 121).take i=m at pr
    rw [show kn (List.map (jX x.2.1 as cl) m++List.map (jX x.2.1 as cl) (some r3).toList)=kn (List.map (jX x.2.1 as cl) m)++[(Sum.inr (gB x.2.1 as cl r3.1),Sum.inr (gB x.2.1 as cl r3.2.1),r3.2.2)] by simp [kn,jX]]
    exact Pd.snoc (Pd.imp pr fun v b f=>(aW.tk f t9.tk).tk tk) (aW.mk3 (tk _ _ g9) (((ft.tk sG.tk).tk t9.tk).tk tk))
   ·rintro acc ys G h0 hG hyl ⟨kp,pr⟩
    rw [evs,take_length] at pr
    w_fin
    exact q3 acc G _ h0 (fun b o h=>kp _ _ (aB h h0) h) ⟨ys,hG,pr⟩ (by rw [hrun,← map_take,take_take,min_self,map_take]) (by rw [length_map]; omega)
 |plain r =>
   replace hw:IJ r:=hw
   rw [dW] at q
   have hl31:=qE hw
   replace q:∀ l H',H l=none->aI H H'->LQ aW H' l (kn r.runs)->Q (.ref l) H':=fun l H' h0 s lq=>q l H' r.runs h0 s lq rfl (by omega)
   cases r with
  |run a b t =>
    replace hl:H l=some (.lst [.str "run",.str a,.str b,.str (gK t)]):=hl
    w_fin
    refine ⟨t,rfl,hw.2.2,fun v G s1 fv=>?_⟩
    w_fin
    refine eJ fun p G2 hp0 s2 hp=>?_
    w_fin
    refine cG fun l3 hl3=>?_
    w_fin
    have s3:=aI.new (o:=.lst [.ref p]) hl3
    have s12:=s1.trans s2
    exact q l3 _ (s12.free hl3) (s12.trans s3) ⟨_,aE,.cons (aW.mk3 (s3 _ _ hp) ((fv.tk s2.tk).tk s3.tk)) .nil⟩
  |path k t ps =>
    replace hl:H l=some (.lst (.str k.nm::.str (gK t)::ps.map V.str)):=hl
    have hl4:(V.str k.nm::.str (gK t)::ps.map V.str:List V).length=ps.length+2:=by rw [length_cons,length_cons,length_map]
    have a0:fM (V.str k.nm::.str (gK t)::ps.map V.str) 0=some (.str k.nm):=show fM _ ((0:Nat):Int)=_ from aX rfl
    have a1:fM (V.str k.nm::.str (gK t)::ps.map V.str) 1=some (.str (gK t)):=show fM _ ((1:Nat):Int)=_ from aX rfl
    have nr:(k.nm==Str.ofString "run")=false:=by cases k <;> decide +kernel
    have np:(k.nm==Str.ofString "put")=false:=by cases k <;> decide +kernel
    w_fin
    refine bH hl a0 ?_
    w_fin
    rw [if_neg (show ¬ (k.nm==Str.ofString "run")=true by rw [nr]; decide)]
    w_fin
    refine bH hl a0 ?_
    w_fin
    rw [if_neg (show ¬ (k.nm==Str.ofString "put")=true by rw [np]; decide)]
    w_fin
    refine bH hl a0 ?_
    w_fin
    refine bH hl a1 ?_
    w_fin
    refine ⟨t,rfl,hw.2.1,fun v H1 s1 fv=>?_⟩
    have hl1:=s1 _ _ hl
    w_fin
    refine iY hl1 fun l2 hl2=>?_
    rw [show fP (V.str k.nm::.str (gK t)::ps.map V.str) (some 2) none=ps.map V.str from gY (xs:=V.str k.nm::.str (gK t)::ps.map V.str) 2 (by omega)]
    obtain ⟨H2,zE,s2,g2⟩:=jK hl2 (.lst (ps.map V.str))
    rw [zE]
    w_fin
    refine ⟨l2,_,rfl,.inl ⟨cN.of g2,fun q' hq'=>?_⟩⟩
    obtain ⟨H3,zE,s3,g3⟩:=jK hq' (.tup (ps.map V.str))
    rw [zE]
    w_fin
    refine dJ fun p hp0=>?_
    have s4:=aI.new (o:=.tup [.str k.nm,v,.ref q']) hp0
    have s04:=((s1.trans s2).trans s3).trans s4
    w_fin
    refine ⟨_,d,E,.plain (.path k t ps),rfl,⟨p,v,q',rfl,aE,((fv.tk s2.tk).tk s3.tk).tk s4.tk,s4 _ _ g3⟩,hpc.sm s04,hE,h60,hw,fun l' H' n h0 s lq en hn=>?_⟩
    refine q l' H' (s04.free h0) (s04.trans s) ?_
    rw [dW] at en
    have hl:n.length=(fI.path k t ps).runs.length:=by
     have:=congrArg List.length en
     rw [length_take,length_take] at this
     omega
    rw [take_of_length_le (by omega),take_of_length_le (by omega)] at en
    rw [← en]
    exact lq
theorem HZ (T:Bl mg) (d:Df K mg "_law_walked" oH ["_law_text_here"]) (W:XX K mg xt x1 x4 x5) (o0l:bD P w K mg base k "_law_words_runs" ["_law_words","_law_pieces"] (rA K)):bD P w K mg base (k+1) "_law_walked" ["_law_text_here"] (zN K):=by
 refine bD.of d eR (fun vs H Q E h=>?_) (fun f cdv A outer s H vs Q E hr h=>?_)
 ·obtain ⟨gs,rfl,_⟩:=h
  rfl
 ·obtain ⟨gs,rfl,hne,hn,hz,q⟩:=h
  refine ⟨_,(@aA _ _ _ _ _ (@aO _ _ (i:=1) _ _ _ _ eR.nd rfl (by w_left) (@kJ _ _) (by rfl) (by w_means)) (@aA _ _ _ _ _ (@aO _ _ (i:=2) _ _ _ _ eR.nd rfl (by w_left) (@bC _ _ _ _ (@dL _)) (by rfl) (by w_means)) (@aA _ _ _ _ _ (@aO _ _ (i:=3) _ _ _ _ eR.nd rfl (by w_left) (@fO _ _ _) (by rfl) (by w_means)) (@aA _ _ _ _ _ (@fH _ _ _ _ _ _ _ _ PassesOwn.never rfl (@dS _ _ _ _ (@cP _ _ _ _ _ _ _ _ _ _ _ _ plainAttrs_str slot_str_split type_str_split jE (pv 0) (@bE _ _ _ (@aH _ _ _ _) (by rfl)) (by rfl) (by rfl) (by rfl) (by rfl) (by rfl))) (@aU _ _ (i:=4) _ eR.nd rfl (by w_left) (by w_means)) (@aA _ _ _ _ _ (@aO _ _ (i:=5) _ _ _ _ eR.nd rfl (by w_left) (@cP _ _ _ _ _ _ _ _ _ _ _ _ plainAttrs_str slot_str_split type_str_split jE (pv 4) (@bE _ _ _ (@aH _ _ _ _) (by rfl)) (by rfl) (by rfl) (by rfl) (by rfl) (by rfl)) (by rfl) (by w_means)) (@aC _ _ _ (@bB _ _ _ _ _ _ _ _ (@aK _ _ _ _ _ _ _ _ (aY hr.units) (@bJ _ _ _ _ _ _ _ (pv 5)) (@aH _ _ _ _) (aL _)) (@aC _ _ _ (@aO _ _ (i:=3) _ _ _ _ eR.nd rfl (by w_left) (@bC _ _ _ _ (@kC _ _ _ _ _ _ _ (@bJ _ _ _ _ _ _ _ (pv 5)) (@bI _ _ _ _ _ _ _ _ _ _ dB (pv 5) (@bV _ _ _ (@aD _ _ _ _)) (@cC _)) (@bC _ _ _ _ (@dL _)) (by rfl) (by rfl) (by rfl))) (by rfl) (by w_means))) (@aC _ _ _ (@bB _ _ _ _ _ _ _ _ (@aK _ _ _ _ _ _ _ _ (aY hr.units) (pv 5) (@bC _ _ _ _ (@bE _ _ _ (@aH _ _ _ _) (by rfl))) (aL _)) (@aA _ _ _ _ _ (@gR _ _ _ _ _ _ _ _ _ hr.u1 (pv 1) (@bJ _ _ _ _ _ _ _ (pv 3)) (@bM _ _ _ _ _ (@dZ _ _ _ _ _ (@bJ _ _ _ _ _ _ _ (pv 3)) (@bJ _ _ _ _ _ _ _ (pv 3)) (by rfl) (by rfl))) rfl) (@aC _ _ _ (@aO _ _ (i:=3) _ _ _ _ eR.nd rfl (by w_left) (@fO _ _ _) (by rfl) (by w_means)))) (@aC _ _ _ (@bB _ _ _ _ _ _ _ _ (@aK _ _ _ _ _ _ _ _ oQ (pv 3) (@fO _ _ _) (aL _)) (@aC _ _ _ (@tY _ _ _ _ _ _ (@bI _ _ _ _ _ _ _ _ _ _ dB (@aJ _ _ _ _ _ _ _ _ aV (@bJ _ _ _ _ _ _ _ (pv 3)) (@aF _ _ _ _ _ _ _ _ _ _ o0l hr rfl (@dZ _ _ _ _ _ (pv 5) (pv 1) (by rfl) (by rfl)) (by decide) (by rfl) (by rfl))) (@cC _) (@bV _ _ _ (@aD _ _ _ _))) (@YD _ _ _ _ _ _ _ (pv 3) (@aD _ _ _ _) LC (by intro _; rfl)) (by rfl) (by rfl) (by rfl))) (@aC _ _ _ (@aO _ _ (i:=2) _ _ _ _ eR.nd rfl (by w_left) (@bI _ _ _ _ _ _ _ _ _ _ dB (@aJ _ _ _ _ _ _ _ _ aV (pv 2) (@aF _ _ _ _ _ _ _ _ _ _ o0l hr rfl (@dZ _ _ _ _ _ (pv 5) (pv 1) (by rfl) (by rfl)) (by decide) (by rfl) (by rfl))) (@cC _) (@bV _ _ _ (@aD _ _ _ _))) (by rfl) (by w_means)))))))))) (by intro _; rfl)) (@aA _ _ _ _ _ (@bB _ _ _ _ _ _ _ _ (@aK _ _ _ _ _ _ _ _ oS (@aP _ _ _ _ _ _ _ _ _ dF rfl T.z_len bX (@bE _ _ _ (pv 2) (by rfl)) (by decide) (by decide) (by rfl) (by rfl)) (@aD _ _ _ _) (aL _)) (@aC _ _ _ (@aM _ _ _ _ (@aH _ _ _ _))) (@aS _)) (@aA _ _ _ _ _ (@xQ _ _ _ _ _ _ _ _ _ _ _ _ _ _ (i:=6) _ _ _ eR.nd rfl (by w_left) (@dD _ _ (sc:=aG oH) (N:=["_law_text_here","_law_pieces","_law_found","_law_inside","_law_one","_law_words","_law_bad"]) (tn:=["_law_run"]) (names:=[]) (is:=[]) rfl rfl (by decide +kernel) (by decide +kernel) rfl (by decide +kernel) rfl (by decide +kernel) (by decide +kernel) (by decide +kernel)) rfl (@dS _ _ _ _ (pv 2)) (fun _ _ _ _=>(@aU _ _ (i:=0) _ (show (["_law_run"]:List Str).Nodup by decide +kernel) rfl (Or.inl rfl) (Or.inr rfl))) (fun _ _ _ _=>(pv 0)) (fun _ _ _ _=>(@QK _ _ _ (@PW.pt _ _ _ (@lW _ _ _ _ _ _ _ (@aK _ _ _ _ _ _ _ _ (aY hr.units) (@cD _ _ _ _ _ _ _ jG (pv 0) (@aD _ _ _ _) (fun _ _=>rfl)) (@cD _ _ _ _ _ _ _ jG (pv 0) (@aD _ _ _ _) (fun _ _=>rfl)) (aL _)) (@jZ _ _ _ _ (@aK _ _ _ _ _ _ _ _ oS (@aP _ _ _ _ _ _ _ _ _ (VA rfl) rfl T.z_max OK (@dZ _ _ _ _ _ (@xU _ _ _ _ _ _ _ _ _ _ _ _ _ _ _ _ _ _ _ plainAttrs_str slot_str_count type_str_count GG (@cD _ _ _ _ _ _ _ jG (pv 0) (@aD _ _ _ _) (fun _ _=>rfl)) (@bE _ _ _ (@aH _ _ _ _) (by rfl)) (by rfl) (by rfl) (by rfl) (by rfl) (by rfl)) (@xU _ _ _ _ _ _ _ _ _ _ _ _ _ _ _ _ _ _ _ plainAttrs_str slot_str_count type_str_count GG (@cD _ _ _ _ _ _ _ jG (pv 0) (@aD _ _ _ _) (fun _ _=>rfl)) (@bE _ _ _ (@aH _ _ _ _) (by rfl)) (by rfl) (by rfl) (by rfl) (by rfl) (by rfl)) (by rfl) (by rfl)) (by decide) (by decide) (by rfl) (by rfl)) (@aD _ _ _ _) (aL _))))))) (by intro _; rfl) (by rfl) (by w_means)) (@aA _ _ _ _ _ (@bB _ _ _ _ _ _ _ _ (@PW.pt _ _ _ (@lW _ _ _ _ _ _ _ (@aK _ _ _ _ _ _ _ _ (jB hr.units) (pv 6) (@bC _ _ _ _ (@dL _)) (aL _)) (@jZ _ _ _ _ (@aK _ _ _ _ _ _ _ _ (aY hr.units) (pv 2) (@bC _ _ _ _ (@dL _)) (aL _))))) (@aC _ _ _ (@aM _ _ _ _ (@aH _ _ _ _))) (@aS _)) (@aC _ _ _ (@aM _ _ _ _ (pv 2)))))))))),?_⟩
  have q1:=fun (hc:120 < (gI [] gs).length) H' s=>q (.str "many") H' s (.inl ⟨hc,rfl⟩)
  have q2:=fun (hc:(gI [] gs).length<=120) (hb:pQ (gI [] gs)) H' s=>q (.str "none") H' s (.inr (.inl ⟨hc,hb,rfl⟩))
  have q3:=fun (hc:(gI [] gs).length<=120) (hb:¬ pQ (gI [] gs)) l' H' (h0:H l'=none) s lq=>q (.ref l') H' s (.inr (.inr ⟨hc,hb,l',rfl,h0,lq⟩))
  clear q
  have hok:=yN (E:=[]) trivial hn.wf
  have lok:=gX (E:=[]) trivial hn.wf
  have hlne:=NN hne
  have hll:(gs.flatMap aN).length<=60:=by rw [gO]; exact hn.ln
  have e1:=sQ hlne fun ws hws=>(lok ws hws).2.1
  w_fin
  refine lU fun dp hdp=>?_
  obtain ⟨H0,zE,s0,g0⟩:=jK hdp (.dK [])
  rw [zE]
  w_fin
  refine bW fun l0 H1 hl0 s1 g1=>?_
  w_fin
  refine kW (z:=fR (gs.flatMap aN)) (y:=DC) (by decide +kernel) hz fun l1 hl1=>?_
  rw [e1]
  obtain ⟨HB,zE,s2,g2⟩:=jK hl1 (.lst (((gs.flatMap aN).map (Str.join kN)).map V.str))
  rw [zE]
  have n1d:l1≠dp:=aB (s1 _ _ g0) hl1 |>.symm
  have sB:aI H HB:=(s0.trans s1).trans s2
  have sm:∀ {G:Hp},Kp dp HB G->aI H G:=fun k b o h=>k _ _ (aB h hdp) (sB _ _ h)
  have w0:Gr gs HB HB dp l0 .non ((gs.flatMap aN).drop 0):=.out (E:=[]) (A:=[]) trivial hn.wf rfl rfl ⟨[],s2 _ _ g1,.nil⟩ ⟨[],(s1.trans s2) _ _ g0,le_refl _,fun _ h=>nomatch h⟩
  refine dR (cN.of g2) ?_
  refine nO (xs:=((gs.flatMap aN).map (Str.join kN)).map V.str) (fun j σ G=>∃ (vi:V) (lf:Addr) (o4 o5:Option V),σ=[some (.str (fR (gs.flatMap aN))),some (.ref dp),some (.ref lf),some vi,o4,o5,none]/\Kp dp HB G/\H lf=none/\Gr gs HB G dp lf vi ((gs.flatMap aN).drop j)) ⟨_,_,_,_,rfl,Kp.refl _ _,s0.free hl0,w0⟩ ?_ ?_ ?_
  ·rintro j σ G _ ⟨vi,lf,o4,o5,rfl,kp,_⟩
   exact cN.of (kp _ _ n1d g2)
  ·rintro j y σ G hy ⟨vi,lf,o4,o5,rfl,kp,hlf,wk⟩
   rw [List.getElem?_map,List.getElem?_map] at hy
   cases hr:(gs.flatMap aN)[j]? with
  |none=>rw [hr] at hy; cases hy
  |some ws =>
    rw [hr] at hy
    cases (Option.some.inj hy:V.str (Str.join kN ws)=y)
    obtain ⟨q1',q2',q3'⟩:=lok ws (mem_of_getElem? hr)
    rw [iK hr] at wk
    w_fin
    refine kW (z:=Str.join kN ws) (y:=kN) (by decide +kernel) (by omega) fun l2 hl2=>?_
    rw [uJ q1' q2']
    obtain ⟨G2,zE,t2,h2⟩:=jK hl2 (.lst (ws.map V.str))
    rw [zE]
    generalize (gs.flatMap aN).drop (j+1)=eK at wk ⊢
    generalize hrest:ws::eK=all at wk
    cases wk with
   |@out E A gs2 hE hW eA eE lq pc =>
     have h8:=hn.le20 hE eE
     cases gs2 with
    |nil=>cases hrest
    |cons g gs3 =>
      cases g with
     |one r =>
       obtain ⟨rfl,rfl⟩:=List.cons.inj (show ws::eK=cM r::gs3.flatMap aN from hrest)
       obtain ⟨kk,ws',ek,hkp⟩:=kU r
       have a0:fM ((cM r).map V.str) 0=some (.str kk):=by rw [ek]; exact show fM _ ((0:Nat):Int)=_ from aX rfl
       w_fin
       refine bH h2 a0 ?_
       w_fin
       rw [if_neg (show ¬ (kk=="piece")=true by simpa using hkp)]
       w_fin
       refine bW fun l9 G9 hl9 t9 h9=>?_
       refine yQ (xs:=cM r) (ys:=[("end":Str)]) (t9 _ _ h2) h9 ?_
       rw [decide_eq_false (nN r)]
       have t29:=t2.trans t9
       have lpc:=pc.sm t29
       w_fin
       refine ⟨l2,dp,E,r,rfl,t9 _ _ h2,lpc,hE,by omega,hW.1,fun l5 G1 n2 hl5 t1 lq' en2 hn2=>?_⟩
       obtain ⟨vs,hvs,pv⟩:=lq.sm aW.tk t29
       obtain ⟨v2,hv2,pv2⟩:=lq'
       have e1:vs.length=(A.take 121).length:=(Paired.length pv).trans (by simp [kn])
       have e2:v2.length=n2.length:=(Paired.length pv2).trans (by simp [kn])
       have e3:=length_take_le 121 A
       w_fin
       refine jH (t1 _ _ hvs) hv2 (by omega) fun l3 hl3=>?_
       obtain ⟨G3,zE,t12,g3⟩:=jK hl3 (.lst (vs++v2))
       rw [zE]
       w_fin
       refine iY g3 fun l4 hl4=>?_
       rw [show (121:Int)=((121:Nat):Int) from rfl,uV]
       obtain ⟨G4,zE,t34,g4⟩:=jK hl4 (.lst ((vs++v2).take 121))
       rw [zE]
       have t13:=t12.trans t34
       have t3:=t1.trans t13
       have pnew:Paired (aW G4) ((vs++v2).take 121) (kn ((A++aR E r).take 121)):=by
        rw [jL A (aR E r),← en2,show (A.take 121++n2.take 121).take 121=(A.take 121++n2).take 121 by
         rw [jL (A.take 121) n2,take_take,min_self]]
        generalize A.take 121=n1 at pv
        rw [show kn ((n1++n2).take 121)=(kn n1++kn n2).take 121 by simp [kn]]
        exact Pd.tak (Pd.app (Pd.imp pv fun v b f=>aW.tk f t3.tk) (Pd.imp pv2 fun v b f=>aW.tk f t13.tk)) 121
       have kp4:=kp.trans (t29.trans t3).kp
       w_fin
       exact ⟨_,l4,_,_,rfl,kp4,(sm kp).free ((t29.trans (t1.trans t12)).free hl4),.out hE hW.2 (by rw [eA,append_assoc]; rfl) eE ⟨_,g4,pnew⟩ (lpc.sm t3)⟩
     |piece x =>
       obtain ⟨rfl,rfl⟩:=List.cons.inj (show ws::eK=(("piece":Str)::x.1::x.2.1)::(x.2.2.map cM++[[("end":Str)]]++gs3.flatMap aN) from hrest)
       obtain ⟨hWp,hWr⟩:=hW
       have hl4:(V.str "piece"::.str x.1::x.2.1.map V.str:List V).length=x.2.1.length+2:=by rw [length_cons,length_cons,length_map]
       have a0:fM (V.str "piece"::.str x.1::x.2.1.map V.str) 0=some (.str "piece"):=show fM _ ((0:Nat):Int)=_ from aX rfl
       have a1:fM (V.str "piece"::.str x.1::x.2.1.map V.str) 1=some (.str x.1):=show fM _ ((1:Nat):Int)=_ from aX rfl
       replace h2:G2 l2=some (.lst (.str "piece"::.str x.1::x.2.1.map V.str)):=h2
       w_fin
       refine bH h2 a0 ?_
       w_fin
       refine bH h2 a1 ?_
       w_fin
       refine iY h2 fun l3 hl3=>?_
       rw [show fP (V.str "piece"::.str x.1::x.2.1.map V.str) (some 2) none=x.2.1.map V.str from gY (xs:=V.str "piece"::.str x.1::x.2.1.map V.str) 2 (by omega)]
       obtain ⟨G3,zE,t3,h3⟩:=jK hl3 (.lst (x.2.1.map V.str))
       rw [zE]
       w_fin
       refine bW fun l4 G4 hl4' t4 h4=>?_
       w_fin
       refine bW fun l5 G5 hl5 t5 h5=>?_
       have t25:=((t2.trans t3).trans t4).trans t5
       have n5d:l5≠dp:=fun z=>by
        obtain ⟨kvs,hk,_⟩:=pc.sm ((t2.trans t3).trans t4)
        rw [z,hk] at hl5
        cases hl5
       have f5:HB l5=none:=by
        cases e:HB l5 with
       |none=>rfl
       |some o=>rw [((t2.trans t3).trans t4) _ _ (kp _ _ n5d e)] at hl5; cases hl5
       w_fin
       rw [append_assoc]
       exact ⟨_,lf,_,_,rfl,kp.trans t25.kp,hlf,.ins (rs:=[]) (rs':=x.2.2) hE hWp rfl hWr eA eE (lq.sm aW.tk t25) (pc.sm t25) h5 f5 ((t4.trans t5) _ _ h3) ⟨[],t5 _ _ h4,.nil⟩⟩
   |@ins E A0 x rs rs' gs2 li q' lr hE hx ers hW eA eE lq pc hli hf hq lq2 =>
     have h8:=hn.le20 (E:=x::E) ⟨hx,hE⟩ eE
     rw [length_cons] at h8
     cases rs' with
    |cons r rs2 =>
      obtain ⟨rfl,rfl⟩:=List.cons.inj (show ws::eK=cM r::(rs2.map cM++([("end":Str)]::gs2.flatMap aN)) from hrest)
      have hwr:=hx.1 r (by rw [ers]; simp)
      obtain ⟨kk,ws',ek,hkp⟩:=kU r
      have a0:fM ((cM r).map V.str) 0=some (.str kk):=by rw [ek]; exact show fM _ ((0:Nat):Int)=_ from aX rfl
      w_fin
      refine bH h2 a0 ?_
      w_fin
      rw [if_neg (show ¬ (kk=="piece")=true by simpa using hkp)]
      w_fin
      refine bW fun l9 G9 hl9 t9 h9=>?_
      refine yQ (xs:=cM r) (ys:=[("end":Str)]) (t9 _ _ h2) h9 ?_
      rw [decide_eq_false (nN r)]
      have t29:=t2.trans t9
      have lpc:=pc.sm t29
      have hliG:=t29 _ _ hli
      w_fin
      refine ⟨l2,dp,E,r,rfl,t9 _ _ h2,lpc,hE,by omega,hwr,fun l5 G1 n2 hl5 t1 lq' en2 hn2=>?_⟩
      obtain ⟨vs,hvs,pv⟩:=lq2.sm aW.tk t29
      generalize hA:rs.flatMap (aR E)=A at pv
      obtain ⟨v2,hv2,pv2⟩:=lq'
      have e1:vs.length=(A.take 121).length:=(Paired.length pv).trans (by simp [kn])
      have e2:v2.length=n2.length:=(Paired.length pv2).trans (by simp [kn])
      have e3:=length_take_le 121 A
      w_fin
      refine jH (t1 _ _ hvs) hv2 (by omega) fun l3 hl3=>?_
      obtain ⟨G3,zE,t12,g3⟩:=jK hl3 (.lst (vs++v2))
      rw [zE]
      w_fin
      refine iY g3 fun l4 hl4=>?_
      rw [show (121:Int)=((121:Nat):Int) from rfl,uV]
      obtain ⟨G4,zE,t34,g4⟩:=jK hl4 (.lst ((vs++v2).take 121))
      rw [zE]
      have t13:=t12.trans t34
      have t3:=t1.trans t13
      have pnew:Paired (aW G4) ((vs++v2).take 121) (kn ((A++aR E r).take 121)):=by
       rw [jL A (aR E r),← en2,show (A.take 121++n2.take 121).take 121=(A.take 121++n2).take 121 by
        rw [jL (A.take 121) n2,take_take,min_self]]
       generalize A.take 121=n1 at pv
       rw [show kn ((n1++n2).take 121)=(kn n1++kn n2).take 121 by simp [kn]]
       exact Pd.tak (Pd.app (Pd.imp pv fun v b f=>aW.tk f t3.tk) (Pd.imp pv2 fun v b f=>aW.tk f t13.tk)) 121
      have t29':=t29.trans t3
      have hli4:=t29' _ _ hli
      have ndi:li≠dp:=fun z=>by
       obtain ⟨kvs,hk,_⟩:=pc
       rw [z,hk] at hli
       cases hli
      w_fin
      refine WB (j:=2) hli4 (show 2 < 3 by decide) ?_
      have tk5:=TK.lst (o:=.lst (([V.str x.1,.ref q',.ref lr]:List V).set 2 (.ref l4))) hli4
      have n4:l4≠li:=fun z=>by rw [z,(t1.trans t12) _ _ hliG] at hl4; cases hl4
      have nf:=PM (lq.sm aW.tk t29') hli4
      have nq:q'≠li:=fun z=>by
       rw [z,hli] at hq
       have e:=HO.lst.inj (Option.some.inj hq)
       match x.2.1,e with
      |_::_::_,e=>exact absurd (List.cons.inj (List.cons.inj e).2).1 (fun z=>nomatch z)
      have kk:Kp dp HB (L2.upd G4 li (.lst (([V.str x.1,.ref q',.ref lr]:List V).set 2 (.ref l4)))):=fun b o nb hb=>by
       rw [aZ fun z=>by rw [z,hf] at hb; cases hb]
       exact (kp.trans t29'.kp) _ _ nb hb
      w_fin
      refine ⟨_,lf,_,_,rfl,kk,hlf,.ins (rs:=rs++[r]) (rs':=rs2) hE hx (by rw [ers]; simp) hW eA eE (AJ (lq.sm aW.tk t29') nf tk5) ((pc.sm t29').li hli4 rfl) aE hf (by rw [aZ nq]; exact t29' _ _ hq) ?_⟩
      rw [flatMap_append,hA,show [r].flatMap (aR E)=aR E r by simp]
      exact AJ ⟨_,g4,pnew⟩ n4 tk5
    |nil =>
      obtain ⟨rfl,rfl⟩:=List.cons.inj (show ws::eK=[("end":Str)]::gs2.flatMap aN from hrest)
      rw [append_nil] at ers
      replace h2:G2 l2=some (.lst [V.str "end"]):=h2
      w_fin
      refine bW fun l9 G9 hl9 t9 h9=>?_
      refine yQ (xs:=[("end":Str)]) (ys:=[("end":Str)]) (t9 _ _ h2) h9 ?_
      rw [decide_eq_true rfl]
      have t29:=t2.trans t9
      have hliG:=t29 _ _ hli
      w_fin
      refine eJ fun p G3 hp0 t3 hp=>?_
      have t29':=t29.trans t3
      have hli3:=t3 _ _ hliG
      obtain ⟨kvs,hk,hkl,hv⟩:=pc.sm t29'
      w_fin
      refine lV hk (by omega) ?_
      have lqn:=lq2.sm aW.tk t29'
      rw [← ers] at lqn
      have pcn:=mZ.put hE hx hk hkl hv hp (.inr (t29' _ _ hq)) lqn
      have tkd:=TK.dic (o:=.dK (dY kvs (Sum.inr x.1) (.ref p))) hk
      obtain ⟨vf,hvf,pf⟩:=lq.sm aW.tk t29'
      w_fin
      refine ⟨_,lf,_,_,rfl,(kp.trans t29'.kp).trans Kp.upd,hlf,.out (E:=x::E) ⟨hx,hE⟩ hW eA eE ⟨vf,?_,Pd.imp pf fun _ _ f=>aW.tk f tkd⟩ pcn⟩
      rw [aZ fun z=>by rw [z,hk] at hvf; cases hvf]
      exact hvf
  rintro σ G ⟨vi,lf,o4,o5,rfl,kp,hlf0,wk⟩
  have s1:=sm kp
  rw [length_map,length_map,drop_length] at wk
  generalize hrest:([]:List (List Str))=all at wk
  cases wk with
 |@ins E A x rs rs' gs2 li q' lr hE hx ers hW eA eE lq pc hli hf hq lq2=>exact absurd hrest.symm (by simp)
 |@out E A gs2 hE hW eA eE lq pc =>
   obtain rfl:gs2=[]:=by
    cases gs2 with
   |nil=>rfl
   |cons g gs3=>exact absurd hrest.symm (NN (cons_ne_nil _ _))
   rw [show gI E []=[] from rfl,append_nil] at eA
   rw [← eA] at lq
   clear pc eE eA hW hE hrest w0 e1 hz hlne lok hll
   generalize gI [] gs=N at *
   obtain ⟨vs,hvs,pv⟩:=lq
   have e1:vs.length=(N.take 121).length:=(Paired.length pv).trans (by simp [kn])
   rw [length_take] at e1
   w_fin
   refine lJ (fun hc=>?_) (fun hc=>?_)
   ·w_fin
    exact q1 (by omega) _ s1
   have hc':N.length<=120:=by omega
   rw [take_of_length_le (by omega)] at pv
   replace e1:vs.length=N.length:=by omega
   w_fin
   refine dR (cN.of hvs) ?_
   refine LX (xs:=vs) (by omega) (fun acc i ys G'=>Kp acc G G'/\TK G G'/\∃ m,Paired (aW G') ys (kn m)/\(m=[] ↔ ∀ r∈N.take i,¬ uZ r)) ?_ ?_ ?_ ?_
   ·intro acc h0
    exact ⟨Kp.new h0,TK.new h0,[],.nil,fun _ r h=>(nomatch h),fun _=>rfl⟩
   ·rintro acc i ys G' h0 hi ⟨kp',_⟩
    exact cN.of (kp' _ _ (aB hvs h0) hvs)
   ·rintro acc i ys G' x h0 hx hyl hG' ⟨kp',tk,m,pm,hys⟩
    obtain ⟨rr,hrr,p,ut,rfl,hp,ft⟩:=Paired.at pv hx
    obtain ⟨r,hr0,rfl⟩:=GH hrr
    replace hp:G p=some (.tup [.str r.1,.str r.2.1,ut]):=hp
    have hpG:=tk _ _ hp
    have hiv:=(List.getElem?_eq_some_iff.mp hx).1
    have hta:∀ x∈N.take (i+1),x∈N.take i∨x=r:=fun x hx=>by
     rw [take_add_one,hr0] at hx
     simpa using hx
    have hr1:r∈N.take (i+1):=by
     rw [take_add_one,hr0]
     simp
    have hsub:∀ x∈N.take i,x∈N.take (i+1):=fun x hx=>by
     rw [take_add_one]
     exact mem_append.mpr (.inl hx)
    have tk2:=TK.lst (o:=.lst (ys++[.ref p])) hG'
    have bad:uZ r->NV vs.length acc (fun i ys G'=>Kp acc G G'/\TK G G'/\∃ m,Paired (aW G') ys (kn m)/\(m=[] ↔ ∀ r∈N.take i,¬ uZ r)) ys i (.ref p) G':=fun e=>by
     refine ZN hiv hyl hG' ⟨kp'.trans Kp.upd,tk.trans tk2,m++[r],?_,?_,fun h=>absurd e (h r hr1)⟩
     ·rw [show kn (m++[r])=kn m++[(Sum.inr r.1,Sum.inr r.2.1,r.2.2)] by simp [kn]]
      exact Pd.snoc (Pd.imp pm fun v b f=>aW.tk f tk2) (aW.mk3 (tk2 _ _ hpG) ((ft.tk tk).tk tk2))
     ·intro h
      exact absurd (congrArg List.length h) (by simp)
    have good:¬ uZ r->NU vs.length acc (fun i ys G'=>Kp acc G G'/\TK G G'/\∃ m,Paired (aW G') ys (kn m)/\(m=[] ↔ ∀ r∈N.take i,¬ uZ r)) ys i G':=fun e =>
     ZM hiv hyl hG' ⟨kp',tk,m,pm,fun h x hx=>(hta x hx).elim (hys.mp h x) fun z=>by rw [z]; exact e,fun h=>hys.mpr fun x hx=>h x (hsub x hx)⟩
    w_fin
    by_cases e:r.1=r.2.1
    ·rw [if_pos (show (r.1==r.2.1)=true by rw [e]; simp)]
     w_fin
     exact bad (.inl e)
    ·rw [if_neg (show ¬ (r.1==r.2.1)=true by simpa using e)]
     w_fin
     refine ⟨r.1,rfl,by rw [show (".":Str)=⟨#[46]⟩ by decide +kernel],fun n1 en1=>?_⟩
     w_fin
     refine ⟨r.2.1,rfl,by rw [show (".":Str)=⟨#[46]⟩ by decide +kernel],fun n2 en2=>?_⟩
     have f1:n1=uO r.1:=by unfold uO; omega
     have f2:n2=uO r.2.1:=by unfold uO; omega
     w_fin
     refine lJ (fun c=>?_) (fun c=>?_)
     ·w_fin
      refine bad (.inr ?_)
      split at c <;> omega
     ·w_fin
      refine good fun z=>?_
      rcases z with z|z|z
      ·exact e z
      ·split at c <;> omega
      ·split at c <;> omega
   rintro acc ys G' h0 hG' hyl ⟨kp',tk,m,pm,hys⟩
   rw [e1,take_length] at hys
   have sG':aI G G':=fun b o h=>kp' _ _ (aB h h0) h
   have hvs':=sG' _ _ hvs
   have s2:=s1.trans sG'
   w_fin
   refine cG fun l9 hl9=>?_
   have t9:=aI.new (o:=.lst []) hl9
   refine YV (n:=m) ⟨ys,t9 _ _ hG',Pd.imp pm fun v b f=>aW.tk f t9.tk⟩ aE ?_
   by_cases hm:m=[]
   ·rw [decide_eq_true hm]
    w_fin
    refine cG fun l8 hl8=>?_
    have t8:=t9.trans (aI.new (o:=.lst []) hl8)
    refine OA (n:=N) ⟨vs,t8 _ _ hvs',Pd.imp pv fun v b f=>aW.tk f (sG'.trans t8).tk⟩ aE ?_
    by_cases ha:N=[]
    ·rw [decide_eq_true ha]
     w_fin
     exact q2 hc' (.inl ha) _ (s2.trans t8)
    ·rw [decide_eq_false ha]
     w_fin
     refine q3 hc' ?_ lf _ hlf0 (s2.trans t8) ⟨vs,t8 _ _ hvs',Pd.imp pv fun v b f=>aW.tk f (sG'.trans t8).tk⟩
     rintro (h|⟨r,hr,e⟩)
     ·exact ha h
     ·exact hys.mp hm r hr e
   ·rw [decide_eq_false hm]
    w_fin
    refine q2 hc' (.inr ?_) _ (s2.trans t9)
    exact Classical.byContradiction fun h=>hm (hys.mpr fun r hr e=>h ⟨r,hr,e⟩)
theorem YS {f:Addr}{fd:FuncData} (T:Bl mg) (F:Gu K "law" "law" oI f fd) (W:XX K mg xt x1 x4 x5) (o2c:bD P w K mg base k "_law_runs" ["_law_rows","_law_pieces"] (zX K)) (o0p:bD P w K mg base k "read_rows" ["text"] (sT K)) (o1y:bD P w K mg base k "_law_told" ["_law_rows"] (zO K)) (o0k:bD P w K mg base k "shown_rows" ["rows"] (zT K)) (o1r:bD P w K mg base k "_law_walked" ["_law_text_here"] (zN K)) (o1x:bD P w K mg base k "_law_text" ["_law_rows"] (zR K)) (o1u:bD P w K mg base k "_law_built" ["_law_script","_law_first","_law_end"] (FN K)):nY P w K mg base SU (k+1) f fd ["_law_script"] (FJ K):=by
 refine F.ok pX (fun vs H Q E h=>?_) (fun cdv A outer s H vs Q E hr h=>?_)
 ·obtain ⟨a,ns,rfl,_⟩:=h
  rfl
 ·obtain ⟨a,ns,rfl,hS,h63,q⟩:=h
  refine ⟨_,(@aA _ _ _ _ _ (@aO _ _ (i:=1) _ _ _ _ pX.nd rfl (by w_left) (@aF _ _ _ _ _ _ _ _ _ _ o1u hr rfl (@kC _ _ _ _ _ _ _ (pv 0) (@aD _ _ _ _) (@aP _ _ _ _ _ _ _ _ _ (Fm rfl) rfl T.z_min Ae (@dZ _ _ _ _ _ (@aP _ _ _ _ _ _ _ _ _ dF rfl T.z_len bX (@bE _ _ _ (pv 0) (by rfl)) (by decide) (by decide) (by rfl) (by rfl)) (@aD _ _ _ _) (by rfl) (by rfl)) (by decide) (by decide) (by rfl) (by rfl)) (by rfl) (by rfl) (by rfl)) (by decide) (by rfl) (by rfl)) (by rfl) (by w_means)) (@aA _ _ _ _ _ (@aO _ _ (i:=2) _ _ _ _ pX.nd rfl (by w_left) (@aF _ _ _ _ _ _ _ _ _ _ o1x hr rfl (@bE _ _ _ (pv 1) (by rfl)) (by decide) (by rfl) (by rfl)) (by rfl) (by w_means)) (@aA _ _ _ _ _ (@aO _ _ (i:=3) _ _ _ _ pX.nd rfl (by w_left) (@aF _ _ _ _ _ _ _ _ _ _ o1r hr rfl (@bE _ _ _ (pv 2) (by rfl)) (by decide) (by rfl) (by rfl)) (by rfl) (by w_means)) (@aA _ _ _ _ _ (@aO _ _ (i:=4) _ _ _ _ pX.nd rfl (by w_left) (@aF _ _ _ _ _ _ _ _ _ _ o0p hr rfl (@bE _ _ _ (pv 2) (by rfl)) (by decide) (by rfl) (by rfl)) (by rfl) (by w_means)) (@aA _ _ _ _ _ (@bB _ _ _ _ _ _ _ _ (@PW.pt _ _ _ (@lW _ _ _ _ _ _ _ (@aK _ _ _ _ _ _ _ _ (jB hr.units) (@aF _ _ _ _ _ _ _ _ _ _ o1y hr rfl (@bE _ _ _ (pv 4) (by rfl)) (by decide) (by rfl) (by rfl)) (pv 3) (aL _)) (@jZ _ _ _ _ (@aK _ _ _ _ _ _ _ _ (jB hr.units) (@aF _ _ _ _ _ _ _ _ _ _ o1y hr rfl (@bE _ _ _ (@aF _ _ _ _ _ _ _ _ _ _ o0p hr rfl (@bE _ _ _ (@aF _ _ _ _ _ _ _ _ _ _ o0k hr rfl (@bE _ _ _ (pv 4) (by rfl)) (by decide) (by rfl) (by rfl)) (by rfl)) (by decide) (by rfl) (by rfl)) (by rfl)) (by decide) (by rfl) (by rfl)) (pv 3) (aL _))))) (@aC _ _ _ (@aM _ _ _ _ (@wK _ _ _ _))) (@aS _)) (@aA _ _ _ _ _ (@aO _ _ (i:=5) _ _ _ _ pX.nd rfl (by w_left) (@aF _ _ _ _ _ _ _ _ _ _ o1y hr rfl (@bE _ _ _ (@aF _ _ _ _ _ _ _ _ _ _ o0p hr rfl (@bE _ _ _ (@aJ _ _ _ _ _ _ _ _ aV (pv 2) (@aH _ _ _ _)) (by rfl)) (by decide) (by rfl) (by rfl)) (by rfl)) (by decide) (by rfl) (by rfl)) (by rfl) (by w_means)) (@aA _ _ _ _ _ (@bB _ _ _ _ _ _ _ _ (@PW.pt _ _ _ (@kZ _ _ _ _ _ _ _ (@aK _ _ _ _ _ _ _ _ (YM hr.units) (pv 3) (@aH _ _ _ _) (aL _)) (@kY _ _ _ _ (@aK _ _ _ _ _ _ _ _ (aY hr.units) (@aF _ _ _ _ _ _ _ _ _ _ o2c hr rfl (@dZ _ _ _ _ _ (pv 1) (@kJ _ _) (by rfl) (by rfl)) (by decide) (by rfl) (by rfl)) (@bC _ _ _ _ (@dL _)) (aL _))))) (@aC _ _ _ (@aM _ _ _ _ (@cO _ _ _ _ _ _ _ _ (aY hr.units) (pv 5) (@bC _ _ _ _ (@bE _ _ _ (@bM _ _ _ _ _ (@kC _ _ _ _ _ _ _ (@aH _ _ _ _) (@aH _ _ _ _) (@bM _ _ _ _ _ (@dZ _ _ _ _ _ (@aD _ _ _ _) (@aD _ _ _ _) (by rfl) (by rfl))) (by rfl) (by rfl) (by rfl))) (by rfl))) (aL _)))) (@aS _)) (@aA _ _ _ _ _ (@bB _ _ _ _ _ _ _ _ (@PW.pt _ _ _ (@kZ _ _ _ _ _ _ _ (@fN _ _ _ (@aP _ _ _ _ _ _ _ _ _ (fU (T:="list")) rfl T.z_isinstance bU (@dZ _ _ _ _ _ (pv 3) (@iJ _ _ (v:=.ty "list") _ _ rfl T.z_list mY rfl (by decide) (by decide)) (by rfl) (by rfl)) (by decide) (by decide) (by rfl) (by rfl)) (by intro _; rfl)) (@kY _ _ _ _ (@aK _ _ _ _ _ _ _ _ wL (@aP _ _ _ _ _ _ _ _ _ dF rfl T.z_len bX (@bE _ _ _ (pv 3) (by rfl)) (by decide) (by decide) (by rfl) (by rfl)) (@aD _ _ _ _) (aL _))))) (@aC _ _ _ (@aM _ _ _ _ (@cO _ _ _ _ _ _ _ _ (aY hr.units) (pv 5) (@aJ _ _ _ _ _ _ _ _ aV (pv 3) (@bC _ _ _ _ (@bE _ _ _ (@bM _ _ _ _ _ (@kC _ _ _ _ _ _ _ (@aH _ _ _ _) (@aH _ _ _ _) (@bM _ _ _ _ _ (@dZ _ _ _ _ _ (@aD _ _ _ _) (@aD _ _ _ _) (by rfl) (by rfl))) (by rfl) (by rfl) (by rfl))) (by rfl)))) (aL _)))) (@aS _)) (@aA _ _ _ _ _ (@bB _ _ _ _ _ _ _ _ (@aK _ _ _ _ _ _ _ _ oS (@aP _ _ _ _ _ _ _ _ _ dF rfl T.z_len bX (@bE _ _ _ (@aF _ _ _ _ _ _ _ _ _ _ o2c hr rfl (@dZ _ _ _ _ _ (pv 1) (@kJ _ _) (by rfl) (by rfl)) (by decide) (by rfl) (by rfl)) (by rfl)) (by decide) (by decide) (by rfl) (by rfl)) (@aD _ _ _ _) (aL _)) (@aC _ _ _ (@aM _ _ _ _ (@cO _ _ _ _ _ _ _ _ (aY hr.units) (pv 5) (@aH _ _ _ _) (aL _)))) (@aS _)) (@aC _ _ _ (@aM _ _ _ _ (@cO _ _ _ _ _ _ _ _ (aY hr.units) (pv 5) (pv 3) (aL _))))))))))))),?_⟩
  w_fin
  refine DL hS ?_
  w_fin
  rw [length_map]
  obtain ⟨m,hm,em⟩:∃ m:Nat,m<=42/\(if (42:Int) < (ns.length:Int) then (42:Int) else (ns.length:Int))=(m:Int):=by
   by_cases h:(42:Int) < (ns.length:Int)
   ·exact ⟨42,by decide,by rw [if_pos h]; rfl⟩
   ·exact ⟨ns.length,by omega,by rw [if_neg h]⟩
  rw [em]
  clear em
  refine ⟨a,ns,m,rfl,hS,h63,hm,fun lr G gs sG _ hgs hb hne hln=>?_⟩
  have hcap:=(mX hb hb.ln).2
  have hb2:iE (gs++[Gj]):=⟨(lN _ _ _).mpr ⟨hb.wf,VU,trivial⟩,by have:=uI gs; rw [length_append]; show gs.length+1<=60; omega,by rw [oZ]; show lE gs+1<=60; omega⟩
  have hcap2:=(mX hb2 hb2.ln).2
  have eM:gI [] (gs++[Gj])=gI [] gs++[LI]:=by rw [yM,dW]; rfl
  w_fin
  refine ⟨lr,gs,rfl,hgs,hb,hb.ln,fun G1 s1=>?_⟩
  w_fin
  refine ⟨gs,rfl,hne,hb,hcap,fun vd G2 s2 dv=>?_⟩
  w_fin
  refine ⟨gs,rfl,hne,hb,hb.ln,hcap,fun lf G3 hlf s3 fq=>?_⟩
  w_fin
  refine ⟨lf,gs,rfl,fq,hb,fun v4 G4 s4 d4=>?_⟩
  have s24:=s3.trans s4
  w_fin
  refine UP d4 (dv.sm s24) ?_
  w_fin
  refine ⟨lf,gs,rfl,fq.sm s4,hb,hb.ln,fun G5 s5=>?_⟩
  w_fin
  refine ⟨gs,rfl,hne,hb,hb.ln,hcap,fun lg G6 hlg s6 fq6=>?_⟩
  w_fin
  refine ⟨lg,gs,rfl,fq6,hb,fun v7 G7 s7 d7=>?_⟩
  have s27:=s24.trans (s5.trans (s6.trans s7))
  w_fin
  refine UP d7 (dv.sm s27) ?_
  w_fin
  have l30:(Str.ofString " ; run q.q r.r 7/2").length<=30:=by decide +kernel
  refine XS (by omega) ?_
  rw [IM hne]
  refine ⟨gs++[Gj],rfl,by simp,hb2,hb2.ln,hcap2,fun lh G8 hlh s8 fq8=>?_⟩
  w_fin
  refine ⟨lh,_,rfl,fq8,hb2,fun v9 G9 s9 d9=>?_⟩
  rw [eM] at d9
  clear eM hcap2 hb2 hcap d4 d7 fq8 fq6 fq
  have s29:=s27.trans (s8.trans s9)
  have sX:aI G G9:=(s1.trans s2).trans s29
  replace dv:=dv.sm s29
  generalize hN:gI [] gs=N at dv d9
  have lM:(N++[LI]).length=N.length+1:=by simp
  have v9m:120 < N.length+1->v9=.str "many":=fun h=>by
   rcases d9 with ⟨_,e⟩|⟨h',_⟩|⟨h',_⟩
   ·exact e
   ·omega
   ·omega
  have v9n:N.length+1<=120->pQ (N++[LI])->v9=.str "none":=fun h hbd=>by
   rcases d9 with ⟨h',_⟩|⟨_,_,e⟩|⟨_,h',_⟩
   ·omega
   ·exact e
   ·exact absurd hbd h'
  have v9l:N.length+1<=120->¬ pQ (N++[LI])->∃ l,v9=.ref l/\LQ aW G9 l (kn (N++[LI])):=fun h hbd=>by
   rcases d9 with ⟨h',_⟩|⟨_,h',_⟩|⟨_,_,l,e,_,lq⟩
   ·omega
   ·exact absurd h' hbd
   ·exact ⟨l,e,lq⟩
  clear d9
  have em:((("many":Str))==("many":Str))=true:=by decide +kernel
  have en:((("none":Str))==("none":Str))=true:=by decide +kernel
  w_fin
  rcases dv with ⟨hc,rfl⟩|⟨hc,hbad,rfl⟩|⟨hc,hbad,ld,rfl,hld,lqd⟩
  ·refine LW (NZ ?_)
   rw [show ((("many":Str))==("none":Str))=false from by decide +kernel]
   w_fin
   refine dX (.str _) pD ?_
   w_fin
   refine lU fun dc hdc=>?_
   obtain ⟨GD,zE,sd,gd⟩:=jK hdc (.dK [])
   rw [zE]
   w_fin
   refine ⟨lr,gs,dc,rfl,hgs.sm (sX.trans sd),hb,gd,fun lu GU hlu kpu lqu=>?_⟩
   have sU:aI G9 GU:=fun b o h=>kpu _ _ (aB h hdc) (sd _ _ h)
   have lenu:∃ vs,GU lu=some (.lst vs)/\vs.length=min 121 (gI [] gs).length:=by
    obtain ⟨vs,hvs,pv⟩:=lqu
    exact ⟨vs,hvs,(Paired.length pv).trans (by simp [kn])⟩
   obtain ⟨vsu,hvu,eu⟩:=lenu
   rw [hN] at eu
   obtain rfl:=v9m (by omega)
   w_fin
   rw [em]
   exact q _
  ·refine LW (NZ ?_)
   rw [en]
   w_fin
   refine lU fun dc hdc=>?_
   obtain ⟨GD,zE,sd,gd⟩:=jK hdc (.dK [])
   rw [zE]
   w_fin
   refine ⟨lr,gs,dc,rfl,hgs.sm (sX.trans sd),hb,gd,fun lu GU hlu kpu lqu=>?_⟩
   have sU:aI G9 GU:=fun b o h=>kpu _ _ (aB h hdc) (sd _ _ h)
   have lenu:∃ vs,GU lu=some (.lst vs)/\vs.length=min 121 (gI [] gs).length:=by
    obtain ⟨vs,hvs,pv⟩:=lqu
    exact ⟨vs,hvs,(Paired.length pv).trans (by simp [kn])⟩
   w_fin
   refine bW fun le GE hle se ge=>?_
   refine OA (lqu.sm aW.tk se) ge ?_
   rw [hN]
   have sE:=sU.trans se
   have sXE:=sX.trans sE
   by_cases hz:N=[]
   ·subst hz
    rw [decide_eq_true (show List.take 121 ([]:List cV)=[] from rfl)]
    w_fin
    refine eJ fun pt J1 hpt v1 w1=>?_
    w_fin
    refine eJ fun pr J2 hpr v2 w2=>?_
    w_fin
    refine bW fun pl J3 hpl v3 w3=>?_
    have v13:=(v1.trans v2).trans v3
    have rql:aW J3 (.ref pr) (Sum.inr "q.q",Sum.inr "r.r",Rat.divInt 7 2):=aW.mk3 (v3 _ _ w2) (((qX.of2 (by decide) (by decide) w1).tk v2.tk).tk v3.tk)
    obtain ⟨l9,rfl,lq9⟩:=v9l (by decide) SI
    refine OB (n:=[LI]) (lq9.sm aW.tk (sE.trans v13)) ⟨[.ref pr],w3,.cons rql .nil⟩ ?_
    exact q _
   ·rw [decide_eq_false (show ¬ List.take 121 N=[] from fun z=>hz (by cases N with|nil=>rfl|cons r N=>cases z))]
    w_fin
    refine dX (.str _) pD ?_
    w_fin
    refine lU fun dc hdc=>?_
    obtain ⟨GD,zE,sd,gd⟩:=jK hdc (.dK [])
    rw [zE]
    w_fin
    refine ⟨lr,gs,dc,rfl,hgs.sm (sXE.trans sd),hb,gd,fun lu GU hlu kpu lqu=>?_⟩
    have sU:aI GE GU:=fun b o h=>kpu _ _ (aB h hdc) (sd _ _ h)
    have lenu:∃ vs,GU lu=some (.lst vs)/\vs.length=min 121 (gI [] gs).length:=by
     obtain ⟨vs,hvs,pv⟩:=lqu
     exact ⟨vs,hvs,(Paired.length pv).trans (by simp [kn])⟩
    obtain ⟨vsu,hvu,eu⟩:=lenu
    rw [hN] at eu
    w_fin
    refine lJ (fun h=>?_) (fun h=>?_)
    ·obtain rfl:=v9m (by omega)
     w_fin
     rw [em]
     exact q _
    ·obtain rfl:=v9n (by omega) (hbad.elim (fun z=>absurd z hz) fun ⟨r,hr,hbr⟩=>.inr ⟨r,mem_append_left _ hr,hbr⟩)
     w_fin
     rw [en]
     exact q _
  ·obtain ⟨vsd,hvd,pvd⟩:=id lqd
   have el:vsd.length=N.length:=(Paired.length pvd).trans (by simp [kn])
   refine XA hvd ?_
   w_fin
   refine dX (.lst hvd) kB ?_
   w_fin
   refine lJ (fun h=>?_) (fun h=>?_)
   ·w_fin
    refine eJ fun pt J1 hpt v1 w1=>?_
    w_fin
    refine eJ fun pr J2 hpr v2 w2=>?_
    w_fin
    refine bW fun pl J3 hpl v3 w3=>?_
    have v13:=(v1.trans v2).trans v3
    have rql:aW J3 (.ref pr) (Sum.inr "q.q",Sum.inr "r.r",Rat.divInt 7 2):=aW.mk3 (v3 _ _ w2) (((qX.of2 (by decide) (by decide) w1).tk v2.tk).tk v3.tk)
    refine jH (v13 _ _ hvd) w3 (by rw [el]; show N.length+1<=_; omega) fun lp hlp=>?_
    have sp:=aI.new (o:=.lst (vsd++[.ref pr])) hlp
    obtain ⟨l9,rfl,lq9⟩:=v9l (by omega) (OL hbad)
    refine OB (n:=N++[LI]) (lq9.sm aW.tk (v13.trans sp)) ⟨_,aE,?_⟩ ?_
    ·rw [RP]
     exact Pd.snoc (Pd.imp pvd fun _ _ f=>(aW.tk f v13.tk).tk sp.tk) (aW.tk rql sp.tk)
    ·exact q _
   ·w_fin
    refine lU fun dc hdc=>?_
    obtain ⟨GD,zE,sd,gd⟩:=jK hdc (.dK [])
    rw [zE]
    w_fin
    refine ⟨lr,gs,dc,rfl,hgs.sm (sX.trans sd),hb,gd,fun lu GU hlu kpu lqu=>?_⟩
    have sU:aI G9 GU:=fun b o h=>kpu _ _ (aB h hdc) (sd _ _ h)
    have lenu:∃ vs,GU lu=some (.lst vs)/\vs.length=min 121 (gI [] gs).length:=by
     obtain ⟨vs,hvs,pv⟩:=lqu
     exact ⟨vs,hvs,(Paired.length pv).trans (by simp [kn])⟩
    obtain ⟨vsu,hvu,eu⟩:=lenu
    rw [hN] at eu
    obtain rfl:=v9m (by omega)
    w_fin
    rw [em]
    exact q _
end
structure DA (K:Frag) (n:Str) (s:Stmt):Prop where
 ex:∃ (f:Addr) (oc:Value) (od an:Option Addr) (sl:Array (Option Value)) (kV dc pm cd ct:Value),nsIn K mainGlobals n=some (some (.ref f))/\K.lookup f=some ⟨oc,od,.func (fnOf n n (gE s) (eX s) (aG s) .none kV dc pm an cd ct),sl⟩/\PySem.W.codeIn K cd n=true/\keepIn K (.ref f)=true
theorem DA.of {K:Frag}{n:Str}{s:Stmt}{f:Addr}{oc:Value}{od an:Option Addr}{sl:Array (Option Value)}{kV dc pm cd ct:Value} (a:nsIn K mainGlobals n=some (some (.ref f))) (l:K.lookup f=some ⟨oc,od,.func (fnOf n n (gE s) (eX s) (aG s) .none kV dc pm an cd ct),sl⟩) (c:PySem.W.codeIn K cd n=true) (k:keepIn K (.ref f)=true):DA K n s:=⟨_,_,_,_,_,_,_,_,_,_,a,l,c,k⟩
theorem DA.df {K:Frag}{mg:Str->Option Value}{h:Heap}{x:Str}{st:Stmt}{ps:List Str} (d:DA K x st) (X:K.In h) (G:h.Ns mainGlobals mg)
 (b:∀ (kV doc pm:Value) (an:Option Addr) (cdv ct:Value) (us:List Value),us.length=ps.length->bindArgs (fnOf x x (gE st) (eX st) (aG st) .none kV doc pm an cdv ct) ⟨us,[]⟩=pure (ps.zip us)):Df K mg x st ps:=by
 obtain ⟨f,oc,od,an,sl,kV,dc,pm,cd,ct,a,l,c,k⟩:=d.ex
 exact Fj X G a l c k (b _ _ _ _ _ _)
theorem all_mk {l:PySem.W.OpenLaw}{w:World}{K:Frag}{h:Heap}{mg:Str->Option Value}{fa:Addr} (X:K.In h) (G:h.Ns mainGlobals mg) (hfa:mg "law"=some (.ref fa)) {f54:Addr}{oc54:Value}{od54 an54:Option Addr}{sl54:Array (Option Value)}{kV54 dc54 pm54 cd54 ct54:Value}{xt x1 x4 x5:Addr}{cd_NoNet:ClassData}{cd_TooMany:ClassData}{tk_LETTERS:Tok}{tk_MOST_LETTERS:Tok}{tk_MOST_PARTS:Tok}{tk_MOST_RUNS:Tok}{tk_FIGURES:Tok}{tk_MOST_FIGURES:Tok}{tk_MOST_PARAMS:Tok}{tk_MOST_ROWS:Tok}{ad_FEWEST_POSTS:Addr}{ep_FEWEST_POSTS:Nat}{h0_FEWEST_POSTS:Int}{t0_FEWEST_POSTS u0_FEWEST_POSTS:Tok}{h1_FEWEST_POSTS:Int}{t1_FEWEST_POSTS u1_FEWEST_POSTS:Tok}{h2_FEWEST_POSTS:Int}{t2_FEWEST_POSTS u2_FEWEST_POSTS:Tok}
  (a0:DA K "is_whole" nK)
  (a1:DA K "common_divisor" gM)
  (a2:DA K "is_fraction" jW)
  (a3:DA K "is_less" pZ)
  (a4:DA K "is_part" mQ)
  (a5:DA K "is_post" mP)
  (a6:DA K "is_run" tR)
  (a7:DA K "net_of" tP)
  (a8:DA K "count_in" nM)
  (a9:DA K "counted" mR)
  (a10:DA K "runs_along" iH)
  (a11:DA K "name_put" nJ)
  (a12:DA K "runs_of" kH)
  (a13:DA K "runs_put" iU)
  (a14:DA K "opened" tM)
  (a15:DA K "is_written" iI)
  (a16:DA K "read_time" jQ)
  (a17:DA K "shown_whole" jV)
  (a18:DA K "shown_fraction" gL)
  (a19:DA K "refuse_unless" hX)
  (a20:DA K "posts_in" kR)
  (a21:DA K "time_in" pY)
  (a22:DA K "run_in" tK)
  (a23:DA K "posts_row_in" iV)
  (a24:DA K "put_in" tL)
  (a25:DA K "plain_row_in" iW)
  (a26:DA K "piece_in" iX)
  (a27:DA K "end_behind" kT)
  (a28:DA K "lines_in" kS)
  (a29:DA K "read_rows" lT)
  (a30:DA K "words_of" nI)
  (a31:DA K "shown_rows" iG)
  (a32:DA K "_law_cell_at" qA)
  (a33:DA K "_law_number" tN)
  (a34:DA K "_law_lowest" tQ)
  (a35:DA K "_law_names" rW)
  (a36:DA K "_law_post" xH)
  (a37:DA K "_law_time" DI)
  (a38:DA K "_law_posts" xG)
  (a39:DA K "_law_plain" xI)
  (a40:DA K "_law_row" LF)
  (a41:DA K "_law_closed" tS)
  (a42:DA K "_law_time_text" lS)
  (a43:DA K "_law_row_texts" jP)
  (a44:DA K "_law_next" tO)
  (a45:DA K "_law_built" xJ)
  (a46:DA K "_law_text" DJ)
  (a47:DA K "_law_called" tT)
  (a48:DA K "_law_row_runs" kQ)
  (a49:DA K "_law_runs" tJ)
  (a50:DA K "_law_told" DH)
  (a51:DA K "_law_fraction" nL)
  (a52:DA K "_law_words_runs" iF)
  (a53:DA K "_law_walked" oH)
  (a54:nsIn K mainGlobals "law"=some (some (.ref f54))) (l54:K.lookup f54=some ⟨oc54,od54,.func (fnOf "law" "law" (gE oI) (eX oI) (aG oI) .none kV54 dc54 pm54 an54 cd54 ct54),sl54⟩) (c54:PySem.W.codeIn K cd54 "law"=true) (k54:keepIn K (.ref f54)=true)
  (bT:nsIn K mainGlobals "TileError"=some (some (.ref xt))) (b1:nsIn K mainGlobals "NoNet"=some (some (.ref x1))) (b4:nsIn K mainGlobals "TooMany"=some (some (.ref x4))) (b5:nsIn K mainGlobals "NoText"=some (some (.ref x5))) (zV:nsIn K mainGlobals "ValueError"=some none)
  (ga_NoNet:PySem.W.findIn K (.ref x1) "__getattribute__"=some (some (.builtin "BaseException.__getattribute__"))) (gt_NoNet:PySem.W.findIn K (.ref x1) "__getattr__"=some none) (ca_NoNet:PySem.W.findIn K (.ref x1) "__class__"=some (some (.builtin "object.__class__"))) (ob_NoNet:PySem.W.subIn K (.ref x1) (.type "object")=some true) (be_NoNet:PySem.W.subIn K (.ref x1) (.type "BaseException")=some true) (ic_NoNet:PySem.W.clsIn K x1=some cd_NoNet) (ex_NoNet:excIn K x1 EM "ValueError.__new__"=true) (ve_NoNet:kitOne K (.ref x1) (.type "ValueError")=some true) (tt_NoNet:exmOne K (.ref x1) (.ref xt)=some true)
  (k1_NoNet:kitOne K (.ref x1) (.ref x1)=some (Nat.beq 1 1)) (k4_NoNet:kitOne K (.ref x1) (.ref x4)=some (Nat.beq 4 1)) (k5_NoNet:kitOne K (.ref x1) (.ref x5)=some (Nat.beq 5 1))
  (ga_TooMany:PySem.W.findIn K (.ref x4) "__getattribute__"=some (some (.builtin "BaseException.__getattribute__"))) (gt_TooMany:PySem.W.findIn K (.ref x4) "__getattr__"=some none) (ca_TooMany:PySem.W.findIn K (.ref x4) "__class__"=some (some (.builtin "object.__class__"))) (ob_TooMany:PySem.W.subIn K (.ref x4) (.type "object")=some true) (be_TooMany:PySem.W.subIn K (.ref x4) (.type "BaseException")=some true) (ic_TooMany:PySem.W.clsIn K x4=some cd_TooMany) (ex_TooMany:excIn K x4 EM "ValueError.__new__"=true) (ve_TooMany:kitOne K (.ref x4) (.type "ValueError")=some true) (tt_TooMany:exmOne K (.ref x4) (.ref xt)=some true)
  (k1_TooMany:kitOne K (.ref x4) (.ref x1)=some (Nat.beq 1 4)) (k4_TooMany:kitOne K (.ref x4) (.ref x4)=some (Nat.beq 4 4)) (k5_TooMany:kitOne K (.ref x4) (.ref x5)=some (Nat.beq 5 4))
  (gl_LETTERS:nsIn K mainGlobals "LETTERS"=some (some (.str "abcdefghijklmnopqrstuvwxyz" tk_LETTERS)))
  (gl_MOST_LETTERS:nsIn K mainGlobals "MOST_LETTERS"=some (some (.int 8 tk_MOST_LETTERS)))
  (gl_MOST_PARTS:nsIn K mainGlobals "MOST_PARTS"=some (some (.int 4 tk_MOST_PARTS)))
  (gl_MOST_RUNS:nsIn K mainGlobals "MOST_RUNS"=some (some (.int 120 tk_MOST_RUNS)))
  (gl_FIGURES:nsIn K mainGlobals "FIGURES"=some (some (.str "0123456789" tk_FIGURES)))
  (gl_MOST_FIGURES:nsIn K mainGlobals "MOST_FIGURES"=some (some (.int 12 tk_MOST_FIGURES)))
  (gl_MOST_PARAMS:nsIn K mainGlobals "MOST_PARAMS"=some (some (.int 8 tk_MOST_PARAMS)))
  (gl_MOST_ROWS:nsIn K mainGlobals "MOST_ROWS"=some (some (.int 60 tk_MOST_ROWS)))
  (gd_FEWEST_POSTS:nsIn K mainGlobals "FEWEST_POSTS"=some (some (.ref ad_FEWEST_POSTS))) (ld_FEWEST_POSTS:K.lookup ad_FEWEST_POSTS=some ⟨.type "dict",none,.dict #[⟨h0_FEWEST_POSTS,.str "row" t0_FEWEST_POSTS,.int 2 u0_FEWEST_POSTS⟩,⟨h1_FEWEST_POSTS,.str "star" t1_FEWEST_POSTS,.int 2 u1_FEWEST_POSTS⟩,⟨h2_FEWEST_POSTS,.str "ring" t2_FEWEST_POSTS,.int 3 u2_FEWEST_POSTS⟩] ep_FEWEST_POSTS,#[]⟩) (e0_FEWEST_POSTS:h0_FEWEST_POSTS=vQ w (Sum.inr "row")) (e1_FEWEST_POSTS:h1_FEWEST_POSTS=vQ w (Sum.inr "star")) (e2_FEWEST_POSTS:h2_FEWEST_POSTS=vQ w (Sum.inr "ring")) (ns_FEWEST_POSTS:(ad_FEWEST_POSTS==sysModules)=false)
  (z_int:nsIn K mainGlobals "int"=some none)
  (z_bool:nsIn K mainGlobals "bool"=some none)
  (z_str:nsIn K mainGlobals "str"=some none)
  (z_list:nsIn K mainGlobals "list"=some none)
  (z_tuple:nsIn K mainGlobals "tuple"=some none)
  (z_dict:nsIn K mainGlobals "dict"=some none)
  (z_set:nsIn K mainGlobals "set"=some none)
  (z_range:nsIn K mainGlobals "range"=some none)
  (z_enumerate:nsIn K mainGlobals "enumerate"=some none)
  (z_zip:nsIn K mainGlobals "zip"=some none)
  (z_reversed:nsIn K mainGlobals "reversed"=some none)
  (z_len:nsIn K mainGlobals "len"=some none)
  (z_abs:nsIn K mainGlobals "abs"=some none)
  (z_max:nsIn K mainGlobals "max"=some none)
  (z_min:nsIn K mainGlobals "min"=some none)
  (z_isinstance:nsIn K mainGlobals "isinstance"=some none)
  (z_sorted:nsIn K mainGlobals "sorted"=some none)
  (z_all:nsIn K mainGlobals "all"=some none)
  (z_any:nsIn K mainGlobals "any"=some none)
  (z_sum:nsIn K mainGlobals "sum"=some none) :
  ∃ fd:FuncData,(∀ (s:Shared) (v:Value),BindsTo s fd ⟨[v],[]⟩ [("_law_script",v)])/\∀ base:Heap,K.In base->base.Ns mainGlobals mg->nY l.prog w K mg base SU 53 fa fd ["_law_script"] (FJ K):=by
 have e:=hfa.symm.trans (mg_of X G a54)
 cases e
 have T:Bl mg:=⟨mg_none_of X G z_int,mg_none_of X G z_bool,mg_none_of X G z_str,mg_none_of X G z_list,mg_none_of X G z_tuple,mg_none_of X G z_dict,mg_none_of X G z_set,mg_none_of X G z_range,mg_none_of X G z_enumerate,mg_none_of X G z_zip,mg_none_of X G z_reversed,mg_none_of X G z_len,mg_none_of X G z_abs,mg_none_of X G z_max,mg_none_of X G z_min,mg_none_of X G z_isinstance,mg_none_of X G z_sorted,mg_none_of X G z_all,mg_none_of X G z_any,mg_none_of X G z_sum⟩
 have W:Jg mg xt x1 x4 x5:=⟨mg_of X G bT,mg_of X G b1,mg_of X G b4,mg_of X G b5,mg_none_of X G zV⟩
 have R1:Gp K xt x1 x4 x5 x1 1:=⟨⟨ga_NoNet,gt_NoNet,ca_NoNet,ob_NoNet,be_NoNet,by rw [ic_NoNet]; rfl⟩,.ve ex_NoNet,ve_NoNet,tt_NoNet,k1_NoNet,k4_NoNet,k5_NoNet⟩
 have R4:Gp K xt x1 x4 x5 x4 4:=⟨⟨ga_TooMany,gt_TooMany,ca_TooMany,ob_TooMany,be_TooMany,by rw [ic_TooMany]; rfl⟩,.ve ex_TooMany,ve_TooMany,tt_TooMany,k1_TooMany,k4_TooMany,k5_TooMany⟩
 have WW:XX K mg xt x1 x4 x5:=⟨W,R1,R4⟩
 have kd_FEWEST_POSTS:CD l.prog w K ad_FEWEST_POSTS [(Sum.inr "row",.int 2),(Sum.inr "star",.int 2),(Sum.inr "ring",.int 3)]:=CD.of3 ld_FEWEST_POSTS e0_FEWEST_POSTS e1_FEWEST_POSTS e2_FEWEST_POSTS ns_FEWEST_POSTS (by decide +kernel)
 have FL:=ZK (st:=oI) l54 c54 k54
 refine ⟨fnOf "law" "law" (gE oI) (eX oI) (aG oI) .none kV54 dc54 pm54 an54 cd54 ct54,fun s v=>.of_eq rfl,fun base _ _=>?_⟩
 have o0s:=BC (P:=l.prog) (w:=w) (base:=base) (k:=0) T (a0.df X G (by w_left)) WW
 have o0b:=oV (P:=l.prog) (w:=w) (base:=base) (k:=0) T (a1.df X G (by w_left)) WW
 have o0g:=uE (k:=1) T (a2.df X G (by w_left)) WW (o0b.mono (by decide)) (o0s.mono (by decide))
 have o1d:=DV (P:=l.prog) (w:=w) (base:=base) (k:=0) T (a3.df X G (by w_left)) WW
 have o1h:=DU (P:=l.prog) (w:=w) (base:=base) (k:=0) T (a4.df X G (by w_left)) WW (mg_of X G gl_LETTERS) (mg_of X G gl_MOST_LETTERS)
 have o1i:=DT (k:=1) T (a5.df X G (by w_left)) WW (mg_of X G gl_MOST_PARTS) (o1h.mono (by decide))
 have o1j:=IG (k:=2) T (a6.df X G (by w_left)) WW (o1d.mono (by decide)) (o0g.mono (by decide)) (o1i.mono (by decide))
 have o1o:=IE (k:=3) T (a7.df X G (by w_left)) WW (mg_of X G gl_MOST_RUNS) (o1j.mono (by decide))
 have o0u:=BE (P:=l.prog) (w:=w) (base:=base) (k:=0) T (a8.df X G (by w_left)) WW
 have o1b:=DW (k:=1) T (a9.df X G (by w_left)) WW (o0u.mono (by decide))
 have o0j:=vM (P:=l.prog) (w:=w) (base:=base) (k:=0) T (a10.df X G (by w_left)) WW
 have o0t:=BA (P:=l.prog) (w:=w) (base:=base) (k:=0) T (a11.df X G (by w_left)) WW
 have d_runs_of:Df K mg "runs_of" kH ["row","pieces"]:=(a12.df X G (by w_left))
 have d_runs_put:Df K mg "runs_put" iU ["row","pieces"]:=(a13.df X G (by w_left))
 have d_runs:Df K mg "_law_runs" tJ ["_law_rows","_law_pieces"]:=(a49.df X G (by w_left))
 have o1g:bD l.prog w K mg base 50 "runs_of" ["row","pieces"] (iS K 23):=by
  have z:∀ dd:Nat,dd<=23->bD l.prog w K mg base (2 * dd+4) "runs_of" ["row","pieces"] (iS K dd):=by
   intro dd
   induction dd with
  |zero=>exact fun _=>uD (dd:=0) (k:=3) T d_runs_of WW (o0x:=MC (k:=2) d_runs_put) (o0j:=o0j.mono (by decide))
  |succ dd ih =>
    intro h
    have h1:=AW (dd:=dd) (k:=2 * dd+4) T d_runs_put WW (o1g:=(ih (by omega)).mono (le_refl _)) (o0t:=o0t.mono (by omega))
    exact uD (dd:=dd+1) (k:=2 * dd+5) T d_runs_of WW (o0x:=h1.mono (by omega)) (o0j:=o0j.mono (by omega))
  exact z 23 (by decide)
 have o1m:=IC (k:=50) T (a14.df X G (by w_left)) WW (mg_of X G gl_MOST_RUNS) (o1o.mono (by decide)) (o1g.mono (by decide)) (o1b.mono (by decide))
 have o0i:=vN (P:=l.prog) (w:=w) (base:=base) (k:=0) T (a15.df X G (by w_left)) WW (mg_of X G gl_FIGURES)
 have o0q:=yB (k:=2) T (a16.df X G (by w_left)) WW (mg_of X G gl_MOST_FIGURES) (o0g.mono (by decide)) (o0i.mono (by decide))
 have o0h:=uC (P:=l.prog) (w:=w) (base:=base) (k:=0) T (a17.df X G (by w_left)) WW
 have o0a:=oU (k:=1) T (a18.df X G (by w_left)) WW (o0h.mono (by decide))
 have o0c:=qJ (P:=l.prog) (w:=w) (base:=base) (k:=0) T (a19.df X G (by w_left)) WW
 have o1a:=AY (k:=2) T (a20.df X G (by w_left)) WW (o1i.mono (by decide)) (o0c.mono (by decide))
 have o1f:=DR (k:=3) T (a21.df X G (by w_left)) WW (o0c.mono (by decide)) (o0q.mono (by decide))
 have o1q:=IA (k:=4) T (a22.df X G (by w_left)) WW (o1f.mono (by decide)) (o1a.mono (by decide)) (o0c.mono (by decide))
 have o0f:=rN (k:=4) T (a23.df X G (by w_left)) WW (mg_of X G gd_FEWEST_POSTS) kd_FEWEST_POSTS (o1a.mono (by decide)) (o1f.mono (by decide)) (o0c.mono (by decide))
 have o1n:=IB (k:=3) T (a24.df X G (by w_left)) WW (o1a.mono (by decide)) (o0c.mono (by decide)) (o1h.mono (by decide))
 have o0e:=rO (k:=5) T (a25.df X G (by w_left)) WW (mg_of X G gd_FEWEST_POSTS) kd_FEWEST_POSTS (o1n.mono (by decide)) (o0c.mono (by decide)) (o0f.mono (by decide)) (o1q.mono (by decide))
 have o0y:=AZ (k:=6) T (a26.df X G (by w_left)) WW (mg_of X G gl_MOST_PARAMS) (o0e.mono (by decide)) (o0c.mono (by decide)) (o1h.mono (by decide))
 have o0m:=vO (P:=l.prog) (w:=w) (base:=base) (k:=0) T (a27.df X G (by w_left)) WW
 have o0v:=BB (P:=l.prog) (w:=w) (base:=base) (k:=0) T (a28.df X G (by w_left)) WW (mg_of X G gl_MOST_ROWS)
 have o0p:=yC (k:=7) T (a29.df X G (by w_left)) WW (o0y.mono (by decide)) (o0m.mono (by decide)) (o0e.mono (by decide)) (o0v.mono (by decide))
 have o0w:=AV (k:=2) T (a30.df X G (by w_left)) WW (o0a.mono (by decide))
 have o0k:=vL (k:=3) T (a31.df X G (by w_left)) WW (o0w.mono (by decide))
 have o1e:=DX (P:=l.prog) (w:=w) (base:=base) (k:=0) T (a32.df X G (by w_left)) WW
 have o1l:=ID (k:=1) T (a33.df X G (by w_left)) WW (o1e.mono (by decide))
 have o1p:=IF (P:=l.prog) (w:=w) (base:=base) (k:=0) T (a34.df X G (by w_left)) WW
 have o1t:=MQ (k:=2) T (a35.df X G (by w_left)) WW (o1l.mono (by decide))
 have o2b:=RE (P:=l.prog) (w:=w) (base:=base) (k:=0) T (a36.df X G (by w_left)) WW
 have o2a:=RB (k:=1) T (a37.df X G (by w_left)) WW (o1p.mono (by decide))
 have o1w:=MO (k:=1) T (a38.df X G (by w_left)) WW (o2b.mono (by decide))
 have o1v:=MP (k:=2) T (a39.df X G (by w_left)) WW (o2a.mono (by decide)) (o1w.mono (by decide))
 have o2d:=YR (k:=3) T (a40.df X G (by w_left)) WW (o1v.mono (by decide)) (o1w.mono (by decide))
 have o1s:=IH (P:=l.prog) (w:=w) (base:=base) (k:=0) T (a41.df X G (by w_left)) WW
 have o0n:=xZ (P:=l.prog) (w:=w) (base:=base) (k:=0) T (a42.df X G (by w_left)) WW
 have o0d:=rM (P:=l.prog) (w:=w) (base:=base) (k:=1) T (a43.df X G (by w_left)) WW (o0n.mono (by decide))
 have o0o:=yA (k:=2) T (a43.df X G (by w_left)) WW (o0d.mono (by decide)) (o0n.mono (by decide))
 have o1z:=RF (k:=4) T (a44.df X G (by w_left)) WW (o1s.mono (by decide)) (o0o.mono (by decide)) (o2d.mono (by decide))
 have o1u:=MR (k:=5) T (a45.df X G (by w_left)) WW (o1s.mono (by decide)) (o1l.mono (by decide)) (o1z.mono (by decide)) (o1t.mono (by decide))
 have o1x:=RC (k:=3) T (a46.df X G (by w_left)) WW (o0o.mono (by decide))
 have o1k:=II (P:=l.prog) (w:=w) (base:=base) (k:=0) T (a47.df X G (by w_left)) WW
 have o0z:=AX (k:=1) T (a48.df X G (by w_left)) WW (o1k.mono (by decide))
 have o1c:=DS (P:=l.prog) (w:=w) (base:=base) (k:=2) T (a49.df X G (by w_left)) WW (o0z.mono (by decide))
 have o2c:=RD (k:=3) T (a49.df X G (by w_left)) WW (o1c.mono (by decide)) (o0z.mono (by decide))
 have o1y:=RA (k:=51) T (a50.df X G (by w_left)) WW (o1m.mono (by decide))
 have o0r:=BD (P:=l.prog) (w:=w) (base:=base) (k:=0) T (a51.df X G (by w_left)) WW
 have o0l:=vK (k:=2) T (a52.df X G (by w_left)) WW (o0r.mono (by decide)) (o0z.mono (by decide)) (o1k.mono (by decide))
 have o1r:=HZ (k:=3) T (a53.df X G (by w_left)) WW (o0l.mono (by decide))
 exact YS (k:=52) T FL WW (o2c.mono (by decide)) (o0p.mono (by decide)) (o1y.mono (by decide)) (o0k.mono (by decide)) (o1r.mono (by decide)) (o1x.mono (by decide)) (o1u.mono (by decide))
theorem walk {l:PySem.W.OpenLaw}{q:Program}{loose:List Str}{XP:(Str->Option Value)->Heap->Prop}{YP:World->Heap->Prop}{d:DefRec}{K:Params->Frag} (hn:l.most=some 63) (hdf:d.params.defaults=[])
  (hY:∀ (w:World) (h:Heap),YP w h->(K w.params).In h)
  (F:∀ (w:World) (mg:Str->Option Value) (fa:Addr) (h:Heap),(K w.params).In h->h.Ns mainGlobals mg->mg d.name=some (.ref fa) ->
   ∃ fd:FuncData,(∀ (s:Shared) (u:Value),BindsTo s fd ⟨[u],[]⟩ [("_law_script",u)])/\∀ base:Heap,(K w.params).In base->base.Ns mainGlobals mg->nY l.prog w (K w.params) mg base SU 53 fa fd ["_law_script"] (FJ (K w.params))) :
  PySem.W.WalkO q loose XP YP l.row.toRowW d [] (fun f vs=>PySem.call f vs):=
 L2.walk_of (n:=63) (k:=53) (x:="_law_script") (CX:=fun _=>SU) (sp:=fun w=>FJ (K w.params)) hn (by decide) hdf ⟨rfl,by decide,by decide⟩ hY F (fun _ _ a ns hl _ hS=>⟨a,ns,rfl,hS,hl,fun _=>rfl⟩) fun _ _ _ _ _ z=>z
open PySem.W in
theorem zwalk {q:Program}{loose:List Str}{XP:(Str->Option Value)->Heap->Prop}{r:RowW}{d:DefRec}{kwd:List (Str×Expr)}{run:Value->List Value->Sem Value}{K:Params->Frag}{as:List Addr}{n t:Nat} (e:∀ P:Params,as=List.map (fun x=>x.fst) (K P))
  (W:WalkO q loose XP (kHook K as e).says r d kwd run):WalkX q loose XP (X.obsZ as) (X.valZ K n t) r d kwd run:=
 fun w s₀ s₁ mg mb G y a o pm cd doc dV kV ho hd hcd hD hmg hg args vals as' L hpre hlay hrd hwl hlo =>
  W w s₀ s₁ mg mb G ((kHook K as e).keeps w s₀.heap s₁.heap ((kHook K as e).of w s₀ (congrArg Prod.fst y)) L.keeps) a o pm cd doc dV kV ho hd hcd hD hmg hg args vals as' hpre hlay hrd hwl hlo
end Lw
local macro_rules | `(tactic| walk_at "df") => `(tactic| (refine' Lw.DA.of ?a ?l ?c ?k; (case a => k_is); (case l => k_is); (case c => k_is); (case k => k_is)))
open PySem PySem.W PyProof.Rows
set_option maxRecDepth 100000 in
set_option maxHeartbeats 0 in
theorem PySem.Challenge.cw_tilefall_k76_whole_from_text_to_net_holds : PySem.Challenge.rw_tilefall_k76_whole_from_text_to_net.Holds := by
  w_on; o_law; z_head; (case hw => w_witness2)
  k_fill
  refine Lw.zwalk (fun _ => rfl) ?_
  refine Lw.walk (l := PySem.Challenge.rw_tilefall_k76_whole_from_text_to_net) rfl rfl (fun w h Y => PySem.W.kIn_of Y) ?F
  case F =>
    intro w mg fa h KX G hmg
    refine' Lw.all_mk KX G hmg ?a0 ?a1 ?a2 ?a3 ?a4 ?a5 ?a6 ?a7 ?a8 ?a9 ?a10 ?a11 ?a12 ?a13 ?a14 ?a15 ?a16 ?a17 ?a18 ?a19 ?a20 ?a21 ?a22 ?a23 ?a24 ?a25 ?a26 ?a27 ?a28 ?a29 ?a30 ?a31 ?a32 ?a33 ?a34 ?a35 ?a36 ?a37 ?a38 ?a39 ?a40 ?a41 ?a42 ?a43 ?a44 ?a45 ?a46 ?a47 ?a48 ?a49 ?a50 ?a51 ?a52 ?a53 ?a54 ?l54 ?c54 ?k54 ?bT ?b1 ?b4 ?b5 ?zV ?ga_NoNet ?gt_NoNet ?ca_NoNet ?ob_NoNet ?be_NoNet ?ic_NoNet ?ex_NoNet ?ve_NoNet ?tt_NoNet ?k1_NoNet ?k4_NoNet ?k5_NoNet ?ga_TooMany ?gt_TooMany ?ca_TooMany ?ob_TooMany ?be_TooMany ?ic_TooMany ?ex_TooMany ?ve_TooMany ?tt_TooMany ?k1_TooMany ?k4_TooMany ?k5_TooMany ?gl_LETTERS ?gl_MOST_LETTERS ?gl_MOST_PARTS ?gl_MOST_RUNS ?gl_FIGURES ?gl_MOST_FIGURES ?gl_MOST_PARAMS ?gl_MOST_ROWS ?gd_FEWEST_POSTS ?ld_FEWEST_POSTS ?e0_FEWEST_POSTS ?e1_FEWEST_POSTS ?e2_FEWEST_POSTS ?ns_FEWEST_POSTS ?z_int ?z_bool ?z_str ?z_list ?z_tuple ?z_dict ?z_set ?z_range ?z_enumerate ?z_zip ?z_reversed ?z_len ?z_abs ?z_max ?z_min ?z_isinstance ?z_sorted ?z_all ?z_any ?z_sum
    (case a0 | a1 | a2 | a3 | a4 | a5 | a6 | a7 | a8 | a9 | a10 | a11 | a12 | a13 | a14 | a15 | a16 | a17 | a18 | a19 | a20 | a21 | a22 | a23 | a24 | a25 | a26 | a27 | a28 | a29 | a30 | a31 | a32 | a33 | a34 | a35 | a36 | a37 | a38 | a39 | a40 | a41 | a42 | a43 | a44 | a45 | a46 | a47 | a48 | a49 | a50 | a51 | a52 | a53 => walk_at "df")
    (case a54|l54|c54|k54|bT|b1|b4|b5|zV|ga_NoNet|gt_NoNet|ca_NoNet|ob_NoNet|be_NoNet|ic_NoNet|ga_TooMany|gt_TooMany|ca_TooMany|ob_TooMany|be_TooMany|ic_TooMany|gl_LETTERS|gl_MOST_LETTERS|gl_MOST_PARTS|gl_MOST_RUNS|gl_FIGURES|gl_MOST_FIGURES|gl_MOST_PARAMS|gl_MOST_ROWS|gd_FEWEST_POSTS|ld_FEWEST_POSTS|z_int|z_bool|z_str|z_list|z_tuple|z_dict|z_set|z_range|z_enumerate|z_zip|z_reversed|z_len|z_abs|z_max|z_min|z_isinstance|z_sorted|z_all|z_any|z_sum => k_is)
    (case ex_NoNet => k_exc)
    (case ve_NoNet => kit_is)
    (case tt_NoNet => kts_exm)
    (case k1_NoNet => kit_is)
    (case k4_NoNet => kit_is)
    (case k5_NoNet => kit_is)
    (case ex_TooMany => k_exc)
    (case ve_TooMany => kit_is)
    (case tt_TooMany => kts_exm)
    (case k1_TooMany => kit_is)
    (case k4_TooMany => kit_is)
    (case k5_TooMany => kit_is)
    (case e0_FEWEST_POSTS => exact rfl); (case e1_FEWEST_POSTS => exact rfl); (case e2_FEWEST_POSTS => exact rfl); (case ns_FEWEST_POSTS => first | exact rfl | k_is)
