import PyProof.Rows.All
import Wide.All
import OpenK.AllK
import Wide.FinOn
import Lean
import PyProof.EqAt
import PyProof.EqKinds
import PyProof.TupleCall
import PySem.Challenge.RW_undercells_k27_by_exchange
set_option Elab.async false
set_option linter.all false
set_option maxRecDepth 100000
set_option maxHeartbeats 4000000
theorem anI{a b:Prop}(h:a)(k:b):a/\b:=⟨h,k⟩
open Array (getElem?_toList length_toList size_map size_zip)
open Bool (and_eq_true false_eq_true)
open PySem.Heap (get?_push_ne get?_push_of_some get?_push_size get?_update_other get?_update_self lt_size size_push size_update)
open Int (emod_lt_of_pos emod_nonneg toNat_natCast)
open List (all_eq_true all_map any_cons any_eq_true append_nil countP_cons drop_eq_getElem_cons filterMap_cons filter_cons filter_map find?_cons find?_eq_none find?_isSome find?_map flatten_cons foldl_append foldl_cons foldl_map forall_mem_cons getD_eq_getElem?_getD getElem?_append_left getElem?_append_right getElem?_drop getElem?_of_mem getElem?_set_ne getElem?_set_self getElem?_toArray getElem_inj getElem_map getElem_mem getElem_range length_append length_cons length_drop length_filter_le length_map length_nil length_range length_set length_take lookup_cons map_append map_congr_left map_cons map_drop map_nil map_set map_take mem_append mem_append_left mem_append_right mem_cons mem_cons_of_mem mem_cons_self mem_filter mem_filterMap mem_map mem_of_getElem? mem_of_mem_drop mem_of_mem_take mem_range mem_singleton nodup_append nodup_cons nodup_nil of_mem_zip pairwise_append pairwise_cons pairwise_iff_getElem pairwise_map pairwise_singleton prefix_append prefix_refl replicate_succ set_append_right size_toArray sum_cons take_add_one take_length take_zero zipIdx_cons)
open Nat (le_of_lt lt_irrefl lt_of_lt_of_le lt_succ_of_lt lt_succ_self lt_trans mul_le_mul_right ne_of_lt not_lt_zero sub_self succ_mul zero_le)
open Option (bind_eq_some_iff bind_some getD_none getD_some isSome_iff_exists isSome_map map_eq_some_iff map_some)
namespace L2
open PySem PySem.Spec PyProof.Rows
noncomputable abbrev Key:=Sum Int Str
noncomputable def sC:Key->Value->Bool
 | .inl k,v=>Value.isInt k v
 | .inr x,v=>Value.isStrOf x v
noncomputable def O1 (w:World):Key->Int
 | .inl k=>hashInt k
 | .inr x=>hashStr w x
theorem cG:∀ {k:Key} {v:Value},sC k v=true->(∃ i t,k=Sum.inl i/\v=Value.int i t)\/(∃ x t,k=Sum.inr x/\v=Value.str x t)
 | .inl i,v,h=>by
  obtain ⟨t,e⟩:=Value.isInt_shape (k:=i) (v:=v) h;exact .inl ⟨i,t,rfl,e⟩
 | .inr x,v,h=>by
  obtain ⟨t,e⟩:=Value.isStrOf_shape (x:=x) (v:=v) h;exact .inr ⟨x,t,rfl,e⟩
theorem BK (i:Int)(t:Tok):sC (.inl i) (.int i t)=true:=by simp [sC,Value.isInt]
theorem Cj (x:Str)(t:Tok):sC (.inr x) (.str x t)=true:=by simp [sC,Value.isStrOf]
theorem Lj (a b:Int):decide ((Sum.inl a:Key)=Sum.inl b)=(a == b):=by
 by_cases e:a=b
 ·subst e;simp
 ·have h:¬ (Sum.inl a:Key)=Sum.inl b:=λ q=>e (Sum.inl.inj q);rw [decide_eq_false h];exact (beq_eq_false_iff_ne.mpr e).symm
theorem Lu (a b:Str):decide ((Sum.inr a:Key)=Sum.inr b)=decide (a=b):=by
 by_cases e:a=b
 ·subst e;simp
 ·have h:¬ (Sum.inr a:Key)=Sum.inr b:=λ q=>e (Sum.inr.inj q);rw [decide_eq_false h,decide_eq_false e]
theorem L4 (a:Int)(b:Str):decide ((Sum.inl a:Key)=Sum.inr b)=false:=decide_eq_false (λ q=>nomatch q)
theorem ME (a:Str)(b:Int):decide ((Sum.inr a:Key)=Sum.inl b)=false:=decide_eq_false (λ q=>nomatch q)
noncomputable def bL (prog:Program)(w:World):PySem.KeyKind prog w Key where
 is:=sC
 hash:=O1 w
 inj:=λ v a b ha hb=>by
  rcases cG ha with ⟨i,t,rfl,rfl⟩ | ⟨x,t,rfl,rfl⟩
  ·rcases cG hb with ⟨j,u,rfl,e⟩ | ⟨y,u,rfl,e⟩
   ·injection e with e1 _;rw [e1]
   ·exact nomatch e
  ·rcases cG hb with ⟨j,u,rfl,e⟩ | ⟨y,u,rfl,e⟩
   ·exact nomatch e
   ·injection e with e1 _;rw [e1]
 byValue:=λ k v h=>by
  rcases cG h with ⟨i,t,rfl,rfl⟩ | ⟨x,t,rfl,rfl⟩ <;> rfl
 pyHash:=λ hv h=>by
  rcases cG hv with ⟨i,t,rfl,rfl⟩ | ⟨x,t,rfl,rfl⟩
  ·exact wpAny_pyHash_int h
  ·exact wpAny_pyHash_str h
 eqBool:=λ hu hv h=>by
  rcases cG hu with ⟨i,t,rfl,rfl⟩ | ⟨x,t,rfl,rfl⟩
  ·rcases cG hv with ⟨j,u,rfl,rfl⟩ | ⟨y,u,rfl,rfl⟩
   ·rw [Lj] at h;exact wpAny_eqBool_int h
   ·rw [L4] at h;exact SeqAt.EqAt.int_str i t y u _ _ _ _ h
  ·rcases cG hv with ⟨j,u,rfl,rfl⟩ | ⟨y,u,rfl,rfl⟩
   ·rw [ME] at h;exact SeqAt.EqAt.str_int x t j u _ _ _ _ h
   ·rw [Lu] at h;exact wpAny_eqBool_str h
 «strs»:=λ k x t v h=>by
  rcases cG h with ⟨i,u,rfl,e⟩ | ⟨y,u,rfl,e⟩
  ·exact nomatch e
  ·injection e with e1 _
   subst e1
   cases v <;> rfl
theorem vO (prog:Program)(w:World)(i:Int)(t:Tok):(bL prog w).is (.inl i) (.int i t)=true:=BK i t
theorem wz (prog:Program)(w:World)(x:Str)(t:Tok):(bL prog w).is (.inr x) (.str x t)=true:=Cj x t
inductive V where
 | non | bl (b:Bool) | int (i:Int) | str (x:Str) | byt (b:Array UInt8) | flt (b:UInt64) | ref (a:Addr) | ty (n:String)
 deriving DecidableEq
noncomputable def RelV:V->Value->Prop
 | .non,u=>u=Value.none
 | .bl b,u=>u=Value.bool b
 | .int i,u=>∃ t,u=Value.int i t
 | .str x,u=>∃ t,u=Value.str x t
 | .byt b,u=>∃ t,u=Value.bytes b t
 | .flt b,u=>∃ t,u=Value.float b t
 | .ref a,u=>u=Value.ref a
 | .ty n,u=>u=Value.type n
noncomputable abbrev Vals:List V->List Value->Prop:=Paired RelV
theorem Vals.length {xs:List V}{us:List Value}(r:Vals xs us):xs.length=us.length:=Paired.length r
theorem Vals.get:∀ {xs:List V} {us:List Value} {i:Nat} {x:V},Vals xs us->xs[i]?=some x->∃ u,us[i]?=some u/\RelV x u
 | _,_,_,_,.nil,e=>by simp at e
 | _,_,0,_,.cons r _,e=>by simp at e;subst e;exact ⟨_,rfl,r⟩
 | _,_,i+1,x,.cons _ t,e=>by
  obtain ⟨u,h1,h2⟩:=Vals.get (i:=i) (x:=x) t (by simpa using e);exact ⟨u,by simpa using h1,h2⟩
theorem Vals.set {x:V}{u:Value}(r:RelV x u):∀ {xs:List V} {us:List Value} (i:Nat),Vals xs us->Vals (xs.set i x) (us.set i u)
 | _,_,_,.nil=>.nil
 | _,_,0,.cons _ t=>.cons r t
 | _,_,i+1,.cons q t=>.cons q (Vals.set r i t)
theorem Vals.append:∀ {xs ys:List V} {us ws:List Value},Vals xs us->Vals ys ws->Vals (xs++ys) (us++ws)
 | _,_,_,_,.nil,s=>s
 | _,_,_,_,.cons r t,s=>.cons r (Vals.append t s)
theorem Vals.take:∀ {xs:List V} {us:List Value} (n:Nat),Vals xs us->Vals (xs.take n) (us.take n)
 | _,_,0,_=>.nil
 | _,_,_+1,.nil=>.nil
 | _,_,n+1,.cons r t=>.cons r (Vals.take n t)
theorem Vals.drop:∀ {xs:List V} {us:List Value} (n:Nat),Vals xs us->Vals (xs.drop n) (us.drop n)
 | _,_,0,r=>r
 | _,_,_+1,.nil=>.nil
 | _,_,n+1,.cons _ t=>Vals.drop n t
noncomputable def nj:Option V->Option Value->Prop
 | some v,some u=>RelV v u
 | none,none=>True
 | _,_=>False
noncomputable def KV {κ:Type}:List (κ×V)->List (κ×Value)->Prop:=Paired λ (p:κ×V) (q:κ×Value)=>p.1=q.1/\RelV p.2 q.2
noncomputable def kV:Key->V
 | .inl i=>.int i
 | .inr x=>.str x
inductive HO where
 | lst (xs:List V)
 | tup (xs:List V)
 | dK (kvs:List (Key×V)) | dT (kvs:List (List Key×V))
 | set (S:Int->Bool) (n:Nat)
 | ins (C dx:Addr) (fs:List (Str×V))
 | own (x:Addr)
 | xd (fs:List (Str×V))
 | met (f x:Addr)
 | rng (lo hi:Int)
 | frz (o:Obj) (u:HO)
 | tbl (ps:Array Value)
 | ext (φ:Heap->Prop)
noncomputable abbrev Hp:=Addr->Option HO
noncomputable def upd (H:Hp)(a:Addr)(o:HO):Hp:=λ b=>if b=a then some o else H b
theorem bM {H:Hp}{a:Addr}{o:HO}:upd H a o a=some o:=by unfold upd;rw [if_pos rfl]
theorem aL {H:Hp}{a b:Addr}{o:HO}(h:b≠a):upd H a o b=H b:=by unfold upd;rw [if_neg h]
theorem N2 {H:Hp}{a b:Addr}{o u:HO}(h:H a=some o)(h':H b=some u)(d:o≠u):a≠b:=by
 intro e;subst e;rw [h] at h';exact d (Option.some.inj h')
theorem a_ {H:Hp}{a b:Addr}{o:HO}(h:H a=some o)(h':H b=none):a≠b:=by
 intro e;subst e;rw [h] at h';cases h'
noncomputable def f_ (h:Heap)(a:Addr)(items:Array Value):Prop:=∃ o,h.get? a=some o/\o.cls=.type "tuple" /\ o.dict=none/\∃ n,o.data=.seq items n
theorem f_.tup {h:Heap}{a:Addr}{items:Array Value}:f_ h a items->IsTup h a items:=λ ⟨o,e,c,_,n,d⟩=>⟨o,e,c,n,d⟩
theorem f_.new (h:Heap)(items:Array Value):f_ (h.push { cls:=.type "tuple",data:=.seq items }) h.objs.size items:=⟨_,get?_push_size _ rfl,rfl,rfl,_,rfl⟩
theorem f_.lt {h:Heap}{a:Addr}{items:Array Value}(x:f_ h a items):a < h.objs.size:=let ⟨_,ho,_⟩:=x;lt_size ho
section
variable (P:Program) (w:World)
noncomputable def cu (H:Hp)(h:Heap)(a:Addr):HO->Prop
 | .lst xs=>xs.length<=sizeLine/\∃ (its:List Value) (n:Nat),Vals xs its/\h.get? a=some { cls:=.type "list",data:=.seq its.toArray n }
 | .tup xs=>xs.length<=sizeLine/\∃ its:List Value,Vals xs its/\f_ h a its.toArray
 | .dK kvs=>kvs.length<=sizeLine/\(a == sysModules)=false/\∃ vs,KV kvs vs/\h.DictOf (bL P w) a vs
 | .dT kvs=>kvs.length<=sizeLine/\(a == sysModules)=false/\∃ xs:List (List Key×Addr×Value),
   Paired (λ (p:List Key×V) (q:List Key×Addr×Value)=>p.1=q.1/\H q.2.1=some (.tup (p.1.map kV))/\RelV p.2 q.2.2) kvs xs /\
   ∃ o es ep,h.get? a=some o/\o.ExactDict/\o.data=.dict es ep/\es.toList=xs.map (entryOfKey (tupleKind (bL P w)))/\(xs.map (·.1)).Nodup
 | .set S n=>h.SetOf (intKind P w) a S n
 | .ins C dx fs=>H dx=some (.own a)/\fs.length<=1000/\dx≠a/\h.get? a=some (PySem.W.instObj C dx) /\
   ∃ mA,h.Ns1 dx mA/\(∀ f,nj (fs.lookup f) (mA f))/\PySem.Within mA (fs.map (·.1))
 | .own _=>∃ o,h.get? a=some o
 | .xd fs=>∃ mA,h.Ns1 a mA/\∀ f,nj (fs.lookup f) (mA f)
 | .rng lo hi=>∃ t u v,h.get? a=some { cls:=.type "range",data:=.fields #[.int lo t,.int hi u,.int 1 v] }
 | .frz o u=>h.get? a=some o/\cu H h a u
 | .tbl ps=>h.get? a=some { cls:=.none,data:=.fields ps }
 | .met f x=>h.get? a=some (PySem.W.methodObj (.ref f) (.ref x))
 | .ext φ=>φ h/\(∃ o,h.get? a=some o)/\∀ h1 h2:Heap,φ h1->(∀ o,h1.get? a=some o->h2.get? a=some o)->φ h2
noncomputable def kO (H:Hp)(h:Heap):Prop:=∀ a o,H a=some o->cu P w H h a o
end
section
variable {P:Program} {w:World} {H H':Hp} {h h':Heap} {a:Addr} {o:HO}
theorem cu.lt (x:cu P w H h a o):a < h.objs.size:=by
 cases o with
 | lst xs=>obtain ⟨_,_,_,_,e⟩:=x;exact lt_size e
 | tup xs=>obtain ⟨_,_,_,p⟩:=x;exact f_.lt p
 | dK kvs=>obtain ⟨_,_,_,_,o,_,_,e,_⟩:=x;exact lt_size e
 | dT kvs=>obtain ⟨_,_,_,_,o,_,_,e,_⟩:=x;exact lt_size e
 | set S n=>obtain ⟨o,_,_,_,e,_⟩:=x;exact lt_size e
 | ins C dx fs=>obtain ⟨_,_,_,e,_⟩:=x;exact lt_size e
 | own y=>obtain ⟨_,e⟩:=x;exact lt_size e
 | xd fs=>obtain ⟨_,⟨_,_,_,e,_⟩,_⟩:=x;exact lt_size e
 | rng lo hi=>obtain ⟨_,_,_,e⟩:=x;exact lt_size e
 | frz ob u=>obtain ⟨e,_⟩:=x;exact lt_size e
 | tbl ps=>exact lt_size (show h.get? a=some _ from x)
 | met f y=>exact lt_size (show h.get? a=some _ from x)
 | ext φ=>obtain ⟨_,⟨_,e⟩,_⟩:=x;exact lt_size e
theorem Paired.K1 {α β:Type}{F G:α->β->Prop}:∀ {l₁:List α} {l₂:List β},Paired F l₁ l₂->(∀ a b,F a b->G a b)->Paired G l₁ l₂
 | _,_,.nil,_=>.nil
 | _,_,.cons r t,f=>.cons (f _ _ r) (Paired.K1 t f)
theorem cu.stay (x:cu P w H h a o)(k:∀ b u,(b=a\/H b=some (.own a))->h.get? b=some u->h'.get? b=some u)
  (ho:∀ b,H b=some (.own a)->H' b=some (.own a)) (ht:∀ b xs,H b=some (.tup xs)->H' b=some (.tup xs)):cu P w H' h' a o:=by
 induction o with
 | lst xs=>obtain ⟨z,its,n,r,e⟩:=x;exact ⟨z,its,n,r,k _ _ (.inl rfl) e⟩
 | tup xs=>obtain ⟨z,its,r,ob,e,c⟩:=x;exact ⟨z,its,r,ob,k _ _ (.inl rfl) e,c⟩
 | dK kvs=>obtain ⟨z,y,vs,r,ob,es,ep,e,c⟩:=x;exact ⟨z,y,vs,r,ob,es,ep,k _ _ (.inl rfl) e,c⟩
 | dT kvs=>
  obtain ⟨z,y,xs,r,ob,es,ep,e,c⟩:=x;exact ⟨z,y,xs,Paired.K1 r λ p q z=>⟨z.1,ht _ _ z.2.1,z.2.2⟩,ob,es,ep,k _ _ (.inl rfl) e,c⟩
 | set S n=>obtain ⟨ob,es,ep,t,e,c⟩:=x;exact ⟨ob,es,ep,t,k _ _ (.inl rfl) e,c⟩
 | ins C dx fs=>
  obtain ⟨d,z,ne,e,mA,⟨od,es,ep,e2,c⟩,r⟩:=x;exact ⟨ho _ d,z,ne,k _ _ (.inl rfl) e,mA,⟨od,es,ep,k _ _ (.inr d) e2,c⟩,r⟩
 | own y=>obtain ⟨ob,e⟩:=x;exact ⟨ob,k _ _ (.inl rfl) e⟩
 | xd fs=>obtain ⟨mA,⟨od,es,ep,e,c⟩,r⟩:=x;exact ⟨mA,⟨od,es,ep,k _ _ (.inl rfl) e,c⟩,r⟩
 | rng lo hi=>obtain ⟨t,u,v,e⟩:=x;exact ⟨t,u,v,k _ _ (.inl rfl) e⟩
 | frz ob u ih=>obtain ⟨e,q⟩:=x;exact ⟨k _ _ (.inl rfl) e,ih q⟩
 | tbl ps=>
  have e:h.get? a=some { cls:=.none,data:=.fields ps }:=x;show h'.get? a=some { cls:=.none,data:=.fields ps };exact k a _ (.inl rfl) e
 | met f y=>
  have e:h.get? a=some (PySem.W.methodObj (.ref f) (.ref y)):=x;show h'.get? a=some (PySem.W.methodObj (.ref f) (.ref y));exact k a _ (.inl rfl) e
 | ext φ=>obtain ⟨p,⟨o,e⟩,st⟩:=x;exact ⟨st _ _ p λ o q=>k _ _ (.inl rfl) q,⟨o,k _ _ (.inl rfl) e⟩,st⟩
theorem kO.lt (x:kO P w H h)(e:H a=some o):a < h.objs.size:=(x a o e).lt
theorem kO.fresh (x:kO P w H h)(e:h.objs.size<=a):H a=none:=by
 cases q:H a with
 | none=>rfl
 | some u=>exact absurd (lt_of_lt_of_le (x.lt q) e) (lt_irrefl _)
theorem kO.kept (x:kO P w H h)(k:∀ b u,h.get? b=some u->h'.get? b=some u):kO P w H h':=λ a o e=>
 (x a o e).stay (λ b u _ q=>k b u q) (λ _ q=>q) λ _ _ q=>q
theorem kO.laid (x:kO P w H h)(k:∀ b u,h.get? b=some u->h'.get? b=some u)(hp:h.objs.size<=a)(new:cu P w (upd H a o) h' a o):kO P w (upd H a o) h':=λ b u e=>by
 have hn:=x.fresh hp;by_cases hb:b=a
 ·subst hb;rw [bM] at e;cases e;exact new
 ·rw [aL hb] at e;exact (x b u e).stay (λ c v _ q=>k c v q) (λ c q=>by rw [aL (a_ q hn)];exact q) λ c xs q=>by rw [aL (a_ q hn)];exact q
end
noncomputable def Rd (H:Hp)(a:Addr)(u:HO):Prop:=H a=some u\/∃ o,H a=some (.frz o u)
theorem Rd.ok {P:Program}{w:World}{H:Hp}{h:Heap}{a:Addr}{u:HO}(r:Rd H a u)(x:kO P w H h):cu P w H h a u:=by
 rcases r with r | ⟨o,r⟩
 ·exact x a u r
 ·obtain ⟨_,q⟩:=x a _ r;exact q
noncomputable def Nu:Option HO->Prop
 | some (.lst _)=>True
 | some (.dK _)=>True
 | some (.dT _)=>True
 | some (.set _ _)=>True
 | some (.ins _ _ _)=>True
 | some (.ext _)=>True
 | _=>False
section
variable {P:Program} {w:World} {H:Hp} {h h':Heap} {x e:Addr} {o':HO}
theorem kO.write (ok:kO P w H h)(mu:Nu (H x))(he:e=x\/H e=some (.own x))(k:∀ b u,b≠e->h.get? b=some u->h'.get? b=some u)(heo:∃ u,h'.get? e=some u)
  (new:cu P w (upd H x o') h' x o'):kO P w (upd H x o') h':=λ b u q=>by
 have nown:∀ c y,H c=some (.own y)->c≠x:=λ c y r z=>by subst z;rw [r] at mu;exact mu
 have ntup:∀ c xs,H c=some (.tup xs)->c≠x:=λ c xs r z=>by subst z;rw [r] at mu;exact mu
 by_cases hb:b=x
 ·subst hb;rw [bM] at q;cases q;exact new
 ·rw [aL hb] at q;by_cases hbe:b=e
  ·have q':H b=some (.own x):=by
    rcases he with z | z
    ·exact absurd (hbe.trans z) hb
    ·rw [hbe];exact z
   rw [q] at q';cases q';obtain ⟨v,hv⟩:=heo;exact ⟨v,by rw [hbe];exact hv⟩
  ·refine (ok b u q).stay (λ c v hc r=>k c v ?_ r) (λ c r=>by rw [aL (nown c b r)];exact r) λ c xs r=>by rw [aL (ntup c xs r)];exact r
   rcases hc with rfl | hc
   ·exact hbe
   ·rintro rfl
    rcases he with z | z
    ·exact nown c b hc z
    ·rw [hc] at z;cases z;exact hb rfl
end
structure Un (fs ex:List Addr)(H H':Hp)(h h':Heap):Prop where
 keep:∀ b o,h.get? b=some o->H b=none->b∉fs->b∉ex->h'.get? b=some o
 slot:∀ b o,h.get? b=some o->H b=none->b∈fs->b∉ex->∃ sl,h'.get? b=some { o with slots:=sl }
 free:∀ b o,h.get? b=some o->H b=none->b∉ex->H' b=none
 there:∀ b o,h.get? b=some o->b∉ex->∃ o',h'.get? b=some o'
 tups:∀ b xs,H b=some (.tup xs)->H' b=some (.tup xs)
 frzs:∀ b o u,H b=some (.frz o u)->H' b=some (.frz o u)
 tbls:∀ b ps,H b=some (.tbl ps)->∃ more,H' b=some (.tbl (ps++more))
section
variable {fs fs' ex ex':List Addr} {H H1 H2:Hp} {h h1 h2 h':Heap} {a x e:Addr} {o:HO}
theorem Un.any (u:Un fs ex H H1 h h1){b:Addr}{ob:Obj}(q:h.get? b=some ob)(n:H b=none)(hx:b∉ex):∃ sl,h1.get? b=some { ob with slots:=sl }:=by
 by_cases hb:b∈fs
 ·exact u.slot b ob q n hb hx
 ·exact ⟨ob.slots,u.keep b ob q n hb hx⟩
theorem Un.kept (k:∀ b u,h.get? b=some u->h'.get? b=some u):Un fs ex H H h h':=
 ⟨λ b ob q _ _ _=>k b ob q,λ b ob q _ _ _=>⟨ob.slots,k b ob q⟩,λ _ _ _ n _=>n,λ b ob q _=>⟨ob,k b ob q⟩,λ _ _ q=>q,λ _ _ _ q=>q,λ _ ps q=>⟨#[],by rw [q];simp⟩⟩
theorem Un.refl:Un fs ex H H h h:=Un.kept λ _ _ q=>q
theorem Un.laid (k:∀ b u,h.get? b=some u->h'.get? b=some u)(hp:h.objs.size<=a)(hn:H a=none):Un fs ex H (upd H a o) h h' where
 keep:=λ b u q _ _ _=>k b u q
 slot:=λ b u q _ _ _=>⟨u.slots,k b u q⟩
 free:=λ b u q n _=>by rw [aL (ne_of_lt (lt_of_lt_of_le (lt_size q) hp))];exact n
 there:=λ b u q _=>⟨u,k b u q⟩
 tups:=λ b xs q=>by rw [aL (a_ q hn)];exact q
 frzs:=λ b u xs q=>by rw [aL (a_ q hn)];exact q
 tbls:=λ b ps q=>⟨#[],by rw [aL (a_ q hn),q];simp⟩
theorem Un.write (mu:Nu (H x))(he:e=x\/H e=some (.own x))(k:∀ b u,b≠e->h.get? b=some u->h'.get? b=some u)(heo:∃ u,h'.get? e=some u):Un fs ex H (upd H x o) h h':=by
 have hx:∀ b,H b=none->b≠x:=λ b n z=>by subst z;rw [n] at mu;exact mu
 have hb:∀ b,H b=none->b≠e:=λ b n z=>by
  subst z
  rcases he with r | r
  ·exact hx b n r
  ·rw [n] at r;cases r
 have hm:∀ b u,H b=some u->¬ Nu (some u)->b≠x:=λ b u q nm z=>by subst z;rw [q] at mu;exact nm mu
 refine ⟨λ b u q n _ _=>k b u (hb b n) q,λ b u q n _ _=>⟨u.slots,k b u (hb b n) q⟩,λ b u q n _=>by rw [aL (hx b n)];exact n,λ b u q _=>?_,
  λ b xs q=>by rw [aL (hm b _ q λ z=>z)];exact q,λ b u xs q=>by rw [aL (hm b _ q λ z=>z)];exact q,λ b ps q=>⟨#[],by rw [aL (hm b _ q λ z=>z),q];simp⟩⟩
 by_cases hbe:b=e
 ·subst hbe;exact heo
 ·exact ⟨u,k b u hbe q⟩
end
noncomputable def OP (h:Heap)(H:Hp):List Addr:=(List.range h.objs.size).filter λ a=>(H a).isSome
noncomputable def sW (h:Heap)(H:Hp):Heap:=PySem.W.hideAll h (OP h H)
theorem Ce (h:Heap)(H:Hp):(sW h H).objs.size=h.objs.size:=PySem.W.hideAll_size _ _
theorem DR {h:Heap}{H:Hp}{b:Addr}{o:Obj}(e:h.get? b=some o)(n:H b=none):(sW h H).get? b=some o:=
 PySem.W.hideAll_get _ e λ hm=>by
  have q:(H b).isSome=true:=(mem_filter.mp hm).2;rw [n] at q;simp at q
theorem HR {h:Heap}{H:Hp}{b:Addr}{o:Obj}(e:(sW h H).get? b=some o):h.get? b=some o/\H b=none:=by
 have e':h.get? b=some o:=PySem.W.of_hideAll (OP h H) e;refine ⟨e',?_⟩
 cases q:H b with
 | none=>rfl
 | some x=>
  have hm:b∈OP h H:=mem_filter.mpr ⟨mem_range.mpr (lt_size e'),by simp [q]⟩;have z:(sW h H).get? b=none:=PySem.W.hideAll_none (OP h H) hm;rw [z] at e;cases e
noncomputable def Jt (g h:Heap)(L:Addr):List (Addr×Obj):=(List.range h.objs.size).filterMap λ a=>if a=L\/(g.get? a).isSome=true then none else (h.get? a).map λ o=>(a,o)
noncomputable def rest (g h:Heap)(L d:Addr):List (Addr×Obj):=(Jt g h L).filter λ p=>decide (p.1≠d)
structure Mod (K:PySem.W.Frag)(mg:Str->Option Value)(base:Heap):Prop where
 kin:K.In base
 glob:base.Ns mainGlobals mg
 blt:∃ mb,base.Ns builtinsNs mb/\∀ x:Str,x ≠ "__name__" -> mb x=bootBuiltins x
 nolimit:base.NoLimit
structure Cx where
 prog:Program
 w:World
 K:PySem.W.Frag
 mg:Str->Option Value
 base:Heap
 A:Around
 N:List Str
 s₀:Shared
 H₀:Hp
 env:Env
 outer:List Env
 stack:List Env
 ex:List Addr
 fn:Str->Bool
 calm:Bool
 pn:List (Addr×Obj)
 xe:Value->Shared->Prop
noncomputable def frs (l:List Env):List Addr:=l.filterMap (·.frame)
noncomputable abbrev Cx.fs (X:Cx):List Addr:=frs X.outer
noncomputable def Oq (sc:Scope)(x:Str):Prop:=sc.names.lookup x=some .local\/sc.names.lookup x=some .cell\/sc.names.lookup x=some .free
noncomputable def Loc (sc:Scope)(x:Str):Prop:=sc.names.lookup x=some .local\/sc.names.lookup x=some .cell
noncomputable def Look (env:Env)(h:Heap)(m:Str->Option Value)(x:Str)(u:Value):Prop:=
 (env.kindOf x=some .local/\m x=some u)\/((env.kindOf x=some .cell\/env.kindOf x=some .free)/\∃ c,env.cells.lookup x=some c/\h.IsCell c (some u))
structure Cx.Ok (X:Cx):Prop where
 mod:Mod X.K X.mg X.base
 kind:X.env.scope.kind=.function
 glob:X.env.globals=mainGlobals
 blt:X.env.builtins=builtinsNs
 above:X.s₀.heap.objs.size<=X.env.locals
 inj:∀ x y c,X.env.cells.lookup x=some c->X.env.cells.lookup y=some c->x=y
 has:∀ x,(X.env.kindOf x=some .cell\/X.env.kindOf x=some .free)->∃ c,X.env.cells.lookup x=some c
 cab:∀ x c,X.fn x=true->X.env.cells.lookup x=some c->X.s₀.heap.objs.size<=c
 hd:X.calm=true->X.A.handled=none
 frames:X.A.frames=some X.stack
 stk:X.stack=X.outer\/(X.stack=X.env::X.outer/\X.env.frame=some X.env.locals)
 exf:∀ b∈X.ex,b≠X.env.locals/\∀ x c,X.env.cells.lookup x=some c->c≠b
 bs:∀ b o,X.base.get? b=some o->X.s₀.heap.get? b=some o/\X.H₀ b=none
 bsz:X.base.objs.size<=X.s₀.heap.objs.size
 noex:∀ b o,X.base.get? b=some o->b∉X.ex
 exfs:∀ b∈X.ex,b∉X.fs
 jh:X.s₀.heap.FunFrames X.base X.outer
 frf:∀ b∈X.fs,X.H₀ b=none
structure Inv (X:Cx)(pins:List (Addr×Obj))(σ:List (Option V))(H:Hp)(s:Shared):Prop where
 ok:X.Ok
 os:s.os=X.s₀.os
 bare:AllBare s.gens
 base:Un X.fs X.ex X.H₀ H X.s₀.heap s.heap
 loc:∃ m,s.heap.Ns X.env.locals m/\∀ (i:Nat) (x:Str) (v:V),X.N[i]?=some x->σ[i]?=some (some v)->Oq X.env.scope x->∃ u,RelV v u/\Look X.env s.heap m x u
 cell:∀ x c,X.env.cells.lookup x=some c->∃ v,s.heap.IsCell c v
 free:H X.env.locals=none
 freeC:∀ x c,X.env.cells.lookup x=some c->H c=none
 pin:∀ p∈X.pn++pins,s.heap.get? p.1=some p.2/\H p.1=none/\p.1≠X.env.locals/\p.1∉X.fs/\∀ v,p.2.data≠.cell v
 hok:kO X.prog X.w H s.heap
 len:σ.length=X.N.length
section
variable {X:Cx} {pins:List (Addr×Obj)} {σ:List (Option V)} {H H':Hp} {s:Shared} {h':Heap}
theorem Cx.Ok.Pp (ok:X.Ok){b:Addr}{o:Obj}(e:X.base.get? b=some o):b∉X.fs:=λ hb=>by
 have:=(ok.jh.mem hb).1;rw [e] at this;cases this
theorem Inv.bs (I:Inv X pins σ H s):∀ b o,X.base.get? b=some o->s.heap.get? b=some o/\H b=none:=λ b o e=>
 ⟨I.base.keep b o (I.ok.bs b o e).1 (I.ok.bs b o e).2 (I.ok.Pp e) (I.ok.noex b o e),I.base.free b o (I.ok.bs b o e).1 (I.ok.bs b o e).2 (I.ok.noex b o e)⟩
theorem Inv.bk (I:Inv X pins σ H s):∀ b o,X.base.get? b=some o->s.heap.get? b=some o:=λ b o e=>(I.bs b o e).1
theorem Inv.mod (I:Inv X pins σ H s):Mod X.K X.mg X.base:=I.ok.mod
theorem Inv.qP (I:Inv X pins σ H s):X.K.In s.heap:=I.ok.mod.kin.keeps I.bk
theorem Inv.lt (I:Inv X pins σ H s):X.env.locals < s.heap.objs.size:=let ⟨_,hn,_⟩:=I.loc;hn.lt
theorem Inv.sz (I:Inv X pins σ H s):X.s₀.heap.objs.size<=s.heap.objs.size:=Nat.le_trans I.ok.above (le_of_lt I.lt)
theorem Inv.PM (I:Inv X pins σ H s){a:Addr}(h:s.heap.objs.size<=a):a∉X.fs:=λ hb=>by
 obtain ⟨_,o,ho,_⟩:=I.ok.jh.mem hb;exact absurd (lt_of_lt_of_le (lt_size ho) (Nat.le_trans I.sz h)) (lt_irrefl _)
theorem Inv.IL (I:Inv X pins σ H s):∀ x c,X.env.cells.lookup x=some c->c≠X.env.locals:=λ x c e z=>by
 obtain ⟨v,o,ho,hd⟩:=I.cell x c e;obtain ⟨m,⟨o',es,ep,ho',hd',_⟩,_⟩:=I.loc;rw [z,ho'] at ho;cases ho;rw [hd'] at hd;cases hd
theorem Inv.jh (I:Inv X pins σ H s):s.heap.FunFrames X.base X.outer:=by
 have all:∀ (l:List Env),(∀ b∈frs l,b∈X.fs)->X.s₀.heap.FunFrames X.base l->s.heap.FunFrames X.base l:=by
  intro l
  induction l with
  | nil=>intro _ _;trivial
  | cons env r ih=>
   intro hs hl;obtain ⟨hk,⟨L,o,hf,hn,ho,hd⟩,hr⟩:=hl;have hL:L∈X.fs:=hs L (by unfold frs;rw [filterMap_cons,hf];exact mem_cons_self);obtain ⟨sl,e⟩:=I.base.slot L o ho (I.ok.frf L hL) hL λ z=>I.ok.exfs L z hL;exact ⟨hk,⟨L,_,hf,hn,e,hd⟩,ih (λ b hb=>hs b (by unfold frs;rw [filterMap_cons,hf];exact mem_cons_of_mem _ hb)) hr⟩
 exact all X.outer (λ _ hb=>hb) I.ok.jh
theorem Inv.stack (I:Inv X pins σ H s):s.heap.FunFrames X.base X.stack:=by
 rcases I.ok.stk with e | ⟨e,hf⟩
 ·rw [e];exact I.jh
 ·rw [e];obtain ⟨m,hn,_⟩:=I.loc;refine .cons (by rw [I.ok.kind];decide) hf hn ?_ I.jh;exact Heap.get?_none_of_le (Nat.le_trans I.ok.bsz I.ok.above)
theorem Inv.qj (I:Inv X pins σ H s):∀ b∈frs X.stack,b∈X.env.locals::X.fs:=λ b hb=>by
 rcases I.ok.stk with e | ⟨e,hf⟩
 ·rw [e] at hb;exact mem_cons_of_mem _ hb
 ·rw [e] at hb;unfold frs at hb;rw [filterMap_cons,hf] at hb;exact hb
theorem Inv.pB (I:Inv X pins σ H s):∀ b∈frs X.stack,H b=none:=λ b hb=>by
 rcases mem_cons.mp (I.qj b hb) with e | hb
 ·rw [e];exact I.free
 ·obtain ⟨_,o,ho,_⟩:=I.ok.jh.mem hb;exact I.base.free b o ho (I.ok.frf b hb) λ z=>I.ok.exfs b z hb
theorem Inv.step {g':Array GenState}{t':Nat}{d':Drawn}{ch:List Addr}(I:Inv X pins σ H s)
  (hch:∀ b∈ch,(b∈X.ex\/X.s₀.heap.objs.size<=b)/\b≠X.env.locals/\(∀ x c,X.env.cells.lookup x=some c->c≠b)/\∀ p∈X.pn++pins,p.1≠b)
  (keep:∀ b o,b≠X.env.locals->b∉X.fs->b∉ch->s.heap.get? b=some o->H b=none->h'.get? b=some o)
  (slot:∀ b o,b≠X.env.locals->b∈X.fs->b∉ch->s.heap.get? b=some o->H b=none->∃ sl,h'.get? b=some { o with slots:=sl }) (free:∀ b o,b∉ch->s.heap.get? b=some o->H b=none->H' b=none)
  (there:∀ b o,b∉ch->s.heap.get? b=some o->∃ o',h'.get? b=some o')
  (tups:∀ b xs,H b=some (.tup xs)->H' b=some (.tup xs)) (frzs:∀ b o u,H b=some (.frz o u)->H' b=some (.frz o u)) (tbls:∀ b ps,H b=some (.tbl ps)->∃ more,H' b=some (.tbl (ps++more)))
  (ns:∀ m,s.heap.Ns X.env.locals m->h'.Ns X.env.locals m) (hok:kO X.prog X.w H' h') (hg:AllBare g') :
  Inv X pins σ H' { s with heap:=h',gens:=g',drawn:=d',toks:=t' }:=by
 have neL:∀ b o,X.s₀.heap.get? b=some o->b≠X.env.locals:=λ b o e=>ne_of_lt (lt_of_lt_of_le (lt_size e) I.ok.above);have neC:∀ b o,X.s₀.heap.get? b=some o->b∉X.ex->b∉ch:=λ b o e hx hb=>by
  rcases (hch b hb).1 with z | z
  ·exact hx z
  ·exact absurd (lt_of_lt_of_le (lt_size e) z) (lt_irrefl _)
 have cellK:∀ x c,X.env.cells.lookup x=some c->∀ v,s.heap.IsCell c v->h'.IsCell c v:=λ x c e v ⟨o,ho,hd⟩=>by
  have nch:c∉ch:=λ z=>(hch c z).2.2.1 x c e rfl;by_cases hc:c∈X.fs
  ·obtain ⟨sl,q⟩:=slot c o (I.IL x c e) hc nch ho (I.freeC x c e);exact ⟨_,q,hd⟩
  ·exact ⟨o,keep c o (I.IL x c e) hc nch ho (I.freeC x c e),hd⟩
 refine ⟨I.ok,I.os,hg,⟨λ b o e n hb hx=>?_,λ b o e n hb hx=>?_,λ b o e n hx=>?_,λ b o e hx=>?_,λ b xs e=>tups b xs (I.base.tups b xs e),λ b o xs e=>frzs b o xs (I.base.frzs b o xs e),λ b ps e=>?_⟩,?_,λ x c e=>?_,?_,λ x c e=>?_,λ p hp=>?_,hok,I.len⟩
 ·exact keep b o (neL b o e) hb (neC b o e hx) (I.base.keep b o e n hb hx) (I.base.free b o e n hx)
 ·obtain ⟨sl,e1⟩:=I.base.slot b o e n hb hx;obtain ⟨sl',e2⟩:=slot b _ (neL b o e) hb (neC b o e hx) e1 (I.base.free b o e n hx);exact ⟨sl',e2⟩
 ·obtain ⟨o',e1⟩:=I.base.there b o e hx;exact free b o' (neC b o e hx) e1 (I.base.free b o e n hx)
 ·obtain ⟨o',e1⟩:=I.base.there b o e hx;exact there b o' (neC b o e hx) e1
 ·obtain ⟨m1,e1⟩:=I.base.tbls b ps e;obtain ⟨m2,e2⟩:=tbls b _ e1;exact ⟨m1++m2,by rw [e2,Array.append_assoc]⟩
 ·obtain ⟨m,hn,hl⟩:=I.loc;refine ⟨m,ns m hn,λ i x v e1 e2 e3=>?_⟩;obtain ⟨u,r,l⟩:=hl i x v e1 e2 e3;refine ⟨u,r,?_⟩
  rcases l with l | ⟨k,c,e,z⟩
  ·exact .inl l
  ·exact .inr ⟨k,c,e,cellK x c e _ z⟩
 ·obtain ⟨v,z⟩:=I.cell x c e;exact ⟨v,cellK x c e v z⟩
 ·obtain ⟨m,⟨o,_,_,ho,_⟩,_⟩:=I.loc;exact free _ o (λ z=>(hch _ z).2.1 rfl) ho I.free
 ·obtain ⟨v,o,ho,hd⟩:=I.cell x c e;exact free c o (λ z=>(hch c z).2.2.1 x c e rfl) ho (I.freeC x c e)
 ·obtain ⟨e,n,ne,nf,d⟩:=I.pin p hp;have nch:p.1∉ch:=λ z=>(hch p.1 z).2.2.2 p hp rfl;exact ⟨keep p.1 p.2 ne nf nch e n,free p.1 p.2 nch e n,ne,nf,d⟩
theorem Inv.un {t':Nat}(I:Inv X pins σ H s)(u:Un X.fs [] H H' s.heap h')(hok:kO X.prog X.w H' h'):Inv X pins σ H' { s with heap:=h',toks:=t' }:=by
 obtain ⟨m,⟨o,es,ep,ho,r⟩,_⟩:=id I.loc;obtain ⟨sl,hL⟩:=u.any ho I.free (by simp);exact I.step (g':=s.gens) (d':=s.drawn) (ch:=[]) (λ _ z=>nomatch z) (λ b o _ hb _ e n=>u.keep b o e n hb (by simp)) (λ b o _ hb _ e n=>u.slot b o e n hb (by simp)) (λ b o _ e n=>u.free b o e n (by simp)) (λ b o _ e=>u.there b o e (by simp)) u.tups u.frzs u.tbls (λ m' hm=>by
  obtain ⟨o',es',ep',ho',r'⟩:=hm;rw [ho] at ho';cases ho';exact ⟨_,es',ep',hL,r'⟩) hok I.bare
theorem Inv.call {g':Array GenState}{t':Nat}{d':Drawn}{ch:List Addr}(I:Inv X pins σ H s)(u:Un (frs X.stack) ch H H' s.heap h')(hok:kO X.prog X.w H' h')(hg:AllBare g')
  (hch:∀ b∈ch,(b∈X.ex\/X.s₀.heap.objs.size<=b)/\b≠X.env.locals/\(∀ x c,X.env.cells.lookup x=some c->c≠b)/\∀ p∈X.pn++pins,p.1≠b) :
  Inv X pins σ H' { s with heap:=h',gens:=g',drawn:=d',toks:=t' }:=by
 obtain ⟨m,⟨o,es,ep,ho,r⟩,_⟩:=id I.loc;obtain ⟨sl,hL⟩:=u.any ho I.free λ z=>(hch _ z).2.1 rfl;exact I.step (ch:=ch) hch (λ b o hL hb hc e n=>u.keep b o e n (λ z=>(mem_cons.mp (I.qj b z)).elim hL hb) hc) (λ b o _ _ hc e n=>u.any e n hc) (λ b o hc e n=>u.free b o e n hc) (λ b o hc e=>u.there b o e hc) u.tups u.frzs u.tbls (λ m' hm=>by
  obtain ⟨o',es',ep',ho',r'⟩:=hm;rw [ho] at ho';cases ho';exact ⟨_,es',ep',hL,r'⟩) hok hg
theorem Inv.turned {t':Nat}{it:Addr}(I:Inv X pins σ H s)(k:∀ b o,b≠it->s.heap.get? b=some o->h'.get? b=some o)(hn:H it=none)(hL:it≠X.env.locals)
  (h1:it∈X.ex\/X.s₀.heap.objs.size<=it) (h2:∀ x c,X.env.cells.lookup x=some c->c≠it) (h3:∀ p∈X.pn++pins,p.1≠it):Inv X pins σ H { s with heap:=h',toks:=t' }:=by
 have nit:∀ b u,H b=some u->b≠it:=λ b u e z=>by rw [z,hn] at e;cases e
 refine I.step (g':=s.gens) (d':=s.drawn) (ch:=[it]) (λ b hb=>?_) (λ b o _ _ hc e _=>k b o (λ z=>hc (by simp [z])) e) (λ b o _ _ hc e _=>⟨o.slots,k b o (λ z=>hc (by simp [z])) e⟩) (λ _ _ _ _ n=>n)
  (λ b o hc e=>⟨o,k b o (λ z=>hc (by simp [z])) e⟩) (λ _ _ e=>e) (λ _ _ _ e=>e) (λ b ps e=>⟨#[],by rw [e];simp⟩) (λ m hm=>?_) (λ b u e=>?_) I.bare
 ·have e:b=it:=by simpa using hb
  subst e;exact ⟨h1,hL,h2,h3⟩
 ·obtain ⟨o,es,ep,ho,r⟩:=hm;exact ⟨o,es,ep,k _ o (Ne.symm hL) ho,r⟩
 ·refine (I.hok b u e).stay (λ c v hc q=>k c v ?_ q) (λ _ q=>q) λ _ _ q=>q
  rcases hc with z | z
  ·rw [z];exact nit b u e
  ·exact nit c _ z
theorem Inv.tok (I:Inv X pins σ H s)(t:Nat):Inv X pins σ H { s with toks:=t }:=I.un (h':=s.heap) (t':=t) Un.refl I.hok
theorem Inv.kept {t':Nat}(I:Inv X pins σ H s)(k:∀ b u,s.heap.get? b=some u->h'.get? b=some u):Inv X pins σ H { s with heap:=h',toks:=t' }:=I.un (Un.kept k) (I.hok.kept k)
theorem Inv.laid {a:Addr}{o:HO}{t':Nat}(I:Inv X pins σ H s)(k:∀ b u,s.heap.get? b=some u->h'.get? b=some u)(hp:s.heap.objs.size<=a)(new:cu X.prog X.w (upd H a o) h' a o) :
  Inv X pins σ (upd H a o) { s with heap:=h',toks:=t' }:=I.un (Un.laid k hp (I.hok.fresh hp)) (I.hok.laid k hp new)
theorem Inv.write {x e:Addr}{o:HO}{t':Nat}(I:Inv X pins σ H s)(mu:Nu (H x))(he:e=x\/H e=some (.own x))(k:∀ b u,b≠e->s.heap.get? b=some u->h'.get? b=some u)(heo:∃ u,h'.get? e=some u)
  (new:cu X.prog X.w (upd H x o) h' x o):Inv X pins σ (upd H x o) { s with heap:=h',toks:=t' }:=I.un (Un.write mu he k heo) (I.hok.write mu he k heo new)
theorem Inv.yF {pins':List (Addr×Obj)}(I:Inv X pins σ H s)(h:∀ p∈pins',s.heap.get? p.1=some p.2/\H p.1=none/\p.1≠X.env.locals/\p.1∉X.fs/\∀ v,p.2.data≠.cell v):Inv X pins' σ H s:=
 ⟨I.ok,I.os,I.bare,I.base,I.loc,I.cell,I.free,I.freeC,λ p hp=>(mem_append.mp hp).elim (λ z=>I.pin p (mem_append_left _ z)) (h p),I.hok,I.len⟩
theorem qk {N:List Str}(hN:N.Nodup){i j:Nat}{x:Str}(a:N[i]?=some x)(b:N[j]?=some x):i=j:=by
 obtain ⟨h1,e1⟩:=List.getElem?_eq_some_iff.mp a;obtain ⟨h2,e2⟩:=List.getElem?_eq_some_iff.mp b;exact (getElem_inj hN).mp (e1.trans e2.symm)
theorem Cc {M:Model}{A:Around}{E:Value->Shared->Prop}{i:Nat}{x:Str}{v:V}{u:Value}{Q:Unit->Shared->Prop}(I:Inv X pins σ H s)(hN:X.N.Nodup)(hi:X.N[i]?=some x)(hx:Loc X.env.scope x)(r:RelV v u)
  (h:∀ s',Inv X pins (σ.set i (some v)) H s'->(∃ a,Heap.SameBut a s.heap s'.heap/\(a=X.env.locals\/X.env.cells.lookup x=some a))->Q () s') (hf:X.fn x=true\/X.env.scope.names.lookup x=some .local:=by first | exact .inl rfl | exact .inr rfl | assumption):wpAny M A (storeName X.env x u) Q E s:=by
 obtain ⟨m,hn,hl⟩:=id I.loc;have hcls:(X.env.scope.kind == .class || (X.env.scope.kind == .module && X.env.locals != X.env.globals))=false:=by rw [I.ok.kind];rfl
 have hiσ:i < σ.length:=by rw [I.len];exact (List.getElem?_eq_some_iff.mp hi).1
 have IL:=I.IL;have tracked:∀ {a:Addr} {h':Heap},(∃ o,s.heap.get? a=some o/\H a=none)->Heap.SameBut a s.heap h'->kO X.prog X.w H h':=λ {a h'} ha hs b ob e=>by
  obtain ⟨_,_,hfree⟩:=ha;refine (I.hok b ob e).stay (λ c w' hc q=>(hs.2 c ?_).trans q) (λ _ q=>q) λ _ _ q=>q;rintro rfl
  rcases hc with rfl | hc
  ·rw [hfree] at e;cases e
  ·rw [hfree] at hc;cases hc
 rcases hx with hk | hk
 ·refine wpAny_storeName_local hk hn (λ h' hn' hs=>?_) hcls;obtain ⟨oL,_,_,hoL,_⟩:=id hn;refine h _ ⟨I.ok,I.os,I.bare,⟨λ b o e n hb hx=>?_,λ b o e n hb hx=>?_,I.base.free,λ b o e hx=>?_,I.base.tups,I.base.frzs,I.base.tbls⟩,⟨_,hn',λ j y v' e1 e2 e3=>?_⟩,λ y c e=>?_,I.free,I.freeC,λ p hp=>?_,tracked ⟨oL,hoL,I.free⟩ hs,by simpa using I.len⟩ ⟨_,hs,.inl rfl⟩
  ·exact (hs.2 b (ne_of_lt (lt_of_lt_of_le (lt_size e) I.ok.above))).trans (I.base.keep b o e n hb hx)
  ·obtain ⟨sl,e1⟩:=I.base.slot b o e n hb hx;exact ⟨sl,(hs.2 b (ne_of_lt (lt_of_lt_of_le (lt_size e) I.ok.above))).trans e1⟩
  ·obtain ⟨o',e1⟩:=I.base.there b o e hx;exact ⟨o',(hs.2 b (ne_of_lt (lt_of_lt_of_le (lt_size e) I.ok.above))).trans e1⟩
  ·by_cases hj:j=i
   ·subst hj;rw [hi] at e1;cases e1;rw [getElem?_set_self hiσ] at e2
    cases e2
    exact ⟨u,r,.inl ⟨hk,by simp⟩⟩
   ·rw [getElem?_set_ne (Ne.symm hj)] at e2;obtain ⟨u',r',q⟩:=hl j y v' e1 e2 e3;refine ⟨u',r',?_⟩
    rcases q with ⟨k,e⟩ | ⟨k,c,e,z⟩
    ·refine .inl ⟨k,?_⟩;have:y≠x:=λ e=>hj (qk hN e1 (e ▸ hi));simp [this,e]
    ·exact .inr ⟨k,c,e,z.sameBut hs (IL y c e)⟩
  ·obtain ⟨w',z⟩:=I.cell y c e;exact ⟨w',z.sameBut hs (IL y c e)⟩
  ·obtain ⟨e,n,ne,nf,d⟩:=I.pin p hp;exact ⟨(hs.2 p.1 ne).trans e,n,ne,nf,d⟩
 ·have hfn:X.fn x=true:=by
   rcases hf with z | z
   ·exact z
   ·rw [z] at hk;cases hk
  obtain ⟨c,hc⟩:=I.ok.has x (.inl hk);obtain ⟨w',z⟩:=I.cell x c hc;refine wpAny_storeName_cell I.ok.kind hk hc z (λ h' hc' hs=>?_);obtain ⟨oc,hoc,hocd⟩:=id z;refine h { s with heap:=h' } ⟨I.ok,I.os,I.bare,⟨λ b o e n hb hx=>?_,λ b o e n hb hx=>?_,I.base.free,λ b o e hx=>?_,I.base.tups,I.base.frzs,I.base.tbls⟩,⟨m,hn.sameBut hs (Ne.symm (IL x c hc)),λ j y v' e1 e2 e3=>?_⟩,λ y c' e=>?_,I.free,I.freeC,λ p hp=>?_,tracked ⟨oc,hoc,I.freeC x c hc⟩ hs,by simpa using I.len⟩ ⟨c,hs,.inr hc⟩
  ·exact (hs.2 b (ne_of_lt (lt_of_lt_of_le (lt_size e) (I.ok.cab x c hfn hc)))).trans (I.base.keep b o e n hb hx)
  ·obtain ⟨sl,e1⟩:=I.base.slot b o e n hb hx;exact ⟨sl,(hs.2 b (ne_of_lt (lt_of_lt_of_le (lt_size e) (I.ok.cab x c hfn hc)))).trans e1⟩
  ·obtain ⟨o',e1⟩:=I.base.there b o e hx;exact ⟨o',(hs.2 b (ne_of_lt (lt_of_lt_of_le (lt_size e) (I.ok.cab x c hfn hc)))).trans e1⟩
  ·by_cases hj:j=i
   ·subst hj;rw [hi] at e1;cases e1;rw [getElem?_set_self hiσ] at e2
    cases e2
    exact ⟨u,r,.inr ⟨.inl hk,c,hc,hc'⟩⟩
   ·rw [getElem?_set_ne (Ne.symm hj)] at e2;obtain ⟨u',r',q⟩:=hl j y v' e1 e2 e3;refine ⟨u',r',?_⟩
    rcases q with q | ⟨k,c',e,z'⟩
    ·exact .inl q
    ·refine .inr ⟨k,c',e,z'.sameBut hs ?_⟩;rintro rfl;exact hj (qk hN e1 (I.ok.inj _ _ _ e hc ▸ hi))
  ·by_cases hcc:c'=c
   ·subst hcc;exact ⟨_,hc'⟩
   ·obtain ⟨w2,z2⟩:=I.cell y c' e;exact ⟨w2,z2.sameBut hs hcc⟩
  ·obtain ⟨e,n,ne,nf,d⟩:=I.pin p hp;refine ⟨(hs.2 p.1 ?_).trans e,n,ne,nf,d⟩;intro q;rw [q,hoc] at e;have q':oc=p.2:=Option.some.inj e;exact d w' (by rw [<- q'];exact hocd)
theorem m5 {M:Model}{A:Around}{E:Value->Shared->Prop}{i:Nat}{x:Str}{v:V}{u:Value}{Q:Unit->Shared->Prop}(I:Inv X pins σ H s)(hN:X.N.Nodup)(hi:X.N[i]?=some x)(hx:Loc X.env.scope x)(r:RelV v u)
  (h:∀ s',Inv X pins (σ.set i (some v)) H s'->Q () s') (hf:X.fn x=true\/X.env.scope.names.lookup x=some .local:=by first | exact .inl rfl | exact .inr rfl | assumption):wpAny M A (storeName X.env x u) Q E s:=
 Cc I hN hi hx r (λ s' I' _=>h s' I') hf
theorem Inv.NF {s':Shared}{ch:List Addr}(I:Inv X pins σ H s)(ho:s'.os=s.os)(u:Un (frs X.stack) ch H H' s.heap s'.heap)(hok:kO X.prog X.w H' s'.heap)(hg:AllBare s'.gens)
  (hch:∀ b∈ch,(b∈X.ex\/X.s₀.heap.objs.size<=b)/\b≠X.env.locals/\(∀ x c,X.env.cells.lookup x=some c->c≠b)/\∀ p∈X.pn++pins,p.1≠b):Inv X pins σ H' s':=by
 obtain ⟨h',g',d',t',o'⟩:=s';have e:o'=s.os:=ho;subst e;exact I.call (g':=g') (t':=t') (d':=d') u hok hg hch
end
noncomputable abbrev XK:=Value->Option Addr->Hp->Prop
noncomputable abbrev St:=List (Option V)
noncomputable abbrev VK:=V->Hp->Prop
noncomputable abbrev TE:=St->Hp->VK->Prop
noncomputable abbrev TT:=St->Hp->(Bool->Hp->Prop)->Prop
noncomputable abbrev TA:=St->Hp->(List V->Hp->Prop)->Prop
structure Ends where
 nx:St->Hp->Prop
 rt:VK
 bk:St->Hp->Prop:=λ _ _=>False
 ct:St->Hp->Prop:=λ _ _=>False
noncomputable abbrev TS:=Ends->St->Hp->Prop
noncomputable def EP (X:Cx)(pins:List (Addr×Obj))(σ:St)(Q:VK)(u:Value)(s':Shared):Prop:=∃ v H',Inv X pins σ H' s'/\RelV v u/\Q v H'
noncomputable def TP (X:Cx)(pins:List (Addr×Obj))(σ:St)(Q:Bool->Hp->Prop)(b:Bool)(s':Shared):Prop:=∃ H',Inv X pins σ H' s'/\Q b H'
noncomputable def AP (X:Cx)(pins:List (Addr×Obj))(σ:St)(Q:List V->Hp->Prop)(us:List Value)(s':Shared):Prop:=∃ vs H',Inv X pins σ H' s'/\Vals vs us/\Q vs H'
noncomputable def SP (X:Cx)(pins:List (Addr×Obj))(D:Ends)(f:Flow)(s':Shared):Prop:=
 match f with
 | .next=>∃ σ' H',Inv X pins σ' H' s'/\D.nx σ' H'
 | .brk=>∃ σ' H',Inv X pins σ' H' s'/\D.bk σ' H'
 | .cont=>∃ σ' H',Inv X pins σ' H' s'/\D.ct σ' H'
 | .ret u=>∃ v σ' H',Inv X pins σ' H' s'/\RelV v u/\D.rt v H'
noncomputable def PE (X:Cx)(e:Expr)(t:TE):Prop:=
 ∀ (pins:List (Addr×Obj)) (s:Shared) (σ:St) (H:Hp) (Q:VK),Inv X pins σ H s->t σ H Q->wpAny (model X.prog X.w) X.A (eval e X.env) (EP X pins σ Q) X.xe s
noncomputable def PT (X:Cx)(e:Expr)(t:TT):Prop:=
 ∀ (pins:List (Addr×Obj)) (s:Shared) (σ:St) (H:Hp) (Q:Bool->Hp->Prop),Inv X pins σ H s->t σ H Q->wpAny (model X.prog X.w) X.A (isTrue e X.env (eval e X.env)) (TP X pins σ Q) X.xe s
noncomputable def PW (X:Cx)(e:Expr)(t:TT):Prop:=
 ∀ (whole:Sem Value) (pins:List (Addr×Obj)) (s:Shared) (σ:St) (H:Hp) (Q:Bool->Hp->Prop),Inv X pins σ H s->t σ H Q->wpAny (model X.prog X.w) X.A (isTrue e X.env whole) (TP X pins σ Q) X.xe s
noncomputable def PA (X:Cx)(es:List Expr)(t:TA):Prop:=
 ∀ (pos:Pos) (pins:List (Addr×Obj)) (s:Shared) (σ:St) (H:Hp) (Q:List V->Hp->Prop),Inv X pins σ H s->t σ H Q->wpAny (model X.prog X.w) X.A (spliced (backTo pos (starEach es X.env))) (AP X pins σ Q) X.xe s
noncomputable def PS (X:Cx)(st:Stmt)(t:TS):Prop:=
 ∀ (pins:List (Addr×Obj)) (s:Shared) (σ:St) (H:Hp) (D:Ends),Inv X pins σ H s->t D σ H->wpAny (model X.prog X.w) X.A (exec st X.env) (SP X pins D) X.xe s
noncomputable def qW (X:Cx)(st:List Stmt)(t:TS):Prop:=
 ∀ (pins:List (Addr×Obj)) (s:Shared) (σ:St) (H:Hp) (D:Ends),Inv X pins σ H s->t D σ H->wpAny (model X.prog X.w) X.A (execs st X.env) (SP X pins D) X.xe s
theorem dP {α:Type}{t:Sem α}{Q Q':α->Shared->Prop}{M:Model}{A:Around}{E:Value->Shared->Prop}{s:Shared}(h:wpAny M A t Q E s)(hQ:∀ a s,Q a s->Q' a s):wpAny M A t Q' E s:=wpAny_mono h hQ λ _ _ x=>x
section
variable {X:Cx}
noncomputable def Ou (i:Nat):TE:=λ σ H Q=>∃ v,σ[i]?=some (some v)/\Q v H
noncomputable def tC (v:V):TE:=λ _ H Q=>Q v H
theorem CH {i:Nat}{x:Str}{pos:Pos}(hN:X.N[i]?=some x)(hv:Oq X.env.scope x)(hd:(x == ("__debug__" : Str))=false:=by decide)(hcd:(x == ("__classdict__" : Str))=false:=by decide):PE X (.Name x pos) (Ou i):=by
 intro pins s σ H Q I h;obtain ⟨v,e,h⟩:=h;obtain ⟨m,hn,hl⟩:=I.loc;obtain ⟨u,r,l⟩:=hl i x v hN e hv;have fin:EP X pins σ Q u s:=⟨v,H,I,r,h⟩
 rcases l with ⟨hk,hm⟩ | ⟨hk,c,hc,hcell⟩
 ·exact wpAny_Name (wpAny_loadName_local I.ok.kind hk hn hm fin) hd
 ·rcases hk with hk | hk
  ·exact wpAny_Name (wpAny_loadName_cell I.ok.kind hk hc hcell fin) hd
  ·exact wpAny_Name (wpAny_loadName_free I.ok.kind hk hc hcell fin hcd) hd
theorem L7 {i j pos}:PE X (.Constant (.int i) j pos) (tC (.int i)):=λ _ _ _ H _ I h=>wpAny_Constant_int ⟨.int i,H,I.tok _,⟨_,rfl⟩,h⟩
theorem Nn {b j pos}:PE X (.Constant (.bool b) j pos) (tC (.bl b)):=λ _ _ _ H _ I h=>Constant_bool ⟨.bl b,H,I,rfl,h⟩
theorem LM {x j pos}:PE X (.Constant (.str x) j pos) (tC (.str x)):=λ _ _ _ H _ I h=>Calls.Constant_str ⟨.str x,H,I.tok _,⟨_,rfl⟩,h⟩
noncomputable def Gl (X:Cx)(x:Str):Prop:=X.env.kindOf x=some .globalImplicit
theorem lR {E:Value->Shared->Prop}{pins:List (Addr×Obj)}{s:Shared}{σ:St}{H:Hp}{x:Str}{u:Value}{pos:Pos}{Q:Value->Shared->Prop}(I:Inv X pins σ H s)(hg:Gl X x)(hm:X.mg x=some u)(h:Q u s)
  (hd:(x == ("__debug__" : Str))=false:=by decide):wpAny (model X.prog X.w) X.A (eval (.Name x pos) X.env) Q E s:=
 Calls.Name_function_global I.ok.kind hg (Calls.loadGlobal_global (by rw [I.ok.glob];exact I.mod.glob.keeps I.bk) hm h) hd
theorem pY {E:Value->Shared->Prop}{pins:List (Addr×Obj)}{s:Shared}{σ:St}{H:Hp}{x:Str}{u:Value}{pos:Pos}{Q:Value->Shared->Prop}(I:Inv X pins σ H s)(hg:Gl X x)(hm:X.mg x=none)(hv:bootBuiltins x=some u)(h:Q u s)
  (hn:x ≠ "__name__" := by decide) (hd:(x == ("__debug__" : Str))=false:=by decide):wpAny (model X.prog X.w) X.A (eval (.Name x pos) X.env) Q E s:=by
 obtain ⟨mb,h1,h2⟩:=I.mod.blt;exact Calls.Name_function_global I.ok.kind hg (Calls.loadGlobal_builtin (by rw [I.ok.glob];exact I.mod.glob.keeps I.bk) hm (by rw [I.ok.blt];exact h1.keeps I.bk) ((h2 x hn).trans hv) h) hd
theorem yE {x:Str}{v:V}{u:Value}{pos:Pos}(hg:Gl X x)(hm:X.mg x=some u)(r:RelV v u)(hd:(x == ("__debug__" : Str))=false:=by decide):PE X (.Name x pos) (tC v):=
 λ _ _ _ H _ I h=>lR I hg hm ⟨v,H,I,r,h⟩ hd
theorem yz {x:Str}{v:V}{u:Value}{pos:Pos}(hg:Gl X x)(hm:X.mg x=none)(hv:bootBuiltins x=some u)(r:RelV v u)(hn:x ≠ "__name__" := by decide)(hd:(x == ("__debug__" : Str))=false:=by decide):PE X (.Name x pos) (tC v):=
 λ _ _ _ H _ I h=>pY I hg hm hv ⟨v,H,I,r,h⟩ hn hd
variable {a b:Expr} {ta tb:TE} {pos:Pos}
variable {tA tB':TT} {rest:List Expr}
noncomputable def N6 (t u:TT):TT:=λ σ H Q=>t σ H λ c H1=>if c=true then u σ H1 Q else Q false H1
noncomputable def Qn (t u:TT):TT:=λ σ H Q=>t σ H λ c H1=>if c=true then Q true H1 else u σ H1 Q
noncomputable def PK (t:TT):TT:=λ σ H Q=>t σ H λ c H1=>Q (!c) H1
theorem Hx (ha:PT X a tA):PW X (.BoolOp .And [a] pos) tA:=by
 intro wh pins s σ H Q I h;refine isTrue_and (dP (ha pins s σ H Q I h) λ c s1 e=>?_)
 cases c with
 | true=>exact isTrue_and_nil e
 | false=>exact e
theorem LH (ha:PT X a tA):PW X (.BoolOp .Or [a] pos) tA:=by
 intro wh pins s σ H Q I h;refine isTrue_or (dP (ha pins s σ H Q I h) λ c s1 e=>?_)
 cases c with
 | false=>exact isTrue_or_nil e
 | true=>exact e
theorem Mu (ha:PT X a tA)(hb:PW X (.BoolOp .And (b::rest) pos) tB'):PW X (.BoolOp .And (a::b::rest) pos) (N6 tA tB'):=by
 intro wh pins s σ H Q I h;refine isTrue_and (dP (ha pins s σ H _ I h) λ c s1 ⟨H1,I1,q1⟩=>?_)
 cases c with
 | true=>exact hb wh pins s1 σ H1 Q I1 q1
 | false=>exact ⟨H1,I1,q1⟩
theorem Np (ha:PT X a tA)(hb:PW X (.BoolOp .Or (b::rest) pos) tB'):PW X (.BoolOp .Or (a::b::rest) pos) (Qn tA tB'):=by
 intro wh pins s σ H Q I h;refine isTrue_or (dP (ha pins s σ H _ I h) λ c s1 ⟨H1,I1,q1⟩=>?_)
 cases c with
 | true=>exact ⟨H1,I1,q1⟩
 | false=>exact hb wh pins s1 σ H1 Q I1 q1
theorem Lz (ha:PT X a tA):PT X (.UnaryOp .Not a pos) (PK tA):=by
 intro pins s σ H Q I h;exact isTrue_not (ha pins s σ H (λ c H1=>Q (!c) H1) I h)
noncomputable def Nj (ta tb:TE):TE:=λ σ H Q=>ta σ H λ x H1=>∃ c,x=.bl c/\if c=true then tb σ H1 Q else Q (.bl false) H1
noncomputable def N_ (ta:TE):TE:=λ σ H Q=>ta σ H λ x H1=>∃ c,x=.bl c/\Q (.bl (!c)) H1
theorem K2 {op}{t:TE}(h:PE X a t):PE X (.BoolOp op [a] pos) t:=λ pins s σ H Q I hw=>BoolOp_one (h pins s σ H Q I hw)
theorem LL (ha:PE X a ta)(hb:PE X (.BoolOp .And (b::rest) pos) tb):PE X (.BoolOp .And (a::b::rest) pos) (Nj ta tb):=by
 intro pins s σ H Q I h;refine BoolOp_and (dP (ha pins s σ H _ I h) λ v s1 ⟨x,H1,I1,r1,q1⟩=>?_);obtain ⟨c,rfl,q1⟩:=q1
 cases r1
 refine wpAny_truthy_bool ?_
 cases c with
 | true=>exact hb pins s1 σ H1 Q I1 q1
 | false=>exact ⟨.bl false,H1,I1,rfl,q1⟩
theorem Lg (ha:PE X a ta):PE X (.UnaryOp .Not a pos) (N_ ta):=by
 intro pins s σ H Q I h;refine UnaryOp_ (dP (ha pins s σ H _ I h) λ v s1 ⟨x,H1,I1,r1,q1⟩=>?_);obtain ⟨c,rfl,q1⟩:=q1
 cases r1
 exact not_of (wpAny_truthy_bool ⟨.bl (!c),H1,I1,rfl,q1⟩)
end
noncomputable def gY (K:PySem.W.Frag)(H:Hp)(a:Addr)(xs:List V):Prop:=
 Rd H a (.lst xs) \/
  ∃ (o:Obj) (its:Array Value) (n:Nat),K.lookup a=some o/\o.cls=.type "list" /\ o.dict=none/\o.data=.seq its n/\its.size<=sizeLine/\Vals xs its.toList
noncomputable def fF (K:PySem.W.Frag)(H:Hp)(a:Addr)(xs:List V):Prop:=
 Rd H a (.tup xs) \/
  ∃ (o:Obj) (its:Array Value) (n:Nat),K.lookup a=some o/\o.cls=.type "tuple" /\ o.dict=none/\o.data=.seq its n/\its.size<=sizeLine/\Vals xs its.toList
noncomputable def P4:Value->Option V
 | .none=>some .non
 | .bool b=>some (.bl b)
 | .int i _=>some (.int i)
 | .str x _=>some (.str x)
 | .bytes b _=>some (.byt b)
 | .float b _=>some (.flt b)
 | .ref a=>some (.ref a)
 | .type n=>some (.ty n)
 | _=>none
theorem RelV.abs {x:V}{u:Value}(r:RelV x u):P4 u=some x:=by
 cases x with
 | non=>cases r;rfl
 | bl _=>cases r;rfl
 | int _=>obtain ⟨t,rfl⟩:=r;rfl
 | str _=>obtain ⟨t,rfl⟩:=r;rfl
 | byt _=>obtain ⟨t,rfl⟩:=r;rfl
 | flt _=>obtain ⟨t,rfl⟩:=r;rfl
 | ref _=>cases r;rfl
 | ty _=>cases r;rfl
theorem RelV.inj {x y:V}{u:Value}(r:RelV x u)(q:RelV y u):x=y:=Option.some.inj (r.abs.symm.trans q.abs)
theorem Vals.inj:∀ {xs ys:List V} {us:List Value},Vals xs us->Vals ys us->xs=ys
 | _,_,_,.nil,.nil=>rfl
 | _,_,_,.cons r t,.cons r' t'=>by rw [r.inj r',Vals.inj t t']
section
variable {X:Cx} {pins:List (Addr×Obj)} {σ:St} {H:Hp} {s:Shared} {a:Addr} {xs ys:List V}
theorem gY.of {K:PySem.W.Frag}(h:H a=some (.lst xs)):gY K H a xs:=.inl (.inl h)
theorem fF.of {K:PySem.W.Frag}(h:H a=some (.tup xs)):fF K H a xs:=.inl (.inl h)
theorem Inv.list (I:Inv X pins σ H s)(h:gY X.K H a xs):∃ its:List Value,Vals xs its/\PlainL s.heap a its.toArray/\xs.length<=sizeLine:=by
 rcases h with h | ⟨o,its,n,hk,hc,hd,hs,hz,r⟩
 ·obtain ⟨z,its,n,r,e⟩:=h.ok I.hok;exact ⟨its,r,⟨_,n,e,rfl,rfl,rfl⟩,z⟩
 ·refine ⟨its.toList,r,⟨o,n,I.qP a o hk,hc,hd,by simpa using hs⟩,?_⟩;have e:=r.length;simp only [length_toList] at e;omega
theorem Inv.tuple (I:Inv X pins σ H s)(h:fF X.K H a xs):∃ its:List Value,Vals xs its/\IsTup s.heap a its.toArray/\xs.length<=sizeLine:=by
 rcases h with h | ⟨o,its,n,hk,hc,_,hs,hz,r⟩
 ·obtain ⟨z,its,r,p⟩:=h.ok I.hok;exact ⟨its,r,p.tup,z⟩
 ·refine ⟨its.toList,r,⟨o,I.qP a o hk,hc,n,by simpa using hs⟩,?_⟩;have e:=r.length;simp only [length_toList] at e;omega
theorem Inv.vt (I:Inv X pins σ H s)(h:gY X.K H a xs)(h':gY X.K H a ys):xs=ys:=by
 obtain ⟨its,r,⟨o,n,e,_,_,d⟩,_⟩:=I.list h;obtain ⟨its',r',⟨o',n',e',_,_,d'⟩,_⟩:=I.list h';rw [e] at e';cases e';rw [d] at d'
 injection d' with d1 _
 have:its=its':=by simpa using congrArg Array.toList d1
 subst this;exact r.inj r'
theorem Inv.sL (I:Inv X pins σ H s)(h:fF X.K H a xs)(h':fF X.K H a ys):xs=ys:=by
 obtain ⟨its,r,⟨o,e,_,n,d⟩,_⟩:=I.tuple h;obtain ⟨its',r',⟨o',e',_,n',d'⟩,_⟩:=I.tuple h';rw [e] at e';cases e';rw [d] at d'
 injection d' with d1 _
 have:its=its':=by simpa using congrArg Array.toList d1
 subst this;exact r.inj r'
end
noncomputable abbrev Cx.rC (X:Cx)(E:Value->Shared->Prop):Cx:={ X with xe:=E }
noncomputable abbrev Cx.Ni (X:Cx):Cx:=X.rC λ _ _=>False
theorem Cx.Ok.rC {X:Cx}(ok:X.Ok)(E:Value->Shared->Prop):(X.rC E).Ok:=
 ⟨ok.mod,ok.kind,ok.glob,ok.blt,ok.above,ok.inj,ok.has,ok.cab,ok.hd,ok.frames,ok.stk,ok.exf,ok.bs,ok.bsz,ok.noex,ok.exfs,ok.jh,ok.frf⟩
theorem Cx.Ok.jI {X:Cx}{E:Value->Shared->Prop}(ok:(X.rC E).Ok):X.Ok:=
 ⟨ok.mod,ok.kind,ok.glob,ok.blt,ok.above,ok.inj,ok.has,ok.cab,ok.hd,ok.frames,ok.stk,ok.exf,ok.bs,ok.bsz,ok.noex,ok.exfs,ok.jh,ok.frf⟩
section
variable {X:Cx} {pins:List (Addr×Obj)} {σ:St} {H:Hp} {s:Shared} {E:Value->Shared->Prop}
theorem Inv.rC (I:Inv X pins σ H s)(E:Value->Shared->Prop):Inv (X.rC E) pins σ H s:=⟨I.ok.rC E,I.os,I.bare,I.base,I.loc,I.cell,I.free,I.freeC,I.pin,I.hok,I.len⟩
theorem Inv.jI (I:Inv (X.rC E) pins σ H s):Inv X pins σ H s:=⟨I.ok.jI,I.os,I.bare,I.base,I.loc,I.cell,I.free,I.freeC,I.pin,I.hok,I.len⟩
theorem SP.jI {D:Ends}{f:Flow}{s':Shared}(h:SP (X.rC E) pins D f s'):SP X pins D f s':=by
 cases f with
 | next=>obtain ⟨σ',H',I,q⟩:=h;exact ⟨σ',H',I.jI,q⟩
 | brk=>obtain ⟨σ',H',I,q⟩:=h;exact ⟨σ',H',I.jI,q⟩
 | cont=>obtain ⟨σ',H',I,q⟩:=h;exact ⟨σ',H',I.jI,q⟩
 | ret u=>obtain ⟨v,σ',H',I,r,q⟩:=h;exact ⟨v,σ',H',I.jI,r,q⟩
theorem qW.Ni {st:List Stmt}{t:TS}(h:qW X.Ni st t):qW X st t:=λ pins s σ H D I hw=>
 wpAny_mono (h pins s σ H D (I.rC _) hw) (λ _ _ q=>q.jI) λ _ _ z=>False.elim z
end
section
variable {X:Cx} {st:Stmt} {rest:List Stmt} {t u:TS} {e:Expr} {te:TE} {pos:Pos}
noncomputable def NT:TS:=λ D σ H=>D.nx σ H
noncomputable def Nl (t u:TS):TS:=λ D σ H=>t { D with nx:=u D } σ H
theorem Ii:qW X [] NT:=λ _ _ σ H _ I h=>wpAny_execs_nil ⟨σ,H,I,h⟩
theorem DU (h1:PS X st t)(h2:qW X rest u):qW X (st::rest) (Nl t u):=by
 intro pins s σ H D I h;refine wpAny_execs_cons (dP (h1 pins s σ H { D with nx:=u D } I h) λ f s1 q=>?_)
 cases f with
 | next=>
  obtain ⟨σ',H',I',q⟩:=q;exact h2 pins s1 σ' H' D I' q
 | ret v=>exact q
 | brk=>exact q
 | cont=>exact q
theorem HD (h1:PS X st t):qW X [st] t:=by
 intro pins s σ H D I h;refine wpAny_execs_cons (dP (h1 pins s σ H D I h) λ f s1 q=>?_)
 cases f with
 | next=>exact wpAny_execs_nil q
 | ret v=>exact q
 | brk=>exact q
 | cont=>exact q
theorem Inv.quiet {pins:List (Addr×Obj)}{σ:St}{H:Hp}{s:Shared}(I:Inv X pins σ H s):interactive X.env=false:=by simp [interactive,I.ok.kind]
noncomputable def OA (te:TE):TS:=λ D σ H=>te σ H λ _ H1=>D.nx σ H1
theorem Hw (he:PE X e te)(hs:swapsWith e none pos.line X.env=pure false:=by rfl):PS X (.Expr e pos) (OA te):=by
 intro pins s σ H D I h;exact wpAny_Expr_any (dP (he pins s σ H _ I h) λ v s1 ⟨x,H1,I1,r1,q1⟩=>⟨σ,H1,I1,q1⟩) I.quiet hs
noncomputable def PZ (te:TE):TS:=λ D σ H=>te σ H D.rt
theorem KQ (he:PE X e te):PS X (.Return (some e) pos) (PZ te):=by
 intro pins s σ H D I h;exact wpAny_Return_some (dP (he pins s σ H _ I h) λ v s1 ⟨x,H1,I1,r1,q1⟩=>⟨x,σ,H1,I1,r1,q1⟩)
noncomputable def OZ (c:TT)(t u:TS):TS:=λ D σ H=>c σ H λ b H1=>if b=true then t D σ H1 else u D σ H1
theorem Om {c:Expr}{a b:List Stmt}{tc:TT}(hc:PT X c tc)(ha:qW X a t)(hb:qW X b u):PS X (.If c a b pos) (OZ tc t u):=by
 intro pins s σ H D I h;refine wpAny_If (dP (hc pins s σ H _ I h) λ d s1 ⟨H1,I1,q1⟩=>?_)
 cases d with
 | true=>exact ha pins s1 σ H1 D I1 q1
 | false=>exact hb pins s1 σ H1 D I1 q1
end
noncomputable abbrev TG:=V->St->Hp->(St->Hp->Prop)->Prop
noncomputable abbrev Kx:=List V->St->Hp->(St->Hp->Prop)->Prop
noncomputable def PG (X:Cx)(target:Expr)(t:TG):Prop:=
 ∀ (pins:List (Addr×Obj)) (s:Shared) (σ:St) (H:Hp) (v:V) (u:Value) (Q:St->Hp->Prop),Inv X pins σ H s->RelV v u->t v σ H Q ->
  wpAny (model X.prog X.w) X.A (assign target X.env u) (λ _ s'=>∃ σ' H',Inv X pins σ' H' s'/\Q σ' H') X.xe s
noncomputable def Nh (X:Cx)(ts:List Expr)(t:Kx):Prop:=
 ∀ (pins:List (Addr×Obj)) (s:Shared) (σ:St) (H:Hp) (vs:List V) (us:List Value) (Q:St->Hp->Prop),Inv X pins σ H s->Vals vs us->t vs σ H Q ->
  wpAny (model X.prog X.w) X.A (assignInOrder ((assignEach ts X.env).map (·.2)) us) (λ _ s'=>∃ σ' H',Inv X pins σ' H' s'/\Q σ' H') X.xe s
noncomputable abbrev BA:=V->V->V->Hp->(Hp->Prop)->Prop
noncomputable def BJ (X:Cx)(t:BA):Prop:=
 ∀ (pins:List (Addr×Obj)) (s:Shared) (σ:St) (H:Hp) (o i v:V) (ov iv u:Value) (Q:Hp->Prop),Inv X pins σ H s->RelV o ov->RelV i iv->RelV v u->t o i v H Q ->
  wpAny (model X.prog X.w) X.A (setItem ov iv u) (λ _ s'=>∃ H',Inv X pins σ H' s'/\Q H') X.xe s
section
variable {X:Cx} {pos:Pos}
noncomputable def JT (i:Nat):TG:=λ v σ H Q=>Q (σ.set i (some v)) H
theorem HY {i:Nat}{x:Str}(hN:X.N.Nodup)(hi:X.N[i]?=some x)(hx:Loc X.env.scope x)(hf:X.fn x=true\/X.env.scope.names.lookup x=some .local:=by first | exact .inl rfl | exact .inr rfl | assumption):PG X (.Name x pos) (JT i):=by
 intro pins s σ H v u Q I r h;exact wpAny_assign_Name (m5 I hN hi hx r (λ s' I'=>⟨_,H,I',h⟩) hf)
noncomputable def Pq:Kx:=λ vs σ H Q=>vs=[]/\Q σ H
noncomputable def M4 (t:TG)(u:Kx):Kx:=λ vs σ H Q=>∃ v r,vs=v::r/\t v σ H λ σ' H'=>u r σ' H' Q
theorem HL:Nh X [] Pq:=by
 intro pins s σ H vs us Q I r h;obtain ⟨e,h⟩:=h;subst e
 cases r
 exact assignInOrder_nil ⟨σ,H,I,h⟩
theorem C2 {e:Expr}{es:List Expr}{t:TG}{u:Kx}(h1:PG X e t)(h2:Nh X es u)
  (hs:(assignEach (e::es) X.env).map (·.2)=assign e X.env::(assignEach es X.env).map (·.2):=by rfl):Nh X (e::es) (M4 t u):=by
 intro pins s σ H vs us Q I r h;obtain ⟨v,vr,e1,h⟩:=h;subst e1
 cases r with
 | cons r rr=>
  rw [hs];refine assignInOrder_cons (dP (h1 pins s σ H _ _ _ I r h) λ _ s1 ⟨σ1,H1,I1,q1⟩=>?_);exact h2 pins s1 σ1 H1 _ _ Q I1 rr q1
noncomputable def PV (K:PySem.W.Frag)(n:Nat)(t:Kx):TG:=λ v σ H Q=>∃ a xs,v=.ref a/\fF K H a xs/\xs.length=n/\t xs σ H Q
theorem Mb {es:List Expr}{k:Nat}{t:Kx}{n:Nat}(hc:X.calm=true)(h:Nh X es t)
  (hn:(assignEach es X.env).length=n:=by rfl) (hst:(assignEach es X.env).findIdx? (·.1)=none:=by rfl):PG X (.Tuple es k pos) (PV X.K n t):=by
 intro pins s σ H v u Q I r hw;obtain ⟨a,xs,e1,hq,hl,hw⟩:=hw;subst e1
 cases r
 obtain ⟨its,rv,ht,hz⟩:=I.tuple hq;refine assign_Tuple_tuple (I.ok.hd hc) ht (by simp [hn,<- hl,rv.length]) hst λ h' hx=>?_;have I1:Inv X pins σ H { s with heap:=h' }:=I.kept (t':=s.toks) λ b o e=>hx b o (ne_of_lt (lt_size e)) e;exact h pins _ σ H xs _ Q I1 (by simpa using rv) hw
noncomputable def PL (to ti:TE)(t:BA):TG:=λ v σ H Q=>to σ H λ o H1=>ti σ H1 λ i H2=>t o i v H2 λ H3=>Q σ H3
theorem ym {o i:Expr}{to ti:TE}{t:BA}(ho:PE X o to)(hi:PE X i ti)(hs:BJ X t)
  (ha:∀ v,assign (.Subscript o i pos) X.env v=(do
   let ov <- holding [v] (eval o X.env)
   let iv <- holding [v,ov] (eval i X.env)
   standAt pos
   holding [v,ov,iv] (setItem ov iv v)
   release [v,ov,iv] []):=by intro _;rfl):PG X (.Subscript o i pos) (PL to ti t):=by
 intro pins s σ H v u Q I r h;rw [ha];refine wpAny_bind (wpAny_holding (dP (ho pins s σ H _ I h) λ ov s1 ⟨x,H1,I1,r1,q1⟩=>?_));refine wpAny_bind (wpAny_holding (dP (hi pins s1 σ H1 _ I1 q1) λ iv s2 ⟨y,H2,I2,r2,q2⟩=>?_));refine wpAny_bind (wpAny_standAt (wpAny_bind (wpAny_holding (dP (hs pins s2 σ H2 x y v ov iv u _ I2 r1 r2 r q2) λ _ s3 ⟨H3,I3,q3⟩=>?_))));exact wpAny_release ⟨σ,H3,I3,q3⟩
noncomputable def KP (te:TE)(g:TG):TS:=λ D σ H=>te σ H λ x H1=>g x σ H1 D.nx
theorem LQ {tg e:Expr}{te:TE}{g:TG}(he:PE X e te)(hg:PG X tg g)(hs:swapsWithSole [tg] e pos.line X.env=pure false:=by rfl)(hw:swappedStores [tg] e X.env=pure none:=by rfl)
  (h1:(assignEach [tg] X.env).map (·.2)=[assign tg X.env]:=by rfl):PS X (.Assign [tg] e pos) (KP te g):=by
 intro pins s σ H D I h;refine wpAny_Assign_stores (dP (he pins s σ H _ I h) λ v s1 ⟨x,H1,I1,r1,q1⟩=>?_) hs hw;rw [h1];exact dP (hg pins s1 σ H1 x v _ I1 r1 q1) λ _ s2 q=>q
theorem LR {i:Nat}{x:Str}{e:Expr}{te:TE}{pos':Pos}(hN:X.N.Nodup)(hi:X.N[i]?=some x)(hx:Loc X.env.scope x)(he:PE X e te)(hs:swapsWith e (some (.Name x pos')) pos.line X.env=pure false:=by rfl)(hf:X.fn x=true\/X.env.scope.names.lookup x=some .local:=by first | exact .inl rfl | exact .inr rfl | assumption) :
  PS X (.Assign [.Name x pos'] e pos) (KP te (JT i)):=by
 intro pins s σ H D I h;refine wpAny_Assign_Name (dP (he pins s σ H _ I h) λ v s1 ⟨y,H1,I1,r1,q1⟩=>?_) hs;exact m5 I1 hN hi hx r1 (λ s2 I2=>⟨_,H1,I2,q1⟩) hf
end
section
variable {X:Cx} {pos:Pos}
noncomputable def EG (c:TT)(tb:TS):TS:=λ D σ H=>∃ W:Nat->St->Hp->Prop,(∃ m,W m σ H)/\∀ m σ H,W m σ H ->
 c σ H λ b H1=>if b=true then ∃ N:St->Hp->Prop,(∀ σ' H',N σ' H'->∃ m',m' < m/\W m' σ' H')/\tb { D with nx:=N,ct:=N,bk:=D.nx } σ H1 else D.nx σ H1
theorem G9 {c:Expr}{body:List Stmt}{tc:TT}{tb:TS}(hp:PassesOwn (model X.prog X.w) X.A X.env X.xe)(hc:PT X c tc)(hb:qW X body tb):PS X (.While c body [] pos) (EG tc tb):=by
 intro pins s σ H D I h;obtain ⟨W,⟨m0,w0⟩,turn⟩:=h;refine wpAny_While (codeAny_whileLoop (λ n s'=>∃ σ' H',Inv X pins σ' H' s'/\W n σ' H') ?_ m0 ⟨σ,H,I,w0⟩);rintro n s1 ⟨σ1,H1,I1,w1⟩;refine wpAny_passesOwn hp (dP (hc pins s1 σ1 H1 _ I1 (turn n σ1 H1 w1)) λ b s2 ⟨H2,I2,q2⟩=>?_)
 cases b with
 | true=>
  obtain ⟨N,hN,q2⟩:=q2;rw [if_pos rfl];refine wpAny_passesOwn hp (dP (hb pins s2 σ1 H2 _ I2 q2) λ f s3 q3=>?_)
  cases f with
  | next=>
   obtain ⟨σ3,H3,I3,n3⟩:=q3;obtain ⟨m',hm,w3⟩:=hN σ3 H3 n3;exact ⟨m',hm,σ3,H3,I3,w3⟩
  | cont=>
   obtain ⟨σ3,H3,I3,n3⟩:=q3;obtain ⟨m',hm,w3⟩:=hN σ3 H3 n3;exact ⟨m',hm,σ3,H3,I3,w3⟩
  | brk=>exact q3
  | ret v=>exact q3
 | false=>
  rw [if_neg Bool.false_ne_true];exact wpAny_execs_nil ⟨σ1,H2,I2,q2⟩
end
structure It where
 go:Nat->Hp->Prop
 yld:Nat->Hp->V->Hp->Prop
 stop:Nat->Hp->Prop
noncomputable def nF (X:Cx)(pins:List (Addr×Obj))(H:Hp)(b:Addr):Prop:=
 H b=none/\b≠X.env.locals/\b∉X.fs/\(b∈X.ex\/X.s₀.heap.objs.size<=b)/\(∀ x c,X.env.cells.lookup x=some c->c≠b)/\∀ p∈X.pn++pins,p.1≠b
theorem Inv.BI {X:Cx}{pins:List (Addr×Obj)}{σ:St}{H H':Hp}{s:Shared}{b:Addr}(I:Inv X pins σ H s)(hb:s.heap.objs.size<=b)(hn:H' b=none):nF X pins H' b:=by
 refine ⟨hn,Nat.ne_of_gt (lt_of_lt_of_le I.lt hb),I.PM hb,.inr (Nat.le_trans I.sz hb),λ x c e z=>?_,λ p hp z=>?_⟩
 ·obtain ⟨v,q⟩:=I.cell x c e;exact absurd (lt_of_lt_of_le q.lt (by rw [z];exact hb)) (lt_irrefl _)
 ·exact absurd (lt_of_lt_of_le (lt_size (I.pin p hp).1) (by rw [z];exact hb)) (lt_irrefl _)
structure Turn (P:Program)(w:World)(K:PySem.W.Frag)(tg:Expr)(J:It)(fp:List Addr)(it:Addr)(tn:Nat->Heap->Prop):Prop where
 mem:it∈fp
 obj:∀ i h,tn i h->∀ b∈fp,∃ o,h.get? b=some o/\∀ v,o.data≠.cell v
 keep:∀ i h h',tn i h->(∀ b∈fp,∀ o,h.get? b=some o->h'.get? b=some o)->tn i h'
 item:∀ (X:Cx),X.prog=P->X.w=w->X.K=K->X.calm=true->∀ (i:Nat) (pins:List (Addr×Obj)) (s:Shared) (σ:St) (H:Hp) (E:Value->Shared->Prop),Inv X pins σ H s->(∀ b∈fp,nF X pins H b)->tn i s.heap->J.go i H ->
  wpAny (model P w) X.A (pyNext (.ref it)) (λ r s1=>∃ u,r=some u /\
   wpAny (model P w) X.A (letOwnedTupleGo tg (.ref it) u) (λ _ s2=>∃ x H',Inv X pins σ H' s2/\RelV x u/\J.yld i H x H'/\tn (i+1) s2.heap/\∀ b∈fp,H' b=none) E s1) E s
 done:∀ (X:Cx),X.prog=P->X.w=w->X.K=K->X.calm=true->∀ (i:Nat) (pins:List (Addr×Obj)) (s:Shared) (σ:St) (H:Hp) (E:Value->Shared->Prop),Inv X pins σ H s->(∀ b∈fp,nF X pins H b)->tn i s.heap->J.stop i H ->
  wpAny (model P w) X.A (pyNext (.ref it)) (λ r s1=>r=none/\Inv X pins σ H s1) E s
 self:∀ (A:Around) (i:Nat) (s:Shared) (Q:Value->Shared->Prop) (E:Value->Shared->Prop),tn i s.heap->Q (.ref it) s->wpAny (model P w) A (pyIter (.ref it)) Q E s
noncomputable abbrev TI:=St->Hp->(It->Hp->Prop)->Prop
noncomputable def Qv (X:Cx)(pins:List (Addr×Obj))(σ:St)(tg:Expr)(R:It->Hp->Prop)(itv:Value)(s2:Shared):Prop:=
 ∃ (it:Addr) (fp:List Addr) (tn:Nat->Heap->Prop) (J:It) (H':Hp),itv=.ref it/\Inv X pins σ H' s2/\Turn X.prog X.w X.K tg J fp it tn/\tn 0 s2.heap/\(∀ b∈fp,nF X pins H' b)/\R J H'
noncomputable def PI (X:Cx)(tg iter:Expr)(wi:TI):Prop:=
 ∀ (pins:List (Addr×Obj)) (s:Shared) (σ:St) (H:Hp) (R:It->Hp->Prop),Inv X pins σ H s->wi σ H R ->
  wpAny (model X.prog X.w) X.A (eval iter X.env) (λ v s1=>wpAny (model X.prog X.w) X.A (pyIter v) (Qv X pins σ tg R) X.xe s1) X.xe s
theorem uJ {M:Model}{A:Around}{E:Value->Shared->Prop}{s:Shared}{tg:Expr}{it:Addr}{u:Value}{o:Obj}{n:String}{vs:Array Value}{Q:Unit->Shared->Prop}(ho:s.heap.get? it=some o)(hc:o.cls=.type n)(hd:o.data=.fields vs)
  (hn:["enumerate", "zip", "dict_itemiterator", "dict_reverseitemiterator", "odict_iterator", "itertools.zip_longest", "itertools.pairwise"].contains n=false) (hQ:Q () s):wpAny M A (letOwnedTupleGo tg (.ref it) u) Q E s:=by
 unfold letOwnedTupleGo
 cases tg <;> first
  | exact wpAny_pure hQ
  | (cases u <;> first
    | exact wpAny_pure hQ
    | (refine wpAny_bind (wpAny_load ho ?_)
       rw [hc,hd];show wpAny M A (if (["enumerate", "zip", "dict_itemiterator", "dict_reverseitemiterator", "odict_iterator", "itertools.zip_longest", "itertools.pairwise"].contains n && vs[0]? == some (rawInt _))=true then _ else _) Q E s;rw [if_neg (by intro h;rw [hn,Bool.false_and] at h;cases h)];exact wpAny_pure hQ))
noncomputable def M9 (K:PySem.W.Frag)(a:Addr):It:=
 ⟨λ i H=>∃ xs x,gY K H a xs/\xs[i]?=some x,λ i H x H'=>H'=H/\∀ xs,gY K H a xs->xs[i]?=some x,λ i H=>∃ xs,gY K H a xs/\xs.length<=i⟩
noncomputable def MO (K:PySem.W.Frag)(a:Addr):It:=
 ⟨λ i H=>∃ xs x,fF K H a xs/\xs[i]?=some x,λ i H x H'=>H'=H/\∀ xs,fF K H a xs->xs[i]?=some x,λ i H=>∃ xs,fF K H a xs/\xs.length<=i⟩
noncomputable def NW (lo:Int)(n:Nat):It:=⟨λ i _=>i < n,λ i H x H'=>H'=H/\x=.int (lo+i),λ i _=>n<=i⟩
theorem ng {P:Program}{w:World}{K:PySem.W.Frag}{tg:Expr}(a it:Addr):Turn P w K tg (M9 K a) [it] it (λ i h=>h.IsListIter it a i) where
 mem:=by simp
 obj:=λ i h st b hb=>by
  have e:b=it:=by simpa using hb
  subst e;obtain ⟨o,e,c,d⟩:=st;exact ⟨o,e,λ v z=>by rw [d] at z;cases z⟩
 keep:=λ i h h' st k=>st.at λ o e=>k it (by simp) o e
 item:=by
  intro X hP hw hK hc i pins s σ H E I hf st hg;subst hP hw hK;obtain ⟨xs,x,hq,hx⟩:=hg;obtain ⟨its,rv,p,hz⟩:=I.list hq;obtain ⟨u,hu,ru⟩:=rv.get hx;obtain ⟨f0,f1,f2,f3,f4,f5⟩:=hf it (by simp);refine wpAny_pyNext_list_item st p.isList (x:=u) (by simpa using hu) λ h' st' sb=>?_;have I1:Inv X pins σ H { s with heap:=h' }:=I.turned (t':=s.toks) (λ b o hb e=>(sb.2 b hb).trans e) f0 f1 f3 f4 f5;obtain ⟨o,e,c,d⟩:=id st';exact ⟨u,rfl,uJ (s:={ s with heap:=h' }) e c d (by decide) ⟨x,H,I1,ru,⟨rfl,λ ys hy=>by rw [I.vt hy hq];exact hx⟩,st',λ b hb=>(hf b hb).1⟩⟩
 done:=by
  intro X hP hw hK hc i pins s σ H E I hf st hg;subst hP hw hK;obtain ⟨xs,hq,hx⟩:=hg;obtain ⟨its,rv,p,hz⟩:=I.list hq;obtain ⟨f0,f1,f2,f3,f4,f5⟩:=hf it (by simp);have hl:=rv.length;exact wpAny_pyNext_list_end (I.ok.hd hc) st p.isList (by simp;omega) λ h' eb=>⟨rfl,I.turned (t':=s.toks) (λ b o hb e=>eb b o hb e) f0 f1 f3 f4 f5⟩
 self:=λ _ _ _ _ _ st h=>wpAny_pyIter_listiter st h
theorem yc {P:Program}{w:World}{K:PySem.W.Frag}{tg:Expr}(a it:Addr):Turn P w K tg (MO K a) [it] it (λ i h=>h.IsTupleIter it a i) where
 mem:=by simp
 obj:=λ i h st b hb=>by
  have e:b=it:=by simpa using hb
  subst e;obtain ⟨o,e,c,d⟩:=st;exact ⟨o,e,λ v z=>by rw [d] at z;cases z⟩
 keep:=λ i h h' st k=>st.at λ o e=>k it (by simp) o e
 item:=by
  intro X hP hw hK hc i pins s σ H E I hf st hg;subst hP hw hK;obtain ⟨xs,x,hq,hx⟩:=hg;obtain ⟨its,rv,p,hz⟩:=I.tuple hq;obtain ⟨u,hu,ru⟩:=rv.get hx;obtain ⟨f0,f1,f2,f3,f4,f5⟩:=hf it (by simp);refine wpAny_pyNext_tuple_item st (show s.heap.IsTuple a its.toArray from p) (x:=u) (by simpa using hu) λ h' st' sb=>?_;have I1:Inv X pins σ H { s with heap:=h' }:=I.turned (t':=s.toks) (λ b o hb e=>(sb.2 b hb).trans e) f0 f1 f3 f4 f5;obtain ⟨o,e,c,d⟩:=id st';exact ⟨u,rfl,uJ (s:={ s with heap:=h' }) e c d (by decide) ⟨x,H,I1,ru,⟨rfl,λ ys hy=>by rw [I.sL hy hq];exact hx⟩,st',λ b hb=>(hf b hb).1⟩⟩
 done:=by
  intro X hP hw hK hc i pins s σ H E I hf st hg;subst hP hw hK;obtain ⟨xs,hq,hx⟩:=hg;obtain ⟨its,rv,p,hz⟩:=I.tuple hq;obtain ⟨f0,f1,f2,f3,f4,f5⟩:=hf it (by simp);have hl:=rv.length;exact wpAny_pyNext_tuple_end (I.ok.hd hc) st (show s.heap.IsTuple a its.toArray from p) (by simp;omega) λ h' eb=>⟨rfl,I.turned (t':=s.toks) (λ b o hb e=>eb b o hb e) f0 f1 f3 f4 f5⟩
 self:=λ _ _ _ _ _ st h=>wpAny_pyIter_tupleiter st h
theorem yh {P:Program}{w:World}{K:PySem.W.Frag}{tg:Expr}(it:Addr)(lo:Int)(n:Nat):Turn P w K tg (NW lo n) [it] it (λ i h=>IsRangeIter h it (lo+(i:Nat) * 1) ((n:Int) - (i:Nat)) 1) where
 mem:=by simp
 obj:=λ i h st b hb=>by
  have e:b=it:=by simpa using hb
  subst e;exact ⟨_,st,λ v z=>by
   have z':Data.fields _=Data.cell v:=z
   cases z'⟩
 keep:=λ i h h' st k=>k it (by simp) _ st
 item:=by
  intro X hP hw hK hc i pins s σ H E I hf st hg;subst hP hw hK;obtain ⟨f0,f1,f2,f3,f4,f5⟩:=hf it (by simp);have W:=Walks.range (prog:=X.prog) (w:=X.w) (I.ok.hd hc) it lo 1 n;refine W.item i s _ _ hg st λ v h' tk hv st' kk=>?_;obtain ⟨t,rfl⟩:=hv;have I1:Inv X pins σ H { s with heap:=h',toks:=tk }:=I.turned (λ b o hb e=>kk b o (by simpa using hb) e) f0 f1 f3 f4 f5;refine ⟨_,rfl,uJ (s:={ s with heap:=h',toks:=tk }) (n := "range_iterator") st' rfl rfl (by decide) ⟨.int (lo+i),H,I1,⟨t,?_⟩,⟨rfl,rfl⟩,st',λ b hb=>(hf b hb).1⟩⟩;rw [Int.mul_one]
 done:=by
  intro X hP hw hK hc i pins s σ H E I hf st hg;subst hP hw hK;obtain ⟨f0,f1,f2,f3,f4,f5⟩:=hf it (by simp);exact wpAny_pyNext_range_end (I.ok.hd hc) st (by have:n<=i:=hg;omega) λ h' eb=>⟨rfl,I.turned (t':=s.toks) (λ b o hb e=>eb b o hb e) f0 f1 f3 f4 f5⟩
 self:=λ _ _ _ _ _ st h=>wpAny_pyIter_rangeiter st h
section
variable {X:Cx} {tg:Expr}
noncomputable def Ka (K:PySem.W.Frag)(tl:TE):TI:=λ σ H R=>tl σ H λ x H1=>∃ a,x=.ref a/\(∃ xs,gY K H1 a xs)/\R (M9 K a) H1
noncomputable def Qa (K:PySem.W.Frag)(tl:TE):TI:=λ σ H R=>tl σ H λ x H1=>∃ a,x=.ref a/\(∃ xs,fF K H1 a xs)/\R (MO K a) H1
theorem y9 {l:Expr}{tl:TE}(hl:PE X l tl):PI X tg l (Ka X.K tl):=by
 intro pins s σ H R I h;refine dP (hl pins s σ H _ I h) λ v s1 ⟨x,H1,I1,r1,q1⟩=>?_;obtain ⟨a,e,⟨xs,hq⟩,q⟩:=q1;subst e
 cases r1
 obtain ⟨its,rv,p,hz⟩:=I1.list hq;refine wpAny_pyIter_list p.isList ?_;refine ⟨s1.heap.objs.size,[s1.heap.objs.size],_,_,H1,rfl,I1.kept (t':=s1.toks) λ b o e=>get?_push_of_some _ e,ng a _,⟨_,get?_push_size _ rfl,rfl,rfl⟩,λ b hb=>?_,q⟩;have e:b=s1.heap.objs.size:=by simpa using hb
 subst e;exact I1.BI (Nat.le_refl _) (I1.hok.fresh (Nat.le_refl _))
theorem EL {l:Expr}{tl:TE}(hl:PE X l tl):PI X tg l (Qa X.K tl):=by
 intro pins s σ H R I h;refine dP (hl pins s σ H _ I h) λ v s1 ⟨x,H1,I1,r1,q1⟩=>?_;obtain ⟨a,e,⟨xs,hq⟩,q⟩:=q1;subst e
 cases r1
 obtain ⟨its,rv,p,hz⟩:=I1.tuple hq;refine wpAny_pyIter_tuple (show s1.heap.IsTuple a its.toArray from p) ?_;refine ⟨s1.heap.objs.size,[s1.heap.objs.size],_,_,H1,rfl,I1.kept (t':=s1.toks) λ b o e=>get?_push_of_some _ e,yc a _,⟨_,get?_push_size _ rfl,rfl,rfl⟩,λ b hb=>?_,q⟩;have e:b=s1.heap.objs.size:=by simpa using hb
 subst e;exact I1.BI (Nat.le_refl _) (I1.hok.fresh (Nat.le_refl _))
theorem vW {pins:List (Addr×Obj)}{σ:St}{H:Hp}{s:Shared}{R:It->Hp->Prop}{E:Value->Shared->Prop}{lo hi:Int}{t u v:Tok}{tk:Nat}(I:Inv X pins σ H s)(h1:-(2 ^ 62)<=lo)(h2:lo < 2 ^ 62)(h3:-(2 ^ 62)<=hi)(h4:hi < 2 ^ 62)
  (q:R (NW lo (hi - lo).toNat) H):wpAny (model X.prog X.w) X.A (pyIter (.ref s.heap.objs.size)) (Qv X pins σ tg R) E { s with heap:=s.heap.push { cls:=.type "range",data:=.fields #[.int lo t,.int hi u,.int 1 v] },toks:=tk }:=by
 refine wpAny_pyIter_range (IsRange.new ..) (small_one h1 h2 h3 h4) ?_;have I1:Inv X pins σ H { s with heap:=s.heap.push { cls:=.type "range",data:=.fields #[.int lo t,.int hi u,.int 1 v] },toks:=tk }:=I.kept λ b o e=>get?_push_of_some _ e;refine ⟨(s.heap.push { cls:=.type "range",data:=.fields #[.int lo t,.int hi u,.int 1 v] }).objs.size,[(s.heap.push { cls:=.type "range",data:=.fields #[.int lo t,.int hi u,.int 1 v] }).objs.size],_,_,H,rfl,
  I1.kept (t':=tk) λ b o e=>get?_push_of_some _ e,yh _ lo (hi - lo).toNat,?_,λ b hb=>?_,q⟩
 ·have e1:lo+((0:Nat):Int) * 1=lo:=by simp
  have e2:(((hi - lo).toNat:Nat):Int) - ((0:Nat):Int)=Builtin.Range.rangeSize lo hi 1:=by rw [rangeSize_one];split <;> omega
  show IsRangeIter _ _ (lo+((0:Nat):Int) * 1) ((((hi - lo).toNat:Nat):Int) - ((0:Nat):Int)) 1;rw [e1,e2];exact get?_push_size _ rfl
 ·have e:b=(s.heap.push { cls:=.type "range",data:=.fields #[.int lo t,.int hi u,.int 1 v] }).objs.size:=by simpa using hb
  subst e;exact I1.BI (Nat.le_refl _) (I1.hok.fresh (Nat.le_refl _))
noncomputable def gI (ta:TA):TI:=λ σ H R=>ta σ H λ vs H1=>∃ j:Int,vs=[.int j]/\-(2 ^ 62)<=j/\j < 2 ^ 62/\R (NW 0 j.toNat) H1
noncomputable def oB (ta:TA):TI:=λ σ H R=>ta σ H λ vs H1=>∃ i j:Int,vs=[.int i,.int j]/\(-(2 ^ 62)<=i/\i < 2 ^ 62/\-(2 ^ 62)<=j/\j < 2 ^ 62)/\R (NW i (j - i).toNat) H1
theorem BD {a:Expr}{ta:TA}{p pos:Pos}(hg:Gl X "range")(hm:X.mg "range" = none)(ha:PA X [a] ta)(hs:starEach [a] X.env=[(false,eval a X.env)]:=by rfl):PI X tg (.Call (.Name "range" p) [a] [] pos) (gI ta):=by
 intro pins s σ H R I h;refine Call_ (pY I hg hm boot_range (PyProof.Rows.callWith_type1 (dP (ha pos pins s σ H _ I h) λ us s1 ⟨vs,H1,I1,r1,q1⟩=>?_) hs rfl));obtain ⟨j,e,q1,q2,q⟩:=q1;subst e
 cases r1 with
 | cons r rr=>
  cases rr
  obtain ⟨t,rfl⟩:=r;exact call_range_1 (vW I1 (by omega) (by omega) q1 q2 (by simpa using q))
theorem BY {a b:Expr}{ta:TA}{p pos:Pos}(hg:Gl X "range")(hm:X.mg "range" = none)(ha:PA X [a,b] ta)(hs:starEach [a,b] X.env=[(false,eval a X.env),(false,eval b X.env)]:=by rfl)(hs2:starEach [b] X.env=[(false,eval b X.env)]:=by rfl) :
  PI X tg (.Call (.Name "range" p) [a,b] [] pos) (oB ta):=by
 intro pins s σ H R I h;refine Call_ (pY I hg hm boot_range (PyProof.Rows.callWith_type1 (dP (ha pos pins s σ H _ I h) λ us s1 ⟨vs,H1,I1,r1,q1⟩=>?_) (by rw [hs,hs2]) (by rw [hs2];rfl)));obtain ⟨i,j,e,⟨q1,q2,q3,q4⟩,q⟩:=q1;subst e
 cases r1 with
 | cons r rr=>
  cases rr with
  | cons r' rr=>
   cases rr
   obtain ⟨t,rfl⟩:=r;obtain ⟨t',rfl⟩:=r';exact call_range_2 (vW I1 q1 q2 q3 q4 q)
noncomputable def OY (wi:TI)(g:TG)(tb:TS):TS:=λ D σ H=>wi σ H λ J H1=>∃ W:Nat->Nat->St->Hp->Prop,(∃ m,W 0 m σ H1)/\∀ i m σ H,W i m σ H ->
 (J.stop i H/\D.nx σ H)\/(J.go i H/\∃ N:St->Hp->Prop,(∀ σ' H',N σ' H'->∃ m',m' < m/\W (i+1) m' σ' H')/\∀ x H',J.yld i H x H'->g x σ H' λ σ2 H2=>tb { D with nx:=N,ct:=N,bk:=D.nx } σ2 H2)
noncomputable def qo (fp:List Addr)(h:Heap):List (Addr×Obj):=fp.filterMap λ b=>(h.get? b).map λ o=>(b,o)
theorem jw {fp:List Addr}{h:Heap}{b:Addr}{o:Obj}(hb:b∈fp)(e:h.get? b=some o):(b,o)∈qo fp h:=mem_filterMap.mpr ⟨b,hb,by rw [e];rfl⟩
theorem Cq {fp:List Addr}{h:Heap}{p:Addr×Obj}(hp:p∈qo fp h):p.1∈fp/\h.get? p.1=some p.2:=by
 obtain ⟨b,hb,e⟩:=mem_filterMap.mp hp
 cases q:h.get? b with
 | none=>rw [q] at e;cases e
 | some o=>
  rw [q] at e;have e':(b,o)=p:=Option.some.inj e;subst e';exact ⟨hb,q⟩
theorem Inv.pinned {pins:List (Addr×Obj)}{σ:St}{H:Hp}{s:Shared}{fp:List Addr}(I:Inv X pins σ H s)(hf:∀ b∈fp,nF X pins H b)(ho:∀ b∈fp,∃ o,s.heap.get? b=some o/\∀ v,o.data≠.cell v):Inv X (pins++qo fp s.heap) σ H s:=
 I.yF λ p hp=>(mem_append.mp hp).elim (λ z=>I.pin p (mem_append_right _ z)) λ z=>by
  obtain ⟨hb,e⟩:=Cq z;obtain ⟨f0,f1,f2,_⟩:=hf p.1 hb;obtain ⟨o,e',d⟩:=ho p.1 hb;rw [e] at e';cases e';exact ⟨e,f0,f1,f2,d⟩
theorem Inv.mJ {pins pl:List (Addr×Obj)}{σ:St}{H:Hp}{s:Shared}(I:Inv X (pins++pl) σ H s):Inv X pins σ H s:=I.yF λ p hp=>I.pin p (mem_append_right _ (mem_append_left _ hp))
theorem L3 {iter:Expr}{body:List Stmt}{wi:TI}{g:TG}{tb:TS}{pos:Pos}(hp:PassesOwn (model X.prog X.w) X.A X.env X.xe)(hc:X.calm=true)(hi:PI X tg iter wi)(hg:PG X tg g)(hb:qW X body tb)
  (hs:∀ x,foldedSetIterable iter X.env x=pure x:=by intro _;rfl):PS X (.For tg iter body [] pos) (OY wi g tb):=by
 intro pins s σ H D I h;refine wpAny_For (dP (hi pins s σ H _ I h) λ v s1 h1=>dP h1 λ itv s2 h2=>?_) hs;obtain ⟨it,fp,tn,J,H2,e,I2,T,st2,f2,W,⟨m0,w0⟩,turn⟩:=h2;subst e;have stat:∀ {H':Hp},(∀ b∈fp,H' b=none)->∀ b∈fp,nF X pins H' b:=λ hn b hb=>⟨hn b hb,(f2 b hb).2⟩;refine codeAny_forLoop_any (λ n s'=>∃ i σ' H',Inv X pins σ' H' s'/\tn i s'.heap/\(∀ b∈fp,H' b=none)/\W i n σ' H') ?_ m0 ⟨0,σ,H2,I2,st2,λ b hb=>(f2 b hb).1,w0⟩;rintro n s3 ⟨i,σ3,H3,I3,st3,fr3,w3⟩
 rcases turn i n σ3 H3 w3 with ⟨stop,qn⟩ | ⟨go,N,hN,step⟩
 ·refine wpAny_passesOwn hp (dP (T.done X rfl rfl rfl hc i pins s3 σ3 H3 X.xe I3 (stat fr3) st3 stop) λ r s4 ⟨hr,I4⟩=>?_);subst hr;exact wpAny_execs_nil ⟨σ3,H3,I4,qn⟩
 ·refine wpAny_passesOwn hp (dP (T.item X rfl rfl rfl hc i pins s3 σ3 H3 X.xe I3 (stat fr3) st3 go) λ r s4 ⟨u,hr,h4⟩=>?_);subst hr;refine wpAny_passesOwn hp (dP h4 λ _ s5 ⟨x,H5,I5,r5,y5,st5,fr5⟩=>?_);have I5':=I5.pinned (stat fr5) (T.obj _ _ st5);refine wpAny_passesOwn hp (dP (hg _ s5 σ3 H5 x u _ I5' r5 (step x H5 y5)) λ _ s6 ⟨σ6,H6,I6,q6⟩=>?_);refine wpAny_passesOwn hp (dP (hb _ s6 σ6 H6 _ I6 q6) λ f s7 q7=>?_);have again:∀ {σ7:St} {H7:Hp},Inv X (pins++qo fp s5.heap) σ7 H7 s7->N σ7 H7->∃ m,m < n/\∃ i σ' H',Inv X pins σ' H' s7/\tn i s7.heap/\(∀ b∈fp,H' b=none)/\W i m σ' H':=λ {σ7 H7} I7 n7=>by
   obtain ⟨m',hm,w7⟩:=hN σ7 H7 n7;refine ⟨m',hm,i+1,σ7,H7,I7.mJ,T.keep _ _ _ st5 λ b hb o e=>(I7.pin (b,o) (mem_append_right _ (mem_append_right _ (jw hb e)))).1,λ b hb=>?_,w7⟩;obtain ⟨o,e,d⟩:=T.obj _ _ st5 b hb;exact (I7.pin (b,o) (mem_append_right _ (mem_append_right _ (jw hb e)))).2.1
  cases f with
  | next=>obtain ⟨σ7,H7,I7,n7⟩:=q7;exact again I7 n7
  | cont=>obtain ⟨σ7,H7,I7,n7⟩:=q7;exact again I7 n7
  | brk=>obtain ⟨σ7,H7,I7,q7⟩:=q7;exact ⟨σ7,H7,I7.mJ,q7⟩
  | ret v=>obtain ⟨x7,σ7,H7,I7,r7,q7⟩:=q7;exact ⟨x7,σ7,H7,I7.mJ,r7,q7⟩
end
theorem zz {K:PySem.W.Frag}{a:Addr}{xs:List V}{g:TG}{tb:TS}{D:Ends}{σ:St}{H:Hp}(Pv:Nat->St->Hp->Prop)(h0:Pv 0 σ H)(hl:∀ i σ H,i<=xs.length->Pv i σ H->fF K H a xs)
  (hs:∀ i x σ H,xs[i]?=some x->Pv i σ H->g x σ H λ σ2 H2=>tb { D with nx:=Pv (i+1),ct:=Pv (i+1),bk:=D.nx } σ2 H2) (hd:∀ σ H,Pv xs.length σ H->D.nx σ H) :
  ∃ W:Nat->Nat->St->Hp->Prop,(∃ m,W 0 m σ H)/\∀ i m σ H,W i m σ H ->
   ((MO K a).stop i H/\D.nx σ H)\/((MO K a).go i H/\∃ N:St->Hp->Prop,(∀ σ' H',N σ' H'->∃ m',m' < m/\W (i+1) m' σ' H')/\∀ x H',(MO K a).yld i H x H'->g x σ H' λ σ2 H2=>tb { D with nx:=N,ct:=N,bk:=D.nx } σ2 H2):=by
 refine ⟨λ i m σ H=>m=xs.length - i/\i<=xs.length/\Pv i σ H,⟨xs.length,by simp,zero_le _,h0⟩,?_⟩;rintro i m σ H ⟨rfl,hi,p⟩;have q:=hl i σ H hi p;by_cases hlt:i < xs.length
 ·refine .inr ⟨⟨xs,xs[i],q,by simp [hlt]⟩,Pv (i+1),λ σ' H' p'=>⟨xs.length - (i+1),by omega,rfl,hlt,p'⟩,λ x H' y=>?_⟩;obtain ⟨e,y⟩:=y;subst e;exact hs i x σ _ (y xs q) p
 ·have e:i=xs.length:=by omega
  subst e;exact .inl ⟨⟨xs,q,Nat.le_refl _⟩,hd σ H p⟩
theorem pJ {c:TT}{tb:TS}{D:Ends}{σ:St}{H:Hp}(Pv:St->Hp->Prop)(μ:St->Hp->Nat)(h0:Pv σ H)
  (hs:∀ σ H,Pv σ H->c σ H λ b H1=>if b=true then tb { D with nx:=λ σ' H'=>Pv σ' H'/\μ σ' H' < μ σ H,ct:=λ σ' H'=>Pv σ' H'/\μ σ' H' < μ σ H,bk:=D.nx } σ H1 else D.nx σ H1)
  (mono:∀ σ H Q Q',(∀ b H1,Q b H1->Q' b H1)->c σ H Q->c σ H Q'):EG c tb D σ H:=by
 refine ⟨λ m σ H=>m=μ σ H/\Pv σ H,⟨_,rfl,h0⟩,?_⟩;rintro m σ H ⟨rfl,p⟩;refine mono σ H _ _ (λ b H1 q=>?_) (hs σ H p)
 cases b with
 | true=>exact ⟨_,λ σ' H' ⟨p',l⟩=>⟨_,l,rfl,p'⟩,q⟩
 | false=>exact q
noncomputable abbrev R2:=V->V->Hp->VK->Prop
noncomputable def fX (X:Cx)(f:Value->Value->Sem Value)(r:R2):Prop:=
 ∀ (pins:List (Addr×Obj)) (s:Shared) (σ:St) (H:Hp) (x y:V) (v u:Value) (Q:VK),Inv X pins σ H s->RelV x v->RelV y u->r x y H Q ->
  wpAny (model X.prog X.w) X.A (f v u) (EP X pins σ Q) X.xe s
noncomputable def OX (X:Cx)(f:Value->Sem Value)(r:V->Hp->VK->Prop):Prop:=
 ∀ (pins:List (Addr×Obj)) (s:Shared) (σ:St) (H:Hp) (x:V) (v:Value) (Q:VK),Inv X pins σ H s->RelV x v->r x H Q ->
  wpAny (model X.prog X.w) X.A (f v) (EP X pins σ Q) X.xe s
noncomputable def bH (X:Cx)(f:Value)(r:List V->Hp->VK->Prop):Prop:=
 ∀ (pins:List (Addr×Obj)) (s:Shared) (σ:St) (H:Hp) (xs:List V) (us:List Value) (Q:VK),Inv X pins σ H s->Vals xs us->r xs H Q ->
  wpAny (model X.prog X.w) X.A (call f us) (EP X pins σ Q) X.xe s
noncomputable def Ph (X:Cx)(r:V->Hp->(Bool->Hp->Prop)->Prop):Prop:=
 ∀ (pins:List (Addr×Obj)) (s:Shared) (σ:St) (H:Hp) (x:V) (v:Value) (Q:Bool->Hp->Prop),Inv X pins σ H s->RelV x v->r x H Q ->
  wpAny (model X.prog X.w) X.A (truthy v) (TP X pins σ Q) X.xe s
noncomputable def Ot (r:R2)(ta tb:TE):TE:=λ σ H Q=>ta σ H λ x H1=>tb σ H1 λ y H2=>r x y H2 Q
noncomputable def Qz (r:V->Hp->VK->Prop)(ta:TE):TE:=λ σ H Q=>ta σ H λ x H1=>r x H1 Q
noncomputable def rI (C:Int->Int->Prop)(g:Int->Int->V):R2:=λ x y H Q=>∃ i j,x=.int i/\y=.int j/\C i j/\Q (g i j) H
noncomputable def Jy (g:Int->Int->V):R2:=λ x y H Q=>∃ i j,x=.int i/\y=.int j/\Q (g i j) H
noncomputable def rU (g:Int->V):V->Hp->VK->Prop:=λ x H Q=>∃ i,x=.int i/\Q (g i) H
section
variable {X:Cx} {a b c:Expr} {ta tb tc:TE} {pos:Pos}
theorem L5 (ha:PE X a ta)(hb:PE X b tb){pins:List (Addr×Obj)}{s:Shared}{σ:St}{H:Hp}{R:V->V->Hp->Prop}(I:Inv X pins σ H s)
  (h:ta σ H λ x H1=>tb σ H1 λ y H2=>R x y H2) {Q:Value->Shared->Prop} {f:Value->Value->Sem Value}
  (hf:∀ v u s2 x y H2,Inv X pins σ H2 s2->RelV x v->RelV y u->R x y H2->wpAny (model X.prog X.w) X.A (f v u) Q X.xe s2) :
  wpAny (model X.prog X.w) X.A (eval a X.env) (λ v s₁=>wpAny (model X.prog X.w) X.A (eval b X.env) (λ u s₂=>wpAny (model X.prog X.w) X.A (f v u) Q X.xe s₂) X.xe s₁) X.xe s:=by
 refine dP (ha pins s σ H _ I h) λ v s1 ⟨x,H1,I1,r1,q1⟩=>?_;refine dP (hb pins s1 σ H1 _ I1 q1) λ u s2 ⟨y,H2,I2,r2,q2⟩=>?_;exact hf v u s2 x y H2 I2 r1 r2 q2
theorem Nb {op:Operator}{r:R2}(ho:fX X (binaryOp op) r)(ha:PE X a ta)(hb:PE X b tb):PE X (.BinOp a op b pos) (Ot r ta tb):=by
 intro pins s σ H Q I h;exact wpAny_BinOp (L5 ha hb I h λ v u s2 x y H2 I2 rx ry q=>ho pins s2 σ H2 x y v u Q I2 rx ry q)
theorem MY {op:UnaryOp}{r:V->Hp->VK->Prop}(ho:OX X (unaryOp op) r)(ha:PE X a ta):PE X (.UnaryOp op a pos) (Qz r ta):=by
 intro pins s σ H Q I h;exact UnaryOp_ (dP (ha pins s σ H _ I h) λ v s1 ⟨x,H1,I1,r1,q1⟩=>ho pins s1 σ H1 x v Q I1 r1 q1)
theorem OW {f:Value->Value->Sem Value}{C:Int->Int->Prop}{g:Int->Int->Int}
  (rule:∀ (i j:Int) (t u:Tok) (s:Shared) (Q:Value->Shared->Prop) (E:Value->Shared->Prop),C i j->Q (.int (g i j) s.toks) { s with toks:=s.toks+1 }->wpAny (model X.prog X.w) X.A (f (.int i t) (.int j u)) Q E s) :
  fX X f (rI C λ i j=>.int (g i j)):=by
 intro pins s σ H x y v u Q I rx ry h;obtain ⟨i,j,rfl,rfl,hc,q⟩:=h;obtain ⟨t,rfl⟩:=rx;obtain ⟨t',rfl⟩:=ry;exact rule i j t t' s _ _ hc ⟨.int (g i j),H,I.tok _,⟨_,rfl⟩,q⟩
theorem NK {f:Value->Value->Sem Value}{g:Int->Int->Int}
  (rule:∀ (i j:Int) (t u:Tok) (s:Shared) (Q:Value->Shared->Prop) (E:Value->Shared->Prop),Q (.int (g i j) s.toks) { s with toks:=s.toks+1 }->wpAny (model X.prog X.w) X.A (f (.int i t) (.int j u)) Q E s) :
  fX X f (Jy λ i j=>.int (g i j)):=by
 intro pins s σ H x y v u Q I rx ry h;obtain ⟨i,j,rfl,rfl,q⟩:=h;obtain ⟨t,rfl⟩:=rx;obtain ⟨t',rfl⟩:=ry;exact rule i j t t' s _ _ ⟨.int (g i j),H,I.tok _,⟨_,rfl⟩,q⟩
theorem Jk {f:Value->Value->Sem Value}{g:Int->Int->Bool}
  (rule:∀ (i j:Int) (t u:Tok) (s:Shared) (Q:Value->Shared->Prop) (E:Value->Shared->Prop),Q (.bool (g i j)) s->wpAny (model X.prog X.w) X.A (f (.int i t) (.int j u)) Q E s) :
  fX X f (Jy λ i j=>.bl (g i j)):=by
 intro pins s σ H x y v u Q I rx ry h;obtain ⟨i,j,rfl,rfl,q⟩:=h;obtain ⟨t,rfl⟩:=rx;obtain ⟨t',rfl⟩:=ry;exact rule i j t t' s _ _ ⟨.bl (g i j),H,I,rfl,q⟩
noncomputable def Pu (i j:Int):Prop:=0<=j/\j<=1000000/\i.natAbs < 2 ^ 64
noncomputable def Ie (i j:Int):Prop:=(-(2 ^ 64) < i/\i < 2 ^ 64)\/(-(2 ^ 64) < j/\j < 2 ^ 64)
theorem Ie.ok {i j:Int}(h:Ie i j):IntMulOk i j:=by
 rcases h with ⟨h1,h2⟩ | ⟨h1,h2⟩
 ·exact .of_left (intBits_le_64 h1 h2)
 ·exact .of_right (intBits_le_64 h1 h2)
theorem KI:fX X (binaryOp .Add) (Jy λ i j=>.int (i+j)):=NK λ _ _ _ _ _ _ _ q=>add_int q
theorem Mv:fX X (binaryOp .Sub) (Jy λ i j=>.int (i - j)):=NK λ _ _ _ _ _ _ _ q=>sub_int q
theorem KH:fX X (binaryOp .Mult) (rI Ie λ i j=>.int (i * j)):=OW λ _ _ _ _ _ _ _ hc q=>mul_int q hc.ok
theorem LC:fX X (binaryOp .Mod) (rI (λ _ j=>0 < j) λ i j=>.int (i % j)):=OW λ i j _ _ _ _ _ hc q=>by
 have h1:(0:Int) < j:=hc;exact mod_int' (by omega) (by rw [Int.fmod_eq_emod_of_nonneg i (by omega)];exact q)
theorem Ld:fX X (binaryOp .Pow) (rI Pu λ i j=>.int (i ^ j.toNat)):=OW λ _ _ _ _ _ _ _ hc q=>pow_int_small hc.1 hc.2.1 hc.2.2 q
theorem QF {f:Value->Sem Value}{g:Int->Int}
  (rule:∀ (i:Int) (t:Tok) (s:Shared) (Q:Value->Shared->Prop) (E:Value->Shared->Prop),Q (.int (g i) s.toks) { s with toks:=s.toks+1 }->wpAny (model X.prog X.w) X.A (f (.int i t)) Q E s) :
  OX X f (rU λ i=>.int (g i)):=by
 intro pins s σ H x v Q I rx h;obtain ⟨i,rfl,q⟩:=h;obtain ⟨t,rfl⟩:=rx;exact rule i t s _ _ ⟨.int (g i),H,I.tok _,⟨_,rfl⟩,q⟩
theorem LZ:OX X (unaryOp .USub) (rU λ i=>.int (-i)):=QF λ _ _ _ _ _ q=>neg_int q
end
section
variable {X:Cx} {a b c:Expr} {ta tb tc:TE} {pos:Pos}
theorem Ox:fX X (compareOp .Lt) (Jy λ i j=>.bl (decide (i < j))):=Jk λ _ _ _ _ _ _ _ q=>lt_int q
theorem Of:fX X (compareOp .LtE) (Jy λ i j=>.bl (decide (i<=j))):=Jk λ _ _ _ _ _ _ _ q=>le_int q
theorem M0:fX X (compareOp .Gt) (Jy λ i j=>.bl (decide (j < i))):=Jk λ _ _ _ _ _ _ _ q=>gt_int q
theorem N8:fX X (compareOp .GtE) (Jy λ i j=>.bl (decide (j<=i))):=Jk λ _ _ _ _ _ _ _ q=>ge_int q
theorem Fc (b:Expr){op:CmpOp}(h:op≠.In:=by decide)(h2:op≠.NotIn:=by decide):behindInMarks op b=false:=by
 have e1:(op == CmpOp.In)=false:=by cases op <;> first | rfl | exact absurd rfl h
 have e2:(op == CmpOp.NotIn)=false:=by cases op <;> first | rfl | exact absurd rfl h2
 cases b <;> simp [behindInMarks,e1,e2]
theorem HZ {op:CmpOp}{r:R2}(ho:fX X (compareOp op) r)(ha:PE X a ta)(hb:PE X b tb)(hm:behindInMarks op b=false):PE X (.Compare a [op] [b] pos) (Ot r ta tb):=by
 intro pins s σ H Q I h;exact wpAny_Compare1 (L5 ha hb I h λ v u s2 x y H2 I2 rx ry q=>ho pins s2 σ H2 x y v u Q I2 rx ry q) hm
noncomputable def Nx (t:TE):TT:=λ σ H Q=>t σ H λ x H'=>∃ k,x=.bl k/\Q k H'
theorem IZ {op:CmpOp}{r:R2}(ho:fX X (compareOp op) r)(ha:PE X a ta)(hb:PE X b tb)(hm:behindInMarks op b=false):PT X (.Compare a [op] [b] pos) (Nx (Ot r ta tb)):=by
 intro pins s σ H Q I h;refine wpAny_isTrue_Compare1 (dP (ha pins s σ H _ I h) λ v s1 ⟨x,H1,I1,r1,q1⟩=>dP (hb pins s1 σ H1 _ I1 q1) λ u s2 ⟨y,H2,I2,r2,q2⟩=>
  dP (ho pins s2 σ H2 x y v u _ I2 r1 r2 q2) λ c s3 ⟨z,H3,I3,r3,k,e,q3⟩=>?_) hm
 subst e
 cases r3
 exact wpAny_truthy_bool ⟨H3,I3,q3⟩
noncomputable def EV (r r':R2)(ta tb tc:TE):TE:=λ σ H Q=>ta σ H λ x H1=>tb σ H1 λ y H2=>r x y H2 λ z H3=>∃ k,z=.bl k /\
 (if k=true then tc σ H3 λ w' H4=>r' y w' H4 Q else Q (.bl false) H3)
theorem ED {op op':CmpOp}{r r':R2}(ho:fX X (compareOp op) r)(ho':fX X (compareOp op') r')(ha:PE X a ta)(hb:PE X b tb)(hc:PE X c tc)
  (hm:lastMarks [op,op'] [b,c]=false:=by with_unfolding_all rfl):PE X (.Compare a [op,op'] [b,c] pos) (EV r r' ta tb tc):=by
 intro pins s σ H Q I h;refine Compare_chain (dP (ha pins s σ H _ I h) λ v s1 ⟨x,H1,I1,r1,q1⟩=>chain_link (dP (hb pins s1 σ H1 _ I1 q1) λ u s2 ⟨y,H2,I2,r2,q2⟩=>
  dP (ho pins s2 σ H2 x y v u _ I2 r1 r2 q2) λ d s3 ⟨z,H3,I3,r3,k,e,q3⟩=>?_)) hm
 subst e
 cases r3
 refine wpAny_truthy_bool ?_
 cases k with
 | false=>exact ite_ff ⟨.bl false,H3,I3,rfl,q3⟩
 | true=>exact ite_tt (chain_last (dP (hc pins s3 σ H3 _ I3 q3) λ w' s4 ⟨z',H4,I4,r4,q4⟩=>ho' pins s4 σ H4 y z' u w' Q I4 r2 r4 q4))
noncomputable def K6 (K:PySem.W.Frag)(x:V)(H:Hp)(k:Bool):Prop:=
 match x with
 | .non=>k=false
 | .bl b=>k=b
 | .int i=>k=(i != 0)
 | .str y=>y.length<=sizeLine/\k=((y.length:Int) != 0)
 | .byt y=>y.size<=sizeLine/\k=((y.size:Int) != 0)
 | .ref p=>(∃ xs,gY K H p xs/\k=!xs.isEmpty)\/(∃ xs,fF K H p xs/\k=!xs.isEmpty)\/∃ kvs,H p=some (.dK kvs)/\k=!kvs.isEmpty
 | _=>False
theorem xJ {κ:Type}{kvs:List (κ×V)}{vs:List (κ×Value)}(r:KV kvs vs):(!vs.isEmpty)=!kvs.isEmpty:=by
 cases r <;> rfl
theorem qu {xs:List V}{its:List Value}(r:Vals xs its):(!its.toArray.isEmpty)=!xs.isEmpty:=by
 cases r <;> simp
theorem nu:(sizeLine:Nat) < 2 ^ 63:=by rw [sizeLine_eq];decide
theorem Lb:Ph X (λ x H Q=>∃ k,K6 X.K x H k/\Q k H):=by
 intro pins s σ H x v Q I rx h;obtain ⟨k,e,q⟩:=h;have hl:=nu;have hs:sizeLine=16777216:=sizeLine_eq
 cases x with
 | non=>
  cases rx
  have e':k=false:=e;subst e';exact truthy_none ⟨H,I,q⟩
 | bl b=>
  cases rx
  have e':k=b:=e;subst e';exact wpAny_truthy_bool ⟨H,I,q⟩
 | int i=>
  obtain ⟨t,rfl⟩:=rx;have e':k=(i != 0):=e;subst e';exact PySem.P.truthy_int ⟨H,I,q⟩
 | str y=>
  obtain ⟨t,rfl⟩:=rx;obtain ⟨hy,e'⟩:y.length<=sizeLine/\k=((y.length:Int) != 0):=e;subst e';exact PySem.P.truthy_str (by omega) ⟨H,I.tok _,q⟩
 | byt y=>
  obtain ⟨t,rfl⟩:=rx;obtain ⟨hy,e'⟩:y.size<=sizeLine/\k=((y.size:Int) != 0):=e;subst e';exact PySem.W.truthy_bytes (by omega) ⟨H,I.tok _,q⟩
 | ref p=>
  cases rx
  have e':(∃ xs,gY X.K H p xs/\k=!xs.isEmpty)\/(∃ xs,fF X.K H p xs/\k=!xs.isEmpty)\/∃ kvs,H p=some (.dK kvs)/\k=!kvs.isEmpty:=e
  rcases e' with ⟨xs,hx,e'⟩ | ⟨xs,hx,e'⟩ | ⟨kvs,hx,e'⟩
  ·subst e';obtain ⟨its,r,pl,hz⟩:=I.list hx;have hlen:=r.length;exact wpAny_truthy_list pl.isList (by simp only [size_toArray];omega) ⟨H,I.tok _,by rw [qu r];exact q⟩
  ·subst e';obtain ⟨its,r,pl,hz⟩:=I.tuple hx;have hlen:=r.length;exact truthy_tuple pl (by simp only [size_toArray];omega) ⟨H,I.tok _,by rw [qu r];exact q⟩
  ·subst e';obtain ⟨hz,hS,vs,r,m⟩:kvs.length<=sizeLine/\(p == sysModules)=false/\∃ vs,KV kvs vs/\s.heap.DictOf (bL X.prog X.w) p vs:=I.hok p _ hx;have hlen:kvs.length=vs.length:=Paired.length r;exact wpAny_truthy_dict hS m (by omega) ⟨H,I.tok _,by rw [xJ r];exact q⟩
 | _=>exact (show False from e).elim
theorem D5 (ha:PE X a ta)(he:∀ whole,isTrue a X.env whole=(do let v <- whole;standAt a.pos;holding [v] (truthy v))) :
  PT X a (λ σ H Q=>ta σ H λ x H'=>∃ k,K6 X.K x H' k/\Q k H'):=by
 intro pins s σ H Q I h;exact isTrue_plain (dP (ha pins s σ H _ I h) λ v s1 ⟨x,H1,I1,r1,q1⟩=>Lb pins s1 σ H1 x v Q I1 r1 q1) (he _)
theorem wW:fX X (binaryOp .Add) (λ x y H Q=>∃ i j,x=.str i/\y=.str j/\i.length+j.length<=sizeLine/\Q (.str (i++j)) H):=by
 intro pins s σ H x y v u Q I rx ry h;obtain ⟨i,j,rfl,rfl,hz,q⟩:=h;obtain ⟨t,rfl⟩:=rx;obtain ⟨t',rfl⟩:=ry;exact add_str (λ t' tk=>⟨.str (i++j),H,I.tok _,⟨_,rfl⟩,q⟩) hz
theorem vals1 {x:V}{us:List Value}(r:Vals [x] us):∃ u,us=[u]/\RelV x u:=by
 cases r with
 | cons r1 r2=>cases r2;exact ⟨_,rfl,r1⟩
theorem vals2 {x y:V}{us:List Value}(r:Vals [x,y] us):∃ u w',us=[u,w']/\RelV x u/\RelV y w':=by
 cases r with
 | cons r1 r2=>
  cases r2 with
  | cons r3 r4=>cases r4;exact ⟨_,_,rfl,r1,r3⟩
theorem BG (hc:X.calm=true):bH X (.builtin "max") (λ xs H Q=>∃ i j,xs=[.int i,.int j]/\Q (.int (if j > i then j else i)) H):=by
 intro pins s σ H xs us Q I r h;obtain ⟨i,j,rfl,q⟩:=h;obtain ⟨u,w',rfl,⟨t,rfl⟩,⟨t',rfl⟩⟩:=vals2 r;refine max_two_ints (I.ok.hd hc) λ h' tk k=>⟨_,H,I.kept k,?_,q⟩;by_cases hj:j > i
 ·rw [if_pos hj,if_pos hj];exact ⟨_,rfl⟩
 ·rw [if_neg hj,if_neg hj];exact ⟨_,rfl⟩
theorem B8 (hc:X.calm=true):bH X (.builtin "min") (λ xs H Q=>∃ i j,xs=[.int i,.int j]/\Q (.int (if j < i then j else i)) H):=by
 intro pins s σ H xs us Q I r h;obtain ⟨i,j,rfl,q⟩:=h;obtain ⟨u,w',rfl,⟨t,rfl⟩,⟨t',rfl⟩⟩:=vals2 r;refine min_two_ints (I.ok.hd hc) λ h' tk k=>⟨_,H,I.kept k,?_,q⟩;by_cases hj:j < i
 ·rw [if_pos hj,if_pos hj];exact ⟨_,rfl⟩
 ·rw [if_neg hj,if_neg hj];exact ⟨_,rfl⟩
theorem rK:bH X (.type "int") (λ xs H Q=>(∃ i,xs=[.int i]/\Q (.int i) H)\/∃ k,xs=[.bl k]/\Q (.int (if k then 1 else 0)) H):=by
 intro pins s σ H xs us Q I r h
 rcases h with ⟨i,rfl,q⟩ | ⟨k,rfl,q⟩
 ·obtain ⟨u,rfl,t,rfl⟩:=vals1 r;exact call_int_int ⟨.int i,H,I,⟨_,rfl⟩,q⟩
 ·obtain ⟨u,rfl,r1⟩:=vals1 r
  cases r1
  exact call_int_bool ⟨.int (if k then 1 else 0),H,I.tok _,⟨_,rfl⟩,q⟩
noncomputable def Pn (K:PySem.W.Frag)(x:V)(H:Hp)(n:Nat):Prop:=
 match x with
 | .str y=>y.length<=sizeLine/\n=y.length
 | .byt y=>y.size<=sizeLine/\n=y.size
 | .ref p=>(∃ xs,gY K H p xs/\n=xs.length)\/∃ xs,fF K H p xs/\n=xs.length
 | _=>False
theorem Ew:bH X (.builtin "len") (λ xs H Q=>∃ x n,xs=[x]/\Pn X.K x H n/\Q (.int n) H):=by
 intro pins s σ H xs us Q I r h;obtain ⟨x,n,rfl,e,q⟩:=h;obtain ⟨u,rfl,rx⟩:=vals1 r;have hl:=nu;have hs:sizeLine=16777216:=sizeLine_eq
 cases x with
 | str y=>
  obtain ⟨t,rfl⟩:=rx;obtain ⟨hy,e'⟩:y.length<=sizeLine/\n=y.length:=e;subst e';exact len_str (by omega) ⟨.int _,H,I.tok _,⟨_,rfl⟩,q⟩
 | byt y=>
  obtain ⟨t,rfl⟩:=rx;obtain ⟨hy,e'⟩:y.size<=sizeLine/\n=y.size:=e;subst e';exact PySem.W.len_bytes (by omega) ⟨.int _,H,I.tok _,⟨_,rfl⟩,q⟩
 | ref p=>
  cases rx
  have e':(∃ xs,gY X.K H p xs/\n=xs.length)\/∃ xs,fF X.K H p xs/\n=xs.length:=e
  rcases e' with ⟨xs,hx,e'⟩ | ⟨xs,hx,e'⟩
  ·subst e';obtain ⟨its,r',pl,hz⟩:=I.list hx;have hlen:=r'.length;exact Calls.call_len_list pl.isList (by simp only [size_toArray];omega) ⟨.int xs.length,H,I.tok _,⟨_,by simp only [size_toArray];rw [hlen]⟩,q⟩
  ·subst e';obtain ⟨its,r',pl,hz⟩:=I.tuple hx;have hlen:=r'.length;exact len_tuple pl (by simp only [size_toArray];omega) ⟨.int xs.length,H,I.tok _,⟨_,by simp only [size_toArray];rw [hlen]⟩,q⟩
 | _=>exact (show False from e).elim
end
structure ObjM (h:Heap)(x dx C:Addr)(mA:Str->Option Value):Prop where
 obj:h.get? x=some (PySem.W.instObj C dx)
 ns:h.Ns1 dx mA
 ne:dx≠x
theorem Cs {h:Heap}{dx:Addr}{mA:Str->Option Value}(n:h.Ns1 dx mA):∃ od,h.get? dx=some od/\∀ name,PySem.W.lookIn name od=some (mA name):=by
 obtain ⟨o,es,ep,ho,hd,hk,_,hm⟩:=n;refine ⟨o,ho,λ name=>?_⟩;have e:=hm name;unfold nsFind findBy at e;rw [<- Array.find?_toList] at e;unfold PySem.W.lookIn;rw [hd];dsimp only;split
 ·rename_i y q;rw [q] at e;exact congrArg some e
 ·rename_i q;rw [q] at e;have a:es.toList.any (·.refKey)=false:=by
   rw [List.any_eq_false];intro y hy;obtain ⟨z,t,hkey⟩:=hk y (Array.mem_toList_iff.mp hy);simp [DictEntry.refKey,hkey]
  have a':¬ es.toList.any (·.refKey)=true:=by rw [a];exact Bool.false_ne_true
  rw [if_neg a'];exact congrArg some e
theorem ObjM.look {h:Heap}{x dx C:Addr}{mA:Str->Option Value}(I:ObjM h x dx C mA):∃ od,PySem.W.InstAt h x (PySem.W.instObj C dx) C (some od)/\∀ name,PySem.W.lookIn name od=some (mA name):=
 let ⟨od,ho,hl⟩:=Cs I.ns
 ⟨od,⟨I.obj,rfl,rfl,ho⟩,hl⟩
section
variable {prog:Program} {w:World} {A:Around} {E:Value->Shared->Prop} {s:Shared} {K:PySem.W.Frag} {x dx C f:Addr} {mA:Str->Option Value} {name:Str} {v:Value}
end
theorem nj.some_of {v:V}{o:Option Value}(r:nj (some v) o):∃ u,o=some u/\RelV v u:=by
 cases o with
 | none=>exact (show False from r).elim
 | some u=>exact ⟨u,rfl,r⟩
section
variable {P:Program} {w:World} {H H':Hp} {h h':Heap} {a C dx:Addr} {fs fs':List (Str×V)}
theorem IW (hok:kO P w H h)(e:H a=some (.ins C dx fs)):∃ mA,ObjM h a dx C mA/\(∀ f,nj (fs.lookup f) (mA f))/\PySem.Within mA (fs.map (·.1))/\fs.length<=1000/\H dx=some (.own a):=by
 obtain ⟨d,z,ne,ob,mA,n,r,q⟩:=(show cu P w H h a (.ins C dx fs) from hok a _ e);exact ⟨mA,⟨ob,n,ne⟩,r,q,z,d⟩
end
structure Cls (K:PySem.W.Frag)(C:Addr):Prop where
 pg:PySem.W.plainGet K C Str.empty=true
 hd:PySem.W.hasDictIn K C=true
 po:PySem.W.plainOver K C=true
 sa:PySem.W.findIn K (.ref C) "__setattr__" = some (some (.builtin "object.__setattr__"))
theorem Cls.get {K:PySem.W.Frag}{C:Addr}(c:Cls K C)(f:Str):PySem.W.plainGet K C f=true:=c.pg
structure Con (K:PySem.W.Frag)(C:Addr)(f:Str)(v:V)(u:Value):Prop where
 at_:PySem.W.findIn K (.ref C) f=some (some u)
 rel:RelV v u
 get:PySem.W.specialIn K u "__get__" = some none
 cp:PySem.W.copiedNames.contains f=false
structure Meth (K:PySem.W.Frag)(C:Addr)(m:Str)(f:Addr):Prop where
 at_:PySem.W.findIn K (.ref C) m=some (some (.ref f))
 fn:PySem.W.isFn K (.ref f)=true
 kp:PySem.W.keepIn K (.ref f)=true
section
variable {X:Cx} {pins:List (Addr×Obj)} {σ:St} {H:Hp} {s:Shared} {a C dx:Addr} {fs:List (Str×V)} {f:Str} {v:V} {A:Around} {E:Value->Shared->Prop}
end
section
variable {X:Cx} {o e value:Expr} {f:Str} {pos pos' tpos:Pos} {ta tv:TE}
end
section
variable {X:Cx} {pins:List (Addr×Obj)} {σ:St} {H:Hp} {s:Shared} {A:Around} {E:Value->Shared->Prop} {Q:Value->Shared->Prop} {c:Value} {b:Bool}
inductive TyOf (K:PySem.W.Frag) (H:Hp):V->Value->Prop where
 | non:TyOf K H .non (.type "NoneType")
 | bl (x:Bool):TyOf K H (.bl x) (.type "bool")
 | int (i:Int):TyOf K H (.int i) (.type "int")
 | str (x:Str):TyOf K H (.str x) (.type "str")
 | flt (x:UInt64):TyOf K H (.flt x) (.type "float")
 | lst {a:Addr} {xs:List V} (e:H a=some (.lst xs)):TyOf K H (.ref a) (.type "list")
 | frz {a:Addr} {o:Obj} {xs:List V} (e:H a=some (.frz o (.lst xs))):TyOf K H (.ref a) (.type "list")
 | tup {a:Addr} {xs:List V} (e:H a=some (.tup xs)):TyOf K H (.ref a) (.type "tuple")
 | dK {a:Addr} {kvs:List (Key×V)} (e:H a=some (.dK kvs)):TyOf K H (.ref a) (.type "dict")
 | dT {a:Addr} {kvs:List (List Key×V)} (e:H a=some (.dT kvs)):TyOf K H (.ref a) (.type "dict")
 | ins {a C dx:Addr} {fs:List (Str×V)} (e:H a=some (.ins C dx fs)) (cl:Cls K C) (ha:PySem.W.findIn K (.ref C) "__class__" = some (some (.builtin "object.__class__")))
   (hn:PySem.W.specialIn K (.builtin "object.__class__") "__get__" = some (some (.builtin "getset_descriptor.__get__"))) (htk:PySem.W.takesIn K (.builtin "object.__class__")=some true)
   (hm:PySem.W.mroIn K C (.type "object")=some true):TyOf K H (.ref a) (.ref C)
theorem Cp {x:V}{u t:Value}(I:Inv X pins σ H s)(rx:RelV x u)(ty:TyOf X.K H x t)(e:PySem.W.kitOne X.K t c=some b)(h:∀ tk,Q (.bool b) { s with toks:=tk }) :
  wpAny (model X.prog X.w) A (call (.builtin "isinstance") [u,c]) Q E s:=by
 cases ty with
 | non=>cases (show u=Value.none from rx);exact PySem.W.kia_one PySem.W.kitx_none I.qP True.intro e (λ z=>nomatch z) h
 | bl y=>cases (show u=Value.bool y from rx);exact PySem.W.kia_one PySem.W.kitx_bool I.qP True.intro e (λ z=>nomatch z) h
 | int i=>obtain ⟨t,q⟩:=(show ∃ t,u=Value.int i t from rx);cases q;exact PySem.W.kia_one PySem.W.kitx_int I.qP True.intro e (λ z=>nomatch z) h
 | str y=>obtain ⟨t,q⟩:=(show ∃ t,u=Value.str y t from rx);cases q;exact PySem.W.kia_one PySem.W.kitx_str I.qP True.intro e (λ z=>nomatch z) h
 | flt y=>obtain ⟨t,q⟩:=(show ∃ t,u=Value.float y t from rx);cases q;exact PySem.W.kia_one PySem.W.kitx_float I.qP True.intro e (λ z=>nomatch z) h
 | @lst a xs ea=>
  cases (show u=Value.ref a from rx)
  obtain ⟨_,_,n,_,h1⟩:=(show cu X.prog X.w H s.heap a (.lst xs) from I.hok a _ ea);exact PySem.W.kia_one PySem.W.kitx_list I.qP ⟨_,h1,rfl⟩ e (λ z=>nomatch z) h
 | @frz a ob xs ea=>
  cases (show u=Value.ref a from rx)
  obtain ⟨_,_,_,n,_,h1⟩:=(show cu X.prog X.w H s.heap a (.frz ob (.lst xs)) from I.hok a _ ea);exact PySem.W.kia_one PySem.W.kitx_list I.qP ⟨_,h1,rfl⟩ e (λ z=>nomatch z) h
 | @tup a xs ea=>
  cases (show u=Value.ref a from rx)
  obtain ⟨_,_,_,p⟩:=(show cu X.prog X.w H s.heap a (.tup xs) from I.hok a _ ea);obtain ⟨o,h1,h2,_⟩:=p;exact PySem.W.kia_one PySem.W.kitx_tuple I.qP ⟨o,h1,h2⟩ e (λ z=>nomatch z) h
 | @dK a kvs ea=>
  cases (show u=Value.ref a from rx)
  obtain ⟨_,_,vs,_,p⟩:=(show cu X.prog X.w H s.heap a (.dK kvs) from I.hok a _ ea);obtain ⟨o,es,ep,h1,h2,_⟩:=p;exact PySem.W.kia_one PySem.W.kitx_dict I.qP ⟨o,h1,h2.1⟩ e (λ z=>nomatch z) h
 | @dT a kvs ea=>
  cases (show u=Value.ref a from rx)
  obtain ⟨_,_,xs,_,o,es,ep,h1,h2,_⟩:=(show cu X.prog X.w H s.heap a (.dT kvs) from I.hok a _ ea);exact PySem.W.kia_one PySem.W.kitx_dict I.qP ⟨o,h1,h2.1⟩ e (λ z=>nomatch z) h
 | @ins a C dx fs ea cl ha hn htk hm=>
  cases (show u=Value.ref a from rx)
  obtain ⟨mA,O,_⟩:=IW I.hok ea;obtain ⟨od,J,_⟩:=O.look;exact PySem.W.kia_one (PySem.W.kitx_own (cl.get _) cl.hd ha hn htk hm) I.qP J e (λ z=>nomatch z) h
end
structure Room (k:Nat)(A:Around):Prop where
 hd:A.handled=none
 dp:A.depth+3 * k+5 < recursionLimit
 un:A.units+16 * k+200 < cLine
theorem Room.mono {j k:Nat}{A:Around}(r:Room k A)(h:j<=k):Room j A:=⟨r.hd,by have:=r.dp;omega,by have:=r.un;omega⟩
theorem Room.deeper {k:Nat}{A:Around}(r:Room (k+1) A)(env:Env):Room k (A.deeper env):=
 ⟨r.hd,by have:=r.dp;show A.depth+1+3 * k+5 < _;omega,by have:=r.un;show A.units+3+16 * k+200 < _;omega⟩
theorem Room.depth {k:Nat}{A:Around}(r:Room k A):A.depth < recursionLimit:=by have:=r.dp;omega
theorem Room.units {k:Nat}{A:Around}(r:Room k A):A.units+64 < cLine:=by have:=r.un;omega
noncomputable def O9:TA:=λ _ H Q=>Q [] H
noncomputable def Nr (ta:TE)(tr:TA):TA:=λ σ H Q=>ta σ H λ x H1=>tr σ H1 λ xs H2=>Q (x::xs) H2
section
variable {X:Cx} {e:Expr} {es:List Expr} {te:TE} {t:TA} {pos:Pos}
theorem qL:PA X [] O9:=λ _ _ _ _ H Q I h=>Calls.spliced_nil ⟨[],H,I,.nil,h⟩
theorem ju (ha:PE X e te)(hr:PA X es t)(hs:starEach (e::es) X.env=(false,eval e X.env)::starEach es X.env:=by rfl):PA X (e::es) (Nr te t):=by
 intro pos pins s σ H Q I h;rw [hs];show wpAny _ _ (spliced ((false,eval e X.env)::backTo pos (starEach es X.env))) _ _ s;refine Calls.spliced_cons (dP (ha pins s σ H _ I h) λ u s1 ⟨x,H1,I1,r1,q1⟩=>?_);exact dP (hr pos pins s1 σ H1 _ I1 q1) λ us s2 ⟨xs,H2,I2,r2,q2⟩=>⟨x::xs,H2,I2,.cons r1 r2,q2⟩
noncomputable def O_ (t:TA):TE:=λ σ H Q=>t σ H λ xs H1=>xs.length<=sizeLine/\∀ p,H1 p=none->Q (.ref p) (upd H1 p (.tup xs))
noncomputable def P7 (t:TA):TE:=λ σ H Q=>t σ H λ xs H1=>xs.length<=sizeLine/\∀ p,H1 p=none->Q (.ref p) (upd H1 p (.lst xs))
theorem Ll {x1}(h:PA X es t):PE X (.Tuple es x1 pos) (O_ t):=by
 intro pins s σ H Q I hq;refine wpAny_Tuple_spliced (dP (h pos pins s σ H _ I hq) λ us s1 ⟨xs,H1,I1,r,z,q⟩=>⟨by rw [<- r.length];exact z,?_⟩);have hf:H1 s1.heap.objs.size=none:=I1.hok.fresh (Nat.le_refl _);refine ⟨.ref s1.heap.objs.size,upd H1 s1.heap.objs.size (.tup xs),I1.laid (t':=s1.toks) (λ b u e=>get?_push_of_some _ e) (Nat.le_refl _) ?_,rfl,q _ hf⟩;exact ⟨z,us,r,⟨_,get?_push_size _ rfl,rfl,rfl,_,rfl⟩⟩
theorem LN (h:PA X es t):PE X (.List es pos) (P7 t):=by
 intro pins s σ H Q I hq;refine wpAny_List_spliced (dP (h pos pins s σ H _ I hq) λ us s1 ⟨xs,H1,I1,r,z,q⟩=>⟨by rw [<- r.length];exact z,?_⟩);have hf:H1 s1.heap.objs.size=none:=I1.hok.fresh (Nat.le_refl _);refine ⟨.ref s1.heap.objs.size,upd H1 s1.heap.objs.size (.lst xs),I1.laid (t':=s1.toks) (λ b u e=>get?_push_of_some _ e) (Nat.le_refl _) ?_,rfl,q _ hf⟩;exact ⟨z,us,0,r,get?_push_size _ rfl⟩
end
noncomputable abbrev Sp:=List V->Hp->VK->XK->Prop
noncomputable abbrev Cv:=List Env->Hp->Shared->XK->Value->Shared->Prop
structure Env0 (P:Program)(w:World)(K:PySem.W.Frag)(mg:Str->Option Value)(base:Heap)(A:Around)(outer:List Env)(s:Shared)(H:Hp):Prop where
 frames:A.frames=some outer
 mod:Mod K mg base
 bs:∀ b o,base.get? b=some o->s.heap.get? b=some o/\H b=none
 bsz:base.objs.size<=s.heap.objs.size
 jh:s.heap.FunFrames base outer
 frf:∀ b∈frs outer,H b=none
 hok:kO P w H s.heap
 bare:AllBare s.gens
noncomputable def CE (outer:List Env)(P:Program)(w:World)(H:Hp)(s:Shared)(Q:VK)(u:Value)(s':Shared):Prop:=
 ∃ v H',s'.os=s.os/\AllBare s'.gens/\Un (frs outer) [] H H' s.heap s'.heap/\kO P w H' s'.heap/\RelV v u/\Q v H'
noncomputable def CR (CX:Cv)(outer:List Env)(P:Program)(w:World)(H:Hp)(s:Shared)(Q:VK)(E:XK)(r:Result)(s':Shared):Prop:=
 match r with
 | .ok (.ret u)=>CE outer P w H s Q u s'
 | .ok _=>False
 | .error e=>CX outer H s E e s'
structure FnOk (P:Program)(w:World)(K:PySem.W.Frag)(mg:Str->Option Value)(base:Heap)(CX:Cv)(k:Nat)(f:Addr)(fd:FuncData)(ps:List Str)(sp:Sp):Prop where
 len:∀ vs H Q E,sp vs H Q E->vs.length=ps.length
 run:∀ (A:Around) (outer:List Env) (s:Shared) (H:Hp) (args:Args) (us:List Value) (vs:List V) (Q:VK) (E:XK),Room k A->Env0 P w K mg base A outer s H->BindsTo s fd args (ps.zip us)->Vals vs us->sp vs H Q E ->
  codeAny (model P w) A (.call (.ref f) args) (CR CX outer P w H s Q E) s
section
variable {X:Cx} {pins:List (Addr×Obj)} {σ:St} {H:Hp} {s s':Shared}
theorem Inv.N5 (I:Inv X pins σ H s):Env0 X.prog X.w X.K X.mg X.base X.A X.stack s H:=
 ⟨I.ok.frames,I.ok.mod,I.bs,Nat.le_trans I.ok.bsz I.sz,I.stack,I.pB,I.hok,I.bare⟩
theorem Inv.after {Q:VK}{u:Value}(I:Inv X pins σ H s)(h:CE X.stack X.prog X.w H s Q u s'):EP X pins σ Q u s':=by
 obtain ⟨v,H',os,bare,un,hok,r,q⟩:=h;obtain ⟨hh,g,d,t,os'⟩:=s';obtain rfl:os'=s.os:=os;exact ⟨v,H',I.call (h':=hh) (g':=g) (d':=d) (t':=t) (ch:=[]) un hok bare (λ b z=>absurd z (by simp)),r,q⟩
end
noncomputable def ER (sp:Sp)(dvs:List V)(E:XK)(t:TA):TE:=λ σ H Q=>t σ H λ vs H1=>sp (vs++dvs) H1 Q E
noncomputable def Binds (K:PySem.W.Frag)(fd:FuncData)(ps:List Str)(ds:List Value):Prop:=
 ∀ (s:Shared) (us:List Value),K.In s.heap->(us++ds).length=ps.length->BindsTo s fd ⟨us,[]⟩ (ps.zip (us++ds))
theorem Binds.all {K:PySem.W.Frag}{fd:FuncData}{ps:List Str}(h:∀ us:List Value,us.length=ps.length->bindArgs fd ⟨us,[]⟩=pure (ps.zip us)):Binds K fd ps []:=λ s us _ hl=>by
 rw [append_nil] at hl ⊢;exact .of_eq (h us hl)
noncomputable def Passes (CX:Cv)(X:Cx)(E:XK):Prop:=∀ (pins:List (Addr×Obj)) (σ:St) (H:Hp) (s:Shared) (e:Value) (s':Shared),Inv X pins σ H s->CX X.stack H s E e s'->X.xe e s'
section
variable {X:Cx} {CX:Cv} {k:Nat} {f C:Addr} {fd:FuncData} {ps:List Str} {sp:Sp} {dvs:List V} {ds:List Value} {E:XK} {x m:Str} {p pos apos:Pos} {e o:Expr} {es:List Expr} {ta:TE} {t:TA}
theorem Lc {pins:List (Addr×Obj)}{σ:St}{H:Hp}{s:Shared}{Q:VK}{us:List Value}{vs:List V}(F:FnOk X.prog X.w X.K X.mg X.base CX k f fd ps sp)(hr:Room k X.A)(hb:Binds X.K fd ps ds)(hd:Vals dvs ds)(hx:Passes CX X E)
  (I:Inv X pins σ H s) (r:Vals vs us) (h:sp (vs++dvs) H Q E):wpAny (model X.prog X.w) X.A (call (.ref f) us) (EP X pins σ Q) X.xe s:=by
 have r2:Vals (vs++dvs) (us++ds):=r.append hd;have hl:(us++ds).length=ps.length:=by rw [<- r2.length];exact F.len _ _ _ _ h
 refine wpAny_call (codeAny_mono (F.run X.A X.stack s H ⟨us,[]⟩ (us++ds) (vs++dvs) Q E hr I.N5 (hb s us I.qP hl) r2 h) λ r s' hq=>?_)
 cases r with
 | error e=>exact hx pins σ H s e s' I hq
 | ok fl=>
  cases fl with
  | ret u=>exact I.after hq
  | next=>exact False.elim hq
  | brk=>exact False.elim hq
  | cont=>exact False.elim hq
theorem zU (F:FnOk X.prog X.w X.K X.mg X.base CX k f fd ps sp)(hr:Room k X.A)(hg:Gl X x)(hm:X.mg x=some (.ref f))(hk:PySem.W.keepIn X.K (.ref f)=true)(hb:Binds X.K fd ps ds)(hd:Vals dvs ds)(hx:Passes CX X E)
  (ha:PA X (e::es) t) (hdb:(x == ("__debug__" : Str))=false:=by decide) (he:starEach (e::es) X.env=(false,eval e X.env)::starEach es X.env:=by rfl) (hpl:(backTo pos (starEach es X.env)).any (·.1)=false:=by rfl) :
  PE X (.Call (.Name x p) (e::es) [] pos) (ER sp dvs E t):=by
 intro pins s σ H Q I h;refine wpAny_Call_Name_kw (lR I hg hm ?_ hdb);refine PySem.W.callWith_K (h₀:=X.base) I.ok.mod.kin hk (dP (ha pos pins s σ H _ I h) λ us s1 ⟨vs,H1,I1,r,q⟩=>⟨I1.qP,?_⟩) he hpl;exact Lc F hr hb hd hx I1 r q
structure Mk (K:PySem.W.Frag)(C f:Addr):Prop where
 makes:PySem.W.makesIn K C=true
 init:PySem.W.findIn K (.ref C) "__init__" = some (some (.ref f))
 fn:PySem.W.isFn K (.ref f)=true
 kp:PySem.W.keepIn K (.ref C)=true
end
section
variable {X:Cx} {CX:Cv} {k:Nat} {f C:Addr} {fd:FuncData} {ps ks:List Str} {sp:Sp} {E:XK} {x m:Str} {p pos apos kpos:Pos} {e o:Expr} {es:List Expr} {kws:List Keyword} {te ta:TE} {t tk:TA} {nm:Option Str}
structure KBinds (K:PySem.W.Frag)(fd:FuncData)(ps ks:List Str)(g:List Value->List Value->List Value)(gV:List V->List V->List V):Prop where
 to:∀ (s:Shared) (us ws:List Value),K.In s.heap->(g us ws).length=ps.length->BindsTo s fd ⟨us,ks.zip ws⟩ (ps.zip (g us ws))
 rel:∀ {vs:List V} {us:List Value} {zs:List V} {ws:List Value},Vals vs us->Vals zs ws->Vals (gV vs zs) (g us ws)
variable {g:List Value->List Value->List Value} {gV:List V->List V->List V}
end
structure FnScope (N P:List Str)(sc:Scope):Prop where
 kind:sc.kind=.function
 co:sc.isCoroutine=false
 gen:sc.isGenerator=false
 nd:N.Nodup
 pre:N.take P.length=P
 par:∀ x∈P,sc.names.lookup x=some .local\/sc.names.lookup x=some .cell
 nofree:∀ y∈sc.names,y.2≠.free
theorem rJ {kindOf:Str->Option NameKind}{x:Str}:∀ {binds:List (Str×Value)} {m:Str->Option Value},(∀ v,(x,v)∉binds)->bindL kindOf binds m x=m x
 | [],_,_=>rfl
 | (n,v)::r,m,h=>by
  unfold bindL;rw [rJ λ w hw=>h w (mem_cons_of_mem _ hw)];split
  ·have:x≠n:=by rintro rfl;exact h v mem_cons_self
   simp [this]
  ·rfl
theorem su {kindOf:Str->Option NameKind}{x:Str}:∀ {binds:List (Str×Value)} {m:Str->Option Value},(∀ v,(x,v)∉binds)->bindC kindOf binds m x=m x
 | [],_,_=>rfl
 | (n,v)::r,m,h=>by
  unfold bindC;rw [su λ w hw=>h w (mem_cons_of_mem _ hw)];split
  ·rfl
  ·have:x≠n:=by rintro rfl;exact h v mem_cons_self
   simp [this]
theorem rH {kindOf:Str->Option NameKind}{x:Str}{v:Value}:∀ {P:List Str} {vs:List Value} {i:Nat} {m:Str->Option Value},P.Nodup->P[i]?=some x->vs[i]?=some v->kindOf x=some .local ->
  bindL kindOf (P.zip vs) m x=some v
 | [],_,_,_,_,h,_,_=>by simp at h
 | _::_,[],_,_,_,_,h,_=>by simp at h
 | p::P,w::vs,0,m,nd,h1,h2,hk=>by
  simp at h1 h2;subst h1;subst h2;show bindL kindOf ((p,w)::P.zip vs) m p=_;unfold bindL;rw [rJ λ v hv=>(nodup_cons.mp nd).1 (of_mem_zip hv).1,if_pos hk];simp
 | p::P,w::vs,i+1,m,nd,h1,h2,hk=>by
  show bindL kindOf ((p,w)::P.zip vs) m x=_;unfold bindL;exact rH (i:=i) (nodup_cons.mp nd).2 (by simpa using h1) (by simpa using h2) hk
theorem sF {kindOf:Str->Option NameKind}{x:Str}{v:Value}:∀ {P:List Str} {vs:List Value} {i:Nat} {m:Str->Option Value},P.Nodup->P[i]?=some x->vs[i]?=some v->kindOf x≠some .local ->
  bindC kindOf (P.zip vs) m x=some v
 | [],_,_,_,_,h,_,_=>by simp at h
 | _::_,[],_,_,_,_,h,_=>by simp at h
 | p::P,w::vs,0,m,nd,h1,h2,hk=>by
  simp at h1 h2;subst h1;subst h2;show bindC kindOf ((p,w)::P.zip vs) m p=_;unfold bindC;rw [su λ v hv=>(nodup_cons.mp nd).1 (of_mem_zip hv).1,if_neg hk];simp
 | p::P,w::vs,i+1,m,nd,h1,h2,hk=>by
  show bindC kindOf ((p,w)::P.zip vs) m x=_;unfold bindC;exact sF (i:=i) (nodup_cons.mp nd).2 (by simpa using h1) (by simpa using h2) hk
noncomputable def start (N:List Str)(vs:List V):St:=vs.map some++List.replicate (N.length - vs.length) none
noncomputable def lX (CX:Cv)(P:Program)(w:World)(K:PySem.W.Frag)(mg:Str->Option Value)(base:Heap)(N:List Str)(qual:Str)(scope:Scope)(f:Addr)(cd:Value)(A:Around)(outer:List Env)(s:Shared)(H:Hp)(E:XK):Cx where
 prog:=P
 w:=w
 K:=K
 mg:=mg
 base:=base
 A:=A.deeper (envOfC qual scope s.heap.objs.size f cd)
 N:=N
 s₀:=s
 H₀:=H
 env:=envOfC qual scope s.heap.objs.size f cd
 outer:=outer
 stack:=envOfC qual scope s.heap.objs.size f cd::outer
 ex:=[]
 calm:=true
 fn:=λ _=>true
 pn:=[]
 xe:=λ e s'=>wpAny (model P w) (A.deeper (envOfC qual scope s.heap.objs.size f cd)) (leaving (envOfC qual scope s.heap.objs.size f cd) e) (λ _ s''=>CX outer H s E e s'') (λ e' s''=>CX outer H s E e' s'') s'
theorem wK {sc:Scope}{n:Nat}{x:Str}(h:sc.names.lookup x=some .cell):∃ c,(cellsFrom n sc.names []).lookup x=some c:=by
 have q:=PySem.W.cellsFrom_some sc.names n [] (.inl h);exact isSome_iff_exists.mp q
theorem sS {CX:Cv}{P:Program}{w:World}{K:PySem.W.Frag}{mg:Str->Option Value}{base:Heap}{N ps:List Str}{qual:Str}{scope:Scope}{f:Addr}{cd:Value}{A:Around}{outer:List Env}{s s1:Shared}{H:Hp}{E:XK}{us:List Value}{vs:List V}
  (S:FnScope N ps scope) (hd:A.handled=none) (e0:Env0 P w K mg base A outer s H) (hl:vs.length=ps.length) (r:Vals vs us)
  (x:InCallC s s.heap.objs.size (bindL (envOfC qual scope s.heap.objs.size f cd).kindOf (ps.zip us) λ _=>none) (cellsFrom (s.heap.objs.size+1) scope.names []) (bindC (envOfC qual scope s.heap.objs.size f cd).kindOf (ps.zip us) λ _=>none) s1) :
  Inv (lX CX P w K mg base N qual scope f cd A outer s H E) [] (start N vs) H s1:=by
 have hpl:ps.length<=N.length:=by have:=congrArg List.length S.pre;rw [length_take] at this;omega
 obtain ⟨h1,tk,rfl,hk⟩:=x.done;have noA:∀ b:Addr,b∉(lX CX P w K mg base N qual scope f cd A outer s H E).ex:=λ b z=>absurd (show b∈([]:List Addr) from z) (by simp);refine ⟨⟨e0.mod,S.kind,rfl,rfl,Nat.le_refl _,λ y z c h1 h2=>?_,λ y hy=>?_,λ y c _ h=>?_,λ _=>hd,Around.frames_deeper e0.frames,.inr ⟨rfl,rfl⟩,λ b z=>absurd z (noA b),e0.bs,e0.bsz,λ b _ _=>noA b,λ b z=>absurd z (noA b),e0.jh,e0.frf⟩,
  rfl,e0.bare,Un.kept hk,⟨_,x.toInCall.ns,λ i y v h1 h2 h3=>?_⟩,λ y c h=>⟨_,x.cell y c h⟩,e0.hok.fresh (Nat.le_refl _),λ y c h=>?_,λ p hp=>absurd (show p∈([]:List (Addr×Obj)) from hp) (by simp),e0.hok.kept hk,?_⟩
 ·exact name_of_addr x.apart (PySem.mem_of_lookup h1) (PySem.mem_of_lookup h2)
 ·have hy:scope.names.lookup y=some .cell\/scope.names.lookup y=some .free:=hy
  rcases hy with hy | hy
  ·exact wK hy
  ·exact absurd rfl (S.nofree _ (PySem.mem_of_lookup hy))
 ·exact le_of_lt (x.above y c (PySem.mem_of_lookup h))
 ·have hi:i < vs.length:=by
   unfold start at h2;by_cases hi:i < vs.length
   ·exact hi
   ·rw [getElem?_append_right (by simpa using hi)] at h2;rw [List.getElem?_replicate] at h2;split at h2 <;> cases h2
  have ha:vs[i]?=some v:=by
   unfold start at h2;rw [getElem?_append_left (by simpa using hi),List.getElem?_map] at h2
   cases e:vs[i]? with
   | none=>rw [e] at h2;cases h2
   | some a=>rw [e] at h2;cases h2;rfl
  obtain ⟨u,hu,rv⟩:=r.get ha;have hp:ps[i]?=some y:=by
   rw [<- S.pre,List.getElem?_take_of_lt (by omega)];exact h1
  have ndP:ps.Nodup:=by rw [<- S.pre];exact S.nd.sublist (List.take_sublist _ _)
  refine ⟨u,rv,?_⟩
  rcases S.par y (mem_of_getElem? hp) with k | k
  ·exact .inl ⟨k,rH ndP hp hu k⟩
  ·obtain ⟨c,e⟩:=wK (n:=s.heap.objs.size+1) k;refine .inr ⟨.inl k,c,e,?_⟩;have q:=x.cell y c e;rw [sF ndP hp hu (by show scope.names.lookup y≠_;rw [k];decide)] at q;exact q
 ·exact e0.hok.fresh (le_of_lt (x.above y c (PySem.mem_of_lookup h)))
 ·unfold start;show _=N.length;rw [length_append,length_map,List.length_replicate];omega
theorem Kr {CX:Cv}{P:Program}{w:World}{K:PySem.W.Frag}{mg:Str->Option Value}{base:Heap}{k:Nat}{f:Addr}{name qual:Str}{params:Arguments}{body:List Stmt}{scope:Scope}{dV kV doc pm cdv ct oc:Value}{an od:Option Addr}
  {osl:Array (Option Value)} {N ps:List Str} {sp:Sp} (lk:K.lookup f=some ⟨oc,od,.func (PySem.W.fnOf name qual params body scope dV kV doc pm an cdv ct),osl⟩) (hcd:PySem.W.codeIn K cdv qual=true) (S:FnScope N ps scope)
  (len:∀ vs H Q E,sp vs H Q E->vs.length=ps.length)
  (hbody:∀ (A:Around) (outer:List Env) (s:Shared) (H:Hp) (vs:List V) (Q:VK) (E:XK),Room k (A.deeper (envOfC qual scope s.heap.objs.size f cdv))->sp vs H Q E ->
   ∃ t,qW (lX CX P w K mg base N qual scope f cdv A outer s H E) body t/\t { nx:=λ _ H'=>Q .non H',rt:=Q } (start N vs) H) :
  FnOk P w K mg base CX (k+1) f (PySem.W.fnOf name qual params body scope dV kV doc pm an cdv ct) ps sp:=by
 refine ⟨len,λ A outer s H args us vs Q E hr e0 hb r hsp=>?_⟩;have hl:=len _ _ _ _ hsp;have KX:K.In s.heap:=e0.mod.kin.keeps λ b o e=>(e0.bs b o e).1;have lim:s.heap.NoLimit:=e0.mod.nolimit.keeps λ b o e=>(e0.bs b o e).1;have hkind:∀ y∈ps.zip us,scope.names.lookup y.1=some .local\/(scope.names.lookup y.1=some .cell/\((cellsFrom (s.heap.objs.size+1) scope.names []).lookup y.1).isSome=true):=λ ⟨n,v⟩ hy=>by
  rcases S.par n (of_mem_zip hy).1 with q | q
  ·exact .inl q
  ·exact .inr ⟨q,PySem.W.cellsFrom_some _ _ _ (.inl q)⟩
 refine codeAny_call_function hr.depth (KX _ _ lk) rfl S.co S.gen rfl (PySem.W.codeRec_of KX hcd) (hb _ _ _ _ ?_);refine wpAny_newFunctionEnv_cells S.kind hkind λ env he s1 x=>?_;subst he;refine ⟨lim.keeps x.toInCall.keep,codeAny_func ?_⟩;obtain ⟨t,ht,hq⟩:=hbody A outer s H vs Q E (hr.deeper _) hsp;have I:Inv (lX CX P w K mg base N qual scope f cdv A outer s H E) [] (start N vs) H s1:=sS S hr.hd e0 hl r x;refine wpAny_mono (ht [] s1 (start N vs) H _ I hq) (λ fl s' hs=>?_) λ e s' hs=>hs;have fin:∀ {σ':St} {H':Hp} {v:V} {u:Value},Inv (lX CX P w K mg base N qual scope f cdv A outer s H E) [] σ' H' s'->RelV v u->Q v H'->CE outer P w H s Q u s':=
  λ {σ' H' v u} J rv q=>⟨v,H',J.os,J.bare,J.base,J.hok,rv,q⟩
 cases fl with
 | ret u=>
  obtain ⟨v,σ',H',J,rv,q⟩:=hs;exact fin J rv q
 | next=>
  obtain ⟨σ',H',J,q⟩:=hs;exact fin (v:=V.non) (u:=Value.none) J rfl q
 | brk=>
  obtain ⟨_,_,_,q⟩:=hs;exact False.elim q
 | cont=>
  obtain ⟨_,_,_,q⟩:=hs;exact False.elim q
section
variable {X:Cx} {x:Str} {p pos:Pos} {e:Expr} {es:List Expr} {t:TA} {id T:String} {r:List V->Hp->VK->Prop}
noncomputable def PB (r:List V->Hp->VK->Prop)(t:TA):TE:=λ σ H Q=>t σ H λ vs H1=>r vs H1 Q
theorem vY (hc:bH X (.builtin id) r)(hg:Gl X x)(hm:X.mg x=none)(hv:bootBuiltins x=some (.builtin id))(ha:PA X (e::es) t)(hn:x ≠ "__name__" := by decide)(hdb:(x == ("__debug__" : Str))=false:=by decide)
  (he:starEach (e::es) X.env=(false,eval e X.env)::starEach es X.env:=by rfl) (hpl:(backTo pos (starEach es X.env)).any (·.1)=false:=by rfl):PE X (.Call (.Name x p) (e::es) [] pos) (PB r t):=by
 intro pins s σ H Q I h;refine wpAny_Call_Name_kw (pY I hg hm hv ?_ hn hdb);exact PyProof.Rows.callWith_builtin1 (dP (ha pos pins s σ H _ I h) λ us s1 ⟨vs,H1,I1,r1,q1⟩=>hc pins s1 σ H1 vs us Q I1 r1 q1) he hpl
theorem B7 (hc:bH X (.type T) r)(hg:Gl X x)(hm:X.mg x=none)(hv:bootBuiltins x=some (.type T))(ha:PA X (e::es) t)(hn:x ≠ "__name__" := by decide)(hdb:(x == ("__debug__" : Str))=false:=by decide)
  (he:starEach (e::es) X.env=(false,eval e X.env)::starEach es X.env:=by rfl) (hpl:(backTo pos (starEach es X.env)).any (·.1)=false:=by rfl):PE X (.Call (.Name x p) (e::es) [] pos) (PB r t):=by
 intro pins s σ H Q I h;refine wpAny_Call_Name_kw (pY I hg hm hv ?_ hn hdb);exact PyProof.Rows.callWith_type1 (dP (ha pos pins s σ H _ I h) λ us s1 ⟨vs,H1,I1,r1,q1⟩=>hc pins s1 σ H1 vs us Q I1 r1 q1) he hpl
end
end L2
namespace HT
open PySem PyProof.Rows
noncomputable def lexLt:List Int->List Int->Bool
 | [],[]=>false
 | [],_::_=>true
 | _::_,[]=>false
 | x::xs,y::ys=>if x=y then lexLt xs ys else decide (x < y)
theorem jf (x y:Int)(xs ys:List Int):lexLt (x::xs) (y::ys)=if x=y then lexLt xs ys else decide (x < y):=rfl
theorem iC:lexLt [] []=false:=rfl
theorem eZ (y:Int)(ys:List Int):lexLt [] (y::ys)=true:=rfl
theorem gM (x:Int)(xs:List Int):lexLt (x::xs) []=false:=rfl
section
open PySem.SeqAt
open PySem.AutoSeq1 (wpAny_loadPart')
open PySem.MeetsSeq PySem.MeetsSeq2 PySem.MeetsSeq3
end
section
variable {prog:Program} {w:World} {A:Around} {E:Value->Shared->Prop} {s:Shared}
theorem Im {t b:Addr}{vs ws:List Value}{Q:Value->Shared->Prop}(ht:IsTup s.heap t vs.toArray)(hb:IsTup s.heap b ws.toArray)(hv:vs≠[])
  (h1:ws=[]->Q (.ref t) s) (h2:ws≠[]->Q (.ref s.heap.objs.size) { s with heap:=s.heap.push { cls:=.type "tuple",data:=.seq (vs++ws).toArray } })
  (hsz:vs.length+ws.length<=sizeLine):wpAny (model prog w) A (binaryOp .Add (.ref t) (.ref b)) Q E s:=by
 obtain ⟨⟨cls,dd,data,sl⟩,ho,hc,n,hd⟩:=id ht;obtain ⟨⟨cls2,dd2,data2,sl2⟩,ho2,hc2,n2,hd2⟩:=id hb;simp only at hc hd hc2 hd2;subst hc hd hc2 hd2;have e:vs.toArray++ws.toArray=(vs++ws).toArray:=by simp
 by_cases hw:ws=[]
 ·exact concat_meets ⟨_,ho,rfl⟩ ⟨_,ho2,rfl⟩ noFill_tuple_add seq_tuple_add PySem.F.slot_tuple_add PySem.F.entry_tuple_add (PySem.F.args_tuple_add_2 _ _)
   (tuple_addW1 t b vs.toArray ws.toArray n n2 dd dd2 sl sl2 (by simpa using hv) (by simp [hw])) ⟨ho,ho2,h1 hw⟩
 ·refine concat_meets ⟨_,ho,rfl⟩ ⟨_,ho2,rfl⟩ noFill_tuple_add seq_tuple_add PySem.F.slot_tuple_add PySem.F.entry_tuple_add (PySem.F.args_tuple_add_2 _ _)
   (tuple_addW2 t b vs.toArray ws.toArray n n2 dd dd2 sl sl2 (by simpa using hv) (by simpa using hw) (by rw [size_toArray,size_toArray];exact hsz)) ⟨ho,ho2,?_⟩
  rw [e];exact h2 hw
noncomputable def eK (n d:Nat):Option Int->Nat
 | none=>d
 | some v=>if v < 0 then (v+(n:Int)).toNat else min v.toNat n
theorem vA (n d:Nat):eK n d none=d:=rfl
theorem o9 (n d k:Nat):eK n d (some (k:Int))=min k n:=by
 show (if (k:Int) < 0 then ((k:Int)+(n:Int)).toNat else min (k:Int).toNat n)=min k n;rw [if_neg (by omega),toNat_natCast]
theorem Mt (n d:Nat)(hd:d<=n)(o:Option Int):eK n d o<=n:=by
 cases o with
 | none=>exact hd
 | some v=>
  show (if v < 0 then (v+(n:Int)).toNat else min v.toNat n)<=n;by_cases hv:v < 0
  ·rw [if_pos hv];omega
  ·rw [if_neg hv];exact Nat.min_le_right _ _
theorem yS (v:Int)(n d:Nat):(if v < 0 then max (v+(n:Int)) 0 else min v (n:Int))=((eK n d (some v):Nat):Int):=by
 show (if v < 0 then max (v+(n:Int)) 0 else min v (n:Int))=(((if v < 0 then (v+(n:Int)).toNat else min v.toNat n):Nat):Int);by_cases hv:v < 0
 ·simp only [if_pos hv];omega
 ·simp only [if_neg hv];omega
theorem yl (lo hi:Option Int)(n:Nat):Builtin.Slice.sliceAdjust lo hi 1 (n:Int)=(((eK n 0 lo:Nat):Int),((eK n n hi:Nat):Int)):=by
 have h1:¬ ((1:Int) < 0):=by omega
 unfold Builtin.Slice.sliceAdjust;simp only [h1,if_false];refine Prod.ext ?_ ?_
 ·cases lo with
  | none=>rfl
  | some v=>exact yS v n 0
 ·cases hi with
  | none=>rfl
  | some v=>exact yS v n n
theorem wL (i j:Nat):Builtin.Slice.slicePlaces (i:Int) (j:Int) 1=j - i:=by
 unfold Builtin.Slice.slicePlaces;have h1:(1:Int) > 0:=by omega
 simp only [h1,if_true,Int.ediv_one];split <;> omega
theorem qa {v:Value}{o:Option Int}{Q:Option Int->Shared->Prop}(p:IsPart v o)(h:Q o s):wpAny (model prog w) A (Builtin.Slice.slicePartIndex v) Q E s:=by
 cases p with
 | none=>exact slicePart_none h
 | int i t=>exact slicePart_int h
theorem nL {sl:Addr}{vl vu:Value}{lo hi:Option Int}{n:Nat}{Q:Int×Int×Nat->Shared->Prop}(hs:s.heap.IsSliceOf sl vl vu .none)(pl:IsPart vl lo)(pu:IsPart vu hi)
  (h:Q (((eK n 0 lo:Nat):Int),1,eK n n hi - eK n 0 lo) s):wpAny (model prog w) A (Builtin.Slice.sliceApplied (.ref sl) (pure (n:Int))) Q E s:=by
 obtain ⟨os,hos,hcs,hds⟩:=id hs;unfold Builtin.Slice.sliceApplied Builtin.Slice.sliceFields;refine wpAny_bind (wpAny_bind (wpAny_field hos hds (x:=vl) rfl (wpAny_bind (wpAny_field hos hds (x:=vu) rfl (wpAny_bind (wpAny_field hos hds (x:=.none) rfl (wpAny_pure ?_)))))));refine wpAny_bind (slicePart_none ?_);show wpAny _ _ (if ((1:Int) == 0)=true then _ else _) _ _ s;rw [if_neg (by decide)];refine wpAny_bind (qa pl (wpAny_bind (qa pu (wpAny_bind (wpAny_pure ?_)))));show wpAny _ _ (match Builtin.Slice.sliceAdjust lo hi 1 (n:Int) with | (lo,hi)=>pure (lo,(1:Int),Builtin.Slice.slicePlaces lo hi 1)) _ _ s;rw [yl lo hi n];show wpAny _ _ (pure (((eK n 0 lo:Nat):Int),(1:Int),Builtin.Slice.slicePlaces ((eK n 0 lo:Nat):Int) ((eK n n hi:Nat):Int) 1)) _ _ s;rw [wL];exact wpAny_pure h
theorem DN (xs:Array Value)(i k:Nat):((List.range k).filterMap λ (m:Nat)=>xs[((i:Int)+(m:Int) * 1).toNat]?).toArray=((xs.toList.drop i).take k).toArray:=by
 have e:(λ (m:Nat)=>xs[((i:Int)+(m:Int) * 1).toNat]?)=λ m=>xs[i+m]?:=by
  funext m
  have:((i:Int)+(m:Int) * 1).toNat=i+m:=by omega
  rw [this]
 rw [e];have:=pick_run xs i k;rw [List.filterMap_map] at this;have e2:((λ x=>xs[x]?) ∘ λ x=>i+x)=λ m=>xs[i+m]?:=rfl;rw [e2] at this;rw [this]
theorem mH {t sl:Addr}{items:Array Value}{vl vu:Value}{lo hi:Option Int}{Q:Value->Shared->Prop}(ht:IsTup s.heap t items)(hs:s.heap.IsSliceOf sl vl vu .none)(pl:IsPart vl lo)(pu:IsPart vu hi)
  (hw:¬ (eK items.size 0 lo=0/\eK items.size items.size hi=items.size))
  (h:Q (.ref s.heap.objs.size) { s with heap:=s.heap.push { cls:=.type "tuple",data:=.seq ((items.toList.drop (eK items.size 0 lo)).take (eK items.size items.size hi - eK items.size 0 lo)).toArray } })
  (hsz:items.size<=sizeLine):wpAny (model prog w) A (getItem (.ref t) (.ref sl)) Q E s:=by
 have htake:sizeOk (.seq ((items.toList.drop (eK items.size 0 lo)).take (eK items.size items.size hi - eK items.size 0 lo)).toArray):=by
  show ((items.toList.drop (eK items.size 0 lo)).take (eK items.size items.size hi - eK items.size 0 lo)).toArray.size<=sizeLine;rw [size_toArray,length_take,length_drop,length_toList];omega
 have hj:eK items.size items.size hi<=items.size:=Mt _ _ (Nat.le_refl _) hi;obtain ⟨os,hos,hcs,hds⟩:=id hs;have hTs:s.TypeIs (.ref sl) "slice" := ⟨os,hos,hcs⟩;unfold getItem
 try with_reducible refine wpAny_holding ?_
 first | refine wpAny_bind (wpAny_pure ?_) | skip
 refine wpAny_bind (wpAny_sequenceKey ht.typeIs (by decide) ?_);refine wpAny_bind (wpAny_callSpecial?_slot (name:=Str.ofString "__getitem__") ht.typeIs PyProof.Rows.slot_tuple_getitem
  (wpAny_call_entry PyProof.Rows.slot_tuple_getitem ht.typeIs entry_tuple_getitem ?_ (args_tuple_getitem _ _)))
 show wpAny _ _ (Builtin.Tuple.tupleItemsOf (.ref t) >>= _) _ _ s;refine wpAny_bind (tupleItemsOf_ ht ?_);refine wpAny_bind (wpAny_typeOf hTs ?_);rw [if_pos (by decide)];refine wpAny_bind (nL hs pl pu ?_);have hno:¬ ((((eK items.size 0 lo:Nat):Int) == 0 && (1:Int) == 1 && (eK items.size items.size hi - eK items.size 0 lo) == items.size)=true):=by
  intro q;rw [and_eq_true,and_eq_true] at q;have q1:((eK items.size 0 lo:Nat):Int)=0:=eq_of_beq q.1.1;have q2:eK items.size items.size hi - eK items.size 0 lo=items.size:=eq_of_beq q.2;exact hw ⟨by omega,by omega⟩
 show wpAny _ _ (if (((eK items.size 0 lo:Nat):Int) == 0 && (1:Int) == 1 && (eK items.size items.size hi - eK items.size 0 lo) == items.size)=true then _ else _) _ _ s;rw [if_neg hno,DN]
 first
  | exact wpAny_bind (m:=Builtin.Tuple.tupleExact _) (wpAny_newObj_type (wpAny_pure ⟨_,rfl,wpAny_pure h⟩) htake)
  | exact wpAny_bind (m:=Builtin.Tuple.tupleExact _) (wpAny_newObj_type (wpAny_bind (wpAny_pure (wpAny_pure ⟨_,rfl,wpAny_pure h⟩))) htake)
  | exact wpAny_bind (wpAny_bind (m:=Builtin.Tuple.tupleExact _) (wpAny_newObj_type (wpAny_pure (wpAny_pure ⟨_,rfl,wpAny_pure h⟩)) htake))
  | exact wpAny_bind (wpAny_bind (m:=Builtin.Tuple.tupleExact _) (wpAny_newObj_type (wpAny_pure ⟨_,rfl,wpAny_pure h⟩) htake))
end
end HT
namespace L2
open PySem PySem.Spec PyProof.Rows
noncomputable abbrev TO:=St->Hp->(Option Int->Hp->Prop)->Prop
noncomputable def PO (X:Cx)(e:Option Expr)(t:TO):Prop:=
 ∀ (pins:List (Addr×Obj)) (s:Shared) (σ:St) (H:Hp) (Q:Option Int->Hp->Prop),Inv X pins σ H s->t σ H Q ->
  wpAny (model X.prog X.w) X.A (evalPart e X.env) (λ u s'=>∃ o H',Inv X pins σ H' s'/\IsPart u o/\Q o H') X.xe s
noncomputable def Jp:TO:=λ _ H Q=>Q none H
noncomputable def Nv (t:TE):TO:=λ σ H Q=>t σ H λ x H1=>∃ i,x=.int i/\Q (some i) H1
theorem intsAre_of {ns:List Int}:∀ {us:List Value},Vals (ns.map V.int) us->IntsAre us ns:=by
 induction ns with
 | nil=>intro us r;rw [map_nil] at r;cases r;exact .nil
 | cons n ns ih=>
  intro us r;rw [map_cons] at r
  cases r with
  | cons r1 r2=>
   obtain ⟨t,e⟩:=r1;subst e;exact .cons n t (ih r2)
section
variable {X:Cx} {e:Expr} {te:TE} {lo hi:Option Expr} {tl th:TO} {pos p2:Pos}
theorem I_:PO X none Jp:=by
 intro pins s σ H Q I h;rw [evalPart_none];exact wpAny_pure ⟨none,H,I,.none,h⟩
theorem HK (h:PE X e te):PO X (some e) (Nv te):=by
 intro pins s σ H Q I hw;rw [evalPart_some];refine dP (h pins s σ H _ I hw) λ u s1 ⟨x,H1,I1,r1,q1⟩=>?_;obtain ⟨i,rfl,q⟩:=q1;obtain ⟨t,rfl⟩:=r1;exact ⟨some i,H1,I1,.int i t,q⟩
noncomputable def OO (X:Cx)(r:V->Option Int->Option Int->Hp->VK->Prop):Prop:=
 ∀ (pins:List (Addr×Obj)) (s:Shared) (σ:St) (H:Hp) (x:V) (v vl vu:Value) (lo hi:Option Int) (sl:Addr) (Q:VK),Inv X pins σ H s->RelV x v->s.heap.IsSliceOf sl vl vu .none->IsPart vl lo->IsPart vu hi->r x lo hi H Q ->
  ∃ T id,typeLookup (.type T) "__getitem__" = pure (some (.builtin id))/\s.TypeIs v T/\wpAny (model X.prog X.w) X.A (getItem v (.ref sl)) (EP X pins σ Q) X.xe s
noncomputable def QI (r:V->Option Int->Option Int->Hp->VK->Prop)(te:TE)(tl th:TO):TE:=λ σ H Q=>te σ H λ x H1=>tl σ H1 λ l H2=>th σ H2 λ u H3=>r x l u H3 Q
theorem Gg {r:V->Option Int->Option Int->Hp->VK->Prop}(hr:OO X r)(he:PE X e te)(hl:PO X lo tl)(hu:PO X hi th):PE X (.Subscript e (.Slice lo hi none p2) pos) (QI r te tl th):=by
 intro pins s σ H Q I h;refine Subscript_ (dP (he pins s σ H _ I h) λ v s1 ⟨x,H1,I1,r1,q1⟩=>?_);refine wpAny_Slice (dP (hl pins s1 σ H1 _ I1 q1) λ vl s2 ⟨l,H2,I2,pl,q2⟩=>dP (hu pins s2 σ H2 _ I2 q2) λ vu s3 ⟨u,H3,I3,pu,q3⟩=>?_);rw [evalPart_none];refine wpAny_pure ?_;have I4:Inv X pins σ H3 { s3 with heap:=s3.heap.push { cls:=.type "slice",data:=.fields #[vl,vu,.none] } }:=I3.kept (t':=s3.toks) λ b ob q=>get?_push_of_some _ q;obtain ⟨T,id,hT,ht,hg⟩:=hr pins { s3 with heap:=s3.heap.push { cls:=.type "slice",data:=.fields #[vl,vu,.none] } } σ H3 x v vl vu l u s3.heap.objs.size Q I4 r1 (Heap.IsSliceOf.new ..) pl pu q3;show wpAny (model X.prog X.w) X.A (subscriptTail e (.Slice lo hi none p2) v (.ref s3.heap.objs.size)) (EP X pins σ Q) X.xe { s3 with heap:=s3.heap.push { cls:=.type "slice",data:=.fields #[vl,vu,.none] } };exact tail_any (ops:=[.ref s3.heap.objs.size,v]) ht hT hg (by with_unfolding_all rfl)
noncomputable def uT (xs:List V)(lo hi:Option Int):List V:=(xs.drop (HT.eK xs.length 0 lo)).take (HT.eK xs.length xs.length hi - HT.eK xs.length 0 lo)
theorem oz (xs:List V)(lo hi:Option Int):(uT xs lo hi).length<=xs.length:=by
 unfold uT;rw [length_take,length_drop];omega
noncomputable def Pr (K:PySem.W.Frag):V->Option Int->Option Int->Hp->VK->Prop:=λ x lo hi H Q=>∃ a xs,x=.ref a/\fF K H a xs /\
 ¬ (HT.eK xs.length 0 lo=0/\HT.eK xs.length xs.length hi=xs.length)/\∀ p,H p=none->Q (.ref p) (upd H p (.tup (uT xs lo hi)))
theorem Lx:OO X (Pr X.K):=by
 intro pins s σ H x v vl vu lo hi sl Q I rx hs pl pu h;obtain ⟨a,xs,rfl,hx,hw,q⟩:=h
 cases rx
 obtain ⟨its,r,ht,hz⟩:=I.tuple hx;have hlen:its.toArray.size=xs.length:=by rw [size_toArray];exact r.length.symm
 refine ⟨"tuple",_,PyProof.Rows.slot_tuple_getitem.lookup,ht.typeIs,?_⟩;refine HT.mH ht hs pl pu (by rw [hlen];exact hw) ?_ (by rw [hlen];exact hz);rw [hlen];refine ⟨.ref s.heap.objs.size,_,I.laid (t':=s.toks) (o:=.tup (uT xs lo hi)) (λ b ob q=>get?_push_of_some _ q) (Nat.le_refl _) ?_,rfl,q _ (I.hok.fresh (Nat.le_refl _))⟩;exact ⟨Nat.le_trans (oz xs lo hi) hz,_,(r.drop (HT.eK xs.length 0 lo)).take (HT.eK xs.length xs.length hi - HT.eK xs.length 0 lo),f_.new _ _⟩
noncomputable def ND (K:PySem.W.Frag):R2:=λ x y H Q=>∃ a b xs ys,x=.ref a/\y=.ref b/\fF K H a xs/\fF K H b ys/\xs≠[]/\xs.length+ys.length<=sizeLine /\
 (ys=[]->Q (.ref a) H)/\(ys≠[]->∀ p,H p=none->Q (.ref p) (upd H p (.tup (xs++ys))))
theorem Vals.tP {xs:List V}{us:List Value}(r:Vals xs us):us=[] ↔ xs=[]:=by
 cases r with
 | nil=>simp
 | cons _ _=>simp
theorem Iq:fX X (binaryOp .Add) (ND X.K):=by
 intro pins s σ H x y v u Q I rx ry h;obtain ⟨a,b,xs,ys,rfl,rfl,ha,hb,hx,hz,q1,q2⟩:=h
 cases rx
 cases ry
 obtain ⟨its,r1,p1,_⟩:=I.tuple ha;obtain ⟨its2,r2,p2,_⟩:=I.tuple hb;refine HT.Im p1 p2 (λ z=>hx (r1.tP.mp z)) (λ z=>⟨.ref a,H,I,rfl,q1 (r2.tP.mp z)⟩) (λ z=>?_) (by rw [<- r1.length,<- r2.length];exact hz);refine ⟨.ref s.heap.objs.size,_,I.laid (t':=s.toks) (o:=.tup (xs++ys)) (λ b ob q=>get?_push_of_some _ q) (Nat.le_refl _) ?_,rfl,q2 (λ w=>z (r2.tP.mpr w)) _ (I.hok.fresh (Nat.le_refl _))⟩;exact ⟨by rw [length_append];exact hz,_,r1.append r2,f_.new _ _⟩
end
noncomputable def rF (n:Nat)(i:Int):Option Nat:=if 0<=i then (if i < n then some i.toNat else none) else if -(n:Int)<=i then some (i+n).toNat else none
noncomputable def gF {α:Type}(xs:List α)(i:Int):Option α:=(rF xs.length i).bind λ j=>xs[j]?
theorem yo {n:Nat}{i:Int}{j:Nat}(h:rF n i=some j):seqIndex? i n=some j/\j < n/\-(n:Int)<=i/\i < n:=by
 unfold rF at h;by_cases h0:0<=i
 ·rw [if_pos h0] at h;by_cases h1:i < n
  ·rw [if_pos h1] at h;have e:i.toNat=j:=Option.some.inj h;exact ⟨by rw [seqIndex_of h0 h1,e],by omega,by omega,h1⟩
  ·rw [if_neg h1] at h;cases h
 ·rw [if_neg h0] at h;by_cases h1:-(n:Int)<=i
  ·rw [if_pos h1] at h;have e:(i+n).toNat=j:=Option.some.inj h;exact ⟨by rw [seqIndex_neg (by omega) h1,e],by omega,h1,by omega⟩
  ·rw [if_neg h1] at h;cases h
theorem tX {α:Type}{xs:List α}{i:Int}{v:α}(h:gF xs i=some v):∃ j,seqIndex? i xs.length=some j/\xs[j]?=some v/\j < xs.length/\-(xs.length:Int)<=i/\i < xs.length:=by
 unfold gF at h
 cases e:rF xs.length i with
 | none=>rw [e] at h;cases h
 | some j=>
  rw [e] at h;obtain ⟨h1,h2,h3,h4⟩:=yo e;exact ⟨j,h1,h,h2,h3,h4⟩
theorem IJ {α:Type}{xs:List α}{j:Nat}{v:α}(h:xs[j]?=some v):gF xs (j:Int)=some v:=by
 have hj:j < xs.length:=(List.getElem?_eq_some_iff.mp h).1;have e:rF xs.length (j:Int)=some j:=by
  unfold rF;rw [if_pos (by omega),if_pos (by omega)];simp
 unfold gF;rw [e];exact h
theorem uX {α:Type}(xs:List α)(v:α):gF (xs++[v]) (-1)=some v:=by
 have hl:(xs++[v]).length=xs.length+1:=by simp
 have e:rF (xs++[v]).length (-1)=some xs.length:=by
  unfold rF;rw [hl,if_neg (by decide),if_pos (by omega)];congr 1;omega
 unfold gF;rw [e];show (xs++[v])[xs.length]?=some v;simp
noncomputable def oK (b:Expr):Prop:=∀ o i,subscripted b false o i=operate [o,i] (getItem o i)
noncomputable def JV (X:Cx)(r:R2):Prop:=
 ∀ (value slice:Expr) (pins:List (Addr×Obj)) (s:Shared) (σ:St) (H:Hp) (x y:V) (v u:Value) (Q:VK),Inv X pins σ H s->RelV x v->RelV y u->r x y H Q ->
  subscripted slice false v u=operate [v,u] (getItem v u)->wpAny (model X.prog X.w) X.A (subscriptTail value slice v u) (EP X pins σ Q) X.xe s
noncomputable def Ky (X:Cx)(id:String)(r:V->List V->Hp->VK->Prop):Prop:=
 ∀ (pins:List (Addr×Obj)) (s:Shared) (σ:St) (H:Hp) (x:V) (xs:List V) (v:Value) (us:List Value) (Q:VK),Inv X pins σ H s->RelV x v->Vals xs us->r x xs H Q ->
  wpAny (model X.prog X.w) X.A (call (.builtin id) (v::us)) (EP X pins σ Q) X.xe s
section
variable {X:Cx} {a b:Expr} {ta tb:TE} {pos:Pos}
theorem DG {r:R2}(hr:JV X r)(ha:PE X a ta)(hb:PE X b tb)(hs:oK b):PE X (.Subscript a b pos) (Ot r ta tb):=by
 intro pins s σ H Q I h;exact Subscript_ (L5 ha hb I h λ v u s2 x y H2 I2 rx ry q=>hr a b pins s2 σ H2 x y v u Q I2 rx ry q (hs _ _))
noncomputable def PR (K:PySem.W.Frag):R2:=λ x y H Q=>∃ p xs i v,x=.ref p/\y=.int i/\gY K H p xs/\gF xs i=some v/\Q v H
noncomputable def Pz (K:PySem.W.Frag):R2:=λ x y H Q=>∃ p xs i v,x=.ref p/\y=.int i/\fF K H p xs/\gF xs i=some v/\Q v H
noncomputable def O5:R2:=λ x y H Q=>∃ z i c,x=.str z/\y=.int i/\z.length<=sizeLine/\gF z.cps.toList i=some c/\Q (.str ⟨#[c]⟩) H
theorem zH:JV X (PR X.K):=by
 intro value slice pins s σ H x y v u Q I rx ry h hs;obtain ⟨p,xs,i,z,rfl,rfl,hq,he,q⟩:=h
 cases rx
 obtain ⟨t,rfl⟩:=ry;obtain ⟨its,r,pl,hz⟩:=I.list hq;obtain ⟨j,h1,h2,h3,h4,h5⟩:=tX he;obtain ⟨w,ew,rw'⟩:=r.get h2;have hl:=r.length;have hn:=nu;have fin:EP X pins σ Q w s:=⟨z,H,I,rw',q⟩;by_cases h0:0<=i
 ·have hj:i.toNat=j:=by
   rw [seqIndex_of h0 h5] at h1;exact Option.some.inj h1
  exact item_listR pl.isList h0 (by omega) (by rw [hj];simpa using ew) fin hs
 ·have hj:(i+(its.toArray.size:Int)).toNat=j:=by
   rw [seqIndex_neg (by omega) h4] at h1;rw [size_toArray,<- hl];exact Option.some.inj h1
  exact subscriptTail_builtinR (x:=w) pl.isList.typeIs slot_list_getitem.lookup
   (wpAny_getItem_list_neg (Q:=λ r s'=>r=w/\EP X pins σ Q r s') pl.isList (by omega) (by rw [size_toArray] <;> omega) (by omega) (by rw [hj];simpa using ew) ⟨rfl,fin⟩) hs
theorem Lw:JV X (Pz X.K):=by
 intro value slice pins s σ H x y v u Q I rx ry h hs;obtain ⟨p,xs,i,z,rfl,rfl,hq,he,q⟩:=h
 cases rx
 obtain ⟨t,rfl⟩:=ry;obtain ⟨its,r,pl,hz⟩:=I.tuple hq;obtain ⟨j,h1,h2,h3,h4,h5⟩:=tX he;obtain ⟨w,ew,rw'⟩:=r.get h2;have hl:=r.length;have hn:=nu;have fin:EP X pins σ Q w s:=⟨z,H,I,rw',q⟩;exact subscriptTail_builtinR (x:=w) pl.typeIs slot_tuple_getitem.lookup
  (getItem_tuple (j:=j) (Q:=λ r s'=>r=w/\EP X pins σ Q r s') pl (by omega) (by omega) (by rw [size_toArray,<- hl];exact h1) (by simpa using ew) ⟨rfl,fin⟩) hs
theorem Lf:JV X O5:=by
 intro value slice pins s σ H x y v u Q I rx ry h hs;obtain ⟨z,i,c,rfl,rfl,hz,he,q⟩:=h;obtain ⟨t,rfl⟩:=rx;obtain ⟨t',rfl⟩:=ry;obtain ⟨j,h1,h2,h3,h4,h5⟩:=tX he;have hl:z.cps.toList.length=z.length:=by simp [Str.length]
 rw [hl] at h1 h4 h5;have hn:=nu;exact tail_any (typeIs_str s z t) slot_str_getitem.lookup (getItem_str (c:=c) (by
  have e1:decide (i < -(2 ^ 63:Int))=false:=decide_eq_false (by omega);have e2:decide (i>=2 ^ 63)=false:=decide_eq_false (by omega);rw [e1,e2,Bool.or_false]) (by rw [h1];simpa using h2) ⟨.str ⟨#[c]⟩,H,I.tok _,⟨_,rfl⟩,q⟩) hs
theorem xG (its:List Value)(n j:Nat)(u:Value):Obj.mapSeq (·.setIfInBounds j u) { cls:=.type "list",data:=.seq its.toArray n }={ cls:=.type "list",data:=.seq (its.set j u).toArray n }:=by
 simp [Obj.mapSeq]
theorem Inv.lst {pins:List (Addr×Obj)}{σ:St}{H:Hp}{s:Shared}{p:Addr}{xs:List V}(I:Inv X pins σ H s)(h:H p=some (.lst xs)) :
  ∃ (its:List Value) (n:Nat),Vals xs its/\s.heap.get? p=some { cls:=.type "list",data:=.seq its.toArray n }/\xs.length<=sizeLine:=by
 obtain ⟨z,its,n,r,e⟩:=I.hok p _ h;exact ⟨its,n,r,e,z⟩
theorem Inv.KW {pins:List (Addr×Obj)}{σ:St}{H:Hp}{s:Shared}{p:Addr}{xs ys:List V}{its its':List Value}{n n':Nat}{f:Obj->Obj}(I:Inv X pins σ H s)(h:H p=some (.lst xs))
  (ho:s.heap.get? p=some { cls:=.type "list",data:=.seq its.toArray n }) (hf:f { cls:=.type "list",data:=.seq its.toArray n }={ cls:=.type "list",data:=.seq its'.toArray n' }) (r:Vals ys its') (hz:ys.length<=sizeLine) (t:Nat) :
  Inv X pins σ (upd H p (.lst ys)) { s with heap:=s.heap.update p f,toks:=t }:=by
 have e:(s.heap.update p f).get? p=some { cls:=.type "list",data:=.seq its'.toArray n' }:=by
  rw [get?_update_self f ho (by rw [hf] <;> rfl),hf]
 refine I.write (x:=p) (e:=p) (by rw [h];trivial) (.inl rfl) (λ b u hb q=>(get?_update_other _ _ (Ne.symm hb)).trans q) ⟨_,e⟩ ?_;exact ⟨hz,its',n',r,e⟩
noncomputable def NN:V->V->V->Hp->(Hp->Prop)->Prop:=λ o i v H Q=>∃ p xs k j,o=.ref p/\i=.int k/\H p=some (.lst xs)/\rF xs.length k=some j/\Q (upd H p (.lst (xs.set j v)))
theorem set_list:BJ X NN:=by
 intro pins s σ H o i v ov iv u Q I ro ri rv h;obtain ⟨p,xs,k,j,rfl,rfl,hp,hj,q⟩:=h
 cases ro
 obtain ⟨t,rfl⟩:=ri;obtain ⟨its,n,r,ho,hz⟩:=I.lst hp;obtain ⟨h1,h2,h3,h4⟩:=yo hj;have hl:=r.length;have hn:=nu;have I':Inv X pins σ (upd H p (.lst (xs.set j v))) { s with heap:=s.heap.update p (Obj.mapSeq (·.setIfInBounds j u)) }:=
  I.KW hp ho (xG its n j u) (r.set rv j) (by rw [length_set];exact hz) s.toks
 by_cases h0:0<=k
 ·have hk:k.toNat=j:=by
   rw [seqIndex_of h0 h4] at h1;exact Option.some.inj h1
  exact PySem.W.ki_setAt ho h0 (by omega) (by rw [size_toArray,<- hl];exact h4) (by rw [hk];exact ⟨_,I',q⟩)
 ·have hk:(k+(its.toArray.size:Int)).toNat=j:=by
   rw [seqIndex_neg (by omega) h3] at h1;rw [size_toArray,<- hl];exact Option.some.inj h1
  exact PySem.W.ki_setBack ho (by omega) (by rw [size_toArray,<- hl];exact h3) (by omega) (by rw [hk];exact ⟨_,I',q⟩)
theorem tM (lo hi:Option Int)(n:Nat):(sliceBounds lo hi none n).1=((HT.eK n 0 lo:Nat):Int)/\(sliceBounds lo hi none n).2.1=((HT.eK n n hi:Nat):Int)/\(sliceBounds lo hi none n).2.2=1:=by
 refine ⟨?_,?_,rfl⟩
 ·cases lo with
  | none=>simp [sliceBounds,HT.eK]
  | some i=>
   simp only [sliceBounds,HT.eK,getD_none,show (1:Int) > 0 by decide,if_true];by_cases h:i < 0
   ·simp only [h,if_true] <;> omega
   ·simp only [h,if_false] <;> omega
 ·cases hi with
  | none=>simp [sliceBounds,HT.eK]
  | some i=>
   simp only [sliceBounds,HT.eK,getD_none,show (1:Int) > 0 by decide,if_true];by_cases h:i < 0
   ·simp only [h,if_true] <;> omega
   ·simp only [h,if_false] <;> omega
theorem rj (its:List Value)(lo hi:Option Int):slicePick its.toArray lo hi none=((its.drop (HT.eK its.length 0 lo)).take (HT.eK its.length its.length hi - HT.eK its.length 0 lo)).toArray:=by
 obtain ⟨h1,h2,h3⟩:=tM lo hi its.toArray.size;unfold slicePick;rw [h1,h2,h3];simp only [sliceRange_one,pick_run,size_toArray] <;> rfl
noncomputable def Pf (K:PySem.W.Frag):V->Option Int->Option Int->Hp->VK->Prop:=λ x lo hi H Q=>∃ a xs,x=.ref a/\gY K H a xs/\∀ p,H p=none->Q (.ref p) (upd H p (.lst (uT xs lo hi)))
theorem A4:OO X (Pf X.K):=by
 intro pins s σ H x v vl vu lo hi sl Q I rx hs pl pu h;obtain ⟨a,xs,rfl,hx,q⟩:=h
 cases rx
 obtain ⟨its,r,ht,hz⟩:=I.list hx;have hlen:=r.length;refine ⟨"list",_,slot_list_getitem.lookup,ht.isList.typeIs,?_⟩;refine wpAny_getItem_list_slice ht.isList hs pl pu .none (by simp) ?_ (by rw [size_toArray] <;> omega);rw [rj,<- hlen];refine ⟨.ref s.heap.objs.size,_,I.laid (t':=s.toks) (o:=.lst (uT xs lo hi)) (λ b ob q=>get?_push_of_some _ q) (Nat.le_refl _) ?_,rfl,q _ (I.hok.fresh (Nat.le_refl _))⟩;exact ⟨Nat.le_trans (oz xs lo hi) hz,_,0,(r.drop (HT.eK xs.length 0 lo)).take (HT.eK xs.length xs.length hi - HT.eK xs.length 0 lo),get?_push_size _ rfl⟩
theorem jq:bH X (.type "list") (λ xs H Q=>∃ p ys,xs=[.ref p]/\(gY X.K H p ys\/fF X.K H p ys)/\∀ l,H l=none->Q (.ref l) (upd H l (.lst ys))):=by
 intro pins s σ H xs us Q I r h;obtain ⟨p,ys,rfl,hq,q⟩:=h;obtain ⟨u,rfl,rx⟩:=vals1 r
 cases rx
 have fin:∀ (its:List Value),Vals ys its->ys.length<=sizeLine->∀ (h':Heap) (c':Nat),(∀ b o',s.heap.get? b=some o'->h'.get? b=some o') ->
   h'.get? s.heap.objs.size=some { cls:=.type "list",dict:=none,data:=.seq its.toArray c',slots:=#[] }->EP X pins σ Q (.ref s.heap.objs.size) { s with heap:=h' }:=λ its r' hz h' c' kp e=>
  ⟨.ref s.heap.objs.size,_,I.laid (t':=s.toks) kp (Nat.le_refl _) (show cu X.prog X.w _ h' _ (.lst ys) from ⟨hz,its,c',r',e⟩),rfl,q _ (I.hok.fresh (Nat.le_refl _))⟩
 rcases hq with hq | hq
 ·obtain ⟨its,r',pl,hz⟩:=I.list hq;have hlen:=r'.length;obtain ⟨o,ho,hc,n,hd⟩:=pl.isList;exact call_list_seq p (.inl rfl) ho hc hd (λ h' c' kp e=>fin its r' hz h' c' kp e) (by simp only [size_toArray] <;> omega)
 ·obtain ⟨its,r',pl,hz⟩:=I.tuple hq;have hlen:=r'.length;obtain ⟨o,ho,hc,n,hd⟩:=pl;exact call_list_seq p (.inr rfl) ho hc hd (λ h' c' kp e=>fin its r' hz h' c' kp e) (by simp only [size_toArray] <;> omega)
theorem iF:bH X (.type "tuple") (λ xs H Q=>∃ p ys,xs=[.ref p]/\((gY X.K H p ys/\∀ l,H l=none->Q (.ref l) (upd H l (.tup ys)))\/(fF X.K H p ys/\Q (.ref p) H))):=by
 intro pins s σ H xs us Q I r h;obtain ⟨p,ys,rfl,h⟩:=h;obtain ⟨u,rfl,rx⟩:=vals1 r
 cases rx
 rcases h with ⟨hq,q⟩ | ⟨hq,q⟩
 ·obtain ⟨its,r',pl,hz⟩:=I.list hq;have hlen:=r'.length;refine call_tuple_list pl.isList (λ h' kp=>?_) (by simp only [size_toArray] <;> omega);have I1:Inv X pins σ H { s with heap:=h' }:=I.kept (t':=s.toks) kp;have I2:Inv X pins σ (upd H h'.objs.size (.tup ys)) { s with heap:=h'.push { cls:=.type "tuple",data:=.seq its.toArray } }:=
   I1.laid (t':=s.toks) (λ b o e=>get?_push_of_some _ e) (Nat.le_refl _) (show cu X.prog X.w _ _ _ (.tup ys) from ⟨hz,its,r',f_.new _ _⟩)
  exact ⟨.ref h'.objs.size,_,I2,rfl,q _ (I1.hok.fresh (Nat.le_refl _))⟩
 ·obtain ⟨its,r',pl,hz⟩:=I.tuple hq;exact call_tuple_same pl ⟨.ref p,H,I,rfl,q⟩
noncomputable def Ov (K:PySem.W.Frag)(T:String)(x:V)(H:Hp):Prop:=match x with
 | .str _=>T = "str"
 | .int _=>T = "int"
 | .ref p=>(T = "list" /\ ∃ xs,gY K H p xs)\/(T = "tuple" /\ ∃ o,K.lookup p=some o/\o.cls=.type "tuple" /\ o.dict=none) \/
   (T = "dict" /\ ((∃ kvs,H p=some (.dK kvs))\/∃ kvs,H p=some (.dT kvs)))\/(T = "set" /\ ∃ S n,H p=some (.set S n))
 | _=>False
theorem Mz {pins:List (Addr×Obj)}{σ:St}{H:Hp}{s:Shared}{T:String}{x:V}{v:Value}(I:Inv X pins σ H s)(r:RelV x v)(ty:Ov X.K T x H) :
  s.TypeIs v T/\∀ a,v=.ref a->∃ ob,s.heap.get? a=some ob/\ob.dict=none:=by
 cases x with
 | str z=>
  obtain ⟨t,rfl⟩:=r
  cases (show T = "str" from ty)
  exact ⟨typeIs_str s z t,λ _ e=>nomatch e⟩
 | int i=>
  obtain ⟨t,rfl⟩:=r
  cases (show T = "int" from ty)
  exact ⟨typeIs_int s i t,λ _ e=>nomatch e⟩
 | ref p=>
  cases r
  rcases ty with ⟨rfl,xs,hq⟩ | ⟨rfl,o,hk,hc,hd⟩ | ⟨rfl,hk⟩ | ⟨rfl,S,n,hk⟩
  ·obtain ⟨its,_,pl,_⟩:=I.list hq;refine ⟨pl.isList.typeIs,λ a e=>?_⟩
   cases e
   obtain ⟨o,n,e,c,hd,_⟩:=pl;exact ⟨o,e,hd⟩
  ·refine ⟨⟨o,I.qP p o hk,hc⟩,λ a e=>?_⟩
   cases e
   exact ⟨o,I.qP _ o hk,hd⟩
  ·have z:∃ o,s.heap.get? p=some o/\o.ExactDict:=by
    rcases hk with ⟨kvs,hk⟩ | ⟨kvs,hk⟩
    ·obtain ⟨_,_,_,_,o,_,_,e,ex,_⟩:=I.hok p _ hk;exact ⟨o,e,ex⟩
    ·obtain ⟨_,_,_,_,o,_,_,e,ex,_⟩:=I.hok p _ hk;exact ⟨o,e,ex⟩
   obtain ⟨o,e,ex⟩:=z;refine ⟨⟨o,e,ex.1⟩,λ a e2=>?_⟩
   cases e2
   exact ⟨o,e,ex.2.1⟩
  ·obtain ⟨o,_,_,_,e,ex,_⟩:=I.hok p _ hk;refine ⟨⟨o,e,ex.1⟩,λ a e2=>?_⟩
   cases e2
   exact ⟨o,e,ex.2.1⟩
 | _=>exact False.elim ty
noncomputable def QJ (K:PySem.W.Frag)(T:String)(r:V->List V->Hp->VK->Prop)(to:TE)(t:TA):TE:=λ σ H Q=>to σ H λ x H1=>Ov K T x H1/\t σ H1 λ xs H2=>r x xs H2 Q
variable {o e:Expr} {es:List Expr} {to:TE} {t:TA} {name:Str} {apos cpos:Pos} {T id:String} {r:V->List V->Hp->VK->Prop}
theorem ET (pa:PlainAttrs T)(slot:Slot T name id)(hty:typeOf (.builtin id)=pure (.type "method_descriptor"))(hm:Ky X id r)(ho:PE X o to)(ha:PA X (e::es) t)
  (hbase:attributeBase o name X.env (eval o X.env)=eval o X.env:=by rfl)
  (hfew:((backTo cpos (starEach (e::es) X.env)).all (λ x=>!x.1) && (backToKw cpos (keywordEach [] X.env)).all (λ x=>x.1.isSome)
   && decide ((e::es).length+([]:List Keyword).length+(if ([]:List Keyword).isEmpty then 0 else 1) < 30))=true:=by rfl)
  (hline:(apos.endLine == cpos.line)=true:=by rfl) (hs:starEach (e::es) X.env=(false,eval e X.env)::starEach es X.env:=by rfl) (hplain:(backTo cpos (starEach es X.env)).any (·.1)=false:=by rfl) :
  PE X (.Call (.Attribute o name apos) (e::es) [] cpos) (QJ X.K T r to t):=by
 intro pins s σ H Q I h;refine wpAny_Call_method_late hbase hfew hline rfl (dP (ho pins s σ H _ I h) λ v s1 ⟨x,H1,I1,r1,ty,q1⟩=>?_);obtain ⟨h1,h2⟩:=Mz I1 r1 ty;refine ⟨T,id,pa,slot,hty,h1,h2,?_⟩;have hA:=ha cpos pins s1 σ H1 _ I1 q1;rw [hs] at hA ⊢;refine Calls.callWith_builtin (by show (false || (backTo cpos (starEach es X.env)).any (·.1))=false;rw [hplain] <;> rfl) (Calls.evalArgs_plain ?_);exact dP hA λ us s2 ⟨vs,H2,I2,r2,q2⟩=>hm pins s2 σ H2 x vs v us Q I2 r1 r2 q2
end
noncomputable def Pj (X:Cx)(id:String)(r:V->List V->Hp->VK->Prop):Prop:=
 ∀ (pins:List (Addr×Obj)) (s:Shared) (σ:St) (H:Hp) (x:V) (xs:List V) (v:Value) (us:List Value) (Q:VK),Inv X pins σ H s->RelV x v->Vals xs us->r x xs H Q ->
  wpAny (model X.prog X.w) X.A (call (.builtin id) (v::us)) (EP X pins σ Q) X.xe s
theorem Vals.one:∀ {x:V} {us:List Value},Vals [x] us->∃ u,us=[u]/\RelV x u
 | _,_,.cons r .nil=>⟨_,rfl,r⟩
theorem Vals.eraseIdx:∀ {xs:List V} {us:List Value} (i:Nat),Vals xs us->Vals (xs.eraseIdx i) (us.eraseIdx i)
 | _,_,_,.nil=>.nil
 | _,_,0,.cons _ t=>t
 | _,_,i+1,.cons r t=>.cons r (Vals.eraseIdx i t)
theorem Vals.rep {xs:List V}{us:List Value}(h:Vals xs us):∀ k:Nat,Vals (List.replicate k xs).flatten (List.replicate k us).flatten
 | 0=>.nil
 | k+1=>by
  rw [replicate_succ,replicate_succ,flatten_cons,flatten_cons];exact Vals.append h (Vals.rep h k)
theorem sJ {α:Type}:∀ (l:List α) (i:Nat),(l.eraseIdx i).length<=l.length
 | [],_=>Nat.le_refl _
 | _::_,0=>Nat.le_succ _
 | _::r,i+1=>Nat.succ_le_succ (sJ r i)
theorem foldl_rep (its:List Value):∀ (k:Nat) (acc:List Value),
  List.foldl (λ x1 x2=>x1++x2) acc.toArray (List.replicate k its.toArray)=(acc++(List.replicate k its).flatten).toArray
 | 0,acc=>by simp
 | k+1,acc=>by
  have e:acc.toArray++its.toArray=(acc++its).toArray:=by simp
  have e2:(acc++its)++(List.replicate k its).flatten=acc++(List.replicate (k+1) its).flatten:=by
   rw [replicate_succ,flatten_cons,List.append_assoc]
  rw [<- e2,<- foldl_rep its k (acc++its),<- e,replicate_succ,foldl_cons]
section
variable {X:Cx} {pins:List (Addr×Obj)} {σ:St} {H:Hp} {s:Shared} {l b:Addr} {xs ys zs:List V}
theorem Inv.Ob {its its':List Value}{n:Nat}{f:Array Value->Array Value}{t':Nat}(I:Inv X pins σ H s)(hH:H l=some (.lst xs))
  (e:s.heap.get? l=some { cls:=.type "list",data:=.seq its.toArray n }) (hf:f its.toArray=its'.toArray) (hv:Vals ys its') (hz:ys.length<=sizeLine) :
  Inv X pins σ (upd H l (.lst ys)) { s with heap:=s.heap.update l (Obj.mapSeq f),toks:=t' }:=by
 have q:=PySem.IsL.update e f;rw [hf] at q;refine I.write (x:=l) (e:=l) (by rw [hH];exact trivial) (.inl rfl) (λ b' u hb hu=>(get?_update_other s.heap (Obj.mapSeq f) (Ne.symm hb)).trans hu) ⟨_,q⟩ ?_;exact ⟨hz,its',_,hv,q⟩
theorem Inv.KG {its:List Value}{t':Nat}(I:Inv X pins σ H s)(hv:Vals ys its)(hz:ys.length<=sizeLine) :
  Inv X pins σ (upd H s.heap.objs.size (.lst ys)) { s with heap:=s.heap.push { cls:=.type "list",data:=.seq its.toArray },toks:=t' }:=
 I.laid (λ _ _ q=>get?_push_of_some _ q) (Nat.le_refl _) ⟨hz,its,0,hv,get?_push_size _ rfl⟩
theorem Inv.fresh (I:Inv X pins σ H s):H s.heap.objs.size=none:=I.hok.fresh (Nat.le_refl _)
theorem Inv.Ek (I:Inv X pins σ H s)(hH:H l=some (.lst xs)):xs.length<=sizeLine/\∃ (its:List Value) (n:Nat),Vals xs its/\xs.length=its.length/\s.heap.get? l=some { cls:=.type "list",data:=.seq its.toArray n }:=by
 obtain ⟨z,its,n,r,e⟩:=I.hok l _ hH;exact ⟨z,its,n,r,r.length,e⟩
theorem Eu {n:Nat}(h:n<=sizeLine):Builtin.List.listTooLong n=false:=by
 unfold Builtin.List.listTooLong;exact decide_eq_false (by omega)
end
section
variable {X:Cx}
noncomputable def Iw:V->List V->Hp->VK->Prop:=λ x vs H Q=>∃ l xs y,x=.ref l/\vs=[y]/\H l=some (.lst xs)/\xs.length < sizeLine/\Q .non (upd H l (.lst (xs++[y])))
theorem se:Pj X "list.append" Iw:=by
 intro pins s σ H x vs v us Q I rx rv h;obtain ⟨l,xs,y,rfl,rfl,hH,hz,q⟩:=h
 cases rx
 obtain ⟨u,rfl,ru⟩:=rv.one;obtain ⟨z,its,n,r,hl,e⟩:=I.Ek hH;refine call_meets F.slot_list_append ⟨_,e,rfl⟩ F.entry_list_append (F.args_list_append_2 _ _) (PySem.list_append l its.toArray n u (by rw [size_toArray];omega)) ⟨e,?_⟩;refine ⟨.non,_,I.Ob (its':=its++[u]) hH e (by simp) (r.append (.cons ru .nil)) ?_,rfl,q⟩;rw [length_append,List.length_singleton];omega
noncomputable def K7:V->List V->Hp->VK->Prop:=λ x vs H Q=>∃ l xs i k y,x=.ref l/\vs=[.int i]/\H l=some (.lst xs)/\-(2 ^ 63)<=i/\i < 2 ^ 63/\seqIndex? i xs.length=some k/\xs[k]?=some y/\Q y (upd H l (.lst (xs.eraseIdx k)))
theorem GV:Pj X "list.pop" K7:=by
 intro pins s σ H x vs v us Q I rx rv h;obtain ⟨l,xs,i,k,y,rfl,rfl,hH,h1,h2,hk,hy,q⟩:=h
 cases rx
 obtain ⟨u,rfl,ru⟩:=rv.one;obtain ⟨t,rfl⟩:=ru;obtain ⟨z,its,n,r,hl,e⟩:=I.Ek hH;obtain ⟨w,hw,rw'⟩:=r.get hy;refine call_meets F.slot_list_pop ⟨_,e,rfl⟩ F.entry_list_pop (F.args_list_pop_2 _ _)
  (MeetsSeq.list_pop_at l its.toArray n i t k w (fitsIndex_both h1 h2) (by rw [size_toArray,<- hl];exact hk) (by rw [<- getElem?_toList];exact hw) (by rw [size_toArray];omega)) ⟨e,?_⟩
 refine ⟨y,_,I.Ob (its':=its.eraseIdx k) hH e ?_ (r.eraseIdx k) ?_,rw',q⟩
 ·show its.toArray.eraseIdxIfInBounds k=(its.eraseIdx k).toArray;rw [List.eraseIdxIfInBounds_toArray]
 ·have:=sJ xs k;omega
noncomputable def Pg:R2:=λ x y H Q=>∃ l b xs zs,x=.ref l/\y=.ref b/\H l=some (.lst xs)/\H b=some (.lst zs)/\xs.length+zs.length<=sizeLine/\∀ p,H p=none->Q (.ref p) (upd H p (.lst (xs++zs)))
theorem Le:fX X (binaryOp .Add) Pg:=by
 intro pins s σ H x y v u Q I rx ry h;obtain ⟨l,b,xs,zs,rfl,rfl,hH,hB,hz,q⟩:=h
 cases rx
 cases ry
 obtain ⟨z,its,n,r,hl,e⟩:=I.Ek hH;obtain ⟨z2,its2,n2,r2,hl2,e2⟩:=I.Ek hB;refine PySem.P.add_list e e2 ?_ (by rw [size_toArray,size_toArray];omega);have ea:its.toArray++its2.toArray=(its++its2).toArray:=by simp
 rw [ea];exact ⟨.ref _,_,I.KG (t':=s.toks) (r.append r2) (by rw [length_append];omega),rfl,q _ I.fresh⟩
noncomputable def Qc:R2:=λ x y H Q=>∃ l k xs,x=.ref l/\y=.int k/\H l=some (.lst xs)/\-(2 ^ 63)<=k/\k < 2 ^ 63/\xs.length * k.toNat<=sizeLine /\
 ∀ p,H p=none->Q (.ref p) (upd H p (.lst (List.replicate k.toNat xs).flatten))
theorem len_rep {α:Type}(xs:List α)(k:Nat):(List.replicate k xs).flatten.length=k * xs.length:=by
 induction k with
 | zero=>simp
 | succ k ih=>rw [replicate_succ,flatten_cons,length_append,ih,succ_mul,Nat.add_comm]
theorem KU:fX X (binaryOp .Mult) Qc:=by
 intro pins s σ H x y v u Q I rx ry h;obtain ⟨l,k,xs,rfl,rfl,hH,h1,h2,hz,q⟩:=h
 cases rx
 obtain ⟨t,rfl⟩:=ry;obtain ⟨z,its,n,r,hl,e⟩:=I.Ek hH;have hlen:its.toArray.size * k.toNat<=sizeLine:=by rw [size_toArray,<- hl];exact hz
 have hcap:¬ its.toArray.size * k.toNat > (2 ^ 63 - 1) / 8:=by
  have:(sizeLine:Nat)<=(2 ^ 63 - 1) / 8:=by decide
  omega
 have hfit:¬ (!Builtin.List.listFitsIndex k)=true:=by
  rw [fitsIndex_both h1 h2];exact Bool.false_ne_true
 have hlong:¬ Builtin.List.listTooLong (its.toArray.size * k.toNat)=true:=by
  rw [Eu hlen];exact Bool.false_ne_true
 have hnew:List.foldl (λ x1 x2=>x1++x2) #[] (List.replicate (if its.toArray.isEmpty=true then 0 else k.toNat) its.toArray)=(List.replicate k.toNat its).flatten.toArray:=by
  have f0:∀ m:Nat,List.foldl (λ x1 x2=>x1++x2) #[] (List.replicate m its.toArray)=(List.replicate m its).flatten.toArray:=λ m=>by
   have:=foldl_rep its m [];rw [List.nil_append] at this;exact this
  rw [f0]
  cases its with
  | nil=>simp
  | cons a r'=>rw [if_neg (by simp)]
 refine wpAny_binaryOp_repeat_ref (T := "list") (U := "int") (by decide) ⟨_,e,rfl⟩ (λ s'=>typeIs_int s' k t) noFill_list_mul F.fills_int_mul F.slot_int_rmul repeat_list F.slot_int_index.lookup
  (call_meets F.slot_int_rmul (typeIs_int s k t) F.entry_int_rmul (F.args_int_rmul_2 _ _) (int___rmul___int_list k t l its.toArray n)
   ⟨e,rfl,⟨_,e,rfl⟩,call_meets F.slot_list_mul ⟨_,e,rfl⟩ F.entry_list_mul (F.args_list_mul_2 _ _) (AutoListH.list___mul___list_int_3 l its.toArray n k t hfit hcap hlong) ⟨e,?_⟩⟩)
 rw [hnew];exact ⟨.ref _,_,I.KG (t':=s.toks) (r.rep k.toNat) (by rw [len_rep,Nat.mul_comm];exact hz),rfl,q _ I.fresh⟩
end
section
variable {prog:Program} {w:World} {A:Around} {E:Value->Shared->Prop} {s:Shared}
end
section
variable {X:Cx}
end
end L2
namespace Att
open PySem PySem.W PySem.Calls PyProof.Rows
theorem oJ {P:Params}{h:Heap}:∀ (ns:List Int) (vs:List Value),WellAll P h vs (ns.map WData.int)->IntsAre vs ns:=by
 intro ns
 induction ns with
 | nil=>
  intro vs w;rw [map_nil] at w
  cases w
  exact .nil
 | cons n ns ih=>
  intro vs w;rw [map_cons] at w
  cases w with
  | cons a b=>
   cases a
   exact .cons _ _ (ih _ b)
theorem Bm {l:OpenLaw}{n:Nat}(hn:l.most=some n){P:Params}{h:Heap}{args:List WData}{vals:List Value}
  (hpre:l.row.toRowW.claim.pre args=true) (hwl:WellAll P h vals args) :
  ∃ a vs ns,vals=[Value.ref a]/\args=[WData.list (ns.map WData.int)]/\h.get? a=some { cls:=.type "list",data:=.seq vs.toArray }/\IntsAre vs ns/\ns.length<=n:=by
 have hsh:WShape.hasAll [] args [.list .int]=true:=(pre_splitW hpre).1;have hc:l.pre.holds [] { args:=args }=true:=(pre_splitW hpre).2;obtain ⟨d,r,rfl,h1,h2⟩:=hasAllW_cons hsh;obtain rfl:=hasAllW_nil h2;obtain ⟨xs,rfl,h3⟩:=hasW_list h1;obtain ⟨ns,rfl⟩:=items_int h3;have hlen:ns.length<=n:=by
  unfold OpenLaw.pre at hc;have h4:(WTm.not (.lt (.lit (.int (n:Int))) (.len (.arg 0)))).holds [] { args:=[.list (ns.map .int)] }=true:=by
   have h4:=(holds_andW hc).1;rw [hn] at h4;exact h4
  have h5:=condW_of h4 (w_not (w_lt w_lit (w_len_list (w_arg rfl))));rw [length_map] at h5;refine Nat.le_of_not_lt λ q=>?_;have q':(n:Int) < ((ns.length:Nat):Int):=by omega
  first
   | (rw [decide_eq_true q'] at h5;exact absurd h5 (by decide))
   | (simp at h5;omega)
 cases hwl with
 | cons w1 w2=>
  cases w2
  cases w1 with
  | list ho hall=>exact ⟨_,_,ns,rfl,rfl,ho,oJ ns _ hall,hlen⟩
theorem Bv (l:OpenLaw)(args:List WData):l.row.toRowW.claim.post args (.bool true) args=true:=
 postW_of (r:=l.row.toRowW) (X:=(true == true))
  (show WShape.has [] (.bool true) .bool=true by first | rfl | decide | simp [WShape.has,WShape.arms,WShape.armsAll])
  (show (WTm.eq .res (.lit (.bool true))).value [] { args:=args,res:=some (.bool true),after:=args }=some (.bool (true == true)) from w_eq_bool (w_res rfl) w_lit) rfl
theorem wj {l:OpenLaw}{n:Nat}{q:Program}{loose:List Str}{XP:(Str->Option Value)->Heap->Prop}{YP:World->Heap->Prop}{d:DefRec}
  (hn:l.most=some n) (hdf:d.params.defaults=[])
  (call:∀ (w:World) (s₀ s₁:Shared) (mg mb:Str->Option Value) (fa:Addr) (o:Obj) (pm cd doc:Value) (a:Addr) (vs:List Value) (ns:List Int),
   Ground q loose [] XP w s₀ mg mb s₁.heap->YP w s₁.heap ->
   s₁.heap.get? fa=some o->o.data=.func (docDef d.name d.params d.body d.scope pm cd doc)->s₁.heap.CodeRec cd d.name->mg d.name=some (.ref fa) ->
   s₁.heap.get? a=some { cls:=.type "list",data:=.seq vs.toArray }->IntsAre vs ns->ns.length<=n->s₁.gens=#[] ->
   codeAny (model l.prog w) callerA (.call (.ref fa) ⟨[.ref a],[]⟩) (λ r s'=>r=.ok (.ret (.bool true))/\OldK s₁.heap s'.heap/\s'.os=s₁.os/\AllBare s'.gens) s₁) :
  WalkO q loose XP YP l.row.toRowW d [] (λ f vs=>PySem.call f vs):=by
 intro w s₀ s₁ mg mb G Y fa o pm cd doc dV kV ho hd hcd hD hmg hg args vals as hpre hlay hrd hwl hlo;obtain rfl:dV=.none:=Dflts.none hD hdf;obtain rfl:kV=.none:=Dflts.noKw hD;obtain ⟨a,vs,ns,rfl,rfl,hobj,hints,hlen⟩:=Bm hn hpre hwl;refine enter_call (codeAny_mono (call w s₀ s₁ mg mb fa o pm cd doc a vs ns G Y ho (fd_plain hd) hcd hmg hobj hints hlen hg) λ r s' hq=>?_);obtain ⟨rfl,h2,h3,h4⟩:=hq;exact ⟨.inl ⟨.bool true,.bool true,[],rfl,λ _=>rfl,.bool true,Bv l _,λ _=>⟨List.Pairwise.nil,λ _ hm=>(nomatch hm)⟩⟩,h2,h3,h4⟩
section
variable {prog:Program} {w:World} {A:Around} {E:Value->Shared->Prop} {s:Shared} {K:Frag}
end
end Att
namespace L2
open PySem PySem.Spec PyProof.Rows
theorem rE:∀ {vs:List Value} {ns:List Int},IntsAre vs ns->Vals (ns.map V.int) vs
 | _,_,.nil=>.nil
 | _,_,.cons n t h=>.cons ⟨t,rfl⟩ (rE h)
noncomputable def HM (H:Hp):Prop:=∀ b,H b=none\/∃ o xs,H b=some (.frz o (.lst xs))
theorem GG {P:Program}{w:World}{K:PySem.W.Frag}{mg mb:Str->Option Value}{CX:Cv}{k:Nat}{fa a:Addr}{fd:FuncData}{x:Str}{sp:Sp}{s₁:Shared}{vs:List Value}{ns:List Int}
  (KX:K.In s₁.heap) (hns:s₁.heap.Ns mainGlobals mg) (hb:s₁.heap.Ns builtinsNs mb) (hbb:∀ x:Str,x ≠ "__name__" -> mb x=bootBuiltins x) (hlim:s₁.heap.NoLimit) (hg:s₁.gens=#[])
  (ha:s₁.heap.get? a=some { cls:=.type "list",data:=.seq vs.toArray }) (hi:IntsAre vs ns) (hl:ns.length<=sizeLine) (hr:Room k callerA)
  (F:∀ base:Heap,K.In base->base.Ns mainGlobals mg->FnOk P w K mg base CX k fa fd [x] sp) (hbind:∀ (s:Shared) (u:Value),BindsTo s fd ⟨[u],[]⟩ [(x,u)])
  (hsp:∀ H:Hp,HM H->gY K H a (ns.map V.int)->sp [.ref a] H (λ v _=>v=.bl true) λ _ _ _=>False)
  (hCX:∀ H e s',CX [] H s₁ (λ _ _ _=>False) e s'->False) :
  codeAny (model P w) callerA (.call (.ref fa) ⟨[.ref a],[]⟩) (λ r s'=>r=.ok (.ret (.bool true))/\OldK s₁.heap s'.heap/\s'.os=s₁.os/\AllBare s'.gens) s₁:=by
 have rv:=rE hi;have lenV:=hi.length;have core:∀ H:Hp,HM H->gY K H a (ns.map V.int)->kO P w H s₁.heap->(∀ b,H b≠none->b=a)->(H a≠none->K.lookup a=none) ->
   codeAny (model P w) callerA (.call (.ref fa) ⟨[.ref a],[]⟩) (λ r s'=>r=.ok (.ret (.bool true))/\OldK s₁.heap s'.heap/\s'.os=s₁.os/\AllBare s'.gens) s₁:=by
  intro H hO hS hok hA hK;have base_of:∀ {b:Addr} {o:Obj},s₁.heap.get? b=some o->H b=none->(sW s₁.heap H).get? b=some o:=λ e n=>DR e n;have noA:∀ {b:Addr} {o:Obj} {es:Array DictEntry} {ep:Nat},s₁.heap.get? b=some o->o.data=.dict es ep->H b=none:=λ {b o es ep} e d=>by
   cases q:H b with
   | none=>rfl
   | some u=>
    have e':b=a:=hA b (by rw [q];simp);subst e';rw [ha] at e;cases e;have d':Data.seq vs.toArray _=Data.dict es ep:=d
    cases d'
  have nsK:∀ {b:Addr} {m:Str->Option Value},s₁.heap.Ns b m->(sW s₁.heap H).Ns b m:=λ {b m} ⟨o,es,ep,e,d,r⟩=>⟨o,es,ep,base_of e (noA e d),d,r⟩;have hKb:K.In (sW s₁.heap H):=λ b o e=>base_of (KX b o e) (by
   cases q:H b with
   | none=>rfl
   | some u=>
    have e':b=a:=hA b (by rw [q];simp);subst e';rw [hK (by rw [q];simp)] at e;cases e)
  have hM:Mod K mg (sW s₁.heap H):=⟨hKb,nsK hns,⟨mb,nsK hb,hbb⟩,let ⟨mc,h1,h2⟩:=hlim;⟨mc,nsK h1,h2⟩⟩;have e0:Env0 P w K mg (sW s₁.heap H) callerA [] s₁ H:=⟨rfl,hM,λ b o e=>HR e,Nat.le_of_eq (Ce _ _),trivial,λ b hb=>absurd (show b∈([]:List Addr) from hb) (by simp),hok,.of_eq hg⟩;refine codeAny_mono ((F _ hKb (nsK hns)).run callerA [] s₁ H ⟨[.ref a],[]⟩ [.ref a] [.ref a] _ _ hr e0 (hbind s₁ (.ref a)) (.cons rfl .nil) (hsp H hO hS)) λ r s' h=>?_
  cases r with
  | error e=>exact (hCX H e s' h).elim
  | ok fl=>
   cases fl with
   | next=>exact False.elim h
   | brk=>exact False.elim h
   | cont=>exact False.elim h
   | ret u=>
    obtain ⟨v,H',os,bare,un,hok',r',q⟩:=h;have q':v=.bl true:=q;subst q';obtain rfl:u=Value.bool true:=r';refine ⟨rfl,OldK.of_keep λ b o e=>?_,os,bare⟩
    cases q:H b with
    | none=>exact un.keep b o e q (by intro z;exact absurd (show b∈([]:List Addr) from z) (by simp)) (by simp)
    | some u=>
     rcases hO b with z | ⟨ob,xs,z⟩
     ·rw [q] at z;cases z
     ·have z2:=un.frzs b ob _ z;obtain ⟨e1,_⟩:=hok b _ z;obtain ⟨e2,_⟩:=hok' b _ z2;rw [e] at e1;cases e1;exact e2
 cases hk:K.lookup a with
 | some o=>
  have e:=KX a o hk;rw [ha] at e
  cases e
  refine core (λ _=>none) (λ _=>.inl rfl) (.inr ⟨_,vs.toArray,_,hk,rfl,rfl,rfl,by rw [size_toArray,lenV];exact hl,by simpa using rv⟩) (λ b u z=>by have z':(none:Option HO)=some u:=z;cases z') (λ b z=>absurd rfl z) λ z=>absurd rfl z
 | none=>
  refine core (λ b=>if b=a then some (.frz { cls:=.type "list",data:=.seq vs.toArray } (.lst (ns.map V.int))) else none) (λ b=>?_) (.inl (.inr ⟨{ cls:=.type "list",data:=.seq vs.toArray },if_pos rfl⟩)) (λ b u z=>?_) (λ b z=>?_) λ _=>hk
  ·by_cases hb:b=a
   ·exact .inr ⟨_,_,if_pos hb⟩
   ·exact .inl (if_neg hb)
  ·by_cases hb:b=a
   ·have z':=(if_pos hb).symm.trans z
    cases z'
    subst hb;exact ⟨ha,by rw [length_map];exact hl,vs,_,rv,ha⟩
   ·have z':=(if_neg hb).symm.trans z
    cases z'
  ·by_cases hb:b=a
   ·exact hb
   ·exact absurd (if_neg hb) z
theorem HA {l:PySem.W.OpenLaw}{n k:Nat}{q:Program}{loose:List Str}{XP:(Str->Option Value)->Heap->Prop}{YP:World->Heap->Prop}{d:DefRec}{K:Params->PySem.W.Frag}{CX:World->Cv}{sp:World->Sp}{x:Str}
  (hn:l.most=some n) (hn2:n<=sizeLine) (hdf:d.params.defaults=[]) (hr:Room k callerA)
  (hY:∀ (w:World) (h:Heap),YP w h->(K w.params).In h)
  (F:∀ (w:World) (mg:Str->Option Value) (fa:Addr) (h:Heap),(K w.params).In h->h.Ns mainGlobals mg->mg d.name=some (.ref fa) ->
   ∃ fd:FuncData,(∀ (s:Shared) (u:Value),BindsTo s fd ⟨[u],[]⟩ [(x,u)]) /\
    ∀ base:Heap,(K w.params).In base->base.Ns mainGlobals mg->FnOk l.prog w (K w.params) mg base (CX w) k fa fd [x] (sp w))
  (hsp:∀ (w:World) (H:Hp) (a:Addr) (ns:List Int),ns.length<=n->HM H->gY (K w.params) H a (ns.map V.int)->sp w [.ref a] H (λ v _=>v=.bl true) λ _ _ _=>False)
  (hCX:∀ (w:World) (H:Hp) (s:Shared) (e:Value) (s':Shared),CX w [] H s (λ _ _ _=>False) e s'->False) :
  PySem.W.WalkO q loose XP YP l.row.toRowW d [] (λ f vs=>PySem.call f vs):=by
 refine Att.wj hn hdf λ w s₀ s₁ mg mb fa o pm cd doc a vs ns G Y ho hd hcd hmg hobj hints hlen hg=>?_;have KX:=hY w _ Y;obtain ⟨fd,hb,hF⟩:=F w mg fa _ KX G.T.g hmg;exact GG KX G.T.g G.T.b G.T.builtins G.T.nolimit hg hobj hints (Nat.le_trans hlen hn2) hr hF hb (λ H hO hS=>hsp w H a ns hlen hO hS) λ H e s'=>hCX w H s₁ e s'
noncomputable def aX (s:Stmt):Arguments:=match s with
 | .FunctionDef _ a _ _ _ _ _ _ _ _=>a
 | _=>{ posonlyargs:=[],args:=[],vararg:=none,kwonlyargs:=[],kw_defaults:=[],kwarg:=none,defaults:=[] }
noncomputable def aQ (s:Stmt):List Stmt:=match s with
 | .FunctionDef _ _ b _ _ _ _ _ _ _=>b
 | _=>[]
noncomputable def az (s:Stmt):Scope:=match s with
 | .FunctionDef _ _ _ _ _ _ sc _ _ _=>sc
 | _=>{ kind:=.function,names:=[],isGenerator:=false,isCoroutine:=false }
noncomputable abbrev iS:Cv:=λ _ _ _ _ _ _=>False
noncomputable abbrev E0:XK:=λ _ _ _=>False
theorem NU {X:Cx}:Passes iS X E0:=λ _ _ _ _ _ _ _ h=>h.elim
structure Fun (K:PySem.W.Frag)(x qual:Str)(st:Stmt)(f:Addr)(fd:FuncData):Prop where
 ex:∃ (oc:Value) (od:Option Addr) (kV doc pm:Value) (an:Option Addr) (cdv ct:Value) (osl:Array (Option Value)),
  fd=PySem.W.fnOf x qual (aX st) (aQ st) (az st) .none kV doc pm an cdv ct/\K.lookup f=some ⟨oc,od,.func fd,osl⟩/\PySem.W.codeIn K cdv qual=true
 kp:PySem.W.keepIn K (.ref f)=true
section
variable {P:Program} {w:World} {K:PySem.W.Frag} {mg:Str->Option Value} {base:Heap}
theorem Fun.ok {x qual:Str}{st:Stmt}{f:Addr}{fd:FuncData}{N ps:List Str}{k:Nat}{sp:Sp}(F:Fun K x qual st f fd)(S:FnScope N ps (az st))(len:∀ vs H Q E,sp vs H Q E->vs.length=ps.length)
  (hbody:∀ (cdv:Value) (A:Around) (outer:List Env) (s:Shared) (H:Hp) (vs:List V) (Q:VK) (E:XK),Room k (A.deeper (envOfC qual (az st) s.heap.objs.size f cdv))->sp vs H Q E ->
   ∃ t,qW (lX iS P w K mg base N qual (az st) f cdv A outer s H E).Ni (aQ st) t/\t { nx:=λ _ H'=>Q .non H',rt:=Q } (start N vs) H):FnOk P w K mg base iS (k+1) f fd ps sp:=by
 obtain ⟨oc,od,kV,doc,pm,an,cdv,ct,osl,rfl,lk,hcd⟩:=F.ex;refine Kr lk hcd S len λ A outer s H vs Q E hr hsp=>?_;obtain ⟨t,h,q⟩:=hbody cdv A outer s H vs Q E hr hsp;exact ⟨t,h.Ni,q⟩
theorem Fun.binds {x qual:Str}{st:Stmt}{f:Addr}{fd:FuncData}{ps:List Str}(F:Fun K x qual st f fd)
  (h:∀ (kV doc pm:Value) (an:Option Addr) (cdv ct:Value) (us:List Value),us.length=ps.length->bindArgs (PySem.W.fnOf x qual (aX st) (aQ st) (az st) .none kV doc pm an cdv ct) ⟨us,[]⟩=pure (ps.zip us)):Binds K fd ps []:=by
 obtain ⟨oc,od,kV,doc,pm,an,cdv,ct,osl,rfl,lk,hcd⟩:=F.ex;exact .all (h kV doc pm an cdv ct)
theorem bJ {x qual:Str}{st:Stmt}{f:Addr}{oc:Value}{od an:Option Addr}{osl:Array (Option Value)}{kV doc pm cdv ct:Value}(l:K.lookup f=some ⟨oc,od,.func (PySem.W.fnOf x qual (aX st) (aQ st) (az st) .none kV doc pm an cdv ct),osl⟩)
  (c:PySem.W.codeIn K cdv qual=true) (k:PySem.W.keepIn K (.ref f)=true):Fun K x qual st f (PySem.W.fnOf x qual (aX st) (aQ st) (az st) .none kV doc pm an cdv ct):=⟨⟨oc,od,kV,doc,pm,an,cdv,ct,osl,rfl,l,c⟩,k⟩
end
section
variable {X:Cx}
theorem pv (i:Nat){x:Str}{pos:Pos}(hN:X.N[i]?=some x:=by rfl)(hv:Oq X.env.scope x:=by first | exact Or.inl rfl | exact Or.inr (Or.inl rfl) | exact Or.inr (Or.inr rfl))(hd:(x == ("__debug__" : Str))=false:=by decide)
  (hcd:(x == ("__classdict__" : Str))=false:=by decide):PE X (.Name x pos) (Ou i):=CH hN hv hd hcd
end
set_option maxHeartbeats 4000000
noncomputable def MH (σ:St):Option Nat->Option V
 | some j=>(σ[j]?).getD none
 | none=>none
noncomputable def mR (env:Env):List (Str×NameKind)->List (Str×Addr)->List (Str×Addr)
 | [],cs=>cs
 | (n,k)::r,cs=>mR env r (if k == .free then (n,(env.cells.lookup n).getD 0)::cs else cs)
theorem w6 {scope:Scope}{env:Env}(h:∀ y∈scope.names,y.2=.free->∃ c,env.cells.lookup y.1=some c):closureFor scope env=pure (mR env scope.names []):=by
 have key:∀ (l:List (Str×NameKind)) (cs:List (Str×Addr)),(∀ y∈l,y.2=.free->∃ c,env.cells.lookup y.1=some c) ->
   (forIn l cs (λ (x:Str×NameKind) (r:List (Str×Addr))=>(match x with
    | (name,kind)=>if (kind == NameKind.free)=true then (do let c <- cellOf env name;pure (ForInStep.yield ((name,c)::r))) else pure (ForInStep.yield r):Sem (ForInStep (List (Str×Addr))))))=(pure (mR env l cs):Sem (List (Str×Addr))):=by
  intro l
  induction l with
  | nil=>intro cs _;rfl
  | cons y r ih=>
   intro cs hl;obtain ⟨n,k⟩:=y;rw [List.forIn_cons];by_cases hk:k=.free
   ·subst hk;obtain ⟨c,hc⟩:=hl (n,.free) mem_cons_self rfl;have e1:cellOf env n=pure c:=by
     unfold cellOf;rw [hc]
    simp only [beq_self_eq_true,if_true,e1,pure_bind];rw [ih _ (λ z hz=>hl z (mem_cons_of_mem _ hz))];simp only [mR,beq_self_eq_true,if_true,hc,getD_some]
   ·have hb:(k == NameKind.free)=false:=by simpa using hk
    simp only [hb,false_eq_true,if_false,pure_bind];rw [ih _ (λ z hz=>hl z (mem_cons_of_mem _ hz))];simp only [mR,hb,false_eq_true,if_false]
 have:=key scope.names [] h;exact (congrArg (λ z=>z >>= λ cs=>(pure cs:Sem (List (Str×Addr)))) this).trans (pure_bind _ _)
theorem qd:∀ {l:List (Str×NameKind)} {x:Str} {k:NameKind},l.lookup x=some k->(x,k)∈l
 | [],_,_,h=>nomatch h
 | (n,k')::r,x,k,h=>by
  rw [lookup_cons] at h
  cases hx:x == n with
  | true=>
   rw [hx] at h;have e:x=n:=by simpa using hx
   subst e
   cases h
   exact mem_cons_self
  | false=>rw [hx] at h;exact mem_cons_of_mem _ (qd h)
theorem r_ {env:Env}{x:Str}{c:Addr}:∀ {l:List (Str×NameKind)} {cs:List (Str×Addr)},(∀ y∈l,y.2=.free->∃ c,env.cells.lookup y.1=some c)->(mR env l cs).lookup x=some c->env.cells.lookup x=some c\/cs.lookup x=some c
 | [],cs,_,h=>.inr h
 | (n,k)::r,cs,hl,h=>by
  have h':=r_ (l:=r) (λ z hz=>hl z (mem_cons_of_mem _ hz)) h
  rcases h' with h' | h'
  ·exact .inl h'
  ·by_cases hk:k=.free
   ·subst hk;simp only [beq_self_eq_true,if_true] at h';obtain ⟨c',hc⟩:=hl (n,.free) mem_cons_self rfl;rw [hc,getD_some,lookup_cons] at h'
    cases hx:x == n with
    | true=>
     rw [hx] at h';have e:x=n:=by simpa using hx
     subst e;left;rw [hc];exact h'
    | false=>rw [hx] at h';exact .inr h'
   ·have hb:(k == NameKind.free)=false:=by simpa using hk
    simp only [hb,false_eq_true,if_false] at h';exact .inr h'
theorem sq {env:Env}{x:Str}:∀ {l:List (Str×NameKind)} {cs:List (Str×Addr)},(cs.lookup x).isSome=true->((mR env l cs).lookup x).isSome=true
 | [],cs,h=>h
 | (n,k)::r,cs,h=>by
  show ((mR env r _).lookup x).isSome=true;refine sq (l:=r) ?_;by_cases hk:(k == NameKind.free)=true
  ·rw [if_pos hk,lookup_cons]
   cases hx:x == n with
   | true=>rfl
   | false=>exact h
  ·rw [if_neg hk];exact h
theorem p_ {env:Env}{x:Str}:∀ {l:List (Str×NameKind)} {cs:List (Str×Addr)},(x,NameKind.free)∈l->((mR env l cs).lookup x).isSome=true
 | [],_,h=>nomatch h
 | (n,k)::r,cs,h=>by
  rcases mem_cons.mp h with e | h
  ·cases e
   show ((mR env r _).lookup x).isSome=true;refine sq (l:=r) ?_;rw [if_pos (by rfl),lookup_cons];simp
  ·exact p_ (l:=r) h
noncomputable def gh (X:Cx)(scope:Scope)(N:List Str)(C:Addr)(s₀:Shared)(H₀:Hp)(ex:List Addr):Cx where
 prog:=X.prog
 w:=X.w
 K:=X.K
 mg:=X.mg
 base:=X.base
 A:=X.A
 N:=N
 s₀:=s₀
 H₀:=H₀
 env:=compEnvC scope (mR X.env scope.names []) C X.env
 outer:=X.stack
 stack:=X.stack
 ex:=ex
 fn:=λ _=>false
 calm:=X.calm
 pn:=[]
 xe:=λ _ _=>False
structure CpScope (X:Cx)(scope:Scope)(N:List Str)(cap:List (Option Nat)):Prop where
 kind:scope.kind=.function
 nocell:∀ y∈scope.names,y.2≠.cell
 nm:∀ y∈scope.names,y.2=.local->scope.names.lookup y.1=some .local
 fr:∀ y∈scope.names,y.2=.free->X.env.kindOf y.1=some .cell\/X.env.kindOf y.1=some .free
 rl:∀ y,((relabel scope X.env).names.lookup y=some .cell\/(relabel scope X.env).names.lookup y=some .free)->(y,NameKind.free)∈scope.names
 len:cap.length=N.length
 nolf:∀ x,(x,NameKind.free)∈scope.names->scope.names.lookup x≠some .local
 cp:∀ (i j:Nat) (x:Str),N[i]?=some x->cap[i]?=some (some j)->X.N[j]?=some x/\(x,NameKind.free)∈scope.names
theorem KC {X:Cx}{scope:Scope}{N:List Str}{cap:List (Option Nat)}{pins:List (Addr×Obj)}{σ:St}{H:Hp}{s:Shared}{fp:List Addr}{h₁:Heap}{m:Str->Option Value}{tk:Nat}(S:CpScope X scope N cap)(I:Inv X pins σ H s)
  (hf:∀ b∈fp,nF X pins H b) (ho:∀ b∈fp,∃ o,s.heap.get? b=some o) (hn:h₁.Ns s.heap.objs.size m) (hk:∀ b o,s.heap.get? b=some o->h₁.get? b=some o) :
  Inv (gh X scope N s.heap.objs.size s H fp) [] (cap.map (MH σ)) H { s with heap:=h₁,toks:=tk }:=by
 have hfree:∀ y∈scope.names,y.2=.free->∃ c,X.env.cells.lookup y.1=some c:=λ y hy e=>I.ok.has _ (S.fr y hy e);have lk:∀ x c,(mR X.env scope.names []).lookup x=some c->X.env.cells.lookup x=some c:=λ x c e=>by
  rcases r_ hfree e with z | z
  ·exact z
  ·cases z
 have lt:∀ b o,s.heap.get? b=some o->b≠s.heap.objs.size:=λ b o e=>ne_of_lt (lt_size e);refine ⟨⟨I.ok.mod,?_,I.ok.glob,I.ok.blt,Nat.le_refl _,?_,?_,?_,I.ok.hd,I.ok.frames,.inl rfl,?_,I.bs,Nat.le_trans I.ok.bsz I.sz,?_,?_,I.stack,I.pB⟩,rfl,I.bare,Un.kept hk,?_,?_,I.hok.fresh (Nat.le_refl _),?_,?_,I.hok.kept hk,?_⟩
 ·exact S.kind
 ·intro x y c e1 e2;exact I.ok.inj x y c (lk x c e1) (lk y c e2)
 ·intro x e;have hm:=S.rl x e;have:=p_ (env:=X.env) (cs:=[]) hm;exact isSome_iff_exists.mp this
 ·intro x c e _;exact absurd e (by simp [gh])
 ·intro b hb;obtain ⟨o,e⟩:=ho b hb;refine ⟨lt b o e,λ x c e2=>(hf b hb).2.2.2.2.1 x c (lk x c e2)⟩
 ·intro b o e hb;obtain ⟨_,_,_,h3,_⟩:=hf b hb
  rcases h3 with z | z
  ·exact I.ok.noex b o e z
  ·exact absurd (lt_of_lt_of_le (lt_size (I.ok.bs b o e).1) z) (lt_irrefl _)
 ·intro b hb hz;obtain ⟨_,h1,h2,_⟩:=hf b hb
  rcases mem_cons.mp (I.qj b hz) with z | z
  ·exact h1 z
  ·exact h2 z
 ·refine ⟨m,hn,λ i x v e1 e2 e3=>?_⟩;rw [List.getElem?_map] at e2
  cases hc:cap[i]? with
  | none=>rw [hc] at e2;cases e2
  | some oj=>
   rw [hc] at e2
   cases oj with
   | none=>cases e2
   | some j=>
    have e2':(σ[j]?).getD none=some v:=Option.some.inj e2;obtain ⟨hj,hm⟩:=S.cp i j x e1 hc;obtain ⟨m0,hn0,hl0⟩:=I.loc;have hσ:σ[j]?=some (some v):=by
     cases h:σ[j]? with
     | none=>rw [h] at e2';cases e2'
     | some z=>rw [h,getD_some] at e2';rw [e2']
    have hkd:=S.fr (x,.free) hm rfl;have hv:Oq X.env.scope x:=.inr hkd;obtain ⟨u,ru,lo⟩:=hl0 j x v hj hσ hv;refine ⟨u,ru,?_⟩
    rcases lo with ⟨lo,_⟩ | ⟨_,c,ec,ic⟩
    ·rcases hkd with z | z <;> (rw [z] at lo;cases lo)
    ·have h2:=p_ (env:=X.env) (cs:=[]) hm;obtain ⟨c',hc'⟩:=isSome_iff_exists.mp h2;have:c'=c:=Option.some.inj ((lk x c' hc').symm.trans ec);subst this;refine .inr ⟨?_,c',hc',?_⟩
     ·rcases e3 with z | z | z
      ·exfalso;have:(relabel scope X.env).names.lookup x=some .local:=z;have hloc:scope.names.lookup x=some .local:=by
        have hmem:∃ k,(x,k)∈(relabel scope X.env).names/\k=.local:=by
         clear hc' h2;have:=qd this;exact ⟨_,this,rfl⟩
        obtain ⟨k,hk1,rfl⟩:=hmem;obtain ⟨⟨n',k'⟩,hm1,hm2⟩:=mem_map.mp hk1;dsimp only at hm2;split at hm2
        ·cases hm2
        ·cases hm2
         exact S.nm (x,.local) hm1 rfl
       exact False.elim (S.nolf x hm hloc)
      ·exact .inl z
      ·exact .inr z
     ·obtain ⟨o,ho',hd⟩:=ic;exact ⟨o,hk _ _ ho',hd⟩
 ·intro x c e;obtain ⟨v,o,ho',hd⟩:=I.cell x c (lk x c e);exact ⟨v,o,hk _ _ ho',hd⟩
 ·intro x c e;exact I.freeC x c (lk x c e)
 ·intro p hp
  cases hp
 ·rw [length_map,S.len];rfl
noncomputable def MP (X:Cx)(ifs:List Expr)(t:TT):Prop:=
 ∀ (pins:List (Addr×Obj)) (s:Shared) (σ:St) (H:Hp) (Q:Bool->Hp->Prop),Inv X pins σ H s->t σ H Q ->
  wpAny (model X.prog X.w) X.A (forIn ifs true λ c r=>if r=true then do let ok <- isTrue c X.env (eval c X.env);pure (ForInStep.yield ok) else pure (ForInStep.yield r)) (TP X pins σ Q) X.xe s
noncomputable def Py:TT:=λ _ H Q=>Q true H
theorem Jj {X:Cx}:MP X [] Py:=λ _ _ _ H _ I h=>wpAny_tests_nil ⟨H,I,h⟩
theorem IX {X:Cx}{c:Expr}{t:TT}(h:PT X c t):MP X [c] t:=λ pins s σ H Q I q=>wpAny_tests_one (h pins s σ H Q I q)
noncomputable def Lo (cap:List (Option Nat))(g:TG)(tc:TT)(te:TE)(σ:St)(Q:VK)(J:It)(H1:Hp):Prop:=∀ D,H1 D=none ->
 ∃ W:Nat->Nat->St->Hp->Prop,(∃ m,W 0 m (cap.map (MH σ)) (upd H1 D (.lst [])))/\∀ i m σ' H',W i m σ' H' ->
  (J.stop i H'/\Q (.ref D) H')\/(J.go i H'/\∀ x H2,J.yld i H' x H2->g x σ' H2 λ σ3 H3=>tc σ3 H3 λ b H4=>
   if b=true then te σ3 H4 λ y H5=>∃ ys,H5 D=some (.lst ys)/\ys.length < sizeLine/\∃ m',m' < m/\W (i+1) m' σ3 (upd H5 D (.lst (ys++[y])))
   else ∃ m',m' < m/\W (i+1) m' σ3 H4)
noncomputable def OV (cap:List (Option Nat))(wi:TI)(g:TG)(tc:TT)(te:TE):TE:=λ σ H Q=>wi σ H (Lo cap g tc te σ Q)
theorem IS {α:Type}{t:Sem α}{Q Q':α->Shared->Prop}{M:Model}{A:Around}{E:Value->Shared->Prop}{s:Shared}(h:wpAny M A t Q (λ _ _=>False) s)(hQ:∀ a s,Q a s->Q' a s):wpAny M A t Q' E s:=
 wpAny_mono h hQ λ _ _ f=>f.elim
structure TurnG (ok:Cx->Prop)(P:Program)(w:World)(K:PySem.W.Frag)(tg:Expr)(J:It)(fp:List Addr)(it:Addr)(tn:Nat->Heap->Prop):Prop where
 obj:∀ i h,tn i h->∀ b∈fp,∃ o,h.get? b=some o/\∀ v,o.data≠.cell v
 keep:∀ i h h',tn i h->(∀ b∈fp,∀ o,h.get? b=some o->h'.get? b=some o)->tn i h'
 item:∀ (X:Cx),X.prog=P->X.w=w->X.K=K->ok X->∀ (i:Nat) (pins:List (Addr×Obj)) (s:Shared) (σ:St) (H:Hp) (E:Value->Shared->Prop),Inv X pins σ H s->(∀ b∈fp,nF X pins H b)->tn i s.heap->J.go i H ->
  wpAny (model P w) X.A (pyNext (.ref it)) (λ r s1=>∃ u,r=some u /\
   wpAny (model P w) X.A (letOwnedTupleGo tg (.ref it) u) (λ _ s2=>∃ x H',Inv X pins σ H' s2/\RelV x u/\J.yld i H x H'/\tn (i+1) s2.heap/\∀ b∈fp,H' b=none) E s1) E s
 done:∀ (X:Cx),X.prog=P->X.w=w->X.K=K->ok X->∀ (i:Nat) (pins:List (Addr×Obj)) (s:Shared) (σ:St) (H:Hp) (E:Value->Shared->Prop),Inv X pins σ H s->(∀ b∈fp,nF X pins H b)->tn i s.heap->J.stop i H ->
  wpAny (model P w) X.A (pyNext (.ref it)) (λ r s1=>r=none/\Inv X pins σ H s1) E s
 self:∀ (A:Around) (i:Nat) (s:Shared) (Q:Value->Shared->Prop) (E:Value->Shared->Prop),tn i s.heap->Q (.ref it) s->wpAny (model P w) A (pyIter (.ref it)) Q E s
noncomputable def Pc (ok:Cx->Prop)(X:Cx)(pins:List (Addr×Obj))(σ:St)(tg:Expr)(R:It->Hp->Prop)(itv:Value)(s2:Shared):Prop:=
 ∃ (it:Addr) (fp:List Addr) (tn:Nat->Heap->Prop) (J:It) (H':Hp),itv=.ref it/\Inv X pins σ H' s2/\TurnG ok X.prog X.w X.K tg J fp it tn/\tn 0 s2.heap/\(∀ b∈fp,nF X pins H' b)/\R J H'
noncomputable def Oe (ok:Cx->Prop)(X:Cx)(tg iter:Expr)(wi:TI):Prop:=
 ∀ (pins:List (Addr×Obj)) (s:Shared) (σ:St) (H:Hp) (R:It->Hp->Prop),Inv X pins σ H s->wi σ H R ->
  wpAny (model X.prog X.w) X.A (eval iter X.env) (λ v s1=>wpAny (model X.prog X.w) X.A (pyIter v) (Pc ok X pins σ tg R) X.xe s1) X.xe s
theorem PI.g {X:Cx}{tg iter:Expr}{wi:TI}(h:PI X tg iter wi):Oe (λ Y=>Y.calm=true) X tg iter wi:=λ pins s σ H R I q=>
 dP (h pins s σ H R I q) λ v s1 h1=>dP h1 λ itv s2 ⟨it,fp,tn,J,H',e,I',T,a,b,c⟩=>⟨it,fp,tn,J,H',e,I',⟨T.obj,T.keep,T.item,T.done,T.self⟩,a,b,c⟩
theorem IQ {ok:Cx->Prop}{X:Cx}{use:Option (Value->Sem Unit)}{Q':Value->Shared->Prop}{tg iter elt:Expr}{ifs:List Expr}{scope:Scope}{pos:Pos}{N:List Str}{cap:List (Option Nat)}{wi:TI}{g:TG}{tc:TT}{te:TE}(S:CpScope X scope N cap)(hok:∀ C s₀ H₀ ex,(∀ a o u,X.H₀ a=some (.frz o u)->H₀ a=some (.frz o u))->ok (gh X scope N C s₀ H₀ ex))(hi:Oe ok X tg iter wi)
  (hg:∀ C s₀ H₀ ex,PG (gh X scope N C s₀ H₀ ex) tg g) (ht:∀ C s₀ H₀ ex,MP (gh X scope N C s₀ H₀ ex) ifs tc) (he:∀ C s₀ H₀ ex,PE (gh X scope N C s₀ H₀ ex) elt te)
  (hs:∀ x,foldedSetIterable iter X.env x=pure x:=by intro _;rfl):∀ (pins:List (Addr×Obj)) (s:Shared) (σ:St) (H:Hp) (Q:VK),Inv X pins σ H s->OV cap wi g tc te σ H Q ->
  (∀ (s6:Shared) (C D:Addr) (H5:Hp) (m:Str->Option Value),s6.heap.Ns C m->nF X pins H5 C->(∀ h',Heap.SameBut C s6.heap h'->Inv X pins σ H5 { s6 with heap:=h' })->Q (.ref D) H5->∀ v,compPost (model X.prog X.w) X.A X.xe use Q' (.ref D) C (.ok v) s6) ->
  wpAny (model X.prog X.w) X.A (comprehension (.ListComp elt [⟨tg,iter,ifs,0⟩] scope pos) scope X.env (firstIterPos [⟨tg,iter,ifs,0⟩] pos) (newList []) (firstAsync [⟨tg,iter,ifs,0⟩]) (firstIter [⟨tg,iter,ifs,0⟩] X.env) use) Q' X.xe s:=by
 intro pins s σ H Q I h hfin;have hfree:∀ y∈scope.names,y.2=.free->∃ c,X.env.cells.lookup y.1=some c:=λ y hy e=>I.ok.has _ (S.fr y hy e);refine wpAny_comprehension_free (use:=use) rfl hs (w6 hfree) S.kind S.nm (dP (hi pins s σ H _ I h) λ xv s1 h1=>dP h1 λ itv s2 h2=>?_);obtain ⟨it,fp,tn,J,H2,rfl,I2,T,st2,f2,h2⟩:=h2;refine wpAny_newObj_type (wpAny_newFunctionEnv S.nocell (by intro y hy;simp at hy) (λ h₁ hns₁ hsb₁=>?_) S.kind);obtain ⟨W,⟨m0,w0⟩,turn⟩:=h2 s2.heap.objs.size I2.fresh;dsimp only at hns₁ hsb₁ ⊢;have I3:Inv X pins σ (upd H2 s2.heap.objs.size (.lst [])) { s2 with heap:=s2.heap.push { cls:=.type "list",data:=.seq ([]:List Value).toArray } }:=I2.KG (t':=s2.toks) (its:=[]) .nil (zero_le _);have hfp:∀ b∈fp,∃ o,s2.heap.get? b=some o:=λ b hb=>by
  obtain ⟨o,e,_⟩:=T.obj 0 _ st2 b hb;exact ⟨o,e⟩
 have neD:∀ b∈fp,b≠s2.heap.objs.size:=λ b hb=>by
  obtain ⟨o,e⟩:=hfp b hb;exact ne_of_lt (lt_size e)
 have f3:∀ b∈fp,nF X pins (upd H2 s2.heap.objs.size (.lst [])) b:=λ b hb=>⟨by rw [aL (neD b hb)];exact (f2 b hb).1,(f2 b hb).2⟩;have hDC:s2.heap.objs.size≠(s2.heap.push { cls:=.type "list",data:=.seq ([]:List Value).toArray }).objs.size:=by rw [size_push];exact ne_of_lt (lt_succ_self _)
 have old:∀ b o,(s2.heap.push { cls:=.type "list",data:=.seq ([]:List Value).toArray }).get? b=some o->h₁.get? b=some o:=λ b o e=>hsb₁.extBut b o (ne_of_lt (lt_size e)) (get?_push_of_some _ e);have I4:=KC (tk:=s2.toks+([]:List (Str×Value)).length) (fp:=fp) S I3 f3 (λ b hb=>by
  obtain ⟨o,e⟩:=hfp b hb;exact ⟨o,get?_push_of_some _ e⟩) hns₁ old
 have st4:tn 0 h₁:=T.keep _ _ _ st2 λ b hb o e=>old b o (get?_push_of_some _ e);have hc:=hok (s2.heap.push { cls:=.type "list",data:=.seq ([]:List Value).toArray }).objs.size { s2 with heap:=s2.heap.push { cls:=.type "list",data:=.seq ([]:List Value).toArray } } (upd H2 s2.heap.objs.size (.lst [])) fp λ a o u e=>by
  have z:=I2.base.frzs a o u e;rw [aL (λ q=>by rw [q,I2.fresh] at z;cases z)];exact z
 have stat:∀ {H':Hp},(∀ b∈fp,H' b=none)->∀ b∈fp,nF (gh X scope N (s2.heap.push { cls:=.type "list",data:=.seq ([]:List Value).toArray }).objs.size { s2 with heap:=s2.heap.push { cls:=.type "list",data:=.seq ([]:List Value).toArray } } (upd H2 s2.heap.objs.size (.lst [])) fp) [] H' b:=λ hn b hb=>by
  have ok:=I4.ok;refine ⟨hn b hb,(ok.exf b hb).1,ok.exfs b hb,.inl hb,λ x c e=>(ok.exf b hb).2 x c e,λ p hp=>nomatch hp⟩
 have loop:∀ s4:Shared,s4={ s2 with heap:=h₁,toks:=s2.toks+([]:List (Str×Value)).length } ->
   codeAny (model X.prog X.w) X.A (.compLoop (.ListComp elt [⟨tg,iter,ifs,0⟩] scope pos) 0 (.ref it) (.ref s2.heap.objs.size) (compEnvC scope (mR X.env scope.names []) (s2.heap.push { cls:=.type "list",data:=.seq ([]:List Value).toArray }).objs.size X.env))
    (compPost (model X.prog X.w) X.A X.xe use Q' (.ref s2.heap.objs.size) (s2.heap.push { cls:=.type "list",data:=.seq ([]:List Value).toArray }).objs.size) s4:=by
  rintro s4 rfl;refine codeAny_loop rfl (λ n s'=>∃ i σ' H',Inv (gh X scope N (s2.heap.push { cls:=.type "list",data:=.seq ([]:List Value).toArray }).objs.size { s2 with heap:=s2.heap.push { cls:=.type "list",data:=.seq ([]:List Value).toArray } } (upd H2 s2.heap.objs.size (.lst [])) fp) [] σ' H' s'/\tn i s'.heap/\(∀ b∈fp,H' b=none)/\W i n σ' H') (λ n s5 hI=>?_) m0 ⟨0,_,_,I4,st4,λ b hb=>(f3 b hb).1,w0⟩;obtain ⟨i,σ5,H5,I5,st5,fr5,w5⟩:=hI;show wpAny _ X.A ((compTurn (.ListComp elt [⟨tg,iter,ifs,0⟩] scope pos) 0 (.ref it) (.ref s2.heap.objs.size) (compEnvC scope (mR X.env scope.names []) (s2.heap.push { cls:=.type "list",data:=.seq ([]:List Value).toArray }).objs.size X.env)).onRaise (λ x=>do noteFrame x _;theTreesLotGoes x)) _ _ s5;refine wpAny_noted ?_;rw [compTurn_list];refine wpAny_bind (wpAny_standAt (wpAny_bind ?_))
  rcases turn i n σ5 H5 w5 with ⟨stop,q⟩ | ⟨go,step⟩
  ·refine dP (T.done (gh X scope N (s2.heap.push { cls:=.type "list",data:=.seq ([]:List Value).toArray }).objs.size { s2 with heap:=s2.heap.push { cls:=.type "list",data:=.seq ([]:List Value).toArray } } (upd H2 s2.heap.objs.size (.lst [])) fp) rfl rfl rfl hc i [] s5 σ5 H5 _ I5 (stat fr5) st5 stop) λ r s6 h9=>?_;obtain ⟨hr,I6⟩:=h9;subst hr;obtain ⟨m6,hn6,_⟩:=I6.loc;refine wpAny_pure (hfin s6 _ _ H5 m6 hn6 (I3.BI (Nat.le_refl _) I6.free) (λ h' sb=>?_) q _);have u6:=I6.base;have nC:∀ b o,(s2.heap.push { cls:=.type "list",data:=.seq ([]:List Value).toArray }).get? b=some o->b≠(s2.heap.push { cls:=.type "list",data:=.seq ([]:List Value).toArray }).objs.size:=λ b o e=>ne_of_lt (lt_size e);refine I3.NF (ch:=fp) I6.os ⟨λ b o e n hb hx=>?_,λ b o e n hb hx=>?_,λ b o e n hx=>?_,λ b o e hx=>?_,u6.tups,u6.frzs,u6.tbls⟩ ?_ I6.bare ?_
   ·exact sb.extBut b o (nC b o e) (u6.keep b o e n hb hx)
   ·obtain ⟨sl,z⟩:=u6.slot b o e n hb hx;exact ⟨sl,sb.extBut b _ (nC b o e) z⟩
   ·exact u6.free b o e n hx
   ·obtain ⟨o',z⟩:=u6.there b o e hx;exact ⟨o',sb.extBut b _ (nC b o e) z⟩
   ·intro b o e;have hb:∀ c v,H5 c=some v->c≠(s2.heap.push { cls:=.type "list",data:=.seq ([]:List Value).toArray }).objs.size:=λ c v e z=>by
     rw [z] at e;have:=I6.free;rw [show H5 (s2.heap.push { cls:=.type "list",data:=.seq ([]:List Value).toArray }).objs.size=none from this] at e
     cases e
    refine (I6.hok b o e).stay (λ c v hc q=>sb.extBut c v ?_ q) (λ _ q=>q) λ _ _ q=>q
    rcases hc with z | z
    ·rw [z];exact hb b o e
    ·exact hb c _ z
   ·intro b hb;obtain ⟨_,z1,_,z3,z4,z5⟩:=f3 b hb;exact ⟨z3,z1,z4,z5⟩
  ·refine dP (T.item (gh X scope N (s2.heap.push { cls:=.type "list",data:=.seq ([]:List Value).toArray }).objs.size { s2 with heap:=s2.heap.push { cls:=.type "list",data:=.seq ([]:List Value).toArray } } (upd H2 s2.heap.objs.size (.lst [])) fp) rfl rfl rfl hc i [] s5 σ5 H5 _ I5 (stat fr5) st5 go) λ r s6 h9=>?_;obtain ⟨u,hr,h6⟩:=h9;subst hr;refine wpAny_bind (dP h6 λ _ s7 ⟨x,H7,I7,r7,y7,st7,fr7⟩=>?_);have I7':=I7.pinned (stat fr7) (T.obj _ _ st7);refine wpAny_bind (IS (hg _ _ _ fp _ s7 σ5 H7 x u _ I7' r7 (step x H7 y7)) λ _ s8 ⟨σ8,H8,I8,q8⟩=>?_);refine wpAny_bind (IS (ht _ _ _ fp _ s8 σ8 H8 _ I8 q8) λ ok s9 ⟨H9,I9,q9⟩=>?_);have again:∀ {s10:Shared} {H10:Hp},Inv (gh X scope N (s2.heap.push { cls:=.type "list",data:=.seq ([]:List Value).toArray }).objs.size { s2 with heap:=s2.heap.push { cls:=.type "list",data:=.seq ([]:List Value).toArray } } (upd H2 s2.heap.objs.size (.lst [])) fp) ([]++qo fp s7.heap) σ8 H10 s10->(∃ m',m' < n/\W (i+1) m' σ8 H10) ->
     ∃ m,m < n/\∃ i σ' H',Inv (gh X scope N (s2.heap.push { cls:=.type "list",data:=.seq ([]:List Value).toArray }).objs.size { s2 with heap:=s2.heap.push { cls:=.type "list",data:=.seq ([]:List Value).toArray } } (upd H2 s2.heap.objs.size (.lst [])) fp) [] σ' H' s10/\tn i s10.heap/\(∀ b∈fp,H' b=none)/\W i m σ' H':=λ {s10 H10} I10 h9=>by
    obtain ⟨m',hm,w10⟩:=h9;refine ⟨m',hm,i+1,σ8,H10,I10.mJ,T.keep _ _ _ st7 λ b hb o e=>(I10.pin (b,o) (mem_append_right _ (mem_append_right _ (jw hb e)))).1,λ b hb=>?_,w10⟩;obtain ⟨o,e,d⟩:=T.obj _ _ st7 b hb;exact (I10.pin (b,o) (mem_append_right _ (mem_append_right _ (jw hb e)))).2.1
   cases ok with
   | false=>
    rw [if_neg Bool.false_ne_true] at q9;exact wpAny_pure ⟨rfl,again I9 q9⟩
   | true=>
    rw [if_pos rfl] at q9;refine wpAny_bind (wpAny_bind (IS (he _ _ _ fp _ s9 σ8 H9 _ I9 q9) λ y s10 ⟨v10,H10,I10,r10,ys,hD,hz,w10⟩=>?_));refine wpAny_bind (IS (se _ s10 σ8 H10 (.ref s2.heap.objs.size) [v10] _ [y] (λ _ H'=>H'=upd H10 s2.heap.objs.size (.lst (ys++[v10]))) I10 rfl (.cons r10 .nil) ⟨_,ys,v10,rfl,rfl,hD,hz,rfl⟩) λ _ s11 ⟨_,H11,I11,_,e11⟩=>?_);subst e11;exact wpAny_pure (wpAny_pure ⟨rfl,again I11 w10⟩)
 exact codeAny_compStart_list (loop _ rfl) (T.self _ 0 _ _ _ st4 (loop _ rfl))
theorem EU {ok:Cx->Prop}{X:Cx}{tg iter elt:Expr}{ifs:List Expr}{scope:Scope}{pos:Pos}{N:List Str}{cap:List (Option Nat)}{wi:TI}{g:TG}{tc:TT}{te:TE}(S:CpScope X scope N cap)(hok:∀ C s₀ H₀ ex,(∀ a o u,X.H₀ a=some (.frz o u)->H₀ a=some (.frz o u))->ok (gh X scope N C s₀ H₀ ex))(hi:Oe ok X tg iter wi)
  (hg:∀ C s₀ H₀ ex,PG (gh X scope N C s₀ H₀ ex) tg g) (ht:∀ C s₀ H₀ ex,MP (gh X scope N C s₀ H₀ ex) ifs tc) (he:∀ C s₀ H₀ ex,PE (gh X scope N C s₀ H₀ ex) elt te)
  (hs:∀ x,foldedSetIterable iter X.env x=pure x:=by intro _;rfl):PE X (.ListComp elt [⟨tg,iter,ifs,0⟩] scope pos) (OV cap wi g tc te):=by
 intro pins s σ H Q I h;rw [eval_ListComp];exact IQ (use:=none) (Q':=EP X pins σ Q) S hok hi hg ht he hs pins s σ H Q I h λ s6 C D H5 m hn fk inv q v=>⟨m,hn,λ h' sb=>⟨.ref D,H5,inv h' sb,rfl,q⟩⟩
theorem NH {X:Cx}{tg iter elt:Expr}{ifs:List Expr}{scope:Scope}{pos:Pos}{N:List Str}{cap:List (Option Nat)}{wi:TI}{g:TG}{tc:TT}{te:TE}(hc:X.calm=true)(S:CpScope X scope N cap)(hi:PI X tg iter wi)
  (hg:∀ C s₀ H₀ ex,PG (gh X scope N C s₀ H₀ ex) tg g) (ht:∀ C s₀ H₀ ex,MP (gh X scope N C s₀ H₀ ex) ifs tc) (he:∀ C s₀ H₀ ex,PE (gh X scope N C s₀ H₀ ex) elt te)
  (hs:∀ x,foldedSetIterable iter X.env x=pure x:=by intro _;rfl):PE X (.ListComp elt [⟨tg,iter,ifs,0⟩] scope pos) (OV cap wi g tc te):=
 EU S (λ _ _ _ _ _=>hc) hi.g hg ht he hs
section
variable {X:Cx}
theorem DQ {bs:List Bool}:∀ {us:List Value},Vals (bs.map V.bl) us->LSm.BoolsAre us bs:=by
 induction bs with
 | nil=>intro us r;cases r;exact .nil
 | cons b bs ih=>
  intro us r
  cases r with
  | cons h t=>
   have e:_=Value.bool b:=h;subst e;exact .cons b (ih t)
theorem BW (hc:X.calm=true):bH X (.builtin "all") (λ xs H Q=>∃ (p:Addr) (bs:List Bool),xs=[.ref p]/\gY X.K H p (bs.map V.bl)/\Q (.bl (bs.all id)) H):=by
 intro pins s σ H xs us Q I r h;obtain ⟨p,bs,rfl,hq,q⟩:=h;obtain ⟨u,rfl,rx⟩:=vals1 r
 cases rx
 obtain ⟨its,rv,pl,hz⟩:=I.list hq;have hb:=DQ rv;have hl:=pl.isList;have hlt:p < s.heap.objs.size:=by obtain ⟨_,e,_⟩:=hl;exact lt_size e
 refine call_all_walk (wpAny_pyIter_list hl ?_);refine ⟨s.heap.objs.size,[s.heap.objs.size,p],[s.heap.objs.size],its.toArray.size,_,_,λ i=>(bs[i]?).getD true,rfl,Walks.list (A:=X.A.in1) (I.ok.hd hc) _ p (ne_of_lt hlt) its.toArray,
  ⟨⟨_,get?_push_size _ rfl,rfl,rfl⟩,hl.push _⟩,λ i v s' Q' E' hP hQ=>?_,λ h' tk hk=>?_⟩
 ·obtain ⟨b,e,rfl⟩:=hb.get i v (by simpa using hP);simp only [e,getD_some] at hQ;exact wpAny_truthy_bool hQ
 ·have e:((List.range its.toArray.size).all λ i=>(bs[i]?).getD true)=bs.all id:=by
   rw [size_toArray,hb.length];exact LSm.range_all bs
  rw [e];exact ⟨.bl _,H,I.kept (LSm.kept_iter hk),rfl,q⟩
theorem uy:bH X (.type "range") (λ xs H Q=>∃ i j,xs=[.int i,.int j]/\∀ p,H p=none->Q (.ref p) (upd H p (.rng i j))):=by
 intro pins s σ H xs us Q I r h;obtain ⟨i,j,rfl,q⟩:=h;obtain ⟨u,w',rfl,⟨t,rfl⟩,⟨t',rfl⟩⟩:=vals2 r;refine call_range_2 ⟨.ref s.heap.objs.size,_,I.laid (o:=.rng i j) (λ b o e=>get?_push_of_some _ e) (Nat.le_refl _) ?_,rfl,q _ I.fresh⟩;exact ⟨t,t',s.toks,get?_push_size _ rfl⟩
noncomputable def fD (i j:Int):List Int:=(List.range (j - i).toNat).map λ k:Nat=>i+(k:Int)
theorem jS (i j:Int):(fD i j).length=(j - i).toNat:=by unfold fD;rw [length_map,length_range]
theorem qK {i:Int}{n:Nat}{acc:Array Value}(h:ItemsOf (λ k v=>∃ t,v=Value.int (i+(k:Int) * 1) t) acc n):Vals (((List.range n).map λ k:Nat=>i+(k:Int)).map V.int) acc.toList:=by
 obtain ⟨hs,hv⟩:=h;have gen:∀ (l:List Value) (b:Nat),(∀ j v,l[j]?=some v->∃ t,v=Value.int (i+((b+j:Nat):Int)) t)->Vals (((List.range' b l.length).map λ k:Nat=>i+(k:Int)).map V.int) l:=by
  intro l
  induction l with
  | nil=>intro b _;exact .nil
  | cons v l ih=>
   intro b hb;rw [length_cons,List.range'_succ,map_cons,map_cons];refine .cons ?_ ?_
   ·obtain ⟨t,e⟩:=hb 0 v rfl;exact ⟨t,by rw [e];simp⟩
   ·refine ih (b+1) λ j w hw=>?_;obtain ⟨t,e⟩:=hb (j+1) w hw;exact ⟨t,by rw [e,show b+(j+1)=b+1+j by omega]⟩
 have:=gen acc.toList 0 λ j v hj=>by
  obtain ⟨t,e⟩:=hv j v (by simpa using hj);exact ⟨t,by rw [e,Nat.zero_add,Int.mul_one]⟩
 rw [length_toList,hs,<- List.range_eq_range'] at this;exact this
theorem CC {i j:Int}:Builtin.Range.rangeSize i j 1=(((j - i).toNat:Nat):Int):=by rw [rangeSize_one];split <;> omega
theorem q_ (hc:X.calm=true):bH X (.type "list") (λ xs H Q=>∃ p i j,xs=[.ref p]/\H p=some (.rng i j)/\(-(2 ^ 62)<=i/\i < 2 ^ 62/\-(2 ^ 62)<=j/\j < 2 ^ 62)/\(j - i).toNat<=1000/\∀ l,H l=none->Q (.ref l) (upd H l (.lst ((fD i j).map V.int)))):=by
 intro pins s σ H xs us Q I r h;obtain ⟨p,i,j,rfl,hp,⟨b1,b2,b3,b4⟩,hn,q⟩:=h;obtain ⟨u,rfl,rx⟩:=vals1 r
 cases rx
 obtain ⟨t,u',v,e⟩:=I.hok p _ hp;refine call_list_range (n:=(j - i).toNat) (I.ok.hd hc) e (small_one b1 b2 b3 b4) CC (by omega) λ h' tk acc' c' hk hS hacc=>?_;refine ⟨.ref s.heap.objs.size,_,I.laid (o:=.lst ((fD i j).map V.int)) hk (Nat.le_refl _) ⟨?_,acc'.toList,c',qK hacc,by rw [hS]⟩,rfl,q _ I.fresh⟩;rw [length_map,jS,sizeLine_eq];omega
end
section
variable {X:Cx}
theorem uQ {prog:Program}{w:World}{A:Around}{E:Value->Shared->Prop}{s:Shared}{Q:List Value->Shared->Prop}{r:Addr}{a b c:Int}{t u v:Tok}{n:Nat}(hh:A.handled=none)(hr:IsRange s.heap r a b c t u v)(hsmall:Builtin.Range.small a b c=true)
  (hn:Builtin.Range.rangeSize a b c=n) (hlen:n<=2 ^ 24)
  (hQ:∀ h' tk (acc':Array Value),(∀ b o,s.heap.get? b=some o->h'.get? b=some o)->ItemsOf (λ i v=>∃ t,v=.int (a+i * c) t) acc' n->Q acc'.toList { s with heap:=h',toks:=tk }) :
  wpAny (model prog w) A (collect (.ref r)) Q E s:=by
 unfold collect;refine wpAny_bind (wpAny_runValue (codeAny_builtin F.entry_proto_collect ?_));rw [Around.under_plainId F.plain_proto_collect _];show wpAny _ A.in1 (newList [] >>= λ l=>again (.builtin "list.__iadd__" ⟨[l,.ref r],[]⟩)) _ _ s;refine wpAny_bind (wpAny_newObj_type ?_);refine wpAny_pure ⟨plainId_quiet F.plain_list_iadd _,codeAny_builtin F.entry_list_iadd ?_⟩;rw [Around.under_plainId F.plain_list_iadd _];show wpAny _ A.in1 (Builtin.List.listExtendWith (.ref s.heap.objs.size) (.ref r) (.ref s.heap.objs.size)) _ _ _;have hS:(s.heap.push { cls:=.type "list",data:=.seq ([]:List Value).toArray }).get? s.heap.objs.size=some { cls:=.type "list",data:=.seq #[] 0 }:=get?_push_size _ rfl;have fin':∀ (h':Heap) (tk:Nat) (acc':Array Value) (c':Nat),(∀ b o,b≠s.heap.objs.size->(s.heap.push { cls:=.type "list",data:=.seq ([]:List Value).toArray }).get? b=some o->h'.get? b=some o) ->
   h'.get? s.heap.objs.size=some { cls:=.type "list",dict:=none,data:=.seq acc' c',slots:=#[] }->ItemsOf (λ i v=>∃ t,v=.int (a+i * c) t) acc' n ->
   wpAny (model prog w) A (match Value.ref s.heap.objs.size with
   | Value.ref a=>do
    match (<- load a).data with
     | Data.seq xs _=>pure xs.toList
     | _=>unsupported "internal:collect"
   | _=>unsupported "internal:collect") Q E { s with heap:=h',toks:=tk }:=by
  intro h' tk acc' c' hk hS' hacc;show wpAny _ A (load s.heap.objs.size >>= _) _ _ _;refine wpAny_bind (wpAny_load hS' ?_);refine wpAny_pure ?_;exact hQ h' tk acc' (λ b o e=>hk b o (ne_of_lt (lt_size e)) (get?_push_of_some _ e)) hacc
 refine wpAny_mono (wpAny_extend_range (A:=A) (R:=λ rr s'=>rr=.ok (.ret (.ref s.heap.objs.size))/\∃ h' tk acc' c',s'={ s with heap:=h',toks:=tk }/\(∀ b o,b≠s.heap.objs.size->(s.heap.push { cls:=.type "list",data:=.seq ([]:List Value).toArray }).get? b=some o->h'.get? b=some o) /\
   h'.get? s.heap.objs.size=some { cls:=.type "list",dict:=none,data:=.seq acc' c',slots:=#[] }/\ItemsOf (λ i v=>∃ t,v=.int (a+i * c) t) acc' n)
  (s:={ s with heap:=s.heap.push { cls:=.type "list",data:=.seq ([]:List Value).toArray } }) hh (get?_push_of_some _ hr) hsmall hn hlen s.heap.objs.size (.ref s.heap.objs.size) 0 hS
  (λ h' tk acc' c' hk hS' hacc=>⟨rfl,h',tk,acc',c',rfl,hk,hS',hacc⟩)) (λ fin s' h=>?_) (λ e s' h=>?_)
 ·cases fin with
  | done f=>
   obtain ⟨e,h',tk,acc',c',rfl,hk,hS',hacc⟩:=h
   cases e
   exact fin' h' tk acc' c' hk hS' hacc
  | again c'=>exact ⟨h.1,codeAny_mono h.2 λ r s'' hr=>by
    obtain ⟨rfl,h',tk,acc',c',rfl,hk,hS',hacc⟩:=hr;exact fin' h' tk acc' c' hk hS' hacc⟩
 ·exact absurd h.1 (by simp)
theorem kN (l:Addr){a b:Int}{t u v:Tok}{n:Nat}(hsmall:Builtin.Range.small a b 1=true)
  (hn:Builtin.Range.rangeSize a b 1=n) (hlen:n<=1000) :
  Meets (Builtin.«tuple.__new__» ⟨[.type "tuple",.ref l],[]⟩)
   (λ A R s=>A.handled=none/\IsRange s.heap l a b 1 t u v/\∀ (h':Heap) (tk:Nat) (acc':Array Value),(∀ b o',s.heap.get? b=some o'->h'.get? b=some o')->ItemsOf (λ i v=>∃ t,v=.int (a+i * 1) t) acc' n->R (.ok (.ret (.ref h'.objs.size))) { s with heap:=h'.push { cls:=.type "tuple",data:=.seq acc' },toks:=tk }):=
 .of_wp λ prog w A R s h=>by
  obtain ⟨hp,g,d,tk,os⟩:=s;obtain ⟨hh,ht,h⟩:=h;have hsub:=sub_tuple_self;have hinit:=init_tuple_lookup;have hmh:=madeHere_tuple;have hT:Shared.TypeIs ⟨hp,g,d,tk,os⟩ (.ref l) "range" := ⟨_,ht,rfl⟩;have hh':A.in1.handled=none:=hh
  wp_walk using AutoSeq1.wpAny_loadPart' ht,wpAny_typeOf hT,uQ (A:=A.in1) hh' ht hsmall hn (by omega)
  intro h' tk' acc' hk hacc;show wpAny _ _ (Builtin.Tuple.tupleExact acc'.toList.toArray >>= λ v=>ret v) _ _ _;unfold Builtin.Tuple.tupleExact;have e:acc'.toList.toArray=acc':=by simp
  refine wpAny_bind (wpAny_newObj_type ?_ (by show acc'.toList.toArray.size<=sizeLine;rw [e,hacc.1,sizeLine_eq];omega));refine wpAny_pure ⟨_,rfl,?_⟩;rw [e];exact h h' tk' acc' hk hacc
theorem qy (hc:X.calm=true):bH X (.type "tuple") (λ xs H Q=>∃ p i j,xs=[.ref p]/\H p=some (.rng i j)/\(-(2 ^ 62)<=i/\i < 2 ^ 62/\-(2 ^ 62)<=j/\j < 2 ^ 62)/\(j - i).toNat<=1000/\∀ l,H l=none->Q (.ref l) (upd H l (.tup ((fD i j).map V.int)))):=by
 intro pins s σ H xs us Q I r h;obtain ⟨p,i,j,rfl,hp,⟨b1,b2,b3,b4⟩,hn,q⟩:=h;obtain ⟨u,rfl,rx⟩:=vals1 r
 cases rx
 obtain ⟨t,u',v,e⟩:=I.hok p _ hp;refine callType_new F.called_tuple (by decide) (F.typeCall_tuple_1 _) (F.newCall_tuple_1 _) (λ obj=>F.args_object_init_2 obj _) F.entry_tuple_new
  (kN (n:=(j - i).toNat) p (small_one b1 b2 b3 b4) CC hn) ⟨I.ok.hd hc,e,λ h' tk acc' hk hacc=>⟨⟨_,get?_push_size _ rfl,rfl⟩,?_⟩⟩
 have I1:Inv X pins σ H { s with heap:=h',toks:=tk }:=I.kept hk;refine ⟨.ref h'.objs.size,_,I1.laid (t':=tk) (o:=.tup ((fD i j).map V.int)) (λ b o e=>get?_push_of_some _ e) (Nat.le_refl _) ⟨?_,acc'.toList,qK hacc,?_⟩,rfl,q _ (I1.hok.fresh (Nat.le_refl _))⟩
 ·rw [length_map,jS,sizeLine_eq];omega
 ·have e:acc'.toList.toArray=acc':=by simp
  rw [e];exact f_.new _ _
theorem vg {c:String}:bH X (.builtin "isinstance") (λ xs H Q=>∃ x t b,xs=[x,.ty c]/\TyOf X.K H x t/\PySem.W.kitOne X.K t (.type c)=some b/\Q (.bl b) H):=by
 intro pins s σ H xs us Q I r h;obtain ⟨x,t,b,rfl,ty,e,q⟩:=h;obtain ⟨u,w',rfl,rx,rc⟩:=vals2 r
 cases rc
 exact Cp I rx ty e λ tk=>⟨.bl b,H,I.tok tk,rfl,q⟩
noncomputable def L6 (K:PySem.W.Frag):R2:=λ x y H Q=>∃ a b ys,x=.ref a/\y=.ref b/\fF K H a []/\fF K H b ys/\Q (.ref b) H
theorem D8:fX X (binaryOp .Add) (L6 X.K):=by
 intro pins s σ H x y v u Q I rx ry h;obtain ⟨a,b,ys,rfl,rfl,h1,h2,q⟩:=h
 cases rx
 cases ry
 obtain ⟨us,r1,p1,_⟩:=I.tuple h1;obtain ⟨ws,r2,p2,_⟩:=I.tuple h2
 cases r1
 obtain ⟨⟨cls,dd,data,sl⟩,ho,hc,n,hd⟩:=id p1;obtain ⟨⟨cls2,dd2,data2,sl2⟩,ho2,hc2,n2,hd2⟩:=id p2;simp only at hc hd hc2 hd2;subst hc hd hc2 hd2;exact concat_meets ⟨_,ho,rfl⟩ ⟨_,ho2,rfl⟩ noFill_tuple_add seq_tuple_add PySem.F.slot_tuple_add PySem.F.entry_tuple_add (PySem.F.args_tuple_add_2 _ _)
   (tuple_addW0 a b _ ws.toArray n n2 dd dd2 sl sl2 (by simp)) ⟨ho,ho2,⟨.ref b,H,I,rfl,q⟩⟩
end
theorem fZ:bootBuiltins "len" = some (.builtin "len"):=by decide +kernel
theorem D7:bootBuiltins "all" = some (.builtin "all"):=by decide +kernel
theorem Li:bootBuiltins "max" = some (.builtin "max"):=by decide +kernel
theorem Lp:bootBuiltins "min" = some (.builtin "min"):=by decide +kernel
theorem jc:bootBuiltins "sorted" = some (.builtin "sorted"):=by decide +kernel
theorem bK:bootBuiltins "isinstance" = some (.builtin "isinstance"):=by decide +kernel
theorem xW:bootBuiltins "int" = some (.type "int"):=by decide +kernel
theorem zj:bootBuiltins "bool" = some (.type "bool"):=by decide +kernel
theorem ku:bootBuiltins "list" = some (.type "list"):=by decide +kernel
theorem jK:bootBuiltins "tuple" = some (.type "tuple"):=by decide +kernel
theorem CT:bootBuiltins "range" = some (.type "range"):=by decide +kernel
structure Blt (mg:Str->Option Value):Prop where
 len:mg "len" = none
 abs:mg "abs" = none
 all:mg "all" = none
 any:mg "any" = none
 max:mg "max" = none
 min:mg "min" = none
 sorted:mg "sorted" = none
 isinstance:mg "isinstance" = none
 int:mg "int" = none
 bool:mg "bool" = none
 str:mg "str" = none
 list:mg "list" = none
 tuple:mg "tuple" = none
 range:mg "range" = none
section
variable {X:Cx}
end
theorem IP:∀ {a b:List Int},a.Perm b->a.Pairwise (·<=·)->b.Pairwise (·<=·)->a=b:=λ p ha hb=>
 List.Perm.eq_of_pairwise (λ x y _ _ h1 h2=>Int.le_antisymm h1 h2) ha hb p
theorem xM (i j:Int):(fD i j).Nodup:=by
 unfold fD;rw [List.Nodup,pairwise_map];exact List.pairwise_lt_range.imp λ h=>by omega
theorem G5 {i j k:Int}:k∈fD i j ↔ i<=k/\k < j:=by
 unfold fD;rw [mem_map];constructor
 ·rintro ⟨a,ha,rfl⟩;have:=mem_range.mp ha;omega
 ·rintro ⟨h1,h2⟩;exact ⟨(k - i).toNat,mem_range.mpr (by omega),by omega⟩
noncomputable def Kn (P:Program)(w:World)(K:PySem.W.Frag)(mg:Str->Option Value)(base:Heap)(k:Nat)(x:Str)(ps:List Str)(sp:Sp):Prop:=
 ∃ (f:Addr) (fd:FuncData),FnOk P w K mg base iS k f fd ps sp/\mg x=some (.ref f)/\PySem.W.keepIn K (.ref f)=true/\Binds K fd ps []
theorem Oo {X:Cx}{k:Nat}{x:Str}{ps:List Str}{sp:Sp}{e:Expr}{es:List Expr}{t:TA}{p pos:Pos}(G:Kn X.prog X.w X.K X.mg X.base k x ps sp)(hr:Room k X.A)(ha:PA X (e::es) t)(hg:Gl X x:=by rfl)
  (hdb:(x == ("__debug__" : Str))=false:=by decide) (hs:starEach (e::es) X.env=(false,eval e X.env)::starEach es X.env:=by rfl) (hplain:(backTo pos (starEach es X.env)).any (·.1)=false:=by rfl) :
  PE X (.Call (.Name x p) (e::es) [] pos) (ER sp [] E0 t):=by
 obtain ⟨f,fd,F,hm,hk,hb⟩:=G;exact zU F hr hg hm hk hb .nil NU ha hdb hs hplain
noncomputable def p9 (XN fs:List Str):List Str->List (Option Nat)->Prop
 | [],[]=>True
 | _::N,none::c=>p9 XN fs N c
 | x::N,some j::c=>XN[j]?=some x/\x∈fs/\p9 XN fs N c
 | _,_=>False
theorem p9.len {XN fs:List Str}:∀ {N:List Str} {c:List (Option Nat)},p9 XN fs N c->c.length=N.length
 | [],[],_=>rfl
 | _::N,none::c,h=>congrArg (·+1) (p9.len (N:=N) (c:=c) h)
 | _::N,some j::c,h=>congrArg (·+1) (p9.len (N:=N) (c:=c) h.2.2)
 | [],_::_,h=>h.elim
 | _::_,[],h=>h.elim
theorem p9.cp {XN fs:List Str}:∀ {N:List Str} {c:List (Option Nat)},p9 XN fs N c->∀ (i j:Nat) (x:Str),N[i]?=some x->c[i]?=some (some j)->XN[j]?=some x/\x∈fs
 | [],[],_,i,j,x,h1,_=>by simp at h1
 | y::N,none::c,h,i,j,x,h1,h2=>by
  cases i with
  | zero=>simp at h2
  | succ i=>exact p9.cp (N:=N) (c:=c) h i j x (by simpa using h1) (by simpa using h2)
 | y::N,some k::c,h,i,j,x,h1,h2=>by
  cases i with
  | zero=>
   simp at h1 h2;subst h1 h2;exact ⟨h.1,h.2.1⟩
  | succ i=>exact p9.cp (N:=N) (c:=c) h.2.2 i j x (by simpa using h1) (by simpa using h2)
 | [],_::_,h,_,_,_,_,_=>h.elim
 | _::_,[],h,_,_,_,_,_=>h.elim
theorem kY {X:Cx}{scope:Scope}{N:List Str}{cap:List (Option Nat)}(fs:List Str)(kind:scope.kind=.function)(nocell:∀ y∈scope.names,y.2≠.cell)(nm:∀ y∈scope.names,y.2=.local->scope.names.lookup y.1=some .local)
  (nolf:∀ y∈scope.names,y.2=.free->scope.names.lookup y.1≠some .local) (hf:∀ y∈scope.names,y.2=.free->y.1∈fs) (hfs:∀ x∈fs,(x,NameKind.free)∈scope.names) (hk:∀ x∈fs,X.env.kindOf x=some .cell\/X.env.kindOf x=some .free) (cp:p9 X.N fs N cap):CpScope X scope N cap where
 kind:=kind
 nocell:=nocell
 nm:=nm
 fr:=λ y hy e=>hk _ (hf y hy e)
 rl:=λ y h=>by
  have go:∀ k,(k=NameKind.cell\/k=NameKind.free)->(relabel scope X.env).names.lookup y=some k->(y,NameKind.free)∈scope.names:=λ k hk e=>by
   obtain ⟨⟨n',k'⟩,hm1,hm2⟩:=mem_map.mp (qd e);dsimp only at hm2;split at hm2
   ·rename_i hc
    cases hm2
    have:k'=.free:=by
     simp only [and_eq_true] at hc;simpa using hc.1.1
    subst this;exact hm1
   ·cases hm2
    rcases hk with rfl | rfl
    ·exact absurd rfl (nocell _ hm1)
    ·exact hm1
  rcases h with h | h
  ·exact go _ (.inl rfl) h
  ·exact go _ (.inr rfl) h
 len:=cp.len
 nolf:=λ x hx=>nolf (x,.free) hx rfl
 cp:=λ i j x h1 h2=>by
  obtain ⟨a,b⟩:=cp.cp i j x h1 h2;exact ⟨a,hfs x b⟩
inductive Kd where
 | non | bl | int | str | lst | tup
 deriving DecidableEq
noncomputable def Kd.ty:Kd->Value
 | .non=>.type "NoneType" | .bl=>.type "bool" | .int=>.type "int" | .str=>.type "str" | .lst=>.type "list" | .tup=>.type "tuple"
noncomputable def K9 (H:Hp)(x:V):Kd->Prop
 | .non=>x=.non
 | .bl=>∃ b,x=.bl b
 | .int=>∃ i,x=.int i
 | .str=>∃ s,x=.str s
 | .lst=>∃ a xs,x=.ref a/\H a=some (.lst xs)
 | .tup=>∃ a xs,x=.ref a/\H a=some (.tup xs)
theorem K9.P5 {K:PySem.W.Frag}{H:Hp}{x:V}{k:Kd}(h:K9 H x k):TyOf K H x k.ty:=by
 cases k with
 | non=>cases h;exact .non
 | bl=>obtain ⟨b,rfl⟩:=h;exact .bl b
 | int=>obtain ⟨b,rfl⟩:=h;exact .int b
 | str=>obtain ⟨b,rfl⟩:=h;exact .str b
 | lst=>obtain ⟨a,xs,rfl,e⟩:=h;exact .lst e
 | tup=>obtain ⟨a,xs,rfl,e⟩:=h;exact .tup e
theorem HN {K:PySem.W.Frag}(k:Kd):PySem.W.kitOne K k.ty (.type "int")=some (decide (k=.int\/k=.bl)):=by cases k <;> rfl
theorem Ey {K:PySem.W.Frag}(k:Kd):PySem.W.kitOne K k.ty (.type "bool")=some (decide (k=.bl)):=by cases k <;> rfl
theorem kit_tuple {K:PySem.W.Frag}(k:Kd):PySem.W.kitOne K k.ty (.type "tuple")=some (decide (k=.tup)):=by cases k <;> rfl
theorem FU {K:PySem.W.Frag}(k:Kd):PySem.W.kitOne K k.ty (.type "list")=some (decide (k=.lst)):=by cases k <;> rfl
section
variable {prog:Program} {w:World} {A:Around} {E:Value->Shared->Prop} {s:Shared}
end
section
variable {X:Cx}
end
section
variable {prog:Program} {w:World} {A:Around} {E:Value->Shared->Prop} {s:Shared}
end
section
variable {X:Cx}
end
section
variable {prog:Program} {w:World} {A:Around} {R:Result->Shared->Prop} {s:Shared}
end
end L2
namespace L2
open PySem PySem.Spec PyProof.Rows
open PySem.SeqAt
open PySem.AutoSeq1 (wpAny_loadPart')
open PySem.MeetsSeq PySem.MeetsSeq2 PySem.MeetsSeq3 PySem.SeqAt
section
variable {prog:Program} {w:World} {A:Around} {E:Value->Shared->Prop} {s:Shared}
end
section
variable {X:Cx}
theorem GZ:fX X (binaryOp .FloorDiv) (rI (λ _ j=>0 < j/\j < 18446744073709551616) λ i j=>.int (i / j)):=OW λ i j _ _ _ _ _ hc q=>by
 have h1:(0:Int) < j:=hc.1;have h2:j < 18446744073709551616:=hc.2;refine floordiv_int (by omega) (by rw [Int.fdiv_eq_ediv_of_nonneg i (by omega)];exact q) (.inl (PyProof.noPylong_of_log2 ?_));exact lt_of_lt_of_le ((Nat.log2_lt (by omega)).mpr (show j.natAbs < 2 ^ 64 by omega)) (by decide)
end
end L2
namespace L2
open PySem PySem.Spec PyProof.Rows
noncomputable def Qd (x:Str):It:=⟨λ i _=>i < x.cps.size,λ i H v H'=>H'=H/\∃ c,x.cps[i]?=some c/\v=.str ⟨#[c]⟩,λ i _=>i=x.cps.size⟩
theorem E8 {P:Program}{w:World}{K:PySem.W.Frag}{tg:Expr}(x:Str)(t:Tok)(it:Addr):Turn P w K tg (Qd x) [it] it (λ i h=>h.IsStrIter it "str_ascii_iterator" x t i) where
 mem:=by simp
 obj:=λ i h st b hb=>by
  have e:b=it:=by simpa using hb
  subst e;obtain ⟨o,e,c,d⟩:=st;exact ⟨o,e,λ v z=>by rw [d] at z;cases z⟩
 keep:=λ i h h' st k=>let ⟨o,ho,r⟩:=st;⟨o,k it (by simp) o ho,r⟩
 item:=by
  intro X hP hw hK hc i pins s σ H E I hf st hg;subst hP hw hK;obtain ⟨f0,f1,f2,f3,f4,f5⟩:=hf it (by simp);have W:=Walks.strAscii (prog:=X.prog) (w:=X.w) (I.ok.hd hc) it x t;refine W.item i s _ _ hg st λ v h' tk hv st' kk=>?_;obtain ⟨c,u,hcx,rfl⟩:=hv;have I1:Inv X pins σ H { s with heap:=h',toks:=tk }:=I.turned (λ b o hb e=>kk b o (by simpa using hb) e) f0 f1 f3 f4 f5;obtain ⟨o,e,cc,d⟩:=id st';exact ⟨_,rfl,uJ (s:={ s with heap:=h',toks:=tk }) e cc d (by decide) ⟨.str ⟨#[c]⟩,H,I1,⟨u,rfl⟩,⟨rfl,c,hcx,rfl⟩,st',λ b hb=>(hf b hb).1⟩⟩
 done:=by
  intro X hP hw hK hc i pins s σ H E I hf st hg;subst hP hw hK;obtain ⟨f0,f1,f2,f3,f4,f5⟩:=hf it (by simp);have hg:i=x.cps.size:=hg;subst hg;have W:=Walks.strAscii (prog:=X.prog) (w:=X.w) (I.ok.hd hc) it x t;exact W.done s _ _ st λ h' tk kk=>⟨rfl,I.turned (λ b o hb e=>kk b o (by simpa using hb) e) f0 f1 f3 f4 f5⟩
 self:=λ _ _ _ _ _ st h=>wpAny_pyIter_striter_ascii st h
section
variable {X:Cx} {tg:Expr}
noncomputable def PF (tl:TE):TI:=λ σ H R=>tl σ H λ x H1=>∃ y:Str,x=.str y/\y.cps.all (· < 128)=true/\R (Qd y) H1
theorem K3 {l:Expr}{tl:TE}(hl:PE X l tl):PI X tg l (PF tl):=by
 intro pins s σ H R I h;refine dP (hl pins s σ H _ I h) λ v s1 h9=>?_;obtain ⟨x,H1,I1,r1,q1⟩:=h9;obtain ⟨y,e,ha,q⟩:=q1;subst e;obtain ⟨t,rfl⟩:=r1;refine wpAny_pyIter_ascii ha ?_;refine ⟨s1.heap.objs.size,[s1.heap.objs.size],_,_,H1,rfl,I1.kept (t':=s1.toks) λ b o e=>get?_push_of_some _ e,E8 y t _,⟨_,get?_push_size _ rfl,rfl,rfl⟩,λ b hb=>?_,q⟩;have e:b=s1.heap.objs.size:=by simpa using hb
 subst e;exact I1.BI (Nat.le_refl _) (I1.hok.fresh (Nat.le_refl _))
theorem By:bH X (.type "int") (λ xs H Q=>∃ (y:Str) (n:Int),xs=[.str y]/\y.length<=640/\PySem.intText? y=some n/\Q (.int n) H):=by
 intro pins s σ H xs us Q I rv h;obtain ⟨y,n,rfl,hl,hn,q⟩:=h;obtain ⟨w,rfl,rw'⟩:=vals1 rv;obtain ⟨u,rfl⟩:=rw';exact PySem.W.KIN.call_text hn hl ⟨.int n,H,I.tok _,⟨_,rfl⟩,q⟩
end
section
variable {κ:Type} [DecidableEq κ]
noncomputable def gG (kvs:List (κ×V))(k:κ):Option V:=(kvs.find? λ kv=>decide (kv.1=k)).map (·.2)
noncomputable def putK (kvs:List (κ×V))(k:κ)(v:V):List (κ×V):=
 if (kvs.any λ kv=>decide (kv.1=k))=true then kvs.map (λ kv=>if kv.1=k then (kv.1,v) else kv) else kvs++[(k,v)]
theorem jW {p:κ×V}{r:List (κ×V)}{k:κ}(e:p.1=k):gG (p::r) k=some p.2:=by simp [gG,find?_cons,e]
theorem jV {p:κ×V}{r:List (κ×V)}{k:κ}(e:¬ p.1=k):gG (p::r) k=gG r k:=by simp [gG,find?_cons,e]
theorem mS (k:κ):∀ kvs:List (κ×V),(kvs.any λ kv=>decide (kv.1=k))=(gG kvs k).isSome
 | []=>rfl
 | p::r=>by
  rw [any_cons];by_cases e:p.1=k
  ·simp only [jW e,decide_eq_true e,Bool.true_or,Option.isSome_some]
  ·rw [jV e,decide_eq_false e,Bool.false_or];exact mS k r
theorem jU (kvs:List (κ×V))(k:κ)(v:V):(putK kvs k v).length<=kvs.length+1:=by
 unfold putK;split
 ·rw [length_map];omega
 ·rw [length_append,length_cons,length_nil];omega
theorem nj.BU {o:Option V}{u:Option Value}(r:nj o u):o.isSome=u.isSome:=by
 cases o with
 | none=>cases u with
  | none=>rfl
  | some _=>exact (show False from r).elim
 | some _=>cases u with
  | none=>exact (show False from r).elim
  | some _=>rfl
theorem nj.getD {o:Option V}{u:Option Value}{d:V}{d':Value}(r:nj o u)(rd:RelV d d'):RelV (o.getD d) (u.getD d'):=by
 cases o with
 | none=>cases u with
  | none=>exact rd
  | some _=>exact (show False from r).elim
 | some _=>cases u with
  | none=>exact (show False from r).elim
  | some _=>exact r
theorem KV.val {kvs:List (κ×V)}{vs:List (κ×Value)}(r:KV kvs vs)(k:κ):nj (gG kvs k) (valueAt vs k):=by
 unfold KV at r
 induction r with
 | nil=>exact True.intro
 | @cons p q ps qs h t ih=>
  obtain ⟨h1,h2⟩:=h;by_cases e:p.1=k
  ·have e':q.1=k:=h1.symm.trans e;have b:valueAt (q::qs) k=some q.2:=by simp [valueAt,find?_cons,e']
   rw [jW e,b];exact h2
  ·have e':¬ q.1=k:=λ z=>e (h1.trans z);have b:valueAt (q::qs) k=valueAt qs k:=by simp [valueAt,find?_cons,e']
   rw [jV e,b];exact ih
theorem KV.any {kvs:List (κ×V)}{vs:List (κ×Value)}(r:KV kvs vs)(k:κ):(kvs.any λ kv=>decide (kv.1=k))=vs.any λ kv=>decide (kv.1=k):=by
 unfold KV at r
 induction r with
 | nil=>rfl
 | cons h t ih=>rw [any_cons,any_cons,ih,h.1]
theorem KV.repl {kvs:List (κ×V)}{vs:List (κ×Value)}(r:KV kvs vs)(k:κ){y:V}{u:Value}(ry:RelV y u) :
  KV (kvs.map λ kv=>if kv.1=k then (kv.1,y) else kv) (vs.map λ kv=>if kv.1=k then (kv.1,u) else kv):=by
 unfold KV at r ⊢
 induction r with
 | nil=>exact .nil
 | @cons p q ps qs h t ih=>
  rw [map_cons,map_cons];refine .cons ?_ ih;obtain ⟨h1,h2⟩:=h;by_cases e:p.1=k
  ·rw [if_pos e,if_pos (h1.symm.trans e)];exact ⟨h1,ry⟩
  ·rw [if_neg e,if_neg (λ z=>e (h1.trans z))];exact ⟨h1,h2⟩
theorem KV.put {kvs:List (κ×V)}{vs:List (κ×Value)}(r:KV kvs vs)(k:κ){y:V}{u:Value}(ry:RelV y u):KV (putK kvs k y) (stored vs k u):=by
 unfold putK stored;rw [r.any k];by_cases e:(vs.any λ kv=>decide (kv.1=k))=true
 ·rw [if_pos e,if_pos e];exact r.repl k ry
 ·rw [if_neg e,if_neg e];exact Paired.snoc r ⟨rfl,ry⟩
theorem KV.length {kvs:List (κ×V)}{vs:List (κ×Value)}(r:KV kvs vs):kvs.length=vs.length:=Paired.length r
end
theorem zq {P:Program}{w:World}{k:Key}{u:Value}(r:RelV (kV k) u):(bL P w).is k u=true:=by
 cases k with
 | inl i=>obtain ⟨t,e⟩:=(show ∃ t,u=Value.int i t from r);subst e;exact vO P w i t
 | inr x=>obtain ⟨t,e⟩:=(show ∃ t,u=Value.str x t from r);subst e;exact wz P w x t
theorem rY {P:Program}{w:World}:∀ {ks:List Key} {us:List Value},Vals (ks.map kV) us->ItemsAre (bL P w) ks us
 | [],_,r=>by rw [map_nil] at r;cases r;exact .nil
 | k::ks,_,r=>by
  rw [map_cons] at r
  cases r with
  | cons h t=>exact .cons (zq h) (rY t)
noncomputable abbrev KT (H:Hp):List (List Key×V)->List (List Key×Addr×Value)->Prop:=Paired λ p q=>p.1=q.1/\H q.2.1=some (.tup (p.1.map kV))/\RelV p.2 q.2.2
theorem KT.val {H:Hp}{kvs:List (List Key×V)}{xs:List (List Key×Addr×Value)}(r:KT H kvs xs)(k:List Key):nj (gG kvs k) ((atKey xs k).map (·.2)):=by
 induction r with
 | nil=>exact True.intro
 | @cons p q ps qs h t ih=>
  obtain ⟨h1,_,h2⟩:=h;by_cases e:p.1=k
  ·have e':q.1=k:=h1.symm.trans e;have b:atKey (q::qs) k=some q.2:=by simp [atKey,find?_cons,e']
   rw [jW e,b];exact h2
  ·have e':¬ q.1=k:=λ z=>e (h1.trans z);have b:atKey (q::qs) k=atKey qs k:=by simp [atKey,find?_cons,e']
   rw [jV e,b];exact ih
theorem KT.repl {H:Hp}{kvs:List (List Key×V)}{xs:List (List Key×Addr×Value)}(r:KT H kvs xs)(k:List Key){y:V}{u:Value}(ry:RelV y u) :
  KT H (kvs.map λ kv=>if kv.1=k then (kv.1,y) else kv) (xs.map (putAt k u)):=by
 induction r with
 | nil=>exact .nil
 | @cons p q ps qs h t ih=>
  rw [map_cons,map_cons];refine .cons ?_ ih;obtain ⟨h1,h2,h3⟩:=h;unfold putAt;by_cases e:p.1=k
  ·rw [if_pos e,if_pos (h1.symm.trans e)];exact ⟨h1,h2,ry⟩
  ·rw [if_neg e,if_neg (λ z=>e (h1.trans z))];exact ⟨h1,h2,h3⟩
theorem KT.put {H:Hp}{kvs:List (List Key×V)}{xs:List (List Key×Addr×Value)}(r:KT H kvs xs)(k:List Key){b:Addr}{y:V}{u:Value}(hb:H b=some (.tup (k.map kV)))(ry:RelV y u) :
  KT H (putK kvs k y) (storedH xs k b u):=by
 have e:(kvs.any λ kv=>decide (kv.1=k))=(atKey xs k).isSome:=by
  rw [mS,(r.val k).BU,isSome_map]
 unfold putK storedH;rw [e];by_cases q:(atKey xs k).isSome=true
 ·rw [if_pos q,if_pos q];exact r.repl k ry
 ·rw [if_neg q,if_neg q];exact Paired.snoc r ⟨rfl,hb,ry⟩
theorem KT.keeps {H H':Hp}{kvs:List (List Key×V)}{xs:List (List Key×Addr×Value)}(r:KT H kvs xs)(ht:∀ b ys,H b=some (.tup ys)->H' b=some (.tup ys)):KT H' kvs xs:=
 Paired.K1 r λ _ _ z=>⟨z.1,ht _ _ z.2.1,z.2.2⟩
section
variable {P:Program} {w:World} {H:Hp} {h:Heap} {a:Addr}
theorem JM {u:HO}(ok:kO P w H h)(e:Rd H a u):cu P w H h a u:=e.ok ok
theorem AR {kvs:List (Key×V)}(ok:kO P w H h)(e:Rd H a (.dK kvs)):kvs.length<=sizeLine/\(a == sysModules)=false/\∃ vs,KV kvs vs/\h.DictOf (bL P w) a vs:=
 show cu P w H h a (.dK kvs) from JM ok e
theorem Kf {kvs:List (Key×V)}(ok:kO P w H h)(e:H a=some (.dK kvs)):kvs.length<=sizeLine/\(a == sysModules)=false/\∃ vs,KV kvs vs/\h.DictOf (bL P w) a vs:=AR ok (.inl e)
theorem pU {ks:List Key}(ok:kO P w H h)(e:H a=some (.tup (ks.map kV))):(tupleKind (bL P w)).is h ks a:=by
 obtain ⟨_,its,r,o,h1,h2,_,n,h3⟩:=(show cu P w H h a (.tup (ks.map kV)) from ok a _ e);exact ⟨o,its.toArray,n,h1,h2,h3,by simpa using rY r⟩
theorem zc {kvs:List (List Key×V)}(ok:kO P w H h)(e:Rd H a (.dT kvs)):kvs.length<=sizeLine/\(a == sysModules)=false /\
  ∃ xs,KT H kvs xs/\h.DictOfH (tupleKind (bL P w)) a xs:=by
 obtain ⟨z,y,xs,r,o,es,ep,h1,h2,h3,h4,h5⟩:=(show cu P w H h a (.dT kvs) from JM ok e);refine ⟨z,y,xs,r,o,es,ep,h1,h2,h3,h4,λ x hx=>?_,h5⟩;have all:∀ {l:List (List Key×V)} {m:List (List Key×Addr×Value)},KT H l m->∀ x∈m,(tupleKind (bL P w)).is h x.1 x.2.1:=by
  intro l m q
  induction q with
  | nil=>intro x hx;exact nomatch hx
  | @cons p q ps qs hq t ih=>
   intro x hx
   rcases mem_cons.mp hx with e | hx
   ·subst e;exact pU ok (by rw [<- hq.1];exact hq.2.1)
   ·exact ih x hx
 exact all r x hx
theorem GA {kvs:List (List Key×V)}(ok:kO P w H h)(e:H a=some (.dT kvs)):kvs.length<=sizeLine/\(a == sysModules)=false /\
  ∃ xs,KT H kvs xs/\h.DictOfH (tupleKind (bL P w)) a xs:=zc ok (.inl e)
end
noncomputable def nU (H:Hp)(a:Addr)(y:V)(r:Option V):Prop:=
 (∃ kvs k,Rd H a (.dK kvs)/\y=kV k/\r=gG kvs k)\/∃ kvs k b,Rd H a (.dT kvs)/\y=.ref b/\H b=some (.tup (k.map kV))/\r=gG kvs k
noncomputable def vh (H:Hp)(a:Addr)(y v:V)(H':Hp):Prop:=
 (∃ kvs k,H a=some (.dK kvs)/\y=kV k/\kvs.length < sizeLine/\H'=upd H a (.dK (putK kvs k v))) \/
 ∃ kvs k b,H a=some (.dT kvs)/\y=.ref b/\H b=some (.tup (k.map kV))/\kvs.length < sizeLine/\H'=upd H a (.dT (putK kvs k v))
theorem nU.k {H:Hp}{a:Addr}{kvs:List (Key×V)}{k:Key}(e:H a=some (.dK kvs)):nU H a (kV k) (gG kvs k):=.inl ⟨kvs,k,.inl e,rfl,rfl⟩
theorem nU.t {H:Hp}{a b:Addr}{kvs:List (List Key×V)}{k:List Key}(e:H a=some (.dT kvs))(eb:H b=some (.tup (k.map kV))):nU H a (.ref b) (gG kvs k):=.inr ⟨kvs,k,b,.inl e,rfl,eb,rfl⟩
theorem vh.k {H:Hp}{a:Addr}{kvs:List (Key×V)}{k:Key}{v:V}(e:H a=some (.dK kvs))(hl:kvs.length < sizeLine):vh H a (kV k) v (upd H a (.dK (putK kvs k v))):=.inl ⟨kvs,k,e,rfl,hl,rfl⟩
theorem vh.t {H:Hp}{a b:Addr}{kvs:List (List Key×V)}{k:List Key}{v:V}(e:H a=some (.dT kvs))(eb:H b=some (.tup (k.map kV)))(hl:kvs.length < sizeLine) :
  vh H a (.ref b) v (upd H a (.dT (putK kvs k v))):=.inr ⟨kvs,k,b,e,rfl,eb,hl,rfl⟩
section
variable {X:Cx} {pins:List (Addr×Obj)} {σ:St} {H:Hp} {s:Shared} {a:Addr} {y v:V} {u r:Value} {o:Option V} {A:Around} {E:Value->Shared->Prop}
theorem Inv.big (I:Inv X pins σ H s):sysModules < s.heap.objs.size:=by
 have h:mainGlobals < s.heap.objs.size:=(I.mod.glob.keeps I.bk).lt;exact lt_trans (by decide) h
theorem B5 {Q:Value->Shared->Prop}(hu:A.units+1 < cLine)(I:Inv X pins σ H s)(g:nU H a y (some v))(ry:RelV y u)(h:∀ w' s',Inv X pins σ H s'->RelV v w'->Q w' s') :
  wpAny (model X.prog X.w) A (getItem (.ref a) u) Q E s:=by
 rcases g with ⟨kvs,k,e,ey,l⟩ | ⟨kvs,k,b,e,ey,eb,l⟩
 ·subst ey;obtain ⟨z,hd,vs,rel,dd⟩:=AR I.hok e;obtain ⟨w',hw,rw'⟩:=nj.some_of (v:=v) (o:=valueAt vs k) (by rw [l];exact rel.val k);exact wpAny_getItem_of (zq ry) dd.mapOf hw (h w' _ (I.tok _) rw')
 ·subst ey
  cases (show u=Value.ref b from ry)
  obtain ⟨z,hd,xs,rel,dd⟩:=zc I.hok e;obtain ⟨w',hw,rw'⟩:=nj.some_of (v:=v) (o:=(atKey xs k).map (·.2)) (by rw [l];exact rel.val k);obtain ⟨p,hp,hp2⟩:=map_eq_some_iff.mp hw;refine wpAny_getItem_heap (tupleKind_room_in1 hu) (pU I.hok eb) dd hp ?_;rw [hp2];exact h w' _ (I.tok _) rw'
theorem A9 {h':Heap}{t':Nat}{ob:HO}(I:Inv X pins σ H s)(mu:Nu (H a))(hs:Heap.SameBut a s.heap h')(he:∃ q,h'.get? a=some q)(new:cu X.prog X.w (upd H a ob) h' a ob) :
  Inv X pins σ (upd H a ob) { s with heap:=h',toks:=t' }:=
 I.write (x:=a) (e:=a) mu (.inl rfl) (λ b q hb z=>(hs.2 b hb).trans z) he new
theorem DW {P:Program}{w:World}{H':Hp}{h':Heap}{kvs:List (Key×V)}{vs:List (Key×Value)}(z:kvs.length<=sizeLine)(hd:(a == sysModules)=false)(rel:KV kvs vs)(dd:h'.DictOf (bL P w) a vs) :
  cu P w H' h' a (.dK kvs):=⟨z,hd,vs,rel,dd⟩
theorem Bj {H':Hp}{Q:Unit->Shared->Prop}(hu:A.units+1 < cLine)(I:Inv X pins σ H s)(g:vh H a y v H')(ry:RelV y u)(rv:RelV v r)(h:∀ s',Inv X pins σ H' s'->Q () s') :
  wpAny (model X.prog X.w) A (setItem (.ref a) u r) Q E s:=by
 rcases g with ⟨kvs,k,e,ey,l,eH⟩ | ⟨kvs,k,b,e,ey,eb,l,eH⟩
 ·subst ey eH;obtain ⟨z,hd,vs,rel,dd⟩:=Kf I.hok e;have hz:vs.length<=sizeLine:=by rw [<- rel.length];exact z
  have hl:(putK kvs k v).length<=sizeLine:=by have:=jU kvs k v;omega
  refine wpAny_setItem_pairs (hsz:=hz) (zq ry) dd λ h' dd' hs=>h _ ?_;have he:∃ q,h'.get? a=some q:=let ⟨q,_,_,hq,_⟩:=dd';⟨q,hq⟩
  exact A9 I (by rw [e];exact True.intro) hs he (DW hl hd (rel.put k rv) dd')
 ·subst ey eH
  cases (show u=Value.ref b from ry)
  obtain ⟨z,hd,xs,rel,dd⟩:=GA I.hok e;have hz:xs.length<=sizeLine:=by rw [<- Paired.length rel];exact z
  have hl:(putK kvs k v).length<=sizeLine:=by have:=jU kvs k v;omega
  refine wpAny_setItem_heap (hsz:=hz) (tupleKind_room_in1 hu) (pU I.hok eb) dd λ h' dd' hs=>h _ ?_;obtain ⟨q,es,ep,hq,h2,h3,h4,_,h5⟩:=dd';refine A9 I (by rw [e];exact True.intro) hs ⟨q,hq⟩ ⟨hl,hd,_,(rel.put k eb rv).keeps λ c ys ec=>?_,q,es,ep,hq,h2,h3,h4,h5⟩;rw [aL (N2 ec e (λ z=>nomatch z))];exact ec
end
section
variable {X:Cx} {pins:List (Addr×Obj)} {σ:St} {H:Hp} {s:Shared} {a:Addr} {kvs:List (Key×V)} {k:Key} {u:Value} {A:Around} {E:Value->Shared->Prop}
end
theorem wA {X:Cx}{pins:List (Addr×Obj)}{σ:St}{H:Hp}{s:Shared}{a:Addr}{y:V}{o:Option V}(I:Inv X pins σ H s)(g:nU H a y o):s.TypeIs (.ref a) "dict" := by
 rcases g with ⟨kvs,k,e,_,_⟩ | ⟨kvs,k,b,e,_,_,_⟩
 ·obtain ⟨_,_,vs,_,dd⟩:=AR I.hok e;exact dd.typeIs
 ·obtain ⟨_,_,xs,_,dd⟩:=zc I.hok e;exact dd.typeIs
section
variable {X:Cx} {o i e value:Expr} {pos pos' tpos:Pos} {td ty tv:TE}
end
theorem DX {P:Program}{w:World}{H:Hp}(h:Heap)(hb:sysModules < h.objs.size):cu P w H (h.push { cls:=.type "dict",data:=.dict #[] }) h.objs.size (.dK []):=
 ⟨zero_le _,beq_eq_false_iff_ne.mpr (Ne.symm (ne_of_lt hb)),[],.nil,Heap.DictOf.new h⟩
theorem G0 {P:Program}{w:World}{H:Hp}(h:Heap)(hb:sysModules < h.objs.size):cu P w H (h.push { cls:=.type "dict",data:=.dict #[] }) h.objs.size (.dT []):=
 ⟨zero_le _,beq_eq_false_iff_ne.mpr (Ne.symm (ne_of_lt hb)),[],.nil,_,#[],0,get?_push_size _ rfl,⟨rfl,rfl,rfl⟩,rfl,rfl,nodup_nil⟩
noncomputable def KO:TE:=λ _ H Q=>∀ p,H p=none->Q (.ref p) (upd H p (.dK []))
noncomputable def Mw:TE:=λ _ H Q=>∀ p,H p=none->Q (.ref p) (upd H p (.dT []))
section
variable {X:Cx} {pos:Pos}
theorem DH:PE X (.Dict [] [] pos) KO:=λ pins s σ H Q I h=>
 wpAny_Dict_empty ⟨.ref s.heap.objs.size,_,I.laid (a:=s.heap.objs.size) (o:=.dK []) (t':=s.toks) (λ _ _ q=>get?_push_of_some _ q) (Nat.le_refl _) (DX s.heap I.big),rfl,h _ (I.hok.fresh (Nat.le_refl _))⟩
theorem E_:PE X (.Dict [] [] pos) Mw:=λ pins s σ H Q I h=>
 wpAny_Dict_empty ⟨.ref s.heap.objs.size,_,I.laid (a:=s.heap.objs.size) (o:=.dT []) (t':=s.toks) (λ _ _ q=>get?_push_of_some _ q) (Nat.le_refl _) (G0 s.heap I.big),rfl,h _ (I.hok.fresh (Nat.le_refl _))⟩
end
structure M1 (X:Cx)(o:Expr)(m:Str)(apos:Pos)(e:Expr)(cpos:Pos):Prop where
 base:attributeBase o m X.env (eval o X.env)=eval o X.env
 few:((backTo cpos (starEach [e] X.env)).all (λ x=>!x.1) && (backToKw cpos (keywordEach [] X.env)).all (λ x=>x.1.isSome)
  && decide (([e]:List Expr).length+([]:List Keyword).length+(if ([]:List Keyword).isEmpty then 0 else 1) < 30))=true
 line:(apos.endLine == cpos.line)=true
 trees:backTo cpos (starEach [e] X.env)=[(false,eval e X.env)]
structure M2 (X:Cx)(o:Expr)(m:Str)(apos:Pos)(e f:Expr)(cpos:Pos):Prop where
 base:attributeBase o m X.env (eval o X.env)=eval o X.env
 few:((backTo cpos (starEach [e,f] X.env)).all (λ x=>!x.1) && (backToKw cpos (keywordEach [] X.env)).all (λ x=>x.1.isSome)
  && decide (([e,f]:List Expr).length+([]:List Keyword).length+(if ([]:List Keyword).isEmpty then 0 else 1) < 30))=true
 line:(apos.endLine == cpos.line)=true
 trees:backTo cpos (starEach [e,f] X.env)=[(false,eval e X.env),(false,eval f X.env)]
section
variable {X:Cx} {pins:List (Addr×Obj)} {σ:St} {H:Hp} {s:Shared} {a:Addr} {y d:V} {u r:Value} {o:Option V} {A:Around} {E:Value->Shared->Prop}
theorem KR {Q:Value->Shared->Prop}(hu:A.units+1 < cLine)(I:Inv X pins σ H s)(g:nU H a y o)(ry:RelV y u)(rd:RelV d r)(h:∀ w' s',Inv X pins σ H s'->RelV (o.getD d) w'->Q w' s') :
  wpAny (model X.prog X.w) A (call (.builtin "dict.get") [.ref a,u,r]) Q E s:=by
 rcases g with ⟨kvs,k,e,ey,l⟩ | ⟨kvs,k,b,e,ey,eb,l⟩
 ·subst ey;obtain ⟨z,hd,vs,rel,dd⟩:=AR I.hok e;refine call_meetsIn PySem.F.slot_dict_get dd.typeIs PySem.F.entry_dict_get (PySem.F.args_dict_get_3 _ _ _) (meets_dict_get_default (bL X.prog X.w) a (zq ry) hd r) ⟨_,dd.mapOf,h _ _ (I.tok _) ?_⟩;rw [l];exact (rel.val k).getD rd
 ·subst ey
  cases (show u=Value.ref b from ry)
  obtain ⟨z,hd,xs,rel,dd⟩:=zc I.hok e;refine call_meetsIn PySem.F.slot_dict_get dd.typeIs PySem.F.entry_dict_get (PySem.F.args_dict_get_3 _ _ _) (meetsH_dict_get_default (tupleKind (bL X.prog X.w)) a b hd r) ⟨tupleKind_room_in1 hu,k,xs,pU I.hok eb,dd,h _ _ (I.tok _) ?_⟩;rw [l];exact (rel.val k).getD rd
end
section
variable {X:Cx} {o e f:Expr} {apos cpos:Pos} {td ty tx:TE}
end
section
variable {X:Cx} {pins:List (Addr×Obj)} {σ:St} {H:Hp} {s:Shared} {a:Addr} {kvs:List (Key×V)} {A:Around} {E:Value->Shared->Prop}
end
section
variable {X:Cx} {pins:List (Addr×Obj)} {σ:St} {H:Hp} {s:Shared} {a:Addr} {y:V} {u:Value} {A:Around} {E:Value->Shared->Prop}
end
section
variable {X:Cx}
theorem Ad (hu:X.A.units+1 < cLine):JV X (λ x y H Q=>∃ a v,x=.ref a/\nU H a y (some v)/\Q v H):=by
 intro value slice pins s σ H x y v u Q I rx ry h hs;obtain ⟨a,z,rfl,g,q⟩:=h
 cases rx
 have hT:=wA I g;unfold subscriptTail;refine wpAny_bind ?_;rw [getitemInPython_of_ne hT.not_modules];refine wpAny_bind (wpAny_specialOf hT PySem.F.slot_dict_getitem.lookup ?_);have fin:wpAny (model X.prog X.w) X.A (subscripted slice false (.ref a) u) (λ r s₃=>wpAny (model X.prog X.w) X.A (letTemporaryGo value (.ref a) r >>= λ _=>pure r) (EP X pins σ Q) X.xe s₃) X.xe s:=by
  rw [hs];exact wpAny_operating (B5 hu I g ry λ w' s3 I3 rw'=>wpAny_bind (wpAny_letTemporaryGo (wpAny_pure ⟨z,H,I3,rw',q⟩)))
 first
  | exact wpAny_pure (wpAny_bind fin)
  | exact wpAny_bind (wpAny_pure (wpAny_bind fin))
  | exact wpAny_bind fin
theorem set_dict (hu:X.A.units+1 < cLine):BJ X (λ o i v H Q=>∃ a H',o=.ref a/\vh H a i v H'/\Q H'):=by
 intro pins s σ H o i v ov iv u Q I ro ri rv h;obtain ⟨a,H',rfl,g,q⟩:=h
 cases ro
 exact Bj hu I g ri rv λ s4 I4=>⟨H',I4,q⟩
noncomputable def NX:V->List V->Hp->VK->Prop:=λ x vs H Q=>∃ a b ks kvs y,x=.ref a/\vs=[.ref b,y]/\H a=some (.dT kvs)/\H b=some (.tup (ks.map kV))/\Q ((gG kvs ks).getD y) H
theorem Iz (hu:X.A.units+1 < cLine):Pj X "dict.get" NX:=by
 intro pins s σ H x vs v us Q I rx rv h;obtain ⟨a,b,ks,kvs,y,rfl,rfl,ea,eb,q⟩:=h
 cases rx
 cases rv with
 | @cons _ u1 _ Ca r1 rv=>
  cases rv with
  | @cons _ u2 _ xy r2 rv=>
   cases rv
   cases r1
   obtain ⟨z,hd,xs,rel,dd⟩:=GA I.hok ea;refine call_meetsIn PySem.F.slot_dict_get dd.typeIs PySem.F.entry_dict_get (PySem.F.args_dict_get_3 _ _ _) (meetsH_dict_get_default (tupleKind (bL X.prog X.w)) a b hd u2) ⟨tupleKind_room_in1 hu,ks,xs,pU I.hok eb,dd,?_⟩;refine ⟨(gG kvs ks).getD y,H,I.tok _,?_,q⟩;have rl:=rel.val ks
   cases e1:gG kvs ks with
   | none=>
    rw [e1] at rl
    cases e2:(atKey xs ks).map (·.2) with
    | none=>exact r2
    | some w'=>rw [e2] at rl;exact rl.elim
   | some w1=>
    rw [e1] at rl
    cases e2:(atKey xs ks).map (·.2) with
    | none=>rw [e2] at rl;exact rl.elim
    | some w'=>rw [e2] at rl;exact rl
end
section
variable {P:Program} {w:World} {A:Around} {E:Value->Shared->Prop} {s:Shared} {it d:Addr} {i ep:Nat} {es:Array DictEntry} {o:Obj} {k0 v0:Value}
end
section
variable {X:Cx}
end
section
variable {X:Cx}
theorem kt_at {H:Hp}:∀ {kvs:List (List Key×V)} {xs:List (List Key×Addr×Value)},KT H kvs xs->kvs.length=xs.length/\∀ (i:Nat) (p:List Key×V),kvs[i]?=some p->∃ y:List Key×Addr×Value,xs[i]?=some y/\p.1=y.1/\H y.2.1=some (.tup (p.1.map kV))/\RelV p.2 y.2.2
 | [],[],_=>⟨rfl,λ i p h=>by simp at h⟩
 | [],_::_,r=>nomatch r
 | _::_,[],r=>nomatch r
 | a::kvs,b::xs,.cons z r=>by
  obtain ⟨l,q⟩:=kt_at r;refine ⟨by simp [l],λ i p h=>?_⟩
  cases i with
  | zero=>
   have:a=p:=by simpa using h
   subst this;exact ⟨b,rfl,z⟩
  | succ i=>exact q i p (by simpa using h)
end
noncomputable def C0 (e:Addr)(h:Heap):Prop:=∃ o vs,h.get? e=some o/\o.data=.fields vs/\vs[2]?=some .none/\o.dict=none
noncomputable def bg (e:Addr){α:Type}(m:Sem α):Prop:=∀ (M:Model) (Γ:PySem.Ctx) (Q:α->Pos->Shared->Prop) (E:Value->Pos->Shared->Prop) (p:Pos) (s:Shared),Sem.wp M Γ m Q E p s->C0 e s.heap->Sem.wp M Γ m (λ a p s=>Q a p s/\C0 e s.heap) (λ v p s=>E v p s/\C0 e s.heap) p s
section
variable {e:Addr} {α β:Type}
theorem bg.bind {m:Sem α}{f:α->Sem β}(h1:bg e m)(h2:∀ a,bg e (f a)):bg e (m >>= f):=by
 intro M Γ Q E p s h c;rw [Sem.wp_bind'] at h ⊢;exact Sem.wp_mono M Γ m (λ a p' s' z=>h2 a M Γ Q E p' s' z.1 z.2) (λ _ _ _ z=>z) p s (h1 M Γ _ _ p s h c)
theorem bg.pure (a:α):bg e (pure a:Sem α):=λ M Γ Q E p s h c=>by rw [Sem.wp_pure'] at h ⊢;exact ⟨h,c⟩
theorem bg.FJ (w:String):bg e (PySem.unsupported w:Sem α):=λ M Γ Q E p s h c=>by
 have h:Sem.wp M Γ (.unsupported w:Sem α) Q E p s:=h;rw [Sem.wp_unsupported] at h;exact h.elim
theorem bg.load (a:Addr):bg e (PySem.load a):=λ M Γ Q E p s h c=>by
 have h:Sem.wp M Γ (.load a none .pure) Q E p s:=h;show Sem.wp M Γ (.load a none .pure) _ _ p s;rw [Sem.wp_load] at h ⊢;obtain ⟨o,ho,h⟩:=h;rw [Sem.wp_pure] at h;exact ⟨o,ho,by rw [Sem.wp_pure];exact ⟨h,c⟩⟩
theorem C0.update {h:Heap}{a:Addr}{f:Obj->Obj}(c:C0 e h)(hf:∀ o vs,o.data=.fields vs->vs[2]?=some .none->∃ ws,(f o).data=.fields ws/\ws[2]?=some .none/\(f o).dict=o.dict):C0 e (h.update a f):=by
 obtain ⟨o,vs,h1,h2,h3,h4⟩:=c;by_cases z:a=e
 ·subst z;obtain ⟨ws,w1,w2,w3⟩:=hf o vs h2 h3;exact ⟨f o,ws,get?_update_self f h1 (Obj.isFreed_of_fields w1),w1,w2,w3.trans h4⟩
 ·exact ⟨o,vs,by rw [get?_update_other _ _ z];exact h1,h2,h3,h4⟩
theorem bg.update (a:Addr)(f:Obj->Obj)(hf:∀ o vs,o.data=.fields vs->vs[2]?=some .none->∃ ws,(f o).data=.fields ws/\ws[2]?=some .none/\(f o).dict=o.dict):bg e (PySem.update a f):=λ M Γ Q E p s h c=>by
 have h:Sem.wp M Γ (.update a none f .pure) Q E p s:=h;show Sem.wp M Γ (.update a none f .pure) _ _ p s;rw [Sem.wp_update] at h ⊢;obtain ⟨ho,h⟩:=h;rw [Sem.wp_pure] at h;exact ⟨ho,by rw [Sem.wp_pure];exact ⟨h,c.update hf⟩⟩
theorem bg.alloc (o:Obj):bg e (PySem.alloc o):=λ M Γ Q E p s h c=>by
 have h:Sem.wp M Γ (.alloc o .pure) Q E p s:=h;show Sem.wp M Γ (.alloc o .pure) _ _ p s;rw [Sem.wp_alloc,Sem.wp_pure] at h ⊢;obtain ⟨ob,vs,h1,h2,h3,h4⟩:=c;exact ⟨h,ob,vs,get?_push_of_some _ h1,h2,h3,h4⟩
theorem bg.stack:bg e PySem.stack:=λ M Γ Q E p s h c=>by
 have h:Sem.wp M Γ (.stack .pure) Q E p s:=h;show Sem.wp M Γ (.stack .pure) _ _ p s;rw [Sem.wp_stack,Sem.wp_pure] at h ⊢;exact ⟨h,c⟩
theorem bg.ite {c:Prop}[Decidable c]{a b:Sem α}(h1:bg e a)(h2:bg e b):bg e (if c then a else b):=by
 split
 ·exact h1
 ·exact h2
theorem bg.field (v:Value)(i:Nat):bg e (PySem.field v i):=by
 unfold PySem.field PySem.fieldsOf;refine bg.bind ?_ λ vs=>?_
 ·split
  ·refine bg.bind (bg.load _) λ o=>?_;split
   ·exact bg.pure _
   ·exact bg.FJ _
  ·exact bg.FJ _
 ·split
  ·exact bg.pure _
  ·exact bg.FJ _
theorem bg.setField (v x:Value)(i:Nat)(hi:i≠2):bg e (PySem.setField v i x):=by
 unfold PySem.setField PySem.updateField;split
 ·refine bg.bind (bg.load _) λ o=>?_;split
  ·refine bg.ite (bg.update _ _ λ o vs h1 h2=>⟨_,Obj.data_mapFields h1 _,?_,?_⟩) (bg.FJ _)
   ·rw [Array.getElem?_setIfInBounds_ne hi];exact h2
   ·unfold Obj.mapFields;split <;> rfl
  ·exact bg.FJ _
 ·exact bg.FJ _
theorem bg.frameEnvs:bg e PySem.frameEnvs:=by
 unfold PySem.frameEnvs;exact bg.bind bg.stack λ _=>bg.pure _
theorem bg.behind (env:Env)(outer:List Env):bg e (behindIsImport env outer):=by
 unfold behindIsImport;refine bg.ite (bg.pure _) (bg.ite (bg.pure _) (bg.bind (bg.field _ _) λ _=>bg.pure _))
theorem bg.under:bg e underTheClaimsCaller:=by
 unfold underTheClaimsCaller;exact bg.bind bg.stack λ _=>bg.pure _
theorem bg.kept (env:Env)(b:Bool)(l:List Env):bg e (keptBack env b l):=by
 unfold keptBack;split
 ·refine bg.ite (bg.pure _) (bg.bind bg.under λ _=>bg.pure _)
 ·exact bg.pure _
theorem bg.ready:∀ (l:List Env),bg e (readyFrames l)
 | []=>bg.pure _
 | env::outer=>by
  unfold readyFrames;split
  ·refine bg.bind (bg.load _) λ o=>?_;refine bg.ite (bg.pure _) ?_;refine bg.bind (bg.behind _ _) λ _=>bg.bind (bg.kept _ _ _) λ _=>bg.bind (bg.update _ _ λ o vs h1 h2=>⟨vs,h1,h2,rfl⟩) λ _=>bg.ready outer
  ·exact bg.FJ _
theorem bg.frameOf (env:Env):bg e (PySem.frameOf env):=by
 unfold PySem.frameOf;refine bg.bind bg.frameEnvs λ l=>bg.bind ?_ λ _=>?_
 ·unfold frameObject;split
  ·exact bg.pure _
  ·exact bg.bind (bg.ready _) λ _=>bg.pure _
 ·split
  ·exact bg.pure _
  ·exact bg.FJ _
theorem bg.place (f:Addr)(b:Bool):bg e (entryPlaceOf f b):=by
 unfold entryPlaceOf;refine bg.bind bg.stack λ _=>?_;split
 ·exact bg.pure _
 ·exact bg.pure _
theorem bg.entry (a b c d f:Value)(l:List Value):bg e (EntryCells.newEntry a b c d f l):=by
 unfold EntryCells.newEntry newFields newObj
 repeat (first | exact bg.pure _ | exact bg.FJ _ | refine bg.bind (bg.alloc _) λ _=>?_ | refine bg.bind (bg.FJ _) λ _=>?_ | refine bg.ite ?_ ?_ | (refine bg.bind ?_ λ _=>?_))
theorem bg.flight (v:Value)(f:Option Addr):bg e (setFlight v f):=by
 unfold setFlight;refine bg.bind (bg.field _ _) λ _=>bg.ite (bg.setField _ _ _ (by decide)) (bg.pure _)
theorem bg.note (v:Value)(env:Env):bg e (noteFrame v env):=by
 unfold noteFrame;split
 ·refine bg.bind (bg.field _ _) λ h=>bg.ite ?_ ?_
  ·refine bg.bind (bg.field _ _) λ _=>bg.ite (bg.pure _) ?_;refine bg.bind (bg.setField _ _ _ (by decide)) λ _=>bg.bind (bg.frameOf _) λ _=>bg.bind (bg.place _ _) λ _=>bg.bind (bg.entry _ _ _ _ _ _) λ _=>bg.setField _ _ _ (by decide)
  ·refine bg.bind (bg.frameOf _) λ _=>bg.bind (bg.place _ _) λ _=>bg.bind (bg.entry _ _ _ _ _ _) λ _=>bg.setField _ _ _ (by decide)
 ·exact bg.FJ _
theorem bg.leave (v:Value)(env:Env):bg e (leaving env v):=by
 unfold leaving;exact bg.bind (bg.note _ _) λ _=>bg.flight _ _
theorem bg.any {m:Sem α}{M:Model}{A:Around}{Q:α->Shared->Prop}{E:Value->Shared->Prop}{s:Shared}(k:bg e m)(h:wpAny M A m Q E s)(c:C0 e s.heap):wpAny M A m (λ a s'=>Q a s'/\C0 e s'.heap) (λ v s'=>E v s'/\C0 e s'.heap) s:=
 λ Γ p hΓ=>k M Γ _ _ p s (h Γ p hΓ) c
end
theorem cu.here {P:Program}{w:World}{H:Hp}{h:Heap}{a:Addr}{o:HO}(x:cu P w H h a o):∃ ob,h.get? a=some ob:=by
 cases o with
 | lst xs=>obtain ⟨_,_,_,_,e⟩:=x;exact ⟨_,e⟩
 | tup xs=>obtain ⟨_,_,_,p⟩:=x;obtain ⟨o,e,_⟩:=p;exact ⟨_,e⟩
 | dK kvs=>obtain ⟨_,_,_,_,o,_,_,e,_⟩:=x;exact ⟨_,e⟩
 | dT kvs=>obtain ⟨_,_,_,_,o,_,_,e,_⟩:=x;exact ⟨_,e⟩
 | set S n=>obtain ⟨o,_,_,_,e,_⟩:=x;exact ⟨_,e⟩
 | ins C dx fs=>obtain ⟨_,_,_,e,_⟩:=x;exact ⟨_,e⟩
 | own y=>exact x
 | xd fs=>obtain ⟨_,⟨_,_,_,e,_⟩,_⟩:=x;exact ⟨_,e⟩
 | rng lo hi=>obtain ⟨_,_,_,e⟩:=x;exact ⟨_,e⟩
 | frz ob u=>obtain ⟨e,_⟩:=x;exact ⟨_,e⟩
 | tbl ps=>exact ⟨_,(show h.get? a=some _ from x)⟩
 | met f y=>exact ⟨_,(show h.get? a=some _ from x)⟩
 | ext φ=>obtain ⟨_,⟨o,e⟩,_⟩:=x;exact ⟨_,e⟩
structure Fly (l:List Env)(g:Heap)(pn:List (Addr×Obj))(H:Hp)(e:Addr)(cls:Value)(h:Heap):Prop where
 ex:∃ (B:Heap) (a0:Value),Heap.FlyingW B l e cls a0 h/\(∀ a u,H a=some u->∃ o,B.get? a=some o)/\(∀ b o,g.get? b=some o->b∉frs l->∃ o',B.get? b=some o')/\(∀ p∈pn,∃ o',B.get? p.1=some o')/\C0 e h
structure Made (X:Cx)(H:Hp)(e:Addr)(cls:Value)(g:Heap)(h:Heap):Prop where
 ex:∃ (g':Heap) (vs:List Value),Heap.MadeExcOf g' h e cls vs/\g'.FunFrames X.base X.stack/\(∀ a u,H a=some u->∃ o,g'.get? a=some o)/\(∀ b o,g.get? b=some o->∃ o',g'.get? b=some o')/\(∀ p∈X.pn,∃ o',g'.get? p.1=some o')
theorem zN {g h:Heap}{e:Addr}{cls:Value}{vs:List Value}(M:Heap.MadeExcOf g h e cls vs):C0 e h:=by
 obtain ⟨t,he,_⟩:=M.there;exact ⟨_,_,he,rfl,rfl,rfl⟩
noncomputable def qE (X:Cx)(H:Hp)(e:Addr)(cls:Value)(s':Shared):Prop:=Made X H e cls X.s₀.heap s'.heap\/Fly X.stack X.s₀.heap X.pn H e cls s'.heap
section
variable {X:Cx} {pins:List (Addr×Obj)} {σ:L2.St} {H:Hp} {s':Shared} {e:Addr} {cls:Value}
theorem qA (I:Inv X pins σ H s')(hex:X.ex=[]){B h':Heap}(k1:B.StaysIn s'.heap)(k2:B.StaysIn h')(up:s'.heap.UpToSlots h')(c1:∀ a u,H a=some u->∃ o,B.get? a=some o)(c2:∀ b o,X.s₀.heap.get? b=some o->b∉X.fs->∃ o',B.get? b=some o') :
  Un X.fs [] X.H₀ H X.s₀.heap h'/\kO X.prog X.w H h':=by
 have nx:∀ b:Addr,b∉X.ex:=λ b z=>by rw [hex] at z;cases z
 have cov:∀ b o o',B.get? b=some o'->s'.heap.get? b=some o->h'.get? b=some o:=λ b o o' eb es=>by
  have:=k1 b o' eb;rw [es] at this;cases this;exact k2 b o eb
 have slot:∀ b o,X.s₀.heap.get? b=some o->X.H₀ b=none->b∈X.fs->∃ sl,h'.get? b=some { o with slots:=sl }:=λ b o q n hb=>by
  obtain ⟨sl,e1⟩:=I.base.slot b o q n hb (nx b);obtain ⟨_,o2,q2,d2⟩:=I.ok.jh.mem hb;rw [q] at q2;cases q2;obtain ⟨sl',e2⟩:=up b _ e1 d2;exact ⟨sl',e2⟩
 refine ⟨⟨λ b o q n hb _=>?_,λ b o q n hb _=>slot b o q n hb,λ b o q n _=>I.base.free b o q n (nx b),λ b o q _=>?_,I.base.tups,I.base.frzs,I.base.tbls⟩,λ a u ea=>?_⟩
 ·obtain ⟨o',eb⟩:=c2 b o q hb;exact cov b o o' eb (I.base.keep b o q n hb (nx b))
 ·by_cases hb:b∈X.fs
  ·obtain ⟨sl,z⟩:=slot b o q (I.ok.frf b hb) hb;exact ⟨_,z⟩
  ·obtain ⟨o',eb⟩:=c2 b o q hb;exact ⟨o',k2 b o' eb⟩
 ·refine (I.hok a u ea).stay (λ b v hb q=>?_) (λ _ q=>q) λ _ _ q=>q
  rcases hb with z | z
  ·subst z;obtain ⟨o',eb⟩:=c1 _ u ea;exact cov _ v o' eb q
  ·obtain ⟨o',eb⟩:=c1 b _ z;exact cov b v o' eb q
theorem yb (I:Inv X pins σ H s')(hst:X.stack=X.env::X.outer)(hf:X.env.frame=some X.env.locals)(hex:X.ex=[])(R:qE X H e cls s'){Q:Shared->Prop}{E:Value->Shared->Prop}
  (hQ:∀ h',Un X.fs [] X.H₀ H X.s₀.heap h'->kO X.prog X.w H h'->Fly X.outer X.s₀.heap [] H e cls h'->Q { s' with heap:=h' }):wpAny (model X.prog X.w) X.A (leaving X.env (.ref e)) (λ _ s''=>Q s'') E s':=by
 have hfr:X.A.frames=some (X.env::X.outer):=by rw [<- hst];exact I.ok.frames
 have nl:∀ b o,X.s₀.heap.get? b=some o->b∉X.fs->b∉frs (X.env::X.outer):=λ b o q hb z=>by
  unfold frs at z;rw [filterMap_cons,hf] at z
  rcases mem_cons.mp z with z | z
  ·rw [z] at q;exact absurd (lt_of_lt_of_le (lt_size q) I.ok.above) (lt_irrefl _)
  ·exact hb z
 rcases R with ⟨g',vs,M,ffg,m1,m2,_⟩ | ⟨B,a0,F,c1,c2,_,k0⟩
 ·
  rw [hst] at ffg;have hin:∀ env∈(X.env::X.outer),∀ b,env.frame=some b->b∈frs (X.env::X.outer):=λ env he b hb=>mem_filterMap.mpr ⟨env,he,hb⟩;refine wpAny_mono (bg.any (e:=e) (bg.leave _ _) (wpAny_leaves_madeW (Q:=λ _ s''=>∃ h' t,s''={ s' with heap:=h' }/\Heap.FlyingW (PySem.W.hideAll g' (frs (X.env::X.outer))) X.outer e cls (.ref t) h'/\s'.heap.UpToSlots h') (E:=λ _ _=>False) (base:=PySem.W.hideAll g' (frs (X.env::X.outer))) hfr hf (λ b o q=>PySem.W.of_hideAll _ q) (PySem.W.funFrames_hide ffg hin) M λ h' t x1 x2 x3 x4=>⟨h',t,rfl,x1,x4⟩) (zN M)) (λ _ s'' z=>?_) λ _ _ z=>z.1.elim;obtain ⟨⟨h',t,rfl,x1,x4⟩,k0⟩:=z;have k1:(PySem.W.hideAll g' (frs (X.env::X.outer))).StaysIn s'.heap:=λ b o q=>M.keeps b o (PySem.W.of_hideAll _ q);have c1:∀ a u,H a=some u->∃ o,(PySem.W.hideAll g' (frs (X.env::X.outer))).get? a=some o:=λ a u ea=>by
   obtain ⟨o,q⟩:=m1 a u ea;refine ⟨o,PySem.W.hideAll_get _ q λ z=>?_⟩;rw [<- hst] at z;rw [I.pB a z] at ea;cases ea
  have c2:∀ b o,X.s₀.heap.get? b=some o->b∉X.fs->∃ o',(PySem.W.hideAll g' (frs (X.env::X.outer))).get? b=some o':=λ b o q hb=>by
   obtain ⟨o',q'⟩:=m2 b o q;exact ⟨o',PySem.W.hideAll_get _ q' (nl b o q hb)⟩
  obtain ⟨un,hok⟩:=qA I hex k1 x1.1 x4 c1 c2;exact hQ h' un hok ⟨_,_,x1,c1,λ b o q hb=>c2 b o q hb,λ p hp=>absurd hp (by simp),k0⟩
 ·rw [hst] at F c2;refine wpAny_mono (bg.any (e:=e) (bg.leave _ _) (wpAny_leaves_onW (Q:=λ _ s''=>∃ h',s''={ s' with heap:=h' }/\Heap.FlyingW B X.outer e cls a0 h'/\s'.heap.UpToSlots h') (E:=λ _ _=>False) hfr hf F λ h' x1 x4=>⟨h',rfl,x1,x4⟩) k0) (λ _ s'' z=>?_) λ _ _ z=>z.1.elim;obtain ⟨⟨h',rfl,x1,x4⟩,k0'⟩:=z;have c2':∀ b o,X.s₀.heap.get? b=some o->b∉X.fs->∃ o',B.get? b=some o':=λ b o q hb=>c2 b o q (nl b o q hb);obtain ⟨un,hok⟩:=qA I hex F.1 x1.1 x4 c1 c2';exact hQ h' un hok ⟨_,_,x1,c1,c2',λ p hp=>absurd hp (by simp),k0'⟩
end
noncomputable def Cu (P:Program)(w:World):Cv:=λ outer H s E e s''=>∃ ea cls H',e=.ref ea/\s''.os=s.os/\AllBare s''.gens/\Un (frs outer) [] H H' s.heap s''.heap/\kO P w H' s''.heap/\Fly outer s.heap [] H' ea cls s''.heap/\E cls none H'
section
variable {P:Program} {w:World} {K:PySem.W.Frag} {mg:Str->Option Value} {base:Heap} {N:List Str} {qual:Str} {scope:Scope} {f:Addr} {cd:Value} {A:Around} {outer:List Env} {s:Shared} {H:Hp} {E:XK}
theorem Co {pins:List (Addr×Obj)}{σ':L2.St}{H':Hp}{s':Shared}{ea:Addr}{cls:Value}(I:Inv (lX (Cu P w) P w K mg base N qual scope f cd A outer s H E) pins σ' H' s')
  (hf:(envOfC qual scope s.heap.objs.size f cd).frame=some (envOfC qual scope s.heap.objs.size f cd).locals)
  (R:qE (lX (Cu P w) P w K mg base N qual scope f cd A outer s H E) H' ea cls s') (hE:E cls none H'):(lX (Cu P w) P w K mg base N qual scope f cd A outer s H E).xe (.ref ea) s':=by
 refine yb I rfl hf rfl R (Q:=λ s''=>Cu P w outer H s E (.ref ea) s'') λ h' un hok fl=>?_;exact ⟨ea,cls,H',rfl,I.os,I.bare,un,hok,fl,hE⟩
noncomputable def EX (X:Cx):XK:=λ cls _ H'=>X.ex=[]/\∀ pins σ' s' e,Inv X pins σ' H' s'->qE X H' e cls s'->X.xe (.ref e) s'
theorem FT {X:Cx}(hP:X.prog=P)(hw:X.w=w):Passes (Cu P w) X (EX X):=by
 intro pins σ H s e s' I ⟨ea,cls,H',he,os,bare,un,hok,⟨B,a0,F,c1,c2,_,k0⟩,hE⟩;subst he hP hw;obtain ⟨hh,g,d,t,os'⟩:=s';obtain rfl:os'=s.os:=os;refine hE.2 pins σ _ ea (I.call (h':=hh) (g':=g) (d':=d) (t':=t) (ch:=[]) un hok bare (λ b z=>absurd z (by simp))) (.inr ⟨B,a0,F,c1,λ b o q hb=>?_,λ p hp=>?_,k0⟩)
 ·obtain ⟨o',q'⟩:=I.base.there b o q (by rw [hE.1];simp);exact c2 b o' q' hb
 ·obtain ⟨q,_,n1,n2,_⟩:=I.pin p (mem_append_left _ hp);exact c2 p.1 _ q λ z=>(mem_cons.mp (I.qj _ z)).elim n1 n2
noncomputable def LS (X:Cx)(C:Addr)(t:TA):TS:=λ _ σ H=>t σ H λ vs H'=>vs.length<=sizeLine/\EX X (.ref C) none H'
theorem Ep {X:Cx}{x:Str}{C:Addr}{bmB:List Value}{newId B initId:String}{e:Expr}{es:List Expr}{t:TA}{np cpos pos:Pos}(O:OwnCls x C bmB newId X.mg X.base)(FB:ExcBaseFacts B newId initId bmB)(hh:X.A.handled=none)(ha:PA X (e::es) t)(hg:Gl X x:=by rfl)
  (hs:starEach (e::es) X.env=(false,eval e X.env)::starEach es X.env:=by rfl) (hplain:(backTo cpos (starEach es X.env)).any (·.1)=false:=by rfl) (hd:(x == ("__debug__" : Str))=false:=by decide) :
  PS X (.Raise (some (.Call (.Name x np) (e::es) [] cpos)) none pos) (LS X C t):=by
 intro pins s σ H D I h;obtain ⟨tl,N,nm,q,bs,hdct,sn,sub,ab,col,dd,k0,k1,k2,k3,k5,mN,hC,hN,hni,T⟩:=O.obj;refine wpAny_Raise_call_subU (C:=C) (nm:=nm) (q:=q) (N:=N) (bs:=bs) (bm:=tl) (hdct:=hdct) (sn:=sn) (sub:=sub) (ab:=ab) (col:=col) (dd:=dd) (k0:=k0) (k1:=k1) (k2:=k2) (k3:=k3) (k5:=k5)
  FB FB.hasB FB (mN:=mN) (T.hasType FB.hasBase) hh (by rw [hs];show (false || (backTo cpos (starEach es X.env)).any (·.1))=false;rw [hplain];rfl) hni (lR I hg O.bound ⟨rfl,?_⟩ hd)
 have hA:=ha cpos pins s σ H _ I h;rw [hs] at hA ⊢;refine Calls.evalArgs_plain (dP hA λ us s2 ⟨vs,H2,I2,r2,hl,hex,q2⟩=>?_);refine ⟨rfl,by rw [<- r2.length];exact hl,I2.bk _ _ hC,hN.keeps I2.bk,T.keeps I2.bk,λ h' ea M=>?_⟩;refine q2 pins σ { s2 with heap:=h' } ea ?_ (.inl ⟨s2.heap,us,M,I2.stack,λ a u ea=>?_,λ b o q=>?_,λ p hp=>⟨_,(I2.pin p (mem_append_left _ hp)).1⟩⟩)
 ·exact I2.kept (t':=s2.toks) M.keeps
 ·exact (I2.hok a u ea).here
 ·exact I2.base.there b o q (by rw [hex];simp)
end
noncomputable def p7:List (Str ⊕ TE)->St->Hp->(Hp->Prop)->Prop
 | [],_,H,k=>k H
 | .inl x::ps,σ,H,k=>x.length<=1000/\p7 ps σ H k
 | .inr t::ps,σ,H,k=>t σ H λ v H'=>∃ i,v=.int i/\i.natAbs.log2 < 64/\p7 ps σ H' k
inductive FParts (X:Cx):List Expr->List (Str ⊕ TE)->Prop
 | nil:FParts X [] []
 | txt {x:Str} {j pos} {es:List Expr} {ps:List (Str ⊕ TE)} (h:FParts X es ps):FParts X (.Constant (.str x) j pos::es) (.inl x::ps)
 | val {e:Expr} {pos:Pos} {t:TE} {es:List Expr} {ps:List (Str ⊕ TE)} (he:PE X e t) (h:FParts X es ps):FParts X (.FormattedValue e (-1) none pos::es) (.inr t::ps)
theorem lD {X:Cx}{pins:List (Addr×Obj)}{σ:St}{Q:VK}:∀ {es:List Expr} {ps:List (Str ⊕ TE)},FParts X es ps->∀ (H:Hp) (s:Shared) (out:Str),Inv X pins σ H s->out.length+2000 * es.length<=sizeLine ->
  p7 ps σ H (λ H'=>∀ x:Str,x.length<=sizeLine->Q (.str x) H')->wpAny (model X.prog X.w) X.A (joinParts out (evalEach es X.env)) (EP X pins σ Q) X.xe s
 | _,_,.nil,H,s,out,I,hl,h=>joinParts_nilE (joinParts_nil (show EP X pins σ Q _ _ from ⟨.str out,H,I.tok _,⟨_,rfl⟩,h out (by simpa using hl)⟩) (by simpa using hl))
 | _,_,.txt (x:=x) hp,H,s,out,I,hl,h=>by
  refine joinParts_consE (joinParts_cons (Calls.Constant_str ?_));rw [length_cons] at hl;have hx:=h.1;have hz:(out++x).length=out.length+x.length:=strLen_append ..;exact ⟨by rw [hz];omega,lD hp H _ _ (I.tok _) (by rw [hz];omega) h.2⟩
 | _,_,.val (e:=e) (t:=t) he hp,H,s,out,I,hl,h=>by
  rw [length_cons] at hl;refine joinParts_consE (joinParts_cons (FormattedValue_plain (dP (he pins s σ H _ I h) λ v s1 ⟨x,H1,I1,r1,i,hx,hi,h1⟩=>?_)));subst hx;obtain ⟨tk,rfl⟩:=r1;refine formatField_int_small (by omega) ?_;have ht:(Str.ofString (toString i)).length<=65:=by
   have:=int_text_length_le (a:=i) (k:=64) (by decide) hi;rw [PySem.ofString_length];exact this
  have hz:(out++Str.ofString (toString i)).length=out.length+(Str.ofString (toString i)).length:=strLen_append ..;exact ⟨by rw [hz];omega,lD hp H1 _ _ (I1.tok _) (by rw [hz];omega) h1⟩
noncomputable def QU (ps:List (Str ⊕ TE)):TE:=λ σ H Q=>p7 ps σ H λ H'=>∀ x:Str,x.length<=sizeLine->Q (.str x) H'
theorem Oa {X:Cx}{e1 e2:Expr}{es:List Expr}{ps:List (Str ⊕ TE)}{pos:Pos}(h:FParts X (e1::e2::es) ps)(hl:2000 * (e1::e2::es).length<=sizeLine:=by decide):PE X (.JoinedStr (e1::e2::es) pos) (QU ps):=
 λ pins s σ H Q I q=>JoinedStr_many (lD h H s Str.empty I (by rw [show Str.empty.length=0 from rfl,Nat.zero_add];exact hl) q)
noncomputable def Cx.qX (X:Cx)(pn':List (Addr×Obj))(xe':Value->Shared->Prop):Cx:={ X with xe:=xe',pn:=pn' }
noncomputable def xu:HO:=.ext λ _=>True
noncomputable def Cx.hand (X:Cx)(pn':List (Addr×Obj))(e:Addr)(oe:Obj):Cx:={ X with A:=X.A.mark (some (.ref e)),calm:=false,xe:=λ _ _=>False,pn:=pn',H₀:=upd X.H₀ e (.frz oe xu) }
structure XO (C:Addr)(o:Obj):Prop where
 cls:o.cls=.ref C
 dict:o.dict=none
 ctx:∃ vs,o.data=.fields vs/\vs[2]?=some .none
structure Fr0 (X:Cx)(e:Addr):Prop where
 no:∀ o,X.s₀.heap.get? e≠some o
 tup:∀ xs,X.H₀ e≠some (.tup xs)
 frz:∀ o u,X.H₀ e≠some (.frz o u)
 tbl:∀ ps,X.H₀ e≠some (.tbl ps)
section
variable {X:Cx} {pins:List (Addr×Obj)} {σ:L2.St} {H:Hp} {s':Shared} {e:Addr} {cls:Value}
theorem B9 (I:Inv X pins σ H s')(hst:X.stack=X.env::X.outer)(hf:X.env.frame=some X.env.locals)(R:qE X H e cls s'){Q:Unit->Shared->Prop}{E:Value->Shared->Prop}
  (hQ:∀ h' B a0,Heap.HeldW B (X.env::X.outer) e cls a0 X.env.locals h'->B.StaysIn s'.heap->s'.heap.UpToSlots h'->(∀ a u,H a=some u->∃ o,B.get? a=some o)->(∀ b o,X.s₀.heap.get? b=some o->b∉X.fs->∃ o',B.get? b=some o')->(∀ p∈X.pn,∃ o',B.get? p.1=some o')->C0 e h'->Q () { s' with heap:=h' }) :
  wpAny (model X.prog X.w) X.A (noteFrame (.ref e) X.env) Q E s':=by
 have hfr:X.A.frames=some (X.env::X.outer):=by rw [<- hst];exact I.ok.frames
 have nl:∀ b o,X.s₀.heap.get? b=some o->b∉X.fs->b∉frs (X.env::X.outer):=λ b o q hb z=>by
  unfold frs at z;rw [filterMap_cons,hf] at z
  rcases mem_cons.mp z with z | z
  ·rw [z] at q;exact absurd (lt_of_lt_of_le (lt_size q) I.ok.above) (lt_irrefl _)
  ·exact hb z
 rcases R with ⟨g',vs,M,ffg,m1,m2,m3⟩ | ⟨B,a0,F,c1,c2,c3,k0⟩
 ·rw [hst] at ffg;have hin:∀ env∈(X.env::X.outer),∀ b,env.frame=some b->b∈frs (X.env::X.outer):=λ env he b hb=>mem_filterMap.mpr ⟨env,he,hb⟩;have hl:=PySem.W.funFrames_hide ffg hin;obtain ⟨t,he,htn,ht⟩:=M.there;have bn:(PySem.W.hideAll g' (frs (X.env::X.outer))).get? e=none:=by
   cases hq:(PySem.W.hideAll g' (frs (X.env::X.outer))).get? e with
   | none=>rfl
   | some o'=>have:=PySem.W.of_hideAll _ hq;rw [M.new] at this;cases this
  have k1:(PySem.W.hideAll g' (frs (X.env::X.outer))).StaysIn s'.heap:=λ b o q=>M.keeps b o (PySem.W.of_hideAll _ q);have go:wpAny (model X.prog X.w) X.A (noteFrame (.ref e) X.env) (λ _ s''=>∃ h',s''={ s' with heap:=h' }/\Heap.HeldW (PySem.W.hideAll g' (frs (X.env::X.outer))) (X.env::X.outer) e cls (.ref t) X.env.locals h'/\s'.heap.UpToSlots h') (λ _ _=>False) s':=by
   unfold noteFrame;simp only [hf];refine wpAny_bind (wpAny_field he rfl (x:=.none) rfl ?_);rw [if_neg (by decide)];refine wpAny_entryW (base:=PySem.W.hideAll g' (frs (X.env::X.outer))) (a0:=.ref t) hfr (hl.of_keeps λ b o hb _=>⟨o,M.keeps b o hb,rfl⟩) hf he k1 bn rfl (by simp) rfl λ h' hL=>?_;obtain ⟨x1,x2,x3,x4⟩:=hL;exact ⟨h',rfl,⟨x1,bn,x2,x3⟩,x4⟩
  refine wpAny_mono (bg.any (e:=e) (bg.note _ _) go (zN M)) (λ _ s'' z=>?_) λ _ _ z=>z.1.elim;obtain ⟨⟨h',rfl,x1,x4⟩,k0⟩:=z;refine hQ h' _ _ x1 k1 x4 (λ a u ea=>?_) (λ b o q hb=>?_) (λ p hp=>?_) k0
  ·obtain ⟨o,q⟩:=m1 a u ea;refine ⟨o,PySem.W.hideAll_get _ q λ z=>?_⟩;rw [<- hst] at z;rw [I.pB a z] at ea;cases ea
  ·obtain ⟨o',q'⟩:=m2 b o q;exact ⟨o',PySem.W.hideAll_get _ q' (nl b o q hb)⟩
  ·obtain ⟨o',q'⟩:=m3 p hp;obtain ⟨q,_,n1,n2,_⟩:=I.pin p (mem_append_left _ hp);refine ⟨o',PySem.W.hideAll_get _ q' λ z=>?_⟩;rw [<- hst] at z;exact (mem_cons.mp (I.qj _ z)).elim n1 n2
 ·rw [hst] at F c2;refine wpAny_mono (bg.any (e:=e) (bg.note _ _) (wpAny_looks_onW (Q:=λ _ s''=>∃ h',s''={ s' with heap:=h' }/\Heap.HeldW B (X.env::X.outer) e cls a0 X.env.locals h'/\s'.heap.UpToSlots h') (E:=λ _ _=>False) hfr hf F λ h' x1 x4=>⟨h',rfl,x1,x4⟩) k0) (λ _ s'' z=>?_) λ _ _ z=>z.1.elim;obtain ⟨⟨h',rfl,x1,x4⟩,k0'⟩:=z;exact hQ h' B a0 x1 F.1 x4 c1 (λ b o q hb=>c2 b o q (nl b o q hb)) c3 k0'
end
section
variable {X:Cx} {pn' pins:List (Addr×Obj)} {xe':Value->Shared->Prop} {σ:L2.St} {H:Hp} {s':Shared} {e C:Addr} {B h6:Heap} {a0:Value}
theorem rT (I:Inv (X.qX pn' xe') pins σ H s')(hex:X.ex=[])(F:Heap.FlyingW B (X.env::X.outer) e (.ref C) a0 h6)(k1:B.StaysIn s'.heap)(up:s'.heap.UpToSlots h6)
  (c1:∀ a u,H a=some u->∃ o,B.get? a=some o) (c2:∀ b o,X.s₀.heap.get? b=some o->b∉X.fs->∃ o',B.get? b=some o') (c3:∀ p∈pn',∃ o',B.get? p.1=some o') (k0:C0 e h6) :
  Fr0 X e/\H e=none/\∃ oe,XO C oe/\Inv (X.hand pn' e oe) [] σ (upd H e (.frz oe xu)) { s' with heap:=h6 }:=by
 obtain ⟨un,hok⟩:=qA I hex k1 F.1 up c1 c2;have hn:H e=none:=by
  cases q:H e with
  | none=>rfl
  | some u=>obtain ⟨o,z⟩:=c1 e u q;rw [F.2.1] at z;cases z
 obtain ⟨o0,vs0,g1,g2,g3,g5⟩:=k0;have ns:∀ o,X.s₀.heap.get? e≠some o:=λ o q=>by
  by_cases hb:e∈X.fs
  ·obtain ⟨_,o2,q2,d2⟩:=I.ok.jh.mem hb;have q2:X.s₀.heap.get? e=some o2:=q2;rw [q] at q2;cases q2;obtain ⟨sl,z⟩:=un.slot e o q (I.ok.frf e hb) hb (by simp);rw [g1] at z;have z:o0=_:=Option.some.inj z;rw [z] at g2;exact d2 _ g2
  ·obtain ⟨o',z⟩:=c2 e o q hb;rw [F.2.1] at z;cases z
 have hs0:∀ (b:Addr) (ob:Obj),s'.heap.get? b=some ob->(∀ vs,ob.data≠.fields vs)->b≠e:=λ b ob q d z=>by
  obtain ⟨sl,z'⟩:=up b ob q d;rw [z,g1] at z';have z':o0=_:=Option.some.inj z';rw [z'] at g2;exact d _ g2
 obtain ⟨m,hm,hl⟩:=id I.loc;have hm':s'.heap.Ns X.env.locals m:=hm;have cel:∀ c v,s'.heap.IsCell c v->h6.IsCell c v:=λ c v h9=>by
  obtain ⟨oc,q,d⟩:=h9;obtain ⟨sl,z⟩:=up c oc q λ vs y=>by rw [d] at y;cases y
  exact ⟨_,z,d⟩
 have lne:X.env.locals≠e:=by
  obtain ⟨oL,es,ep,q,d,_⟩:=id hm';exact hs0 _ oL q λ vs y=>by rw [d] at y;cases y
 have xo:XO C o0:=by
  obtain ⟨_,_,_,oe,vs,T,oT,ts,he,⟨hc,_⟩,hd,_⟩:=F;rw [g1] at he;have he:o0=oe:=Option.some.inj he;subst he;exact ⟨hc,g5,vs0,g2,g3⟩
 have no:∀ u,H e≠some u:=λ u q=>by rw [hn] at q;cases q
 have fr:Fr0 X e:=⟨ns,λ xs q=>no _ (un.tups e xs q),λ o u q=>no _ (un.frzs e o u q),λ ps q=>let ⟨_,z⟩:=un.tbls e ps q;no _ z⟩;refine ⟨fr,hn,o0,xo,⟨I.ok.mod,I.ok.kind,I.ok.glob,I.ok.blt,I.ok.above,I.ok.inj,I.ok.has,I.ok.cab,λ h=>(by cases h),I.ok.frames,I.ok.stk,I.ok.exf,λ b o q=>⟨(I.ok.bs b o q).1,?_⟩,I.ok.bsz,I.ok.noex,I.ok.exfs,I.ok.jh,λ b hb=>?_⟩,I.os,I.bare,?_,⟨m,up.ns hm',λ i x v h1 h2 h3=>?_⟩,λ x c h=>?_,?_,λ x c h=>?_,λ p hp=>?_,λ b u q=>?_,I.len⟩
 ·show upd X.H₀ e _ b=none;rw [aL (λ z=>ns o (by rw [<- z];exact (I.ok.bs b o q).1))];exact (I.ok.bs b o q).2
 ·show upd X.H₀ e _ b=none;obtain ⟨_,o2,q2,d2⟩:=I.ok.jh.mem hb;rw [aL (λ z=>ns o2 (by rw [<- z];exact q2))];exact I.ok.frf b hb
 ·have h0:∀ b o,X.s₀.heap.get? b=some o->upd X.H₀ e (.frz o0 xu) b=none->X.H₀ b=none:=λ b o q n=>by
   rwa [aL (λ z=>ns o (by rw [<- z];exact q))] at n
  refine ⟨λ b o q n h _=>un.keep b o q (h0 b o q n) h (by simp),λ b o q n h _=>un.slot b o q (h0 b o q n) h (by simp),λ b o q n _=>?_,λ b o q _=>un.there b o q (by simp),λ b xs q=>?_,λ b o u q=>?_,λ b ps q=>?_⟩
  ·rw [aL (λ z=>ns o (by rw [<- z];exact q))];exact un.free b o q (h0 b o q n) (by simp)
  ·have q:upd X.H₀ e (.frz o0 xu) b=some (.tup xs):=q;by_cases hb:b=e
   ·rw [hb,bM] at q;cases q
   ·rw [aL hb] at q ⊢;exact un.tups b xs q
  ·have q:upd X.H₀ e (.frz o0 xu) b=some (.frz o u):=q;by_cases hb:b=e
   ·rw [hb,bM] at q ⊢;exact q
   ·rw [aL hb] at q ⊢;exact un.frzs b o u q
  ·have q:upd X.H₀ e (.frz o0 xu) b=some (.tbl ps):=q;by_cases hb:b=e
   ·rw [hb,bM] at q;cases q
   ·rw [aL hb] at q ⊢;exact un.tbls b ps q
 ·obtain ⟨u,r,lk⟩:=hl i x v h1 h2 h3;refine ⟨u,r,?_⟩
  rcases lk with ⟨k,z⟩ | ⟨k,c,z,y⟩
  ·exact .inl ⟨k,z⟩
  ·exact .inr ⟨k,c,z,cel c _ y⟩
 ·obtain ⟨v,z⟩:=I.cell x c h;exact ⟨v,cel c v z⟩
 ·show upd H e _ X.env.locals=none;rw [aL lne];exact I.free
 ·obtain ⟨v,oc,q,d⟩:=I.cell x c h;rw [aL (hs0 c oc q λ vs y=>by rw [d] at y;cases y)];exact I.freeC x c h
 ·have hp:p∈pn':=by
   have hp:p∈pn'++[]:=hp
   rwa [append_nil] at hp
  obtain ⟨q,n,n1,n2,d⟩:=I.pin p (mem_append_left _ hp);obtain ⟨o',z⟩:=c3 p hp;have z1:=k1 _ _ z;rw [q] at z1;have z1:p.2=o':=Option.some.inj z1;refine ⟨by rw [z1];exact F.1 _ _ z,?_,n1,n2,d⟩;rw [aL (λ y=>by rw [y,F.2.1] at z;cases z)];exact n
 ·by_cases hb:b=e
  ·subst hb;rw [bM] at q;cases q;exact ⟨g1,trivial,⟨o0,g1⟩,λ _ _ _ _=>trivial⟩
  ·rw [aL hb] at q;exact (hok b u q).stay (λ _ _ _ z=>z) (λ c z=>by rw [aL (a_ z hn)];exact z) λ c xs z=>by rw [aL (a_ z hn)];exact z
end
section
variable {X:Cx} {pins:List (Addr×Obj)} {σ:L2.St} {H:Hp} {s:Shared}
theorem Cf {M:Model}{A:Around}{E:Value->Shared->Prop}{i:Nat}{n:Str}{v:V}{Q:Unit->Shared->Prop}(I:Inv X pins σ H s)(hN:X.N.Nodup)(hi:X.N[i]?=some n)(hlo:X.env.scope.names.lookup n=some .local)(hv:σ[i]?=some (some v))
  (h:∀ s',Inv X pins (σ.set i none) H s'->Q () s'):wpAny M A (unbindName X.env n) Q E s:=by
 obtain ⟨m,hn,hl⟩:=id I.loc;obtain ⟨u,r,lk⟩:=hl i n v hi hv (.inl hlo);have hm:m n=some u:=by
  rcases lk with ⟨_,z⟩ | ⟨k,_⟩
  ·exact z
  ·exfalso;have hk:X.env.kindOf n=some .local:=hlo
   rcases k with k | k <;> (rw [hk] at k;cases k)
 have hcl:(X.env.scope.kind == .class || (X.env.scope.kind == .module && X.env.locals != X.env.globals))=false:=by rw [I.ok.kind];rfl
 refine wpAny_unbindName_local hlo hn hm hcl λ h' u' hn' hs=>?_;have far:∀ b o,X.s₀.heap.get? b=some o->h'.get? b=s.heap.get? b:=λ b o q=>hs.2 b (ne_of_lt (lt_of_lt_of_le (lt_size q) I.ok.above));obtain ⟨oL,_,_,hoL,_⟩:=id hn;refine h _ ⟨I.ok,I.os,I.bare,⟨λ b o q a1 a2 a3=>(far b o q).trans (I.base.keep b o q a1 a2 a3),λ b o q a1 a2 a3=>?_,I.base.free,λ b o q a3=>?_,I.base.tups,I.base.frzs,I.base.tbls⟩,⟨_,hn',λ j y v' e1 e2 e3=>?_⟩,λ y c q=>?_,I.free,I.freeC,λ p hp=>?_,λ b ob q=>?_,by rw [length_set];exact I.len⟩
 ·obtain ⟨sl,z⟩:=I.base.slot b o q a1 a2 a3;exact ⟨sl,(far b o q).trans z⟩
 ·obtain ⟨o',z⟩:=I.base.there b o q a3;exact ⟨o',(far b o q).trans z⟩
 ·by_cases hj:j=i
  ·subst hj;have:j < σ.length:=(List.getElem?_eq_some_iff.mp hv).1;rw [getElem?_set_self this] at e2
   cases e2
  ·rw [getElem?_set_ne (Ne.symm hj)] at e2;obtain ⟨w,r',q⟩:=hl j y v' e1 e2 e3;refine ⟨w,r',?_⟩
   rcases q with ⟨k,z⟩ | ⟨k,c,z,y'⟩
   ·have:y≠n:=λ z=>hj (qk hN e1 (z ▸ hi));exact .inl ⟨k,by simp [this,z]⟩
   ·exact .inr ⟨k,c,z,y'.sameBut hs (I.IL y c z)⟩
 ·obtain ⟨w,z⟩:=I.cell y c q;exact ⟨w,z.sameBut hs (I.IL y c q)⟩
 ·obtain ⟨z,n0,ne,nf,d⟩:=I.pin p hp;exact ⟨(hs.2 p.1 ne).trans z,n0,ne,nf,d⟩
 ·refine (I.hok b ob q).stay (λ c w hc z=>(hs.2 c ?_).trans z) (λ _ z=>z) λ _ _ z=>z;intro y
  rcases hc with hc | hc
  ·rw [<- hc,y,I.free] at q;cases q
  ·rw [y,I.free] at hc;cases hc
theorem Inv.qX (I:Inv X pins σ H s)(xe':Value->Shared->Prop):Inv (X.qX (X.pn++pins) xe') [] σ H s:=
 ⟨⟨I.ok.mod,I.ok.kind,I.ok.glob,I.ok.blt,I.ok.above,I.ok.inj,I.ok.has,I.ok.cab,I.ok.hd,I.ok.frames,I.ok.stk,I.ok.exf,I.ok.bs,I.ok.bsz,I.ok.noex,I.ok.exfs,I.ok.jh,I.ok.frf⟩,I.os,I.bare,I.base,I.loc,I.cell,I.free,I.freeC,λ p hp=>I.pin p (by
  have hp:p∈(X.pn++pins)++[]:=hp
  rwa [append_nil] at hp),I.hok,I.len⟩
theorem Inv.zw {xe':Value->Shared->Prop}{pins':List (Addr×Obj)}(I:Inv (X.qX (X.pn++pins) xe') pins' σ H s):Inv X pins σ H s:=
 ⟨⟨I.ok.mod,I.ok.kind,I.ok.glob,I.ok.blt,I.ok.above,I.ok.inj,I.ok.has,I.ok.cab,I.ok.hd,I.ok.frames,I.ok.stk,I.ok.exf,I.ok.bs,I.ok.bsz,I.ok.noex,I.ok.exfs,I.ok.jh,I.ok.frf⟩,I.os,I.bare,I.base,I.loc,I.cell,I.free,I.freeC,λ p hp=>I.pin p (mem_append_left _ hp),I.hok,I.len⟩
theorem Inv.Lq {e:Addr}{oe:Obj}{pins':List (Addr×Obj)}(I:Inv (X.hand (X.pn++pins) e oe) pins' σ H s)(ok:X.Ok)(f0:Fr0 X e):Inv X pins σ H s:=
 have h0:∀ b o,X.s₀.heap.get? b=some o->X.H₀ b=none->upd X.H₀ e (.frz oe xu) b=none:=λ b o q n=>by
  rw [aL (λ z=>f0.no o (by rw [<- z];exact q))];exact n
 ⟨ok,I.os,I.bare,⟨λ b o q n=>I.base.keep b o q (h0 b o q n),λ b o q n=>I.base.slot b o q (h0 b o q n),λ b o q n=>I.base.free b o q (h0 b o q n),I.base.there,λ b xs q=>I.base.tups b xs (show upd X.H₀ e (.frz oe xu) b=_ by rw [aL (λ z=>f0.tup xs (by rw [<- z];exact q))];exact q),λ b o u q=>I.base.frzs b o u (show upd X.H₀ e (.frz oe xu) b=_ by rw [aL (λ z=>f0.frz o u (by rw [<- z];exact q))];exact q),λ b ps q=>I.base.tbls b ps (show upd X.H₀ e (.frz oe xu) b=_ by rw [aL (λ z=>f0.tbl ps (by rw [<- z];exact q))];exact q)⟩,I.loc,I.cell,I.free,I.freeC,λ p hp=>I.pin p (mem_append_left _ hp),I.hok,I.len⟩
end
section
variable {M:Model} {A:Around} {E:Value->Shared->Prop} {h:Heap} {g:Array GenState} {d:Drawn} {t:Nat} {os:OsState} {C N D N':Addr} {nm q nm' q':Str} {bs bm bs' bm':List Value} {hdct hdct':Bool} {sn sn':List Str} {sub sub':List Value} {ab ab':Bool} {col col':Option Bool} {dd dd':Option Addr} {k0 k1 k2 k3 k5 k0' k1' k2' k3' k5':Option Value} {newId newId':String}
theorem rB {e:Addr}{oe:Obj}{Q:Bool->Shared->Prop}(hC:h.get? C=some (excClassObj nm q C N bs bm hdct sn sub ab col dd k0 k1 k2 k3 k5 newId))(hD:h.get? D=some (excClassObj nm' q' D N' bs' bm' hdct' sn' sub' ab' col' dd' k0' k1' k2' k3' k5' newId'))
  (he:h.get? e=some oe) (hcls:oe.cls=.ref C) (hbase:bm'.contains (.type "BaseException")=true) (hq:Q ((Value.ref C::bm).contains (.ref D)) ⟨h,g,d,t,os⟩):wpAny M A (excMatches (.ref e) (.ref D)) Q E ⟨h,g,d,t,os⟩:=by
 have hcB:(Value.ref D::bm').contains (.type "BaseException")=true:=by rw [List.contains_cons,hbase,Bool.or_true]
 have f:=tc_notTuple;unfold excMatches
 repeat (first | (with_reducible refine wpAny_loadPart_at he ?_;rw [hcls]) | with_reducible refine wpAny_loadPart_at hD ?_ | (with_reducible refine wpAny_isSubtype_exc hD ?_;rw [hcB]) | with_reducible refine wpAny_isSubtype_exc hC ?_ | wp_step)
 cases hb:(Value.ref C::bm).contains (.ref D) <;> (rw [hb] at hq;wp_walk;exact hq)
end
noncomputable def mroIn (K:PySem.W.Frag)(C:Addr):Option (List Value):=match K.lookup C with
 | some ⟨.type "type",_,.cls cd,sl⟩=>(match cd.mro,sl.toList with
  | .ref C'::bm,[_,_,_,_,some (.builtin _),_]=>if C'=C/\cd.hasDel=false then some bm else none
  | _,_=>none)
 | _=>none
structure ClsAt (h:Heap)(C:Addr)(bm:List Value):Prop where
 ex:∃ nm q N bs hdct sn sub ab col dd k0 k1 k2 k3 k5 newId,h.get? C=some (excClassObj nm q C N bs bm hdct sn sub ab col dd k0 k1 k2 k3 k5 newId)
theorem CQ {K:PySem.W.Frag}{h:Heap}{C:Addr}{bm:List Value}(X:K.In h)(e:mroIn K C=some bm):ClsAt h C bm:=by
 unfold mroIn at e;split at e
 ·rename_i dd cd sl ho;split at e
  ·rename_i C' bm' k0 k1 k2 k3 n k5 hm hs;split at e
   ·rename_i hc
    cases e
    obtain ⟨rfl,hdel⟩:=hc;obtain ⟨nm,bs,mro,ns,qn,hd,sn,sub,ab,col,del⟩:=cd;dsimp only at hm hdel;subst hm hdel;have hsl:sl=#[k0,k1,k2,k3,some (.builtin n),k5]:=by
     obtain ⟨l⟩:=sl;simp only at hs;rw [hs]
    subst hsl;exact ⟨nm,qn,ns,bs,hd,sn,sub,ab,col,dd,k0,k1,k2,k3,k5,n,X _ _ ho⟩
   ·cases e
  ·cases e
 ·cases e
noncomputable def O7 (i:Nat)(D:Ends):Ends:=⟨λ σ H=>D.nx (σ.set i none) H,D.rt,λ σ H=>D.bk (σ.set i none) H,λ σ H=>D.ct (σ.set i none) H⟩
section
variable {X:Cx} {pins pins':List (Addr×Obj)} {xe':Value->Shared->Prop} {σ:L2.St} {H:Hp} {s':Shared} {e C Dc:Addr} {bm bmD:List Value} {x n:Str} {i:Nat} {De:Ends} {b0:Stmt} {suite:List Stmt} {np hp:Pos}
theorem vc {f:Flow}{s2:Shared}{pos:Pos}(hN:X.N.Nodup)(hi:X.N[i]?=some n)(hlo:X.env.scope.names.lookup n=some .local){oe:Obj}(ok:X.Ok)(f0:Fr0 X e)(h:SP (X.hand (X.pn++pins) e oe) [] (O7 i De) f s2) :
  wpAny (model X.prog X.w) X.A (do bindName X.env n .none;unbindBehindTheSuite X.env n pos) (λ _ s3=>SP X pins De f s3) X.xe s2:=by
 have hl:∀ {σ':L2.St} {H':Hp},Inv (X.hand (X.pn++pins) e oe) [] σ' H' s2->(∀ s3,Inv X pins (σ'.set i none) H' s3->SP X pins De f s3)->wpAny (model X.prog X.w) X.A (do bindName X.env n .none;unbindBehindTheSuite X.env n pos) (λ _ s3=>SP X pins De f s3) X.xe s2:=λ {σ' H'} J k=>by
  have J:=J.Lq ok f0;have hiσ:i < σ'.length:=by rw [J.len];exact (List.getElem?_eq_some_iff.mp hi).1
  refine wpAny_bind (wpAny_bindName (m5 (v:=.non) J hN hi (.inl hlo) rfl (λ s3 J3=>?_) (.inr hlo)));unfold unbindBehindTheSuite;refine wpAny_onRaise (Cf (v:=.non) J3 hN hi hlo (getElem?_set_self hiσ) λ s4 J4=>k s4 ?_)
  rwa [List.set_set] at J4
 cases f with
 | next=>obtain ⟨σ',H',J,q⟩:=h;exact hl J λ s3 J3=>⟨_,_,J3,q⟩
 | brk=>obtain ⟨σ',H',J,q⟩:=h;exact hl J λ s3 J3=>⟨_,_,J3,q⟩
 | cont=>obtain ⟨σ',H',J,q⟩:=h;exact hl J λ s3 J3=>⟨_,_,J3,q⟩
 | ret u=>obtain ⟨v,σ',H',J,r,q⟩:=h;exact hl J λ s3 J3=>⟨v,_,_,J3,r,q⟩
theorem Di (hst:X.stack=X.env::X.outer)(hf:X.env.frame=some X.env.locals)(hex:X.ex=[])(hN:X.N.Nodup)(hi:X.N[i]?=some n)(hlo:X.env.scope.names.lookup n=some .local)(hg:Gl X x)(hm:X.mg x=some (.ref Dc))(mD:mroIn X.K Dc=some bmD)(hbD:bmD.contains (.type "BaseException")=true)
  (I:Inv (X.qX (X.pn++pins) xe') pins' σ H s') (R:qE (X.qX (X.pn++pins) xe') H e (.ref C) s') (mC:mroIn X.K C=some bm) (hCD:(Value.ref C::bm).contains (.ref Dc)=true)
  (k:∀ oe s6,XO C oe->H e=none->Inv (X.hand (X.pn++pins) e oe) [] (σ.set i (some (.ref e))) (upd H e (.frz oe xu)) s6->wpAny (model X.prog X.w) (X.A.mark (some (.ref e))) (execs (b0::suite) X.env) (SP (X.hand (X.pn++pins) e oe) [] (O7 i De)) (λ _ _=>False) s6)
  (ok:X.Ok) (hdb:(x == ("__debug__" : Str))=false) :
  wpAny (model X.prog X.w) X.A (noteFrame (.ref e) X.env) (λ _ s2=>wpAny (model X.prog X.w) X.A (setFlight (.ref e) none) (λ _ s3=>wpAny (model X.prog X.w) X.A (handleBy (.ref e) X.env [.ExceptHandler (some (.Name x np)) (some n) (b0::suite) hp]) (SP X pins De) X.xe s3) X.xe s2) X.xe s':=by
 refine B9 I hst hf R λ h4 B a0 held k1 up4 c1 c2 c3 z4=>?_;refine wpAny_mono (bg.any (e:=e) (bg.flight _ _) (wpAny_landsW (Q:=λ _ s''=>∃ h',s''={ s' with heap:=h' }/\Heap.FlyingW B (X.env::X.outer) e (.ref C) a0 h'/\h4.UpToSlots h') (E:=λ _ _=>False) held λ h' y1 y2=>⟨h',rfl,y1,y2⟩) z4) (λ _ s'' z=>?_) λ _ _ z=>z.1.elim;obtain ⟨⟨h5,rfl,F5,up5⟩,z5⟩:=z;obtain ⟨_,_,o5,x5,I5⟩:=rT I hex F5 k1 (up4.trans up5) c1 c2 c3 z5;refine wpAny_handleBy_cons (codeAny_handlers_test (lR (X:=X.hand (X.pn++pins) e o5) I5 hg hm ?_ hdb)) (by intro q;cases q);obtain ⟨g1,_⟩:=I5.hok e _ bM;obtain ⟨_,_,_,_,_,_,_,_,_,_,_,_,_,_,_,_,hC⟩:=(CQ I5.qP mC).ex;obtain ⟨_,_,_,_,_,_,_,_,_,_,_,_,_,_,_,_,hD⟩:=(CQ I5.qP mD).ex;refine rB hC hD g1 x5.cls hbD ?_;rw [hCD];refine codeAny_handlers_suite_as ?_;refine wpAny_mono (bg.any (e:=e) (bg.flight _ _) (lands_againW (Q:=λ _ s''=>∃ h',s''={ s' with heap:=h' }/\Heap.FlyingW B (X.env::X.outer) e (.ref C) a0 h'/\h5.UpToSlots h') (E:=λ _ _=>False) F5 λ h' y1 y2=>⟨h',rfl,y1,y2⟩) z5) (λ _ s'' z=>?_) λ _ _ z=>z.1.elim;obtain ⟨⟨h6,rfl,F6,up6⟩,z6⟩:=z;obtain ⟨f0,n6,o6,x6,I6⟩:=rT I hex F6 k1 ((up4.trans up5).trans up6) c1 c2 c3 z6;refine m5 (X:=X.hand (X.pn++pins) e o6) (v:=.ref e) I6 hN hi (.inl hlo) rfl (λ s7 I7=>?_) (.inr hlo);exact wpAny_mono (k o6 s7 x6 n6 I7) (λ f s8 h8=>vc hN hi hlo ok f0 h8) λ _ _ z=>z.elim
end
open PySem.W in
structure XCls (K:PySem.W.Frag)(C:Addr):Prop where
 ga:findIn K (.ref C) "__getattribute__" = some (some (.builtin "BaseException.__getattribute__"))
 gt:findIn K (.ref C) "__getattr__" = some none
 fc:findObj K C none "__class__" = some (.bind (.builtin "getset_descriptor.__get__") (.builtin "object.__class__"))
 ob:PySem.W.mroIn K C (.type "object")=some true
 bs:subIn K (.ref C) (.type "BaseException")=some true
section
open PySem.W
variable {K:PySem.W.Frag} {C a:Addr} {ox:Obj} {prog:Program} {w:World} {A:Around} {E:Value->Shared->Prop} {h:Heap} {g:Array GenState} {d:Drawn} {t:Nat} {os:OsState}
theorem DE {tk:Tok}{Q:Fin->Shared->Prop}(x:XCls K C)(X:K.In h)(I:PySem.W.InstAt h a ox C none)(hq:Q (.done (.ret (.ref C))) ⟨h,g,d,t,os⟩) :
  wpAny (model prog w) A (Builtin.«object.__getattribute__» ⟨[.ref a,.str "__class__" tk],[]⟩) Q E ⟨h,g,d,t,os⟩:=by
 have L0:=I.type (M:=model prog w);have L1:=looks_find (M:=model prog w) X I x.fc;unfold Builtin.«object.__getattribute__»
 repeat (first | with_reducible refine wpAny_bind (wpAny_call ?_) | with_reducible refine wpAny_call ?_ | lk)
 refine class_get X I x.ob ?_
 repeat lk
 exact hq
theorem C7 {M:Model}{nv:Value}{Q:Unit->Shared->Prop}(x:XCls K C)(X:K.In h)(I:PySem.W.InstAt h a ox C none)(hq:Q () ⟨h,g,d,t,os⟩):wpAny M A (checkBuiltinCall "BaseException.__getattribute__" ⟨[.ref a,nv],[]⟩) Q E ⟨h,g,d,t,os⟩:=by
 have hk:builtinKind "BaseException.__getattribute__" = some .slot:=by decide +kernel
 have hs:splitId "BaseException.__getattribute__" = some ("BaseException", "__getattribute__"):=by decide +kernel
 have LI:Looks M h (isInstance (.ref a) (.type "BaseException")) true:=(I.type (M:=M)).andThen (looks_subIn X x.bs);have hA:=F.args_bexc_ga (.ref a) nv;simp only [checkBuiltinCall,hk,hs];refine wpAny_bind (LI.at ?_);show wpAny M A (match Manifest.signature? "BaseException.__getattribute__" with
  | some sig=>Bind.checkArgs "BaseException.__getattribute__" sig { pos:=[Value.ref a,nv] }
  | x=>pure ()) Q E _
 cases hsig:Manifest.signature? "BaseException.__getattribute__" with
 | none=>exact wpAny_pure hq
 | some sig=>
  simp only [argsOk,hsig] at hA;have h2:Bind.checkArgs "BaseException.__getattribute__" sig ⟨[.ref a,nv],[]⟩=pure ():=hA;show wpAny M A (Bind.checkArgs "BaseException.__getattribute__" sig ⟨[.ref a,nv],[]⟩) Q E _;rw [h2];exact wpAny_pure hq
theorem IU (self:Value):bindSpecial (.builtin "BaseException.__getattribute__") self=pure (.builtin "BaseException.__getattribute__",[self]):=by
 have h1:withoutEnding? "BaseException.__getattribute__" "#opaque" = none:=by decide +kernel
 have h2:withoutEnding? "BaseException.__getattribute__" "#data" = none:=by decide +kernel
 have hk:builtinKind "BaseException.__getattribute__" = some .slot:=by decide +kernel
 simp only [bindSpecial,typeOf,builtinType,h1,h2,hk];rfl
theorem Oz {tk:Tok}{Q:Value->Shared->Prop}(x:XCls K C)(X:K.In h)(I:PySem.W.InstAt h a ox C none)(hq:Q (.ref C) ⟨h,g,d,t,os⟩):wpAny (model prog w) A (getAttrBy (.ref a) (.str "__class__" tk) false) Q E ⟨h,g,d,t,os⟩:=by
 have L0:=I.type (M:=model prog w);have L1:=looks_findIn (M:=model prog w) X x.ga;have L2:=looks_findIn (M:=model prog w) X x.gt;unfold getAttrBy;refine wpAny_holding (wpAny_bind (L0.at (wpAny_bind (L1.at ?_))));show wpAny _ _ (if (onTheHeap (Value.ref C) && Value.builtin "BaseException.__getattribute__" == Value.builtin "object.__getattribute__")=true then _ else getAttrByItsOwn (.ref a) (.str "__class__" tk) (.ref C) (.builtin "BaseException.__getattribute__") false false) _ _ _;have ne:(Value.builtin "BaseException.__getattribute__" == Value.builtin "object.__getattribute__")=false:=by decide +kernel
 rw [ne,Bool.and_false,if_neg Bool.false_ne_true];unfold getAttrByItsOwn hookBefore;rw [if_pos (show onTheHeap (Value.ref C)=true from rfl)];refine wpAny_bind (L2.at (wpAny_bind (wpAny_attempt (wpAny_holding ?_))));unfold callGetattribute boundAndCalled;show wpAny _ _ (bindSpecial (.builtin "BaseException.__getattribute__") (.ref a) >>= λ x=>call x.1 (x.2++[.str "__class__" tk])) _ _ _;rw [IU,pure_bind];refine wpAny_call (codeAny_call_builtin (by decide +kernel) F.entry_bexc_ga (C7 x X I (DE x X I ?_)));exact wpAny_pure hq
theorem Dm {Q:Option Value->Shared->Prop}(x:XCls K C)(X:K.In h)(I:PySem.W.InstAt h a ox C none)(hq:Q (some (.ref C)) ⟨h,g,d,t+1,os⟩):wpAny (model prog w) A (getAttr? (.ref a) "__class__") Q E ⟨h,g,d,t,os⟩:=by
 unfold getAttr? getAttrBy?;refine wpAny_bind (wpAny_mkText (wpAny_bind (wpAny_attempt (Oz x X I ?_))));exact wpAny_pure hq
noncomputable def QK (C a:Addr):Heap->Prop:=λ h=>∃ ox,PySem.W.InstAt h a ox C none
theorem CZ (x:XCls K C)(hc:(clsIn K C).isSome=true):KitX K (.ref a) (.ref C) (QK C a) where
 ty:=λ _ _ _ ⟨_,I⟩=>I.type
 it:=λ _ _ X _=>by
  unfold clsIn at hc;split at hc
  ·rename_i ho;intro A' Q' E' s' k q;unfold isType loadHead;exact wpAny_bind (wpAny_loadPart (k _ _ (X _ _ ho)) (wpAny_pure q))
  ·cases hc
 ne:=λ h tp dd its n sl X htp=>by
  refine Bool.eq_false_iff.mpr λ q=>?_;have e:C=tp:=Value.ref.inj (beq_iff_eq.mp q);subst e;unfold clsIn at hc;split at hc
  ·rename_i ho;have z:=(X _ _ ho).symm.trans htp
   cases z
  ·cases hc
 ca:=λ {_ _ _ _ _ s} X ⟨_,I⟩ k=>by
  obtain ⟨hh,gg,dd,tt,oo⟩:=s;exact Dm x X I k
end
section
variable {X:Cx} {C:Addr} {pins:List (Addr×Obj)} {σ:L2.St} {H:Hp} {s:Shared}
theorem xY {A:Around}{E:Value->Shared->Prop}{Q:Value->Shared->Prop}{a:Addr}{c:Value}{b:Bool}(x:XCls X.K C)(hc:(PySem.W.clsIn X.K C).isSome=true)(I:Inv X pins σ H s){oe:Obj}(ha:H a=some (.frz oe xu))(hx:XO C oe)(e:PySem.W.kitOne X.K (.ref C) c=some b)(h:∀ tk,Q (.bool b) { s with toks:=tk }) :
  wpAny (model X.prog X.w) A (call (.builtin "isinstance") [.ref a,c]) Q E s:=by
 obtain ⟨g1,_⟩:=I.hok a _ ha;obtain ⟨g2,g5,vs,g3,g4⟩:=hx;refine PySem.W.kia_one (CZ x hc) I.qP ⟨oe,g1,g2,?_,?_⟩ e (λ z=>nomatch z) h
 ·unfold PySem.W.notCls;rw [g3]
 ·rw [g5];trivial
end
end L2
namespace L2
open PySem PySem.Spec PyProof.Rows
theorem qZ:entryFor table "proto.unchain" = some Builtin.«proto.unchain»:=entryFor_of_fast (by kernel_rfl)
section
variable {prog:Program} {w:World} {A:Around} {E:Value->Shared->Prop} {s:Shared} {e n:Addr} {oe on:Obj} {vs ns:Array Value}
theorem x_ {α:Type}{Q:α->Shared->Prop}(hh:A.handled=some (.ref e))(he:s.heap.get? e=some oe)(hd:oe.data=.fields vs)(h2:vs[2]?=some .none)(hn:s.heap.get? n=some on)(nd:on.data=.fields ns)(n2:2 < ns.size)(ne:e≠n)
  (h:E (.ref n) { s with heap:=s.heap.update n (Obj.mapFields (·.setIfInBounds 2 (.ref e))) }):wpAny (model prog w) A (raiseNew (.ref n):Sem α) Q E s:=by
 unfold raiseNew;refine wpAny_bind (wpAny_handled ?_);rw [hh];show wpAny _ _ (if (Value.ref e != Value.ref n)=true then _ else _) _ _ _;rw [if_pos (by simp [ne])];refine wpAny_bind (wpAny_holding (wpAny_runValue (codeAny_builtin qZ ?_)));unfold Builtin.«proto.unchain»;refine wpAny_bind (wpAny_field he hd h2 ?_);rw [if_pos (show (Value.none == Value.none)=true from rfl)];refine wpAny_pure ?_;show wpAny _ _ (setField (.ref n) 2 (.ref e) >>= λ _=>throw (.ref n)) _ _ _;exact wpAny_bind (wpAny_setField hn nd n2 (wpAny_throw h))
theorem xN {it l:Addr}{i:Nat}{items:Array Value}{Q:Option Value->Shared->Prop}(hh:A.handled=some (.ref e))(he:s.heap.get? e=some oe)(hd:oe.data=.fields vs)(h2:vs[2]?=some .none)(nit:e≠it)
  (hit:s.heap.IsListIter it l i) (hl:s.heap.IsList l items) (hx:items[i]?=none) (hQ:∀ h',Heap.ExtBut it s.heap h'->Q none { s with heap:=h' }):wpAny (model prog w) A (pyNext (.ref it)) Q E s:=by
 obtain ⟨o,ho,hc,ho2⟩:=id hit;obtain ⟨ol,hol,_,nl,hdl⟩:=hl;unfold pyNext;refine wpAny_bind (wpAny_attempt (wpAny_callSpecial?_slot (name:=Str.ofString "__next__") hit.typeIs slot_listiter_next (wpAny_call_entry slot_listiter_next hit.typeIs entry_listiter_next ?_ (args_listiter_next _))));show wpAny _ _ (field (.ref it) 0 >>= _) _ _ _;refine wpAny_bind (wpAny_field ho ho2 (x:=.ref l) rfl ?_);show wpAny _ _ (if (Value.ref l == Value.none)=true then _ else _) _ _ _;rw [if_neg (show ¬ ((Value.ref l == Value.none)=true) from Bool.false_ne_true)];show wpAny _ _ (field (.ref it) 1 >>= _) _ _ _;refine wpAny_bind (wpAny_field ho ho2 (x:=.int i 0) rfl ?_);show wpAny _ _ (seqItems? (.ref l) >>= _) _ _ _;refine wpAny_bind (wpAny_seqItems hol hdl ?_);simp only [toNat_natCast,hx];refine wpAny_bind (wpAny_rule (wpAny_bind (wpAny_setField ho ho2 (by simp) ?_)));show wpAny _ _ (newExc (.type "StopIteration") [] >>= _) _ _ _;refine wpAny_bind ?_;simp only [newExc,newTuple];refine wpAny_bind (wpAny_newObj_type ?_ (by size_fits));refine wpAny_bind (m:=firstArgMember _ _) (wpAny_of_eq (a:=Value.none) (by first | rfl | (simp only [firstArgMember];rfl)) ?_);refine wpAny_newObj_type ?_ (by size_fits);have he1:∀ (f:Obj->Obj),(s.heap.update it f).get? e=some oe:=λ f=>by rw [get?_update_other _ _ (Ne.symm nit)];exact he
 have hlt:∀ (f:Obj->Obj) (o1:Obj),e≠((s.heap.update it f).push o1).objs.size:=λ f o1=>ne_of_lt (lt_size (get?_push_of_some _ (he1 f)));refine x_ (A:=A.in1) hh (get?_push_of_some _ (get?_push_of_some _ (he1 _))) hd h2 (get?_push_size _ rfl) rfl (by simp [ownMembersOf]) (hlt _ _) ?_;refine wpAny_bind (wpAny_isInstance (T := "StopIteration") (b:=true) ⟨_,get?_update_self _ (get?_push_size _ rfl) (Obj.isFreed_of_fields (Obj.data_mapFields rfl _)),Obj.cls_mapFields ..⟩ isSubtype_stop ?_);refine wpAny_pure (hQ _ λ b o' hb q=>?_);have q2:=((Heap.SameBut.update it (Obj.mapFields λ x=>x.setIfInBounds 0 Value.none) (h:=s.heap)).extBut.push { cls:=Value.type "tuple",data:=Data.seq #[] }) b o' hb q;rw [get?_update_other _ _ (Ne.symm (ne_of_lt (lt_size q2)))];exact get?_push_of_some _ q2
end
section
variable {X:Cx} {e C:Addr} {oe:Obj}
end
noncomputable def yf (A:Around):Around:={ A with handled:=none }
noncomputable def sG (k:Nat)(A:Around):Prop:=Room k (yf A)
theorem BP {j k:Nat}{A:Around}{h:Option Value}(r:Room j A)(hk:k<=j):sG k (A.mark h):=⟨rfl,(r.mono hk).dp,(r.mono hk).un⟩
structure Hnd (A:Around)(H:Hp)(e:Addr)(oe:Obj)(C:Addr):Prop where
 hh:A.handled=some (.ref e)
 h0:H e=some (.frz oe xu)
 xo:XO C oe
structure FnOkH (P:Program)(w:World)(K:PySem.W.Frag)(mg:Str->Option Value)(base:Heap)(k:Nat)(f:Addr)(fd:FuncData)(ps:List Str)(sp:Sp):Prop where
 len:∀ vs H Q E,sp vs H Q E->vs.length=ps.length
 run:∀ (A:Around) (outer:List Env) (s:Shared) (H:Hp) (args:Args) (us:List Value) (vs:List V) (Q:VK) (e:Addr) (oe:Obj) (C:Addr),sG k A->Hnd A H e oe C->Env0 P w K mg base A outer s H->BindsTo s fd args (ps.zip us)->Vals vs us->sp vs H Q E0 ->
  codeAny (model P w) A (.call (.ref f) args) (CR iS outer P w H s Q E0) s
noncomputable def OD (P:Program)(w:World)(K:PySem.W.Frag)(mg:Str->Option Value)(base:Heap)(N:List Str)(qual:Str)(scope:Scope)(f:Addr)(cd:Value)(A:Around)(outer:List Env)(s:Shared)(H:Hp):Cx:=
 { lX iS P w K mg base N qual scope f cd A outer s H E0 with calm:=false,xe:=λ _ _=>False }
theorem xr {P:Program}{w:World}{K:PySem.W.Frag}{mg:Str->Option Value}{base:Heap}{N:List Str}{qual:Str}{scope:Scope}{f:Addr}{cd:Value}{A:Around}{outer:List Env}{s s1:Shared}{H H':Hp}{σ:L2.St}{pins:List (Addr×Obj)}
  (I:Inv (lX iS P w K mg base N qual scope f cd (yf A) outer s H E0) pins σ H' s1):Inv (OD P w K mg base N qual scope f cd A outer s H) pins σ H' s1:=
 ⟨⟨I.ok.mod,I.ok.kind,I.ok.glob,I.ok.blt,I.ok.above,I.ok.inj,I.ok.has,I.ok.cab,λ h=>(by cases h),I.ok.frames,I.ok.stk,I.ok.exf,I.ok.bs,I.ok.bsz,I.ok.noex,I.ok.exfs,I.ok.jh,I.ok.frf⟩,I.os,I.bare,I.base,I.loc,I.cell,I.free,I.freeC,I.pin,I.hok,I.len⟩
theorem Me {P:Program}{w:World}{K:PySem.W.Frag}{mg:Str->Option Value}{base:Heap}{k:Nat}{x qual:Str}{st:Stmt}{f:Addr}{fd:FuncData}{N ps:List Str}{sp:Sp}(F:Fun K x qual st f fd)(S:FnScope N ps (az st))(len:∀ vs H Q E,sp vs H Q E->vs.length=ps.length)
  (hb:∀ (cdv:Value) (A:Around) (outer:List Env) (s:Shared) (H:Hp) (vs:List V) (Q:VK) (e:Addr) (oe:Obj) (C:Addr),sG k (A.deeper (envOfC qual (az st) s.heap.objs.size f cdv))->Hnd A H e oe C->sp vs H Q E0 ->
   ∃ t,qW (OD P w K mg base N qual (az st) f cdv A outer s H) (aQ st) t/\t { nx:=λ _ H'=>Q .non H',rt:=Q } (start N vs) H):FnOkH P w K mg base (k+1) f fd ps sp:=by
 obtain ⟨oc,od,kV,doc,pm,an,cdv,ct,osl,rfl,lk,hcd⟩:=F.ex;refine ⟨len,λ A outer s H args us vs Q e oe C hr hx e0 hbd r hsp=>?_⟩;have hl:=len _ _ _ _ hsp;have KX:K.In s.heap:=e0.mod.kin.keeps λ b o z=>(e0.bs b o z).1;have lim:s.heap.NoLimit:=e0.mod.nolimit.keeps λ b o z=>(e0.bs b o z).1;have kinds:∀ y∈ps.zip us,(az st).names.lookup y.1=some .local\/((az st).names.lookup y.1=some .cell/\((cellsFrom (s.heap.objs.size+1) (az st).names []).lookup y.1).isSome=true):=λ y hy=>
  (S.par y.1 (of_mem_zip hy).1).imp (λ q=>q) λ q=>⟨q,PySem.W.cellsFrom_some _ _ _ (.inl q)⟩
 refine codeAny_call_function (show A.depth < _ from hr.depth) (KX _ _ lk) rfl S.co S.gen rfl (PySem.W.codeRec_of KX hcd) (hbd _ _ _ _ ?_);refine wpAny_newFunctionEnv_cells S.kind kinds λ env he s1 xc=>?_;subst he;refine ⟨lim.keeps xc.toInCall.keep,codeAny_func ?_⟩;obtain ⟨t,ht,hq⟩:=hb cdv A outer s H vs Q e oe C (Room.deeper hr _) hx hsp;have e1:Env0 P w K mg base (yf A) outer s H:=⟨e0.frames,e0.mod,e0.bs,e0.bsz,e0.jh,e0.frf,e0.hok,e0.bare⟩;have I:=xr (sS (CX:=iS) (E:=E0) (qual:=qual) (f:=f) (cd:=cdv) S hr.hd e1 hl r xc);refine wpAny_mono (ht [] s1 (start N vs) H _ I hq) (λ fl s' hs=>?_) λ _ _ z=>z.elim;have fin:∀ {σ':L2.St} {H':Hp} {v:V} {u:Value},Inv (OD P w K mg base N qual (az st) f cdv A outer s H) [] σ' H' s'->RelV v u->Q v H'->CE outer P w H s Q u s':=λ {σ' H' v u} J rv q=>⟨v,H',J.os,J.bare,J.base,J.hok,rv,q⟩
 cases fl with
 | ret u=>obtain ⟨v,σ',H',J,rv,q⟩:=hs;exact fin J rv q
 | next=>obtain ⟨σ',H',J,q⟩:=hs;exact fin (v:=V.non) (u:=Value.none) J rfl q
 | brk=>obtain ⟨_,_,_,q⟩:=hs;exact q.elim
 | cont=>obtain ⟨_,_,_,q⟩:=hs;exact q.elim
noncomputable def Qm (P:Program)(w:World)(K:PySem.W.Frag)(mg:Str->Option Value)(base:Heap)(k:Nat)(x:Str)(ps:List Str)(sp:Sp):Prop:=
 ∃ (f:Addr) (fd:FuncData),FnOkH P w K mg base k f fd ps sp/\mg x=some (.ref f)/\PySem.W.keepIn K (.ref f)=true/\Binds K fd ps []
theorem MM {X:Cx}{k:Nat}{x:Str}{ps:List Str}{sp:Sp}{a:Expr}{es:List Expr}{t:TA}{p pos:Pos}{e C:Addr}{oe:Obj}(G:Qm X.prog X.w X.K X.mg X.base k x ps sp)(hr:sG k X.A)(hh:X.A.handled=some (.ref e))(h0:X.H₀ e=some (.frz oe xu))(xo:XO C oe)(ha:PA X (a::es) t)(hg:Gl X x:=by rfl)
  (hdb:(x == ("__debug__" : Str))=false:=by decide) (hs:starEach (a::es) X.env=(false,eval a X.env)::starEach es X.env:=by rfl) (hplain:(backTo pos (starEach es X.env)).any (·.1)=false:=by rfl) :
  PE X (.Call (.Name x p) (a::es) [] pos) (ER sp [] E0 t):=by
 obtain ⟨f,fd,F,hm,hk,hb⟩:=G;intro pins s σ H Q I h;refine wpAny_Call_Name_kw (lR I hg hm ?_ hdb);refine PySem.W.callWith_K (h₀:=X.base) I.ok.mod.kin hk (dP (ha pos pins s σ H _ I h) λ us s1 ⟨vs,H1,I1,r,q⟩=>⟨I1.qP,?_⟩) hs hplain;have q:sp (vs++[]) H1 Q E0:=q;rw [append_nil] at q;have hl:us.length=ps.length:=by rw [<- r.length];exact F.len _ _ _ _ q
 refine wpAny_call (codeAny_mono (F.run X.A X.stack s1 H1 ⟨us,[]⟩ us vs Q e oe C hr ⟨hh,I1.base.frzs e oe xu h0,xo⟩ I1.N5 (by have:=hb s1 us I1.qP (by rw [append_nil];exact hl);rwa [append_nil] at this) r q) λ r s' hq=>?_)
 cases r with
 | error e=>exact hq.elim
 | ok fl=>
  cases fl with
  | ret u=>exact I1.after hq
  | next=>exact hq.elim
  | brk=>exact hq.elim
  | cont=>exact hq.elim
end L2
namespace L2
open PySem PySem.Spec PyProof.Rows PySem.SeqAt
section
variable {X:Cx}
end
section
variable {X:Cx} {pos:Pos} {a b:Expr}
end
section
variable {X:Cx}
end
section
variable {prog:Program} {w:World} {A:Around} {E:Value->Shared->Prop} {s:Shared}
end
section
variable {prog:Program} {w:World} {A:Around} {E:Value->Shared->Prop} {s:Shared}
end
section
variable {X:Cx}
end
end L2
namespace L2
open PySem PySem.Spec PyProof.Rows
section
variable {X:Cx}
end
section
variable {X:Cx} {tg:Expr}
end
section
variable {prog:Program} {w:World} {A:Around} {E:Value->Shared->Prop} {s:Shared}
end
section
variable {X:Cx} {o e:Expr} {to:TE} {tl:TO} {p2 spos pos:Pos}
end
end L2
namespace Sx
open PySem PyProof.Rows
structure Ord where
 lt:Nat->Nat->Bool
 Gz:∀ i,lt i i=false
 tr:∀ i j k,lt i j=true->lt j k=true->lt i k=true
 neg:∀ i j k,lt i k=true->lt i j=true\/lt j k=true
noncomputable def P (o:Ord)(i j:Nat):Prop:=o.lt i j=true\/(o.lt j i=false/\i < j)
theorem Ord.PC (o:Ord){i j:Nat}(h:o.lt i j=true):o.lt j i=false:=by
 cases e:o.lt j i with
 | false=>rfl
 | true=>have:=o.tr _ _ _ h e;rw [o.Gz] at this;cases this
theorem P.Gz {o:Ord}{i:Nat}(h:P o i i):False:=by
 rcases h with h | ⟨_,h⟩
 ·rw [o.Gz] at h;cases h
 ·omega
theorem P.trans {o:Ord}{i j k:Nat}(a:P o i j)(b:P o j k):P o i k:=by
 rcases a with a | ⟨a,a'⟩
 ·rcases b with b | ⟨b,b'⟩
  ·exact .inl (o.tr _ _ _ a b)
  ·rcases o.neg i k j a with z | z
   ·exact .inl z
   ·rw [b] at z;cases z
 ·rcases b with b | ⟨b,b'⟩
  ·rcases o.neg j i k b with z | z
   ·rw [a] at z;cases z
   ·exact .inl z
  ·refine .inr ⟨?_,by omega⟩
   cases e:o.lt k i with
   | false=>rfl
   | true=>
    rcases o.neg k j i e with z | z
    ·rw [b] at z;cases z
    ·rw [a] at z;cases z
theorem P.of_lt {o:Ord}{i j:Nat}(h:o.lt i j=true):P o i j:=.inl h
theorem P.n9 {o:Ord}{i j:Nat}(h:o.lt j i=false)(hij:i < j):P o i j:=.inr ⟨h,hij⟩
theorem P.lt {o:Ord}{i j:Nat}(h:P o i j)(hij:j < i):o.lt i j=true:=by
 rcases h with h | ⟨_,h⟩
 ·exact h
 ·omega
theorem P.ge {o:Ord}{i j:Nat}(h:P o i j):o.lt j i=false:=by
 rcases h with h | ⟨h,_⟩
 ·exact o.PC h
 ·exact h
noncomputable def So (o:Ord)(g:Nat->Nat)(a b:Nat):Prop:=∀ i j,a<=i->i < j->j < b->P o (g i) (g j)
noncomputable def Cl (g:Nat->Nat)(a b:Nat):Prop:=∀ i,a<=i->i < b->a<=g i/\g i < b
noncomputable def rev (g:Nat->Nat)(i j:Nat):Nat->Nat:=λ k=>if i<=k/\k < j then g (i+j - 1 - k) else g k
noncomputable def mv (g:Nat->Nat)(src dst:Nat):Nat->Nat:=λ k=>if k=dst then g src else if dst < k/\k<=src then g (k - 1) else g k
theorem qx {g:Nat->Nat}{i j k:Nat}(h:i<=k)(h2:k < j):rev g i j k=g (i+j - 1 - k):=if_pos ⟨h,h2⟩
theorem gu {g:Nat->Nat}{i j k:Nat}(h:k < i\/j<=k):rev g i j k=g k:=if_neg (by omega)
theorem GK {g:Nat->Nat}{s d:Nat}:mv g s d d=g s:=if_pos rfl
theorem vp {g:Nat->Nat}{s d k:Nat}(h:d < k)(h2:k<=s):mv g s d k=g (k - 1):=by
 unfold mv;rw [if_neg (by omega),if_pos ⟨h,h2⟩]
theorem tR {g:Nat->Nat}{s d k:Nat}(hd:d<=s)(h:k < d\/s < k):mv g s d k=g k:=by
 unfold mv;rw [if_neg (by omega),if_neg (by omega)]
section
variable {prog:Program} {w:World} {A:Around} {E:Value->Shared->Prop} {s:Shared} {o:Ord} {N:Nat} {f:Nat->Keyed} {kd:SortKind} {g:Nat->Nat} {p:Array (Nat×Nat×Nat)} {st:SortSt}
noncomputable def rQ (prog:Program)(w:World)(A:Around)(s:Shared)(o:Ord)(N:Nat)(f:Nat->Keyed)(kd:SortKind):Prop:=
 ∀ i j,i < N->j < N->∀ (E':Value->Shared->Prop) (Q:Bool->Shared->Prop),Q (o.lt i j) s->wpAny (model prog w) A (keyLt' kd (f i).1 (f j).1) Q E' s
structure Sg (N:Nat)(f:Nat->Keyed)(kd:SortKind)(g:Nat->Nat)(p:Array (Nat×Nat×Nat))(st:SortSt):Prop where
 size:(arrOf st).size=N
 get:∀ i,i < N->(arrOf st)[i]?=some (f (g i))
 lt:∀ i,i < N->g i < N
 kind:kindOf st=kd
 failed:failedOf st=none
 pend:pendingOf st=p
theorem pO (C:rQ prog w A s o N f kd)(hk:kindOf st=kd){i j:Nat}(hi:i < N)(hj:j < N){Q:Option Bool->SortSt->Prop}(q:Q (some (o.lt i j)) st):wpS (model prog w) A E s (lt' (f i) (f j)) Q st:=by
 rw [lt'_eq];refine wpS_bind (wpS_get ?_);rw [hk];refine wpS_bind (wpS_lift (wpAny_attempt (C i j hi hj _ _ ⟨rfl,?_⟩)));exact wpS_pure q
theorem bu {xs:Array Keyed}{i:Nat}{x:Keyed}(e:xs[i]?=some x){Q:Keyed->SortSt->Prop}(q:Q x st):wpS (model prog w) A E s (elem' xs i) Q st:=by
 rw [elem'_eq,e];exact wpS_pure q
theorem lN (C:rQ prog w A s o N f kd)(h:Sg N f kd g p st){i j:Nat}(hi:i < N)(hj:j < N){Q:Option Bool->SortSt->Prop}(q:Q (some (o.lt (g i) (g j))) st):wpS (model prog w) A E s (ltAt' i j) Q st:=by
 rw [ltAt'_eq];refine wpS_bind (wpS_get ?_);show wpS _ _ _ _ (do let u <- elem' (arrOf st) i;let v <- elem' (arrOf st) j;lt' u v) Q st;exact wpS_bind (bu (h.get i hi) (wpS_bind (bu (h.get j hj) (pO C h.kind (h.lt i hi) (h.lt j hj) q))))
theorem Sg.arr (h:Sg N f kd g p st){xs:Array Keyed}{g':Nat->Nat}(hs:xs.size=N)(hg:∀ i,i < N->xs[i]?=some (f (g' i)))(hl:∀ i,i < N->g' i < N):Sg N f kd g' p (setArr st xs):=⟨hs,hg,hl,h.kind,h.failed,h.pend⟩
theorem oW (h:Sg N f kd g p st){i j:Nat}(hj:j<=N){Q:Unit->SortSt->Prop}(q:∀ st',Sg N f kd (rev g i j) p st'->Q () st'):wpS (model prog w) A E s (reverseSlice' i j) Q st:=by
 rw [reverseSlice'_eq];refine wpS_modify (q _ (h.arr (by rw [mirror_size];exact h.size) (λ k hk=>?_) λ k hk=>?_))
 ·rw [getElem?_mirror_all (by rw [h.size];exact hj)];unfold rev;by_cases c:i<=k/\k < j
  ·rw [if_pos c,if_pos c];exact h.get _ (by omega)
  ·rw [if_neg c,if_neg c];exact h.get _ hk
 ·unfold rev;by_cases c:i<=k/\k < j
  ·rw [if_pos c];exact h.lt _ (by omega)
  ·rw [if_neg c];exact h.lt _ hk
theorem LG (h:Sg N f kd g p st){a b:Nat}(ha:a < N)(hb:b<=a){Q:Unit->SortSt->Prop}(q:∀ st',Sg N f kd (mv g a b) p st'->Q () st'):wpS (model prog w) A E s (moveDown' a b) Q st:=by
 rw [moveDown'_eq];refine wpS_modify (q _ (h.arr (by rw [bubble_size];exact h.size) (λ k hk=>?_) λ k hk=>?_))
 ·rw [getElem?_bubble (by rw [h.size];exact ha) _ (by omega),show a - (a - b)=b by omega];unfold mv;by_cases c:k=b
  ·rw [if_pos c,if_pos c];exact h.get _ ha
  ·rw [if_neg c,if_neg c];by_cases c2:b < k/\k<=a
   ·rw [if_pos c2,if_pos c2];exact h.get _ (by omega)
   ·rw [if_neg c2,if_neg c2];exact h.get _ hk
 ·unfold mv;by_cases c:k=b
  ·rw [if_pos c];exact h.lt _ ha
  ·rw [if_neg c];by_cases c2:b < k/\k<=a
   ·rw [if_pos c2];exact h.lt _ (by omega)
   ·rw [if_neg c2];exact h.lt _ hk
structure Rn (o:Ord)(g0 g:Nat->Nat)(a b:Nat):Prop where
 out:∀ i,i < a\/b<=i->g i=g0 i
 cl:Cl g a b
 so:So o g a b
theorem KY {g0:Nat->Nat}{lo k l:Nat}(R:Rn o g0 g lo (lo+k))(hk:g (lo+k)=lo+k)(hl:l<=k)(h1:∀ i,i < l->P o (g (lo+i)) (lo+k))(h2:∀ i,l<=i->i < k->P o (lo+k) (g (lo+i))):Rn o g0 (mv g (lo+k) (lo+l)) lo (lo+(k+1)) where
 out i hi:=by rw [tR (by omega) (by omega)];exact R.out i (by omega)
 cl i a b:=by
  by_cases c:i=lo+l
  ·subst c;rw [GK,hk];omega
  ·by_cases c2:lo+l < i
   ·rw [vp c2 (by omega)];have:=R.cl (i - 1) (by omega) (by omega);omega
   ·rw [tR (by omega) (by omega)];have:=R.cl i (by omega) (by omega);omega
 so i j a b d:=by
  by_cases c:i=lo+l
  ·subst c;rw [GK,vp b (by omega),hk];have:=h2 (j - 1 - lo) (by omega) (by omega)
   rwa [show lo+(j - 1 - lo)=j - 1 by omega] at this
  ·by_cases c2:lo+l < i
   ·rw [vp c2 (by omega),vp (by omega) (by omega)];exact R.so _ _ (by omega) (by omega) (by omega)
   ·rw [tR (k:=i) (by omega) (by omega)];by_cases c3:j=lo+l
    ·subst c3;rw [GK,hk];have:=h1 (i - lo) (by omega)
     rwa [show lo+(i - lo)=i by omega] at this
    ·by_cases c4:lo+l < j
     ·rw [vp c4 (by omega)];exact R.so _ _ (by omega) (by omega) (by omega)
     ·rw [tR (by omega) (by omega)];exact R.so _ _ (by omega) (by omega) (by omega)
theorem Mm (C:rQ prog w A s o N f kd){g0:Nat->Nat}{lo n ok:Nat}(h:Sg N f kd g p st)(hn:lo+n<=N)(h1:1<=ok)(hok:ok<=n)(R:Rn o g0 g lo (lo+ok))(hid:∀ i,lo+ok<=i->i < lo+n->g0 i=i)
  {Q:Bool->SortSt->Prop} (q:∀ g' st',Sg N f kd g' p st'->Rn o g0 g' lo (lo+n)->Q true st'):wpS (model prog w) A E s (binarySort' lo n ok) Q st:=by
 rw [binarySort'_eq,show max ok 1=ok by omega];refine wpS_bind (wpS_mono (wpS_forRange (I:=λ k c st'=>c=(none,())/\∃ g',Sg N f kd g' p st'/\Rn o g0 g' lo (lo+min k n))
  (Q:=λ c st'=>c=(none,())/\∃ g',Sg N f kd g' p st'/\Rn o g0 g' lo (lo+n)) ?step ?fin ?init) ?post)
 case post=>
  rintro c st' ⟨rfl,g',h',R'⟩;exact wpS_pure (q g' st' h' R')
 case init=>exact ⟨rfl,g,h,by rw [show min ok n=ok by omega];exact R⟩
 case fin=>
  rintro c st' ⟨hc,g',h',R'⟩;exact ⟨hc,g',h',by rwa [show min (max ok n) n=n by omega] at R'⟩
 case step=>
  rintro k c st' hak hkn ⟨rfl,g',h',R'⟩;rw [show min k n=k by omega] at R';have gk:g' (lo+k)=lo+k:=by rw [R'.out _ (by omega)];exact hid _ (by omega) (by omega)
  refine wpS_bind (wpS_mono (wpS_forRange (I:=λ x c s2=>s2=st'/\∃ u v,c=(none,u,v)/\u<=v/\v<=k/\v - u<=k - x /\
    (∀ i,i < u->P o (g' (lo+i)) (lo+k))/\(∀ i,v<=i->i < k->P o (lo+k) (g' (lo+i))))
   (Q:=λ c s2=>s2=st'/\∃ u v,c=(none,u,v)/\u<=k /\
    (∀ i,i < u->P o (g' (lo+i)) (lo+k))/\(∀ i,u<=i->i < k->P o (lo+k) (g' (lo+i)))) ?istep ?ifin ?iinit) ?ipost)
  case iinit=>exact ⟨rfl,0,k,rfl,by omega,by omega,by omega,λ i hi=>by omega,λ i h1 h2=>by omega⟩
  case ifin=>
   rintro c s2 ⟨rfl,u,v,rfl,huv,hvk,hm,low,top⟩;have:u=v:=by omega
   subst this;exact ⟨rfl,u,u,rfl,hvk,low,top⟩
  case istep=>
   rintro x c s2 _ hxk ⟨rfl,u,v,rfl,huv,hvk,hm,low,top⟩;dsimp only;by_cases hge:u>=v
   ·rw [if_pos hge];have:u=v:=by omega
    subst this;exact wpS_pure ⟨rfl,u,u,rfl,hvk,low,top⟩
   ·rw [if_neg hge];have hmk:(u+v) / 2 < k:=by omega
    have gm:=R'.cl (lo+(u+v) / 2) (by omega) (by omega);refine wpS_bind (lN C h' (by omega) (by omega) ?_);rw [gk]
    cases hless:o.lt (lo+k) (g' (lo+(u+v) / 2))
    case true=>
     simp only [if_true];refine wpS_pure ⟨rfl,u,(u+v) / 2,rfl,by omega,by omega,by omega,low,λ i h1 h2=>?_⟩;by_cases c:i=(u+v) / 2
     ·subst c;exact .inl hless
     ·exact (P.of_lt hless).trans (R'.so _ _ (by omega) (by omega) (by omega))
    case false=>
     simp only [false_eq_true,if_false];refine wpS_pure ⟨rfl,(u+v) / 2+1,v,rfl,by omega,by omega,by omega,λ i h1=>?_,top⟩;have last:=P.n9 hless gm.2;by_cases c:i=(u+v) / 2
     ·subst c;exact last
     ·exact (R'.so _ _ (by omega) (by omega) (by omega)).trans last
  case ipost=>
   rintro c s2 ⟨rfl,u,v,rfl,huk,low,top⟩;dsimp only;refine wpS_bind (LG h' (by omega) (by omega) λ st3 h3=>?_);refine wpS_pure ⟨rfl,_,h3,?_⟩;rw [show min (k+1) n=k+1 by omega];exact KY R' gk huk low top
end
noncomputable abbrev As:=Option (Option Nat)×Nat
noncomputable abbrev Ds:=Option (Option Nat)×Nat×Nat
noncomputable def Ft (lo a nrem:Nat):StateT SortSt Sem As:=
 forIn [a:nrem] ((none,a):As) λ _ c=>do
  let x <- ltAt' (lo+c.2) (lo+c.2 - 1)
  match x with
  | some b=>if b=true then pure (ForInStep.done (none,c.2)) else pure (ForInStep.yield (none,c.2+1))
  | _=>pure (ForInStep.done (some none,c.2))
noncomputable def vU (lo n nrem:Nat):StateT SortSt Sem (Option Nat):=do
 reverseSlice' lo (lo+n)
 let c <- Ft lo n nrem
 match c.1 with
 | some r=>pure r
 | none=>pure (some c.2)
noncomputable def II (lo n nrem:Nat):StateT SortSt Sem Ds:=
 forIn [n:nrem] ((none,n,0):Ds) λ _ c=>do
  let x <- ltAt' (lo+c.2.1) (lo+c.2.1 - 1)
  match x with
  | some b=>
   if b=true then
    if c.2.2 > 0 then do
     reverseSlice' (lo+c.2.1 - (c.2.2+1)) (lo+c.2.1)
     pure (ForInStep.yield (none,c.2.1+1,0))
    else pure (ForInStep.yield (none,c.2.1+1,0))
   else do
    let x <- ltAt' (lo+c.2.1 - 1) (lo+c.2.1)
    match x with
    | some b=>
     if b=true then pure (ForInStep.done (none,c.2.1,c.2.2))
     else pure (ForInStep.yield (none,c.2.1+1,c.2.2+1))
    | _=>pure (ForInStep.done (some none,c.2.1,c.2.2))
  | _=>pure (ForInStep.done (some none,c.2.1,c.2.2))
noncomputable def DL (lo n nrem:Nat):StateT SortSt Sem (Option Nat):=do
 liftM (rule "list.sort.descending-run")
 let c <- II lo (n+1) nrem
 match c.1 with
 | some r=>pure r
 | none=>
  if c.2.2 > 0 then do
   reverseSlice' (lo+c.2.1 - (c.2.2+1)) (lo+c.2.1)
   vU lo c.2.1 nrem
  else vU lo c.2.1 nrem
theorem count_eq (lo nrem:Nat):countRun' lo nrem=(do
  let c <- Ft lo 1 nrem
  match c.1 with
  | some r=>pure r
  | none=>
   if (c.2 == nrem)=true then pure (some c.2)
   else if c.2 > 1 then do
    let x <- ltAt' lo (lo+c.2 - 1)
    match x with
    | some b=>if b=true then pure (some c.2) else do
      reverseSlice' lo (lo+c.2)
      DL lo c.2 nrem
    | _=>pure none
   else DL lo c.2 nrem):=by
 rw [countRun'_eq];dsimp only;unfold DL vU II Ft;congr 1
 funext c
 obtain ⟨r,n⟩:=c
 cases r with
 | some r=>rfl
 | none=>
  dsimp only;split
  ·rfl
  ·split
   ·congr 1
    funext x
    cases x with
    | none=>rfl
    | some b=>
     dsimp only;split
     ·rfl
     ·congr 1
      funext _r
      congr 1
      funext _u
      congr 1;congr 1
      funext s2
      obtain ⟨r2,n2,q2⟩:=s2
      cases r2 with
      | some r2=>rfl
      | none=>
       dsimp only;split
       ·congr 1
        funext _v
        congr 1
        funext _w
        congr 1
        funext s3
        obtain ⟨r3,n3⟩:=s3
        cases r3 <;> rfl
       ·congr 1
        funext _w
        congr 1
        funext s3
        obtain ⟨r3,n3⟩:=s3
        cases r3 <;> rfl
   ·congr 1
    funext _u
    congr 1;congr 1
    funext s2
    obtain ⟨r2,n2,q2⟩:=s2
    cases r2 with
    | some r2=>rfl
    | none=>
     dsimp only;split
     ·congr 1
      funext _v
      congr 1
      funext _w
      congr 1
      funext s3
      obtain ⟨r3,n3⟩:=s3
      cases r3 <;> rfl
     ·congr 1
      funext _w
      congr 1
      funext s3
      obtain ⟨r3,n3⟩:=s3
      cases r3 <;> rfl
section
variable {prog:Program} {w:World} {A:Around} {E:Value->Shared->Prop} {s:Shared} {o:Ord} {N:Nat} {f:Nat->Keyed} {kd:SortKind} {g g0:Nat->Nat} {p:Array (Nat×Nat×Nat)} {st:SortSt}
theorem Rn.snoc {a b:Nat}(R:Rn o g0 g a b)(hab:a < b)(hb:g b=b)(h:o.lt b (g (b - 1))=false):Rn o g0 g a (b+1) where
 out i hi:=R.out i (by omega)
 cl i h1 h2:=by
  by_cases c:i=b
  ·subst c;omega
  ·have:=R.cl i h1 (by omega);omega
 so i j h1 h2 h3:=by
  by_cases c:j=b
  ·subst c;rw [hb];have l:=R.cl (j - 1) (by omega) (by omega);have last:P o (g (j - 1)) j:=P.n9 h l.2;by_cases c2:i=j - 1
   ·subst c2;exact last
   ·exact (R.so i (j - 1) h1 (by omega) (by omega)).trans last
  ·exact R.so i j h1 h2 (by omega)
theorem Fx (C:rQ prog w A s o N f kd){lo a nrem:Nat}(h:Sg N f kd g p st)(hn:lo+nrem<=N)(h1:1<=a)(han:a<=nrem)(R:Rn o g0 g lo (lo+a))(hid:∀ i,lo+a<=i->i < lo+nrem->g0 i=i)
  {Q:As->SortSt->Prop} (q:∀ n,a<=n->n<=nrem->Rn o g0 g lo (lo+n)->(n=nrem\/o.lt (lo+n) (g (lo+n - 1))=true)->Q (none,n) st):wpS (model prog w) A E s (Ft lo a nrem) Q st:=by
 unfold Ft;refine wpS_forRange (I:=λ x c st'=>st'=st/\c=(none,x)/\Rn o g0 g lo (lo+x)) ?step ?fin ⟨rfl,rfl,R⟩
 case fin=>
  rintro c st' ⟨rfl,rfl,R'⟩;rw [show max a nrem=nrem by omega] at R' ⊢;exact q nrem han (Nat.le_refl _) R' (.inl rfl)
 case step=>
  rintro x c st' hax hxn ⟨rfl,rfl,R'⟩;dsimp only;have gx:g (lo+x)=lo+x:=by rw [R'.out _ (by omega)];exact hid _ (by omega) (by omega)
  refine wpS_bind (lN C h (by omega) (by omega) ?_);rw [gx]
  cases hl:o.lt (lo+x) (g (lo+x - 1))
  case true=>
   simp only [if_true];exact wpS_pure (q x hax (by omega) R' (.inr hl))
  case false=>
   simp only [false_eq_true,if_false];exact wpS_pure ⟨rfl,rfl,R'.snoc (by omega) gx hl⟩
structure Dc (o:Ord)(g0 g:Nat->Nat)(a b q:Nat):Prop where
 out:∀ i,i < a\/b<=i->g i=g0 i
 cl:Cl g a b
 few:a+(q+1)<=b
 dn:∀ i j,a<=i->i < j->j < b->i < b - (q+1)->P o (g j) (g i)
 id:∀ i,b - (q+1)<=i->i < b->g i=i
 al:∀ i j,b - (q+1)<=i->i < b->b - (q+1)<=j->j < b->o.lt i j=false
theorem Dc.turn {a b q:Nat}(D:Dc o g0 g a b q):(∀ i,i < a\/b<=i->rev g (b - (q+1)) b i=g0 i)/\Cl (rev g (b - (q+1)) b) a b/\(∀ i j,a<=i->i < j->j < b->P o (rev g (b - (q+1)) b j) (rev g (b - (q+1)) b i))/\(∀ i,b - (q+1)<=i->i < b->∃ k,rev g (b - (q+1)) b i=k/\b - (q+1)<=k/\k < b):=by
 have few:=D.few;have inn:∀ i,b - (q+1)<=i->i < b->rev g (b - (q+1)) b i=b - (q+1)+b - 1 - i:=λ i h1 h2=>by
  rw [qx h1 h2];exact D.id _ (by omega) (by omega)
 refine ⟨λ i hi=>?_,λ i h1 h2=>?_,λ i j h1 h2 h3=>?_,λ i h1 h2=>⟨_,inn i h1 h2,by omega,by omega⟩⟩
 ·rw [gu (by omega)];exact D.out i hi
 ·by_cases c:i < b - (q+1)
  ·rw [gu (by omega)];exact D.cl i h1 h2
  ·rw [inn i (by omega) h2];omega
 ·by_cases c:i < b - (q+1)
  ·rw [gu (k:=i) (by omega)];by_cases c2:j < b - (q+1)
   ·rw [gu (by omega)];exact D.dn i j h1 h2 h3 c
   ·rw [inn j (by omega) h3];have:=D.dn i (b - (q+1)+b - 1 - j) h1 (by omega) (by omega) c
    rwa [D.id _ (by omega) (by omega)] at this
  ·rw [inn i (by omega) (by omega),inn j (by omega) h3];exact P.n9 (D.al _ _ (by omega) (by omega) (by omega) (by omega)) (by omega)
noncomputable def Fin (o:Ord)(g0 g:Nat->Nat)(a b:Nat):Prop:=(∀ i,i < a\/b<=i->g i=g0 i)/\Cl g a b/\(∀ i j,a<=i->i < j->j < b->P o (g j) (g i))
theorem Dc.vP {a b:Nat}(D:Dc o g0 g a b 0):Fin o g0 g a b:=⟨D.out,D.cl,λ i j h1 h2 h3=>D.dn i j h1 h2 h3 (by omega)⟩
theorem Fin.rn {a b:Nat}(D:Fin o g0 g a b):Rn o g0 (rev g a b) a b where
 out i hi:=by rw [gu hi];exact D.1 i hi
 cl i h1 h2:=by
  rw [qx h1 h2];exact D.2.1 _ (by omega) (by omega)
 so i j h1 h2 h3:=by
  rw [qx h1 (by omega),qx (by omega) h3];exact D.2.2 _ _ (by omega) (by omega) (by omega)
theorem Fin.add {a b:Nat}(D:Fin o g0 g a b)(hb:g b=b)(hab:a < b)(h:∀ i,a<=i->i < b->P o b (g i)):Dc o g0 g a (b+1) 0 where
 out i hi:=D.1 i (by omega)
 cl i h1 h2:=by
  by_cases c:i=b
  ·subst c;omega
  ·have:=D.2.1 i h1 (by omega);omega
 few:=by omega
 dn i j h1 h2 h3 _:=by
  by_cases c:j=b
  ·subst c;rw [hb];exact h i h1 h2
  ·exact D.2.2 i j h1 h2 (by omega)
 id i h1 h2:=by
  have:i=b:=by omega
  rw [this,hb]
 al i j h1 h2 h3 h4:=by
  have:i=j:=by omega
  rw [this];exact o.Gz _
theorem zJ (C:rQ prog w A s o N f kd){lo n nrem:Nat}(h:Sg N f kd g p st)(hn:lo+nrem<=N)(h1:1<=n)(han:n<=nrem)(D:Fin o g0 g lo (lo+n))(hid:∀ i,lo<=i->i < lo+nrem->g0 i=i)
  {Q:Option Nat->SortSt->Prop} (q:∀ m g' st',Sg N f kd g' p st'->1<=m->m<=nrem->Rn o g0 g' lo (lo+m)->Q (some m) st'):wpS (model prog w) A E s (vU lo n nrem) Q st:=by
 unfold vU;refine wpS_bind (oW h (by omega) λ st2 h2=>?_);exact wpS_bind (Fx C h2 hn h1 han D.rn (λ i a b=>hid i (by omega) b) λ m hm1 hm2 R _=>wpS_pure (q m _ _ h2 (by omega) hm2 R))
theorem Mc (C:rQ prog w A s o N f kd){lo n nrem:Nat}(h:Sg N f kd g p st)(hn:lo+nrem<=N)(h1:1<=n)(han:n<=nrem)(D:Dc o g0 g lo (lo+n) 0)(hid:∀ i,lo<=i->i < lo+nrem->g0 i=i)
  {Q:Ds->SortSt->Prop} (q:∀ m e g' st',Sg N f kd g' p st'->1<=m->m<=nrem->Dc o g0 g' lo (lo+m) e->Q (none,m,e) st'):wpS (model prog w) A E s (II lo n nrem) Q st:=by
 unfold II;refine wpS_forRange (I:=λ x c st'=>∃ e g',c=(none,x,e)/\Sg N f kd g' p st'/\Dc o g0 g' lo (lo+x) e) ?step ?fin ⟨0,g,rfl,h,D⟩
 case fin=>
  rintro c st' ⟨e,g',rfl,h',D'⟩;rw [show max n nrem=nrem by omega] at D' ⊢;exact q nrem e g' st' h' (by omega) (Nat.le_refl _) D'
 case step=>
  rintro x c st' hax hxn ⟨e,g',rfl,h',D'⟩;dsimp only;have few:=D'.few;have gx:g' (lo+x)=lo+x:=by rw [D'.out _ (by omega)];exact hid _ (by omega) (by omega)
  have gy:g' (lo+x - 1)=lo+x - 1:=D'.id _ (by omega) (by omega);refine wpS_bind (lN C h' (by omega) (by omega) ?_);rw [gx,gy]
  cases hl:o.lt (lo+x) (lo+x - 1)
  case true=>
   simp only [if_true];by_cases he:e > 0
   ·rw [if_pos he];obtain ⟨t1,t2,t3,t4⟩:=D'.turn;refine wpS_bind (oW h' (by omega) λ st2 h2=>wpS_pure ⟨0,_,rfl,h2,?_⟩);refine Fin.add (b:=lo+x) ⟨t1,t2,t3⟩ (by rw [gu (by omega)];exact gx) (by omega) λ i a b=>?_;by_cases c:lo+x - (e+1)<=i
    ·obtain ⟨k,ek,k1,k2⟩:=t4 i c b;rw [ek]
     rcases o.neg _ k _ hl with z | z
     ·exact .inl z
     ·rw [D'.al _ _ k1 k2 (by omega) (by omega)] at z;cases z
    ·rw [gu (by omega)];have:=D'.dn i (lo+x - 1) a (by omega) (by omega) (by omega);rw [gy] at this;exact (P.of_lt hl).trans this
   ·rw [if_neg he];have:e=0:=by omega
    subst this;refine wpS_pure ⟨0,_,rfl,h',Fin.add (b:=lo+x) D'.vP gx (by omega) λ i a b=>?_⟩;by_cases c:i=lo+x - 1
    ·subst c;rw [gy];exact .inl hl
    ·have:=D'.dn i (lo+x - 1) a (by omega) (by omega) (by omega);rw [gy] at this;exact (P.of_lt hl).trans this
  case false=>
   simp only [false_eq_true,if_false];refine wpS_bind (lN C h' (by omega) (by omega) ?_);rw [gx,gy]
   cases hg:o.lt (lo+x - 1) (lo+x)
   case true=>
    simp only [if_true];exact wpS_pure (q x e g' st' h' (by omega) (by omega) D')
   case false=>
    simp only [false_eq_true,if_false];refine wpS_pure ⟨e+1,g',rfl,h',?_⟩;have eq1:∀ i,lo+x - (e+1)<=i->i < lo+x->o.lt i (lo+x)=false/\o.lt (lo+x) i=false:=λ i a b=>by
     constructor
     ·cases z:o.lt i (lo+x) with
      | false=>rfl
      | true=>
       rcases o.neg _ (lo+x - 1) _ z with y | y
       ·rw [D'.al _ _ a b (by omega) (by omega)] at y;cases y
       ·rw [hg] at y;cases y
     ·cases z:o.lt (lo+x) i with
      | false=>rfl
      | true=>
       rcases o.neg _ (lo+x - 1) _ z with y | y
       ·rw [hl] at y;cases y
       ·rw [D'.al _ _ (by omega) (by omega) a b] at y;cases y
    exact {
     out:=λ i hi=>D'.out i (by omega)
     cl:=λ i a b=>by
      by_cases c:i=lo+x
      ·subst c;omega
      ·have:=D'.cl i a (by omega);omega
     few:=by omega
     dn:=λ i j a b c d=>by
      by_cases z:j=lo+x
      ·subst z;rw [gx];have y:=D'.dn i (lo+x - 1) a (by omega) (by omega) (by omega);rw [gy] at y;have gi:=D'.cl i a (by omega)
       rcases y with y | ⟨_,y⟩
       ·rcases o.neg _ (lo+x) _ y with v | v
        ·rw [hg] at v;cases v
        ·exact .inl v
       ·omega
      ·exact D'.dn i j a b (by omega) (by omega)
     id:=λ i a b=>by
      by_cases z:i=lo+x
      ·subst z;exact gx
      ·exact D'.id i (by omega) (by omega)
     al:=λ i j a b c d=>by
      by_cases z:i=lo+x
      ·subst z;by_cases y:j=lo+x
       ·subst y;exact o.Gz _
       ·exact (eq1 j (by omega) (by omega)).2
      ·by_cases y:j=lo+x
       ·subst y;exact (eq1 i (by omega) (by omega)).1
       ·exact D'.al i j (by omega) (by omega) (by omega) (by omega) }
theorem yL (C:rQ prog w A s o N f kd){lo n nrem:Nat}(h:Sg N f kd g p st)(hn:lo+nrem<=N)(han:n+1<=nrem)(D:Dc o g0 g lo (lo+(n+1)) 0)(hid:∀ i,lo<=i->i < lo+nrem->g0 i=i)
  {Q:Option Nat->SortSt->Prop} (q:∀ m g' st',Sg N f kd g' p st'->1<=m->m<=nrem->Rn o g0 g' lo (lo+m)->Q (some m) st'):wpS (model prog w) A E s (DL lo n nrem) Q st:=by
 unfold DL;refine wpS_bind (wpS_lift (wpAny_rule ⟨rfl,?_⟩));refine wpS_bind (Mc C h hn (by omega) han D hid λ m e g' st' h' m1 m2 D'=>?_);dsimp only;by_cases he:e > 0
 ·rw [if_pos he];obtain ⟨t1,t2,t3,_⟩:=D'.turn;exact wpS_bind (oW h' (by omega) λ st2 h2=>zJ C h2 hn m1 m2 ⟨t1,t2,t3⟩ hid q)
 ·rw [if_neg he];have:e=0:=by omega
  subst this;exact zJ C h' hn m1 m2 D'.vP hid q
theorem Dq (C:rQ prog w A s o N f kd){lo nrem:Nat}(h:Sg N f kd g p st)(hn:lo+nrem<=N)(h1:1<=nrem)(hid:∀ i,lo<=i->i < lo+nrem->g i=i)
  {Q:Option Nat->SortSt->Prop} (q:∀ m g' st',Sg N f kd g' p st'->1<=m->m<=nrem->Rn o g g' lo (lo+m)->Q (some m) st'):wpS (model prog w) A E s (countRun' lo nrem) Q st:=by
 rw [count_eq];refine wpS_bind (Fx C h hn (Nat.le_refl 1) h1 (g0:=g) ⟨λ _ _=>rfl,λ i a b=>?_,λ i j a b c=>by omega⟩ (λ i a b=>hid i (by omega) b) λ n n1 n2 R hor=>?_)
 ·have:i=lo:=by omega
  subst this;rw [hid i (Nat.le_refl _) (by omega)];omega
 dsimp only;by_cases hnn:n=nrem
 ·rw [if_pos (by simpa using hnn)];exact wpS_pure (q n g st h n1 n2 R)
 ·rw [if_neg (by simpa using hnn)];have hlt:=hor.resolve_left hnn;rw [hid (lo+n - 1) (by omega) (by omega)] at hlt;have gn:g (lo+n)=lo+n:=hid _ (by omega) (by omega);by_cases hgt:n > 1
  ·rw [if_pos hgt];refine wpS_bind (lN C h (by omega) (by omega) ?_);rw [hid lo (by omega) (by omega),hid (lo+n - 1) (by omega) (by omega)]
   cases hr:o.lt lo (lo+n - 1)
   case true=>
    simp only [if_true];exact wpS_pure (q n g st h n1 n2 R)
   case false=>
    simp only [false_eq_true,if_false];have id':∀ i,lo<=i->i < lo+n->g i=i:=λ i a b=>hid i a (by omega);have pp:∀ i j,lo<=i->i < j->j < lo+n->o.lt i j=false/\o.lt j i=false:=λ i j a b c=>by
     have r:=R.so i j a b c;rw [id' i a (by omega),id' j (by omega) c] at r;refine ⟨?_,r.ge⟩
     cases z:o.lt i j with
     | false=>rfl
     | true=>
      rcases o.neg _ lo _ z with y | y
      ·by_cases x:i=lo
       ·subst x;rw [o.Gz] at y;cases y
       ·have r2:=R.so lo i (by omega) (by omega) (by omega);rw [id' i a (by omega),id' lo (by omega) (by omega)] at r2;rw [r2.ge] at y;cases y
      ·rcases o.neg _ (lo+n - 1) _ y with x | x
       ·rw [hr] at x;cases x
       ·by_cases v:j=lo+n - 1
        ·subst v;rw [o.Gz] at x;cases x
        ·have r2:=R.so j (lo+n - 1) (by omega) (by omega) (by omega);rw [id' j (by omega) c,id' (lo+n - 1) (by omega) (by omega)] at r2;rw [r2.ge] at x;cases x
    refine wpS_bind (oW h (by omega) λ st2 h2=>yL C h2 hn (by omega) ?_ hid q);have rin:∀ i,lo<=i->i < lo+n->rev g lo (lo+n) i=lo+(lo+n) - 1 - i:=λ i a b=>by rw [qx a b];exact id' _ (by omega) (by omega)
    refine Fin.add (b:=lo+n) ⟨λ i hi=>gu hi,λ i a b=>by rw [rin i a b];omega,λ i j a b c=>?_⟩ (by rw [gu (by omega)];exact gn) (by omega) λ i a b=>?_
    ·rw [rin i a (by omega),rin j (by omega) c];exact P.n9 (pp _ _ (by omega) (by omega) (by omega)).2 (by omega)
    ·rw [rin i a b];by_cases x:lo+(lo+n) - 1 - i=lo+n - 1
     ·rw [x];exact .inl hlt
     ·rcases o.neg _ (lo+(lo+n) - 1 - i) _ hlt with z | z
      ·exact .inl z
      ·rw [(pp _ _ (by omega) (by omega) (by omega)).1] at z;cases z
  ·rw [if_neg hgt];have:n=1:=by omega
   subst this;refine yL C h hn (by omega) ?_ hid q;refine Fin.add (b:=lo+1) ⟨λ i hi=>rfl,R.cl,λ i j a b c=>by omega⟩ gn (by omega) λ i a b=>?_;have:i=lo:=by omega
   subst this;rw [hid i (by omega) (by omega)];rw [show i+1 - 1=i by omega] at hlt;exact .inl hlt
end
noncomputable def dB:Bool->Keyed->Array Keyed->Nat->Nat->Nat->StateT SortSt Sem (Option Nat):=sortPriv% PySem.Builtin.gallop
noncomputable def LV (ask:Nat->StateT SortSt Sem (Option Bool))(n at0:Nat):StateT SortSt Sem (Option Nat):=do
 let mut was:=0
 let mut far:=1
 let mut low:=0
 let mut top:=0
 let some yes <- ask at0 | return none
 if yes then
  let most:=n - at0
  for _ in [0:n] do
   if far>=most then break
   let some ok <- ask (at0+far) | return none
   if !ok then break
   was:=far
   far:=2 * far+1
  low:=at0+was+1
  top:=at0+min far most
 else
  let most:=at0+1
  for _ in [0:n] do
   if far>=most then break
   let some hit <- ask (at0 - far) | return none
   if hit then break
   was:=far
   far:=2 * far+1
  low:=at0+1 - min far most
  top:=at0 - was
 for _ in [0:n] do
  if low>=top then break
  let m:=low+(top - low) / 2
  let some ok <- ask m | return none
  if ok then low:=m+1 else top:=m
 return some top
theorem sf (left:Bool)(key:Keyed)(arr:Array Keyed)(base n hint:Nat):dB left key arr base n hint=LV (λ i=>do
  let x <- elem' arr (base+i)
  if left then lt' x key else return (<- lt' key x).map (!·)) n hint:=rfl
section
variable {prog:Program} {w:World} {A:Around} {E:Value->Shared->Prop} {s:Shared} {st:SortSt}
noncomputable def OL (be:Nat->StateT SortSt Sem (Option Bool))(n l0 h0:Nat):StateT SortSt Sem (Option Nat):=do
 let mut low:=l0
 let mut top:=h0
 for _ in [0:n] do
  if low>=top then break
  let m:=low+(top - low) / 2
  let some ok <- be m | return none
  if ok then low:=m+1 else top:=m
 return some top
theorem J1 {be:Nat->StateT SortSt Sem (Option Bool)}{n l0 h0:Nat}(b:Nat->Bool)(hbe:∀ i,i < n->∀ Q:Option Bool->SortSt->Prop,Q (some (b i)) st->wpS (model prog w) A E s (be i) Q st)(hb:∀ i j,i<=j->j < n->b j=true->b i=true)
  (hlh:l0<=h0) (hn:h0<=n) (hl:∀ i,i < l0->b i=true) (hh:∀ i,h0<=i->i < n->b i=false)
  {Q:Option Nat->SortSt->Prop} (q:∀ k,k<=n->(∀ i,i < k->b i=true)->(∀ i,k<=i->i < n->b i=false)->Q (some k) st):wpS (model prog w) A E s (OL be n l0 h0) Q st:=by
 unfold OL;refine wpS_bind (wpS_mono (wpS_forRange (I:=λ x c st'=>st'=st/\∃ lo hi,c=(none,lo,hi)/\lo<=hi/\hi<=n/\hi - lo<=n - x/\(∀ i,i < lo->b i=true)/\(∀ i,hi<=i->i < n->b i=false))
  (Q:=λ c st'=>st'=st/\∃ k,c=(none,k,k)/\k<=n/\(∀ i,i < k->b i=true)/\(∀ i,k<=i->i < n->b i=false)) ?step ?fin ⟨rfl,l0,h0,rfl,hlh,hn,by omega,hl,hh⟩) ?post)
 case post=>
  rintro c st' ⟨rfl,k,rfl,h1,h2,h3⟩;exact wpS_pure (q k h1 h2 h3)
 case fin=>
  rintro c st' ⟨rfl,lo,hi,rfl,h1,h2,h3,h4,h5⟩;have:lo=hi:=by omega
  subst this;exact ⟨rfl,lo,rfl,h2,h4,h5⟩
 case step=>
  rintro x c st' _ hx ⟨rfl,lo,hi,rfl,h1,h2,h3,h4,h5⟩;dsimp only;by_cases hge:lo>=hi
  ·rw [if_pos hge];have:lo=hi:=by omega
   subst this;exact wpS_pure ⟨rfl,lo,rfl,h2,h4,h5⟩
  ·rw [if_neg hge];have hm:lo+(hi - lo) / 2 < hi:=by omega
   obtain ⟨m,hm'⟩:∃ m,m=lo+(hi - lo) / 2:=⟨_,rfl⟩;rw [<- hm'] at hm ⊢;refine wpS_bind (hbe m (by omega) _ ?_)
   cases hv:b m
   ·simp only [false_eq_true,if_false];refine wpS_pure ⟨rfl,lo,m,rfl,by omega,by omega,by omega,h4,λ i a c=>?_⟩
    cases z:b i with
    | false=>rfl
    | true=>rw [hb m i a c z] at hv;cases hv
   ·simp only [if_true];exact wpS_pure ⟨rfl,m+1,hi,rfl,by omega,h2,by omega,λ i a=>hb i m (by omega) (by omega) hv,h5⟩
theorem Ba {be:Nat->StateT SortSt Sem (Option Bool)}{n hint:Nat}(b:Nat->Bool)(hbe:∀ i,i < n->∀ Q:Option Bool->SortSt->Prop,Q (some (b i)) st->wpS (model prog w) A E s (be i) Q st)(hb:∀ i j,i<=j->j < n->b j=true->b i=true)(hh:hint < n)
  {Q:Option Nat->SortSt->Prop} (q:∀ k,k<=n->(∀ i,i < k->b i=true)->(∀ i,k<=i->i < n->b i=false)->Q (some k) st):wpS (model prog w) A E s (LV be n hint) Q st:=by
 unfold LV;have hb':∀ i j,i<=j->j < n->b i=false->b j=false:=λ i j a c d=>by
  cases z:b j with
  | false=>rfl
  | true=>rw [hb i j a c z] at d;cases d
 refine wpS_bind (hbe hint hh _ ?_)
 cases hr:b hint
 ·dsimp only;simp only [false_eq_true,if_false];refine wpS_bind (wpS_mono (wpS_forRange (I:=λ x c st'=>st'=st/\∃ l u,c=(none,l,u)/\x+1<=u/\l < u/\l<=hint/\b (hint - l)=false)
   (Q:=λ c st'=>st'=st/\∃ l u,c=(none,l,u)/\l < u/\l<=hint/\b (hint - l)=false/\(u>=hint+1\/b (hint - u)=true)) ?step ?fin ⟨rfl,0,1,rfl,by omega,by omega,by omega,hr⟩) ?post)
  case post=>
   rintro c st' ⟨rfl,l,u,rfl,h1,h2,h3,h4⟩;dsimp only;refine (J1 b hbe hb (l0:=hint+1 - min u (hint+1)) (h0:=hint - l) (by omega) (by omega) (λ i a=>?_) (λ i a c=>hb' _ _ a c h3) q:wpS (model prog w) A E s (OL be n _ _) Q st')
   rcases h4 with h4 | h4
   ·omega
   ·exact hb i (hint - u) (by omega) (by omega) h4
  case fin=>
   rintro c st' ⟨rfl,l,u,rfl,h1,h2,h3,h4⟩;exact ⟨rfl,l,u,rfl,h2,h3,h4,.inl (by omega)⟩
  case step=>
   rintro x c st' _ hx ⟨rfl,l,u,rfl,h1,h2,h3,h4⟩;dsimp only;by_cases hge:u>=hint+1
   ·rw [if_pos hge];exact wpS_pure ⟨rfl,l,u,rfl,h2,h3,h4,.inl hge⟩
   ·rw [if_neg hge];refine wpS_bind (hbe _ (by omega) _ ?_)
    cases hv:b (hint - u)
    ·simp only [false_eq_true,if_false];exact wpS_pure ⟨rfl,u,2 * u+1,rfl,by omega,by omega,by omega,hv⟩
    ·simp only [if_true];exact wpS_pure ⟨rfl,l,u,rfl,h2,h3,h4,.inr hv⟩
 ·dsimp only;simp only [if_true];refine wpS_bind (wpS_mono (wpS_forRange (I:=λ x c st'=>st'=st/\∃ l u,c=(none,l,u)/\x+1<=u/\l < u/\hint+l < n/\b (hint+l)=true)
   (Q:=λ c st'=>st'=st/\∃ l u,c=(none,l,u)/\l < u/\hint+l < n/\b (hint+l)=true/\(u>=n - hint\/b (hint+u)=false)) ?step2 ?fin2 ⟨rfl,0,1,rfl,by omega,by omega,by omega,hr⟩) ?post2)
  case post2=>
   rintro c st' ⟨rfl,l,u,rfl,h1,h2,h3,h4⟩;dsimp only;refine (J1 b hbe hb (l0:=hint+l+1) (h0:=hint+min u (n - hint)) (by omega) (by omega) (λ i a=>hb i _ (by omega) h2 h3) (λ i a c=>?_) q:wpS (model prog w) A E s (OL be n _ _) Q st')
   rcases h4 with h4 | h4
   ·omega
   ·exact hb' (hint+u) i (by omega) c h4
  case fin2=>
   rintro c st' ⟨rfl,l,u,rfl,h1,h2,h3,h4⟩;exact ⟨rfl,l,u,rfl,h2,h3,h4,.inl (by omega)⟩
  case step2=>
   rintro x c st' _ hx ⟨rfl,l,u,rfl,h1,h2,h3,h4⟩;dsimp only;by_cases hge:u>=n - hint
   ·rw [if_pos hge];exact wpS_pure ⟨rfl,l,u,rfl,h2,h3,h4,.inl hge⟩
   ·rw [if_neg hge];refine wpS_bind (hbe _ (by omega) _ ?_)
    cases hv:b (hint+u)
    ·simp only [Bool.not_false,if_true];exact wpS_pure ⟨rfl,l,u,rfl,h2,h3,h4,.inr hv⟩
    ·simp only [Bool.not_true,false_eq_true,if_false];exact wpS_pure ⟨rfl,u,2 * u+1,rfl,by omega,by omega,by omega,hv⟩
end
section
variable {prog:Program} {w:World} {A:Around} {E:Value->Shared->Prop} {s:Shared} {o:Ord} {N:Nat} {f:Nat->Keyed} {kd:SortKind} {st:SortSt}
theorem CW (C:rQ prog w A s o N f kd)(hk:kindOf st=kd){key base n hint:Nat}{arr:Array Keyed}{h:Nat->Nat}(ha:∀ i,i < n->arr[base+i]?=some (f (h i)))(hN:∀ i,i < n->h i < key)(hkN:key < N)(so:So o h 0 n)(hh:hint < n)
  {Q:Option Nat->SortSt->Prop} (q:∀ k,k<=n->(∀ i,i < k->P o (h i) key)->(∀ i,k<=i->i < n->P o key (h i))->Q (some k) st):wpS (model prog w) A E s (dB false (f key) arr base n hint) Q st:=by
 rw [sf];refine Ba (λ i=>!o.lt key (h i)) (λ i hi Q' q'=>?_) (λ i j a b c=>?_) hh λ k h1 h2 h3=>q k h1 (λ i a=>?_) λ i a b=>?_
 ·refine wpS_bind (bu (ha i hi) ?_);simp only [false_eq_true,if_false];exact wpS_bind (pO C hk hkN (by have:=hN i hi;omega) (wpS_pure q'))
 ·by_cases z:i=j
  ·subst z;exact c
  ·have r:=so i j (zero_le _) (by omega) b;have c':o.lt key (h j)=false:=by simpa using c
   cases e:o.lt key (h i) with
   | false=>rfl
   | true=>
    have:=(P.of_lt e).trans r;rw [this.lt (hN j b)] at c';cases c'
 ·have:=h2 i a;exact P.n9 (by simpa using this) (hN i (by omega))
 ·have:=h3 i a b;exact .inl (by simpa using this)
theorem CN (C:rQ prog w A s o N f kd)(hk:kindOf st=kd){key base n hint:Nat}{arr:Array Keyed}{h:Nat->Nat}(ha:∀ i,i < n->arr[base+i]?=some (f (h i)))(hN:∀ i,i < n->key < h i/\h i < N)(so:So o h 0 n)(hh:hint < n)
  {Q:Option Nat->SortSt->Prop} (q:∀ k,k<=n->(∀ i,i < k->P o (h i) key)->(∀ i,k<=i->i < n->P o key (h i))->Q (some k) st):wpS (model prog w) A E s (dB true (f key) arr base n hint) Q st:=by
 rw [sf];refine Ba (λ i=>o.lt (h i) key) (λ i hi Q' q'=>?_) (λ i j a b c=>?_) hh λ k h1 h2 h3=>q k h1 (λ i a=>?_) λ i a b=>?_
 ·refine wpS_bind (bu (ha i hi) ?_);simp only [if_true];exact pO C hk (hN i hi).2 (by have:=hN i hi;omega) q'
 ·by_cases z:i=j
  ·subst z;exact c
  ·have r:=so i j (zero_le _) (by omega) b;exact (r.trans (P.of_lt c)).lt (hN i (by omega)).1
 ·exact .inl (h2 i a)
 ·exact P.n9 (h3 i a b) (hN i b).1
end
noncomputable def p6:Array Keyed->Array Keyed->StateT SortSt Sem (Array Keyed):=sortPriv% PySem.Builtin.mergeLo
noncomputable def pZ:Array Keyed->Array Keyed->StateT SortSt Sem (Array Keyed):=sortPriv% PySem.Builtin.mergeHi
noncomputable def om:Nat->StateT SortSt Sem Unit:=sortPriv% PySem.Builtin.setMinGallop
theorem Hz (m:Nat):om m=modify λ s=>SortSt.mk' (kindOf s) (arrOf s) (pendingOf s) m (failedOf s):=rfl
theorem xZ (a b:Array Keyed):p6 a b=(do
 rule "list.sort.merge-lo"
 let all_:=a.size+b.size
 let end1 (acc:Array Keyed) (p q:Nat):=acc++a.extract p a.size++b.extract q b.size
 let end2 (acc:Array Keyed) (p q:Nat):=acc++b.extract q b.size++a.extract p a.size
 let mut acc:Array Keyed:=#[<- elem' b 0]
 let mut p:=0
 let mut q:=1
 if q == b.size then return end1 acc p q
 if p+1 == a.size then return end2 acc p q
 let mut mg:=gallopOf (<- get)
 for _ in [0:all_] do
  let mut ca:=0
  let mut cb:=0
  for _ in [0:all_] do
   let some won <- lt' (<- elem' b q) (<- elem' a p) | return end1 acc p q
   if won then
    acc:=acc.push (<- elem' b q);q:=q+1;cb:=cb+1;ca:=0
    if q == b.size then return end1 acc p q
    if cb>=mg then break
   else
    acc:=acc.push (<- elem' a p);p:=p+1;ca:=ca+1;cb:=0
    if p+1 == a.size then return end2 acc p q
    if ca>=mg then break
  rule "list.sort.gallop"
  mg:=mg+1
  for _ in [0:all_] do
   if mg > 1 then mg:=mg - 1
   om mg
   let some k <- dB false (<- elem' b q) a p (a.size - p) 0 | return end1 acc p q
   ca:=k
   if k > 0 then
    acc:=acc++a.extract p (p+k);p:=p+k
    if p+1 == a.size then return end2 acc p q
    if p == a.size then return end1 acc p q
   acc:=acc.push (<- elem' b q);q:=q+1
   if q == b.size then return end1 acc p q
   let some k <- dB true (<- elem' a p) b q (b.size - q) 0 | return end1 acc p q
   cb:=k
   if k > 0 then
    acc:=acc++b.extract q (q+k);q:=q+k
    if q == b.size then return end1 acc p q
   acc:=acc.push (<- elem' a p);p:=p+1
   if p+1 == a.size then return end2 acc p q
   if ca < 7 && cb < 7 then break
  mg:=mg+1
  om mg
 unsupported "internal:list.sort.merge-bound"):=rfl
section
variable {o:Ord} {N:Nat} {f:Nat->Keyed} {A B hs:List Nat} {ia ib:Nat}
noncomputable def fa (f:Nat->Keyed)(l:List Nat):Array Keyed:=(l.map f).toArray
theorem kK (l:List Nat):(fa f l).size=l.length:=by unfold fa;rw [size_toArray,length_map]
theorem C6 (l:List Nat)(i:Nat):(fa f l)[i]?=(l[i]?).map f:=by unfold fa;rw [getElem?_toArray,List.getElem?_map]
theorem dN {l:List Nat}{i x:Nat}(h:l[i]?=some x):(fa f l)[i]?=some (f x):=by rw [C6,h];rfl
theorem mz (l:List Nat)(x:Nat):(fa f l).push (f x)=fa f (l++[x]):=by
 unfold fa;rw [List.push_toArray,map_append];rfl
theorem gO (l m:List Nat):fa f l++fa f m=fa f (l++m):=by
 unfold fa;rw [List.append_toArray,map_append]
theorem nX (l:List Nat)(i j:Nat):(fa f l).extract i j=fa f ((l.drop i).take (j - i)):=by
 unfold fa;rw [List.extract_toArray,List.extract_eq_take_drop,map_take,map_drop]
theorem oO (l:List Nat)(i:Nat):(fa f l).extract i l.length=fa f (l.drop i):=by
 rw [nX,List.take_of_length_le (by rw [length_drop];omega)]
structure Ab (o:Ord)(N:Nat)(A B:List Nat):Prop where
 sa:A.Pairwise (P o)
 sb:B.Pairwise (P o)
 lt:∀ x∈A,∀ y∈B,x < y
 nb:∀ y∈B,y < N
 na:∀ x∈A,x < N
structure Mg (o:Ord)(A B hs:List Nat)(ia ib:Nat):Prop where
 la:ia<=A.length
 lb:ib<=B.length
 len:hs.length=ia+ib
 so:hs.Pairwise (P o)
 mem:∀ x∈hs,x∈A\/x∈B
 ua:∀ x∈hs,∀ y∈A.drop ia,P o x y
 ub:∀ x∈hs,∀ y∈B.drop ib,P o x y
noncomputable def Res (o:Ord)(f:Nat->Keyed)(A B:List Nat)(out:Array Keyed):Prop:=∃ hs:List Nat,out=fa f hs/\hs.length=A.length+B.length/\hs.Pairwise (P o)/\∀ x∈hs,x∈A\/x∈B
theorem j3 {l:List Nat}(h:l.Pairwise (P o)){i j x y:Nat}(hx:l[i]?=some x)(hy:l[j]?=some y)(hij:i < j):P o x y:=by
 obtain ⟨h1,e1⟩:=List.getElem?_eq_some_iff.mp hx;obtain ⟨h2,e2⟩:=List.getElem?_eq_some_iff.mp hy;rw [<- e1,<- e2];exact pairwise_iff_getElem.mp h i j h1 h2 hij
theorem mP {l:List Nat}{i y:Nat}(h:y∈l.drop i):∃ j,i<=j/\l[j]?=some y:=by
 obtain ⟨k,hk⟩:=getElem?_of_mem h;rw [getElem?_drop] at hk;exact ⟨i+k,by omega,hk⟩
theorem Mg.oq (ab:Ab o N A B)(m:Mg o A B hs ia ib){x:Nat}(hx:A[ia]?=some x)(h:∀ y∈B.drop ib,P o x y):Mg o A B (hs++[x]) (ia+1) ib:=by
 obtain ⟨h1,e1⟩:=List.getElem?_eq_some_iff.mp hx;have hd:A.drop ia=x::A.drop (ia+1):=by rw [<- e1];exact drop_eq_getElem_cons h1
 refine ⟨by omega,m.lb,by rw [length_append,m.len];show ia+ib+1=_;omega,?_,λ z hz=>?_,λ z hz y hy=>?_,λ z hz y hy=>?_⟩
 ·rw [pairwise_append];exact ⟨m.so,pairwise_singleton ..,λ a ha b hb=>by rw [mem_singleton.mp hb];exact m.ua a ha x (by rw [hd];exact mem_cons_self ..)⟩
 ·rcases mem_append.mp hz with z' | z'
  ·exact m.mem z z'
  ·rw [mem_singleton.mp z'];exact .inl (mem_of_getElem? hx)
 ·rcases mem_append.mp hz with z' | z'
  ·exact m.ua z z' y (by rw [hd];exact mem_cons_of_mem _ hy)
  ·rw [mem_singleton.mp z'];obtain ⟨j,hj,ej⟩:=mP hy;exact j3 ab.sa hx ej (by omega)
 ·rcases mem_append.mp hz with z' | z'
  ·exact m.ub z z' y hy
  ·rw [mem_singleton.mp z'];exact h y hy
theorem Ab.oV (ab:Ab o N A B)(m:Mg o A B hs ia ib){x:Nat}(hx:B[ib]?=some x)(h:∀ y∈A.drop ia,P o x y):Mg o A B (hs++[x]) ia (ib+1):=by
 obtain ⟨h1,e1⟩:=List.getElem?_eq_some_iff.mp hx;have hd:B.drop ib=x::B.drop (ib+1):=by rw [<- e1];exact drop_eq_getElem_cons h1
 refine ⟨m.la,by omega,by rw [length_append,m.len];rfl,?_,λ z hz=>?_,λ z hz y hy=>?_,λ z hz y hy=>?_⟩
 ·rw [pairwise_append];exact ⟨m.so,pairwise_singleton ..,λ a ha b hb=>by rw [mem_singleton.mp hb];exact m.ub a ha x (by rw [hd];exact mem_cons_self ..)⟩
 ·rcases mem_append.mp hz with z' | z'
  ·exact m.mem z z'
  ·rw [mem_singleton.mp z'];exact .inr (mem_of_getElem? hx)
 ·rcases mem_append.mp hz with z' | z'
  ·exact m.ua z z' y hy
  ·rw [mem_singleton.mp z'];exact h y hy
 ·rcases mem_append.mp hz with z' | z'
  ·exact m.ub z z' y (by rw [hd];exact mem_cons_of_mem _ hy)
  ·rw [mem_singleton.mp z'];obtain ⟨j,hj,ej⟩:=mP hy;exact j3 ab.sb hx ej (by omega)
theorem jd {l:List Nat}(h:l.Pairwise (P o)){i x y:Nat}(hx:l[i]?=some x)(hxy:P o y x):∀ z∈l.drop i,P o y z:=λ z hz=>by
 obtain ⟨j,hj,ej⟩:=mP hz;by_cases c:j=i
 ·subst c;rw [hx] at ej;cases ej;exact hxy
 ·exact hxy.trans (j3 h hx ej (by omega))
theorem take_snoc {l:List Nat}{i k x:Nat}(h:l[i+k]?=some x):(l.drop i).take (k+1)=(l.drop i).take k++[x]:=by
 have h':(l.drop i)[k]?=some x:=by rw [getElem?_drop];exact h
 obtain ⟨h1,e1⟩:=List.getElem?_eq_some_iff.mp h';rw [List.take_succ_eq_append_getElem h1,e1]
theorem Mg.qw (ab:Ab o N A B)(m:Mg o A B hs ia ib){y:Nat}(hy:B[ib]?=some y):∀ k,ia+k<=A.length->(∀ i x,i < k->A[ia+i]?=some x->P o x y)->Mg o A B (hs++(A.drop ia).take k) (ia+k) ib
 | 0,_,_=>by rw [take_zero,append_nil];exact m
 | k+1,hk,h=>by
  have ih:=Mg.qw ab m hy k (by omega) λ i x hi=>h i x (by omega);have hx:A[ia+k]?=some (A[ia+k]'(by omega)):=List.getElem?_eq_getElem _;rw [take_snoc hx,<- List.append_assoc];exact ih.oq ab hx (jd ab.sb hy (h k _ (by omega) hx))
theorem Mg.qt (ab:Ab o N A B)(m:Mg o A B hs ia ib){y:Nat}(hy:A[ia]?=some y):∀ k,ib+k<=B.length->(∀ i x,i < k->B[ib+i]?=some x->P o x y)->Mg o A B (hs++(B.drop ib).take k) ia (ib+k)
 | 0,_,_=>by rw [take_zero,append_nil];exact m
 | k+1,hk,h=>by
  have ih:=Mg.qt ab m hy k (by omega) λ i x hi=>h i x (by omega);have hx:B[ib+k]?=some (B[ib+k]'(by omega)):=List.getElem?_eq_getElem _;rw [take_snoc hx,<- List.append_assoc];exact ab.oV ih hx (jd ab.sa hy (h k _ (by omega) hx))
theorem oS {l:List Nat}(h:l.Pairwise (P o))(i:Nat):(l.drop i).Pairwise (P o):=h.sublist (List.drop_sublist ..)
theorem Mg.fin (ab:Ab o N A B)(m:Mg o A B hs ia ib)(h:∀ x∈A.drop ia,∀ y∈B.drop ib,P o x y):Res o f A B (fa f hs++(fa f A).extract ia A.length++(fa f B).extract ib B.length):=by
 rw [oO,oO,gO,gO];have la:=m.la;have lb:=m.lb;refine ⟨_,rfl,by rw [length_append,length_append,m.len,length_drop,length_drop];omega,?_,λ x hx=>?_⟩
 ·rw [pairwise_append,pairwise_append];refine ⟨⟨m.so,oS ab.sa _,m.ua⟩,oS ab.sb _,λ x hx y hy=>?_⟩
  rcases mem_append.mp hx with z | z
  ·exact m.ub x z y hy
  ·exact h x z y hy
 ·rcases mem_append.mp hx with z | z
  ·rcases mem_append.mp z with z | z
   ·exact m.mem x z
   ·exact .inl (mem_of_mem_drop z)
  ·exact .inr (mem_of_mem_drop z)
theorem Mg.Mp (ab:Ab o N A B)(m:Mg o A B hs ia ib)(h:∀ x∈A.drop ia,∀ y∈B.drop ib,P o y x):Res o f A B (fa f hs++(fa f B).extract ib B.length++(fa f A).extract ia A.length):=by
 rw [oO,oO,gO,gO];have la:=m.la;have lb:=m.lb;refine ⟨_,rfl,by rw [length_append,length_append,m.len,length_drop,length_drop];omega,?_,λ x hx=>?_⟩
 ·rw [pairwise_append,pairwise_append];refine ⟨⟨m.so,oS ab.sb _,m.ub⟩,oS ab.sa _,λ x hx y hy=>?_⟩
  rcases mem_append.mp hx with z | z
  ·exact m.ua x z y hy
  ·exact h y hy x z
 ·rcases mem_append.mp hx with z | z
  ·rcases mem_append.mp z with z | z
   ·exact m.mem x z
   ·exact .inr (mem_of_mem_drop z)
  ·exact .inl (mem_of_mem_drop z)
theorem drop_nil {l:List Nat}{i:Nat}(h:l.length<=i):l.drop i=[]:=List.drop_eq_nil_of_le h
theorem yT {l:List Nat}(h:l.Pairwise (P o))(b n:Nat)(hn:b+n<=l.length):So o (λ i=>l.getD (b+i) 0) 0 n:=λ i j _ hij hj=>
 j3 h (i:=b+i) (j:=b+j) (by show _=some (l.getD (b+i) 0);rw [getD_eq_getElem?_getD,List.getElem?_eq_getElem (show b+i < l.length by omega)];rfl) (by show _=some (l.getD (b+j) 0);rw [getD_eq_getElem?_getD,List.getElem?_eq_getElem (show b+j < l.length by omega)];rfl) (by omega)
theorem getD_at {l:List Nat}{i:Nat}(h:i < l.length):l[i]?=some (l.getD i 0):=by
 rw [getD_eq_getElem?_getD,List.getElem?_eq_getElem h];rfl
end
structure Sm (st st':SortSt):Prop where
 a:arrOf st'=arrOf st
 k:kindOf st'=kindOf st
 p:pendingOf st'=pendingOf st
 f:failedOf st'=failedOf st
theorem Sm.refl {st:SortSt}:Sm st st:=⟨rfl,rfl,rfl,rfl⟩
theorem Sm.trans {st st' st'':SortSt}(a:Sm st st')(b:Sm st' st''):Sm st st'':=⟨b.a.trans a.a,b.k.trans a.k,b.p.trans a.p,b.f.trans a.f⟩
noncomputable abbrev G:=Option (Array Keyed)×Array Keyed×Nat×Nat×Nat×Nat×Nat
noncomputable def T3 (a b out:Array Keyed)(ia ib mg ac bc:Nat):StateT SortSt Sem (ForInStep G):=do
 let x <- elem' a ia
 if (ia+1+1 == a.size)=true then pure (ForInStep.done (some (out.push x++b.extract ib b.size++a.extract (ia+1) a.size),out.push x,ia+1,ib,mg,ac,bc))
 else if (decide (ac < 7) && decide (bc < 7))=true then pure (ForInStep.done (none,out.push x,ia+1,ib,mg,ac,bc))
 else pure (ForInStep.yield (none,out.push x,ia+1,ib,mg,ac,bc))
noncomputable def T2 (a b out:Array Keyed)(ia ib mg ac bc:Nat):StateT SortSt Sem (ForInStep G):=do
 let x <- elem' b ib
 if (ib+1 == b.size)=true then pure (ForInStep.done (some (out.push x++a.extract ia a.size++b.extract (ib+1) b.size),out.push x,ia,ib+1,mg,ac,bc))
 else
  let y <- elem' a ia
  let r <- dB true y b (ib+1) (b.size - (ib+1)) 0
  match r with
  | some k=>
   if k > 0 then
    if (ib+1+k == b.size)=true then pure (ForInStep.done (some (out.push x++b.extract (ib+1) (ib+1+k)++a.extract ia a.size++b.extract (ib+1+k) b.size),out.push x++b.extract (ib+1) (ib+1+k),ia,ib+1+k,mg,ac,k))
    else T3 a b (out.push x++b.extract (ib+1) (ib+1+k)) ia (ib+1+k) mg ac k
   else T3 a b (out.push x) ia (ib+1) mg ac k
  | _=>pure (ForInStep.done (some (out.push x++a.extract ia a.size++b.extract (ib+1) b.size),out.push x,ia,ib+1,mg,ac,bc))
noncomputable def T1 (a b out:Array Keyed)(ia ib mg ac bc:Nat):StateT SortSt Sem (ForInStep G):=do
 om mg
 let x <- elem' b ib
 let r <- dB false x a ia (a.size - ia) 0
 match r with
 | some k=>
  if k > 0 then
   if (ia+k+1 == a.size)=true then pure (ForInStep.done (some (out++a.extract ia (ia+k)++b.extract ib b.size++a.extract (ia+k) a.size),out++a.extract ia (ia+k),ia+k,ib,mg,k,bc))
   else if (ia+k == a.size)=true then pure (ForInStep.done (some (out++a.extract ia (ia+k)++a.extract (ia+k) a.size++b.extract ib b.size),out++a.extract ia (ia+k),ia+k,ib,mg,k,bc))
   else T2 a b (out++a.extract ia (ia+k)) (ia+k) ib mg k bc
  else T2 a b out ia ib mg k bc
 | _=>pure (ForInStep.done (some (out++a.extract ia a.size++b.extract ib b.size),out,ia,ib,mg,ac,bc))
section
variable {prog:Program} {w:World} {A:Around} {E:Value->Shared->Prop} {s:Shared} {o:Ord} {N:Nat} {f:Nat->Keyed} {kd:SortKind} {st st0:SortSt} {X Y hs:List Nat} {ia ib:Nat}
theorem lU {m:Nat}(h:Sm st0 st){Q:Unit->SortSt->Prop}(q:∀ st',Sm st0 st'->Q () st'):wpS (model prog w) A E s (om m) Q st:=by
 rw [Hz];exact wpS_modify (q _ (h.trans ⟨rfl,rfl,rfl,rfl⟩))
noncomputable def On (o:Ord)(f:Nat->Keyed)(X Y:List Nat)(n:Nat)(hs:List Nat)(ia ib:Nat):Prop:=Mg o X Y hs ia ib/\ia+1 < X.length/\ib < Y.length/\n<=ia+ib
noncomputable def G2 (o:Ord)(f:Nat->Keyed)(X Y:List Nat)(n:Nat)(st0:SortSt):ForInStep G->SortSt->Prop:=λ r st'=>Sm st0 st'/\match r with
 | .done c=>(∃ r z,c=(some r,z)/\Res o f X Y r)\/∃ hs ia ib mg ac bc,c=(none,fa f hs,ia,ib,mg,ac,bc)/\On o f X Y n hs ia ib
 | .yield c=>∃ hs ia ib mg ac bc,c=(none,fa f hs,ia,ib,mg,ac,bc)/\On o f X Y n hs ia ib
noncomputable def Top (o:Ord)(X Y:List Nat):Prop:=∀ i x,X[i]?=some x->i+1=X.length->∀ y∈Y,P o y x
theorem Ql {α β γ δ κ:Type}{S:Prop}{g:α->β->γ->δ->κ}{O:α->β->γ->δ->Prop}{T:κ->Prop}(k:S->∀ a b c d,O a b c d->T (g a b c d)):∀ q,(S/\∃ a b c d,q=g a b c d/\O a b c d)->T q:=by
 rintro q ⟨s,a,b,c,d,rfl,o⟩;exact k s a b c d o
theorem Qw {α β γ δ ε κ:Type}{S:Prop}{g:α->β->γ->δ->ε->κ}{O:α->β->γ->δ->ε->Prop}{T:κ->Prop}(k:S->∀ a b c d e,O a b c d e->T (g a b c d e)):∀ q,(S/\∃ a b c d e,q=g a b c d e/\O a b c d e)->T q:=by
 rintro q ⟨s,a,b,c,d,e,rfl,o⟩;exact k s a b c d e o
theorem Qu {α β γ δ ε ζ κ:Type}{S:Prop}{g:α->β->γ->δ->ε->ζ->κ}{O:α->β->γ->δ->ε->ζ->Prop}{T:κ->Prop}(k:S->∀ a b c d e f,O a b c d e f->T (g a b c d e f)):∀ q,(S/\∃ a b c d e f,q=g a b c d e f/\O a b c d e f)->T q:=by
 rintro q ⟨s,a,b,c,d,e,f,rfl,o⟩;exact k s a b c d e f o
theorem Qp {α β γ δ ε κ ρ σ:Type}{S:Prop}{j:ρ->σ->κ}{R:ρ->Prop}{g:α->β->γ->δ->ε->κ}{O:α->β->γ->δ->ε->Prop}{T:κ->Prop}(k1:S->∀ r z,R r->T (j r z))(k:S->∀ a b c d e,O a b c d e->T (g a b c d e)):∀ q,(S/\((∃ r z,q=j r z/\R r)\/∃ a b c d e,q=g a b c d e/\O a b c d e))->T q:=by
 rintro q ⟨s,⟨r,z,rfl,hr⟩ | ⟨a,b,c,d,e,rfl,o⟩⟩
 ·exact k1 s r z hr
 ·exact k s a b c d e o
theorem Qh {α β γ δ ε ζ κ ρ σ:Type}{S:Prop}{j:ρ->σ->κ}{R:ρ->Prop}{g:α->β->γ->δ->ε->ζ->κ}{O:α->β->γ->δ->ε->ζ->Prop}{T:κ->Prop}(k1:S->∀ r z,R r->T (j r z))(k:S->∀ a b c d e f,O a b c d e f->T (g a b c d e f)):∀ q,(S/\((∃ r z,q=j r z/\R r)\/∃ a b c d e f,q=g a b c d e f/\O a b c d e f))->T q:=by
 rintro q ⟨s,⟨r,z,rfl,hr⟩ | ⟨a,b,c,d,e,f,rfl,o⟩⟩
 ·exact k1 s r z hr
 ·exact k s a b c d e f o
theorem m8 (ab:Ab o N X Y)(tp:Top o X Y)(m:Mg o X Y hs ia ib)(h:ia+1=X.length):Res o f X Y (fa f hs++(fa f Y).extract ib Y.length++(fa f X).extract ia X.length):=
 m.Mp ab λ x hx y hy=>by
  obtain ⟨j,hj,ej⟩:=mP hx;have:=(List.getElem?_eq_some_iff.mp ej).1;exact tp j x ej (by omega) y (mem_of_mem_drop hy)
theorem Jz (ab:Ab o N X Y)(tp:Top o X Y)(hm:Sm st0 st){n mg ac bc x y:Nat}(m:Mg o X Y hs ia ib)(ha:ia+1 < X.length)(hb:ib < Y.length)(hn:n<=ia+ib)(hx:X[ia]?=some x)(hy:Y[ib]?=some y)(hxy:P o x y) :
  wpS (model prog w) A E s (T3 (fa f X) (fa f Y) (fa f hs) ia ib mg ac bc) (G2 o f X Y n st0) st:=by
 unfold T3;simp only [kK];refine wpS_bind (bu (dN hx) ?_);have m2:=m.oq ab hx (jd ab.sb hy hxy);rw [mz];by_cases c:ia+1+1=X.length
 ·rw [if_pos (by rw [c];exact beq_self_eq_true _)];exact wpS_pure ⟨hm,.inl ⟨_,_,rfl,m8 ab tp m2 c⟩⟩
 ·rw [if_neg (by simpa using c)];by_cases c2:(decide (ac < 7) && decide (bc < 7))=true
  ·rw [if_pos c2];exact wpS_pure ⟨hm,.inr ⟨_,_,_,_,_,_,rfl,m2,by omega,hb,by omega⟩⟩
  ·rw [if_neg c2];exact wpS_pure ⟨hm,⟨_,_,_,_,_,_,rfl,m2,by omega,hb,by omega⟩⟩
theorem J9 (C:rQ prog w A s o N f kd)(hk:kindOf st=kd)(ab:Ab o N X Y)(tp:Top o X Y)(hm:Sm st0 st){n mg ac bc x y:Nat}(m:Mg o X Y hs ia ib)(ha:ia+1 < X.length)(hb:ib < Y.length)(hn:n<=ia+ib)(hx:X[ia]?=some x)(hy:Y[ib]?=some y)(hxy:P o y x) :
  wpS (model prog w) A E s (T2 (fa f X) (fa f Y) (fa f hs) ia ib mg ac bc) (G2 o f X Y n st0) st:=by
 unfold T2;simp only [kK];refine wpS_bind (bu (dN hy) ?_);have m2:=ab.oV m hy (jd ab.sa hx hxy);rw [mz];by_cases c:ib+1=Y.length
 ·rw [if_pos (by rw [c];exact beq_self_eq_true _)];exact wpS_pure ⟨hm,.inl ⟨_,_,rfl,m2.fin ab λ x _ y hy=>by rw [drop_nil (by omega)] at hy;cases hy⟩⟩
 ·rw [if_neg (by simpa using c)];refine wpS_bind (bu (dN hx) ?_);refine wpS_bind (CN C hk (h:=λ i=>Y.getD (ib+1+i) 0) (λ i hi=>dN (getD_at (by omega))) (λ i hi=>?_) (yT ab.sb _ _ (by omega)) (by omega) λ k k1 k2 k3=>?_)
  ·have:=mem_of_getElem? (getD_at (l:=Y) (i:=ib+1+i) (by omega));exact ⟨ab.lt x (mem_of_getElem? hx) _ this,ab.nb _ this⟩
  ·dsimp only;have m3:=m2.qt ab hx k (by omega) λ i z hi ez=>by
    have:=k2 i hi;rw [getD_eq_getElem?_getD,ez] at this;exact this
   by_cases c2:k > 0
   ·rw [if_pos c2,nX,show ib+1+k - (ib+1)=k by omega,gO];by_cases c3:ib+1+k=Y.length
    ·rw [if_pos (by rw [c3];exact beq_self_eq_true _)];exact wpS_pure ⟨hm,.inl ⟨_,_,rfl,m3.fin ab λ x _ y hy=>by rw [drop_nil (by omega)] at hy;cases hy⟩⟩
    ·rw [if_neg (by simpa using c3)];exact Jz ab tp hm m3 ha (by omega) (by omega) hx (getD_at (by omega)) (k3 k (Nat.le_refl _) (by omega))
   ·rw [if_neg c2];have:k=0:=by omega
    subst this;exact Jz ab tp hm m2 ha (by omega) (by omega) hx (getD_at (by omega)) (k3 0 (Nat.le_refl _) (by omega))
theorem N7 (C:rQ prog w A s o N f kd)(hk:kindOf st0=kd)(ab:Ab o N X Y)(tp:Top o X Y)(hm:Sm st0 st){n mg ac bc:Nat}(m:Mg o X Y hs ia ib)(ha:ia+1 < X.length)(hb:ib < Y.length)(hn:n<=ia+ib) :
  wpS (model prog w) A E s (T1 (fa f X) (fa f Y) (fa f hs) ia ib mg ac bc) (G2 o f X Y n st0) st:=by
 unfold T1;simp only [kK];refine wpS_bind (lU hm λ st1 hm1=>?_);have hy:=getD_at (l:=Y) (i:=ib) hb;have yB:=mem_of_getElem? hy;refine wpS_bind (bu (dN hy) ?_);refine wpS_bind (CW C (by rw [hm1.k];exact hk) (h:=λ i=>X.getD (ia+i) 0) (λ i hi=>dN (getD_at (by omega))) (λ i hi=>ab.lt _ (mem_of_getElem? (getD_at (l:=X) (i:=ia+i) (by omega))) _ yB) (ab.nb _ yB) (yT ab.sa _ _ (by omega)) (by omega) λ k k1 k2 k3=>?_);dsimp only;have m3:=m.qw ab hy k (by omega) λ i z hi ez=>by
  have:=k2 i hi;rw [getD_eq_getElem?_getD,ez] at this;exact this
 by_cases c2:k > 0
 ·rw [if_pos c2,nX,show ia+k - ia=k by omega,gO];by_cases c3:ia+k+1=X.length
  ·rw [if_pos (by rw [c3];exact beq_self_eq_true _)];exact wpS_pure ⟨hm1,.inl ⟨_,_,rfl,m8 ab tp m3 c3⟩⟩
  ·rw [if_neg (by simpa using c3)];by_cases c4:ia+k=X.length
   ·rw [if_pos (by rw [c4];exact beq_self_eq_true _)];exact wpS_pure ⟨hm1,.inl ⟨_,_,rfl,m3.fin ab λ x hx y _=>by rw [drop_nil (by omega)] at hx;cases hx⟩⟩
   ·rw [if_neg (by simpa using c4)];exact J9 C (by rw [hm1.k];exact hk) ab tp hm1 m3 (by omega) hb (by omega) (getD_at (by omega)) hy (k3 k (Nat.le_refl _) (by omega))
 ·rw [if_neg c2];have:k=0:=by omega
  subst this;exact J9 C (by rw [hm1.k];exact hk) ab tp hm1 m ha hb hn (getD_at (by omega)) hy (k3 0 (Nat.le_refl _) (by omega))
theorem MX (C:rQ prog w A s o N f kd)(hk:kindOf st=kd)(ab:Ab o N X Y)(tp:Top o X Y)(h1:1<=X.length){y0:Nat}(hy0:Y[0]?=some y0)(h0:∀ x∈X,P o y0 x)
  {Q:Array Keyed->SortSt->Prop} (q:∀ out st',Sm st st'->Res o f X Y out->Q out st'):wpS (model prog w) A E s (p6 (fa f X) (fa f Y)) Q st:=by
 rw [xZ];refine wpS_bind (wpS_lift (wpAny_rule ⟨rfl,?_⟩));dsimp only;simp only [kK];have hY:=(List.getElem?_eq_some_iff.mp hy0).1;refine wpS_bind (bu (dN hy0) ?_);have m0:Mg o X Y [] 0 0:=⟨zero_le _,zero_le _,rfl,List.Pairwise.nil,(λ _ h=>nomatch h),(λ _ h=>nomatch h),(λ _ h=>nomatch h)⟩;have m1:Mg o X Y [y0] 0 1:=ab.oV m0 hy0 h0;have e1:(#[f y0]:Array Keyed)=fa f [y0]:=rfl;rw [e1];by_cases c:1=Y.length
 ·rw [if_pos (by rw [<- c];rfl)];exact wpS_pure (q _ _ Sm.refl (m1.fin ab λ x _ y hy=>by rw [drop_nil (by omega)] at hy;cases hy))
 ·rw [if_neg (by simpa using c)];by_cases c2:0+1=X.length
  ·rw [if_pos (by rw [<- c2];rfl)];exact wpS_pure (q _ _ Sm.refl (m8 ab tp m1 c2))
  ·rw [if_neg (by simpa using c2)];refine wpS_bind (wpS_get ?_);refine wpS_bind (wpS_mono (wpS_forRange (I:=λ x c st'=>Sm st st'/\∃ hs ia ib mg,c=(none,fa f hs,ia,ib,mg)/\On o f X Y (x+1) hs ia ib)
    (Q:=λ c st'=>Sm st st'/\∃ r z,c=(some r,z)/\Res o f X Y r) ?step ?fin ⟨Sm.refl,_,_,_,_,rfl,m1,by omega,by omega,Nat.le_refl _⟩) ?post)
   case post=>
    rintro c st' ⟨hm,r,z,rfl,hr⟩;exact wpS_pure (q _ _ hm hr)
   case fin=>
    rintro c st' ⟨hm,hs,ia,ib,mg,rfl,m,a1,a2,a3⟩;exfalso;omega
   case step=>
    intro x c st' _ hx hh;revert hh;revert c;refine Ql λ hm hs ia ib mg ho=>?_;have m:=ho.1;have a1:=ho.2.1;have a2:=ho.2.2.1;have a3:=ho.2.2.2;clear ho;dsimp only;refine wpS_bind (wpS_mono (wpS_forRange (I:=λ x' c st''=>Sm st st''/\∃ hs ia ib ac bc,c=(none,fa f hs,ia,ib,ac,bc)/\On o f X Y (x+1+min x' 1) hs ia ib)
     (Q:=λ c st''=>Sm st st''/\((∃ r z,c=(some r,z)/\Res o f X Y r)\/∃ hs ia ib ac bc,c=(none,fa f hs,ia,ib,ac,bc)/\On o f X Y (x+1+1) hs ia ib)) ?istep ?ifin ⟨hm,_,_,_,_,_,rfl,m,a1,a2,a3⟩) ?ipost)
    case ifin=>
     rintro c st'' ⟨hm',hs,ia,ib,ac,bc,rfl,m,a1,a2,a3⟩;exact ⟨hm',.inr ⟨_,_,_,_,_,rfl,m,a1,a2,by omega⟩⟩
    case istep=>
     intro x' c st'' _ hx' hh;revert hh;revert c;refine Qw λ hm' hs ia ib ac bc ho=>?_;have m:=ho.1;have a1:=ho.2.1;have a2:=ho.2.2.1;have a3:=ho.2.2.2;clear ho;dsimp only;have hy:=getD_at (l:=Y) (i:=ib) a2;have hxx:=getD_at (l:=X) (i:=ia) (by omega);have yB:=mem_of_getElem? hy;have xA:=mem_of_getElem? hxx;have lt:=ab.lt _ xA _ yB;refine wpS_bind (bu (dN hy) ?_);refine wpS_bind (bu (dN hxx) ?_);refine wpS_bind (pO C (by rw [hm'.k];exact hk) (ab.nb _ yB) (ab.na _ xA) ?_)
     cases hl:o.lt (Y.getD ib 0) (X.getD ia 0)
     ·simp only [false_eq_true,if_false];refine wpS_bind (bu (dN hxx) ?_);have m2:=m.oq ab hxx (jd ab.sb hy (P.n9 hl lt));rw [mz];by_cases c3:ia+1+1=X.length
      ·rw [if_pos (by rw [c3];exact beq_self_eq_true _)];exact wpS_pure ⟨hm',.inl ⟨_,_,rfl,m8 ab tp m2 c3⟩⟩
      ·rw [if_neg (by simpa using c3)];by_cases c4:ac+1>=mg
       ·rw [if_pos c4];exact wpS_pure ⟨hm',.inr ⟨_,_,_,_,_,rfl,m2,by omega,a2,by omega⟩⟩
       ·rw [if_neg c4];exact wpS_pure ⟨hm',_,_,_,_,_,rfl,m2,by omega,a2,by omega⟩
     ·simp only [if_true];refine wpS_bind (bu (dN hy) ?_);have m2:=ab.oV m hy (jd ab.sa hxx (P.of_lt hl));rw [mz];by_cases c3:ib+1=Y.length
      ·rw [if_pos (by rw [c3];exact beq_self_eq_true _)];exact wpS_pure ⟨hm',.inl ⟨_,_,rfl,m2.fin ab λ x _ y hy=>by rw [drop_nil (by omega)] at hy;cases hy⟩⟩
      ·rw [if_neg (by simpa using c3)];by_cases c4:bc+1>=mg
       ·rw [if_pos c4];exact wpS_pure ⟨hm',.inr ⟨_,_,_,_,_,rfl,m2,a1,by omega,by omega⟩⟩
       ·rw [if_neg c4];exact wpS_pure ⟨hm',_,_,_,_,_,rfl,m2,a1,by omega,by omega⟩
    case ipost=>
     intro c st'' hh;revert hh;revert c;refine Qp (λ hm' r z hr=>?_) λ hm' hs ia ib ac bc ho=>?_
     ·dsimp only;exact wpS_pure ⟨hm',r,_,rfl,hr⟩
     ·have m:=ho.1;have a1:=ho.2.1;have a2:=ho.2.2.1;have a3:=ho.2.2.2;clear ho;dsimp only;refine wpS_bind (wpS_lift (wpAny_rule ⟨rfl,?_⟩));refine wpS_bind (wpS_mono (wpS_forRange (I:=λ x' c st''=>Sm st st''/\∃ hs ia ib mg ac bc,c=(none,fa f hs,ia,ib,mg,ac,bc)/\On o f X Y (x+1+1) hs ia ib)
       (Q:=λ c st''=>Sm st st''/\((∃ r z,c=(some r,z)/\Res o f X Y r)\/∃ hs ia ib mg ac bc,c=(none,fa f hs,ia,ib,mg,ac,bc)/\On o f X Y (x+1+1) hs ia ib)) ?jstep ?jfin ⟨hm',_,_,_,_,_,_,rfl,m,a1,a2,a3⟩) ?jpost)
      case jfin=>
       rintro c st3 ⟨hm3,hh⟩;exact ⟨hm3,.inr hh⟩
      case jstep=>
       intro x' c st3 _ hx' hh;revert hh;revert c;refine Qu λ hm3 hs ia ib mg ac bc ho=>?_;have m:=ho.1;have a1:=ho.2.1;have a2:=ho.2.2.1;have a3:=ho.2.2.2;clear ho;dsimp only;have t1:=λ mg=>N7 (n:=x+1+1) (mg:=mg) (ac:=ac) (bc:=bc) (E:=E) C hk ab tp hm3 m a1 a2 a3;unfold T1 T2 T3 at t1;simp only [kK] at t1;refine wpS_mono (Q:=G2 o f X Y (x+1+1) st) ?_ ?_
       ·by_cases c3:mg > 1
        ·rw [if_pos c3];exact t1 (mg - 1)
        ·rw [if_neg c3];exact t1 mg
       ·rintro r st4 ⟨hm4,hr⟩
        cases r with
        | done c=>exact ⟨hm4,hr⟩
        | yield c=>exact ⟨hm4,hr⟩
      case jpost=>
       intro c st3 hh;revert hh;revert c;refine Qh (λ hm3 r z hr=>?_) λ hm3 hs ia ib mg ac bc ho=>?_
       ·dsimp only;exact wpS_pure ⟨hm3,r,_,rfl,hr⟩
       ·have m:=ho.1;have a1:=ho.2.1;have a2:=ho.2.2.1;have a3:=ho.2.2.2;clear ho;dsimp only;refine wpS_bind (lU hm3 λ st4 hm4=>?_);exact wpS_pure ⟨hm4,_,_,_,_,rfl,m,a1,a2,a3⟩
end
theorem wZ (a b:Array Keyed):pZ a b=(do
 rule "list.sort.merge-hi"
 let all_:=a.size+b.size
 let end1 (acc:Array Keyed) (p q:Nat):=a.extract 0 p++b.extract 0 q++acc.reverse
 let end2 (acc:Array Keyed) (p q:Nat):=b.extract 0 q++a.extract 0 p++acc.reverse
 let mut p:=a.size - 1
 let mut q:=b.size
 let mut acc:Array Keyed:=#[<- elem' a p]
 if p == 0 then return end1 acc p q
 if q == 1 then return end2 acc p q
 let mut mg:=gallopOf (<- get)
 for _ in [0:all_] do
  let mut ca:=0
  let mut cb:=0
  for _ in [0:all_] do
   let some won <- lt' (<- elem' b (q - 1)) (<- elem' a (p - 1)) | return end1 acc p q
   if won then
    p:=p - 1;acc:=acc.push (<- elem' a p);ca:=ca+1;cb:=0
    if p == 0 then return end1 acc p q
    if ca>=mg then break
   else
    q:=q - 1;acc:=acc.push (<- elem' b q);cb:=cb+1;ca:=0
    if q == 1 then return end2 acc p q
    if cb>=mg then break
  rule "list.sort.gallop"
  mg:=mg+1
  for _ in [0:all_] do
   if mg > 1 then mg:=mg - 1
   om mg
   let some t <- dB false (<- elem' b (q - 1)) a 0 p (p - 1) | return end1 acc p q
   let k:=p - t
   ca:=k
   if k > 0 then
    acc:=acc++(a.extract t p).reverse;p:=t
    if p == 0 then return end1 acc p q
   q:=q - 1;acc:=acc.push (<- elem' b q)
   if q == 1 then return end2 acc p q
   let some t <- dB true (<- elem' a (p - 1)) b 0 q (q - 1) | return end1 acc p q
   let k:=q - t
   cb:=k
   if k > 0 then
    acc:=acc++(b.extract t q).reverse;q:=t
    if q == 1 then return end2 acc p q
    if q == 0 then return end1 acc p q
   p:=p - 1;acc:=acc.push (<- elem' a p)
   if p == 0 then return end1 acc p q
   if ca < 7 && cb < 7 then break
  mg:=mg+1
  om mg
 unsupported "internal:list.sort.merge-bound"):=rfl
section
variable {o:Ord} {N:Nat} {f:Nat->Keyed} {A B ts:List Nat} {na nb:Nat}
theorem E1 (l:List Nat):(fa f l).reverse=fa f l.reverse:=by
 unfold fa;rw [List.reverse_toArray,List.map_reverse]
theorem o4 (l:List Nat)(i:Nat):(fa f l).extract 0 i=fa f (l.take i):=by
 rw [nX,List.drop_zero,Nat.sub_zero]
structure Mh (o:Ord)(A B ts:List Nat)(na nb:Nat):Prop where
 la:na<=A.length
 lb:nb<=B.length
 len:ts.length+na+nb=A.length+B.length
 so:ts.Pairwise (P o)
 mem:∀ x∈ts,x∈A\/x∈B
 ua:∀ y∈A.take na,∀ x∈ts,P o y x
 ub:∀ y∈B.take nb,∀ x∈ts,P o y x
theorem mq {l:List Nat}{i y:Nat}(h:y∈l.take i):∃ j,j < i/\l[j]?=some y:=by
 obtain ⟨k,hk⟩:=getElem?_of_mem h;have:=(List.getElem?_eq_some_iff.mp hk).1;rw [length_take] at this;rw [List.getElem?_take_of_lt (by omega)] at hk;exact ⟨k,by omega,hk⟩
theorem take_one {l:List Nat}{i x:Nat}(h:l[i]?=some x):l.take (i+1)=l.take i++[x]:=by
 obtain ⟨h1,e1⟩:=List.getElem?_eq_some_iff.mp h;rw [List.take_succ_eq_append_getElem h1,e1]
theorem Mh.oq (ab:Ab o N A B)(m:Mh o A B ts (na+1) nb){x:Nat}(hx:A[na]?=some x)(h:∀ y∈B.take nb,P o y x):Mh o A B (x::ts) na nb:=by
 have la:=m.la;have len:=m.len;have ht:=take_one hx;have xin:x∈A.take (na+1):=by rw [ht];exact mem_append_right _ (mem_singleton.mpr rfl)
 refine ⟨by omega,m.lb,by rw [length_cons];omega,pairwise_cons.mpr ⟨λ y hy=>m.ua x xin y hy,m.so⟩,λ z hz=>?_,λ y hy z hz=>?_,λ y hy z hz=>?_⟩
 ·rcases mem_cons.mp hz with rfl | z'
  ·exact .inl (mem_of_getElem? hx)
  ·exact m.mem z z'
 ·rcases mem_cons.mp hz with rfl | z'
  ·obtain ⟨j,hj,ej⟩:=mq hy;exact j3 ab.sa ej hx hj
  ·exact m.ua y (by rw [ht];exact mem_append_left _ hy) z z'
 ·rcases mem_cons.mp hz with rfl | z'
  ·exact h y hy
  ·exact m.ub y hy z z'
theorem Mh.Cz (ab:Ab o N A B)(m:Mh o A B ts na (nb+1)){x:Nat}(hx:B[nb]?=some x)(h:∀ y∈A.take na,P o y x):Mh o A B (x::ts) na nb:=by
 have lb:=m.lb;have len:=m.len;have ht:=take_one hx;have xin:x∈B.take (nb+1):=by rw [ht];exact mem_append_right _ (mem_singleton.mpr rfl)
 refine ⟨m.la,by omega,by rw [length_cons];omega,pairwise_cons.mpr ⟨λ y hy=>m.ub x xin y hy,m.so⟩,λ z hz=>?_,λ y hy z hz=>?_,λ y hy z hz=>?_⟩
 ·rcases mem_cons.mp hz with rfl | z'
  ·exact .inr (mem_of_getElem? hx)
  ·exact m.mem z z'
 ·rcases mem_cons.mp hz with rfl | z'
  ·exact h y hy
  ·exact m.ua y hy z z'
 ·rcases mem_cons.mp hz with rfl | z'
  ·obtain ⟨j,hj,ej⟩:=mq hy;exact j3 ab.sb ej hx hj
  ·exact m.ub y (by rw [ht];exact mem_append_left _ hy) z z'
theorem iR {l:List Nat}(h:l.Pairwise (P o)){i x y:Nat}(hx:l[i]?=some x)(hxy:P o x y):∀ z∈l.take (i+1),P o z y:=λ z hz=>by
 obtain ⟨j,hj,ej⟩:=mq hz;by_cases c:j=i
 ·subst c;rw [hx] at ej;cases ej;exact hxy
 ·exact (j3 h ej hx (by omega)).trans hxy
theorem Mh.qw (ab:Ab o N A B){y:Nat}{mb:Nat}(hy:B[mb]?=some y):∀ (k:Nat) {ts:List Nat} {at_:Nat},Mh o A B ts (at_+k) (mb+1)->(∀ i x,at_<=i->i < at_+k->A[i]?=some x->P o y x)->Mh o A B ((A.drop at_).take k++ts) at_ (mb+1)
 | 0,ts,at_,m,_=>by rw [take_zero];exact m
 | k+1,ts,at_,m,h=>by
  have la:=m.la;have hx:A[at_+k]?=some (A[at_+k]'(by omega)):=List.getElem?_eq_getElem _;have m2:=Mh.oq ab (show Mh o A B ts (at_+k+1) (mb+1) from m) hx (iR ab.sb hy (h _ _ (by omega) (by omega) hx));have m3:=Mh.qw ab hy k m2 λ i x h1 h2=>h i x h1 (by omega);rw [take_snoc hx,List.append_assoc];exact m3
theorem Mh.qt (ab:Ab o N A B){y:Nat}{ma:Nat}(hy:A[ma]?=some y):∀ (k:Nat) {ts:List Nat} {at_:Nat},Mh o A B ts (ma+1) (at_+k)->(∀ i x,at_<=i->i < at_+k->B[i]?=some x->P o y x)->Mh o A B ((B.drop at_).take k++ts) (ma+1) at_
 | 0,ts,at_,m,_=>by rw [take_zero];exact m
 | k+1,ts,at_,m,h=>by
  have lb:=m.lb;have hx:B[at_+k]?=some (B[at_+k]'(by omega)):=List.getElem?_eq_getElem _;have m2:=Mh.Cz ab (show Mh o A B ts (ma+1) (at_+k+1) from m) hx (iR ab.sa hy (h _ _ (by omega) (by omega) hx));have m3:=Mh.qt ab hy k m2 λ i x h1 h2=>h i x h1 (by omega);rw [take_snoc hx,List.append_assoc];exact m3
theorem pC {l:List Nat}(h:l.Pairwise (P o))(i:Nat):(l.take i).Pairwise (P o):=h.sublist (List.take_sublist ..)
theorem Mh.fin (ab:Ab o N A B)(m:Mh o A B ts na nb)(h:∀ x∈A.take na,∀ y∈B.take nb,P o x y):Res o f A B ((fa f A).extract 0 na++(fa f B).extract 0 nb++fa f ts):=by
 rw [o4,o4,gO,gO];have la:=m.la;have lb:=m.lb;have len:=m.len;refine ⟨_,rfl,by rw [length_append,length_append,length_take,length_take];omega,?_,λ x hx=>?_⟩
 ·rw [pairwise_append,pairwise_append];refine ⟨⟨pC ab.sa _,pC ab.sb _,h⟩,m.so,λ x hx y hy=>?_⟩
  rcases mem_append.mp hx with z | z
  ·exact m.ua x z y hy
  ·exact m.ub x z y hy
 ·rcases mem_append.mp hx with z | z
  ·rcases mem_append.mp z with z | z
   ·exact .inl (mem_of_mem_take z)
   ·exact .inr (mem_of_mem_take z)
  ·exact m.mem x z
theorem Mh.Mp (ab:Ab o N A B)(m:Mh o A B ts na nb)(h:∀ x∈A.take na,∀ y∈B.take nb,P o y x):Res o f A B ((fa f B).extract 0 nb++(fa f A).extract 0 na++fa f ts):=by
 rw [o4,o4,gO,gO];have la:=m.la;have lb:=m.lb;have len:=m.len;refine ⟨_,rfl,by rw [length_append,length_append,length_take,length_take];omega,?_,λ x hx=>?_⟩
 ·rw [pairwise_append,pairwise_append];refine ⟨⟨pC ab.sb _,pC ab.sa _,λ x hx y hy=>h y hy x hx⟩,m.so,λ x hx y hy=>?_⟩
  rcases mem_append.mp hx with z | z
  ·exact m.ub x z y hy
  ·exact m.ua x z y hy
 ·rcases mem_append.mp hx with z | z
  ·rcases mem_append.mp z with z | z
   ·exact .inr (mem_of_mem_take z)
   ·exact .inl (mem_of_mem_take z)
  ·exact m.mem x z
noncomputable def NS (o:Ord)(X Y:List Nat):Prop:=∀ y,Y[0]?=some y->∀ x∈X,P o y x
theorem kr (ab:Ab o N A B)(bt:NS o A B)(m:Mh o A B ts na nb)(h:nb=1):Res o f A B ((fa f B).extract 0 nb++(fa f A).extract 0 na++fa f ts):=
 m.Mp ab λ x hx y hy=>by
  obtain ⟨j,hj,ej⟩:=mq hy;have:j=0:=by omega
  subst this;exact bt y ej x (mem_of_mem_take hx)
theorem Mh.vP (ab:Ab o N A B)(m:Mh o A B ts na nb)(h:na=0\/nb=0):Res o f A B ((fa f A).extract 0 na++(fa f B).extract 0 nb++fa f ts):=
 m.fin ab λ x hx y hy=>by
  rcases h with rfl | rfl
  ·rw [take_zero] at hx;cases hx
  ·rw [take_zero] at hy;cases hy
theorem o_ (l:List Nat)(x:Nat):(fa f l.reverse).push (f x)=fa f (x::l).reverse:=by rw [mz,List.reverse_cons]
theorem EI (l m:List Nat):fa f l.reverse++(fa f m).reverse=fa f (m++l).reverse:=by rw [E1,gO,List.reverse_append]
theorem lE (l:List Nat):(fa f l.reverse).reverse=fa f l:=by rw [E1,List.reverse_reverse]
end
noncomputable abbrev H:=Option (Array Keyed)×Nat×Nat×Array Keyed×Nat×Nat×Nat
noncomputable def U3 (a b out:Array Keyed)(na nb mg ac bc:Nat):StateT SortSt Sem (ForInStep H):=do
 let x <- elem' a (na - 1)
 if (na - 1 == 0)=true then pure (ForInStep.done (some (a.extract 0 (na - 1)++b.extract 0 nb++(out.push x).reverse),na - 1,nb,out.push x,mg,ac,bc))
 else if (decide (ac < 7) && decide (bc < 7))=true then pure (ForInStep.done (none,na - 1,nb,out.push x,mg,ac,bc))
 else pure (ForInStep.yield (none,na - 1,nb,out.push x,mg,ac,bc))
noncomputable def U2 (a b out:Array Keyed)(na nb mg ac bc:Nat):StateT SortSt Sem (ForInStep H):=do
 let x <- elem' b (nb - 1)
 if (nb - 1 == 1)=true then pure (ForInStep.done (some (b.extract 0 (nb - 1)++a.extract 0 na++(out.push x).reverse),na,nb - 1,out.push x,mg,ac,bc))
 else
  let y <- elem' a (na - 1)
  let r <- dB true y b 0 (nb - 1) (nb - 1 - 1)
  match r with
  | some t=>
   if nb - 1 - t > 0 then
    if (t == 1)=true then pure (ForInStep.done (some (b.extract 0 t++a.extract 0 na++(out.push x++(b.extract t (nb - 1)).reverse).reverse),na,t,out.push x++(b.extract t (nb - 1)).reverse,mg,ac,nb - 1 - t))
    else if (t == 0)=true then pure (ForInStep.done (some (a.extract 0 na++b.extract 0 t++(out.push x++(b.extract t (nb - 1)).reverse).reverse),na,t,out.push x++(b.extract t (nb - 1)).reverse,mg,ac,nb - 1 - t))
    else U3 a b (out.push x++(b.extract t (nb - 1)).reverse) na t mg ac (nb - 1 - t)
   else U3 a b (out.push x) na (nb - 1) mg ac (nb - 1 - t)
  | _=>pure (ForInStep.done (some (a.extract 0 na++b.extract 0 (nb - 1)++(out.push x).reverse),na,nb - 1,out.push x,mg,ac,bc))
noncomputable def U1 (a b out:Array Keyed)(na nb mg ac bc:Nat):StateT SortSt Sem (ForInStep H):=do
 om mg
 let x <- elem' b (nb - 1)
 let r <- dB false x a 0 na (na - 1)
 match r with
 | some t=>
  if na - t > 0 then
   if (t == 0)=true then pure (ForInStep.done (some (a.extract 0 t++b.extract 0 nb++(out++(a.extract t na).reverse).reverse),t,nb,out++(a.extract t na).reverse,mg,na - t,bc))
   else U2 a b (out++(a.extract t na).reverse) t nb mg (na - t) bc
  else U2 a b out na nb mg (na - t) bc
 | _=>pure (ForInStep.done (some (a.extract 0 na++b.extract 0 nb++out.reverse),na,nb,out,mg,ac,bc))
section
variable {prog:Program} {w:World} {A:Around} {E:Value->Shared->Prop} {s:Shared} {o:Ord} {N:Nat} {f:Nat->Keyed} {kd:SortKind} {st st0:SortSt} {X Y ts:List Nat} {na nb:Nat}
noncomputable def Oh (o:Ord)(X Y:List Nat)(n:Nat)(ts:List Nat)(na nb:Nat):Prop:=Mh o X Y ts na nb/\1<=na/\2<=nb/\na+nb+n<=X.length+Y.length
noncomputable def H2 (o:Ord)(f:Nat->Keyed)(X Y:List Nat)(n:Nat)(st0:SortSt):ForInStep H->SortSt->Prop:=λ r st'=>Sm st0 st'/\match r with
 | .done c=>(∃ r z,c=(some r,z)/\Res o f X Y r)\/∃ ts na nb mg ac bc,c=(none,na,nb,fa f ts.reverse,mg,ac,bc)/\Oh o X Y n ts na nb
 | .yield c=>∃ ts na nb mg ac bc,c=(none,na,nb,fa f ts.reverse,mg,ac,bc)/\Oh o X Y n ts na nb
theorem JZ (ab:Ab o N X Y)(hm:Sm st0 st){n mg ac bc x y:Nat}(m:Mh o X Y ts (na+1) (nb+1))(hb:1<=nb)(hn:na+1+(nb+1)+n<=X.length+Y.length)(hx:X[na]?=some x)(hy:Y[nb]?=some y)(hxy:P o y x) :
  wpS (model prog w) A E s (U3 (fa f X) (fa f Y) (fa f ts.reverse) (na+1) (nb+1) mg ac bc) (H2 o f X Y n st0) st:=by
 unfold U3;rw [show na+1 - 1=na by omega];refine wpS_bind (bu (dN hx) ?_);have m2:=m.oq ab hx (iR ab.sb hy hxy);rw [o_,lE];by_cases c:na=0
 ·rw [if_pos (by rw [c];rfl)];exact wpS_pure ⟨hm,.inl ⟨_,_,rfl,m2.vP ab (.inl c)⟩⟩
 ·rw [if_neg (by simpa using c)];by_cases c2:(decide (ac < 7) && decide (bc < 7))=true
  ·rw [if_pos c2];exact wpS_pure ⟨hm,.inr ⟨_,_,_,_,_,_,rfl,m2,by omega,by omega,by omega⟩⟩
  ·rw [if_neg c2];exact wpS_pure ⟨hm,⟨_,_,_,_,_,_,rfl,m2,by omega,by omega,by omega⟩⟩
theorem JK (C:rQ prog w A s o N f kd)(hk:kindOf st=kd)(ab:Ab o N X Y)(bt:NS o X Y)(hm:Sm st0 st){n mg ac bc x y:Nat}(m:Mh o X Y ts (na+1) (nb+1))(hb:1<=nb)(hn:na+1+(nb+1)+n<=X.length+Y.length)(hx:X[na]?=some x)(hy:Y[nb]?=some y)(hxy:P o x y) :
  wpS (model prog w) A E s (U2 (fa f X) (fa f Y) (fa f ts.reverse) (na+1) (nb+1) mg ac bc) (H2 o f X Y n st0) st:=by
 unfold U2;rw [show nb+1 - 1=nb by omega,show na+1 - 1=na by omega];refine wpS_bind (bu (dN hy) ?_);have m2:=m.Cz ab hy (iR ab.sa hx hxy);have lb:=m.lb;rw [o_,lE];by_cases c:nb=1
 ·rw [if_pos (by rw [c];rfl)];exact wpS_pure ⟨hm,.inl ⟨_,_,rfl,kr ab bt m2 c⟩⟩
 ·rw [if_neg (by simpa using c)];refine wpS_bind (bu (dN hx) ?_);refine wpS_bind (CN C hk (h:=λ i=>Y.getD (0+i) 0) (λ i hi=>dN (getD_at (by omega))) (λ i hi=>?_) (yT ab.sb _ _ (by omega)) (by omega) λ t t1 t2 t3=>?_)
  ·have:=mem_of_getElem? (getD_at (l:=Y) (i:=0+i) (by omega));exact ⟨ab.lt x (mem_of_getElem? hx) _ this,ab.nb _ this⟩
  ·dsimp only;have m3:=Mh.qt ab hx (nb - t) (at_:=t) (by rw [show t+(nb - t)=nb by omega];exact m2) λ i z hi1 hi2 ez=>by
    have:=t3 i hi1 (by omega);rw [Nat.zero_add,getD_eq_getElem?_getD (l:=Y),ez] at this;exact this
   by_cases c2:nb - t > 0
   ·rw [if_pos c2,nX Y t nb,EI,lE];by_cases c3:t=1
    ·rw [if_pos (by rw [c3];rfl)];exact wpS_pure ⟨hm,.inl ⟨_,_,rfl,kr ab bt m3 c3⟩⟩
    ·rw [if_neg (by simpa using c3)];by_cases c4:t=0
     ·rw [if_pos (by rw [c4];rfl)];exact wpS_pure ⟨hm,.inl ⟨_,_,rfl,m3.vP ab (.inr c4)⟩⟩
     ·rw [if_neg (by simpa using c4)];obtain ⟨u,rfl⟩:∃ u,t=u+1:=⟨t - 1,by omega⟩;have:=t2 u (by omega);rw [Nat.zero_add] at this;exact JZ ab hm m3 (by omega) (by omega) hx (getD_at (by omega)) this
   ·rw [if_neg c2];have:t=nb:=by omega
    subst this;obtain ⟨u,rfl⟩:∃ u,t=u+1:=⟨t - 1,by omega⟩;have:=t2 u (by omega);rw [Nat.zero_add] at this;exact JZ ab hm m2 (by omega) (by omega) hx (getD_at (by omega)) this
theorem M5 (C:rQ prog w A s o N f kd)(hk:kindOf st0=kd)(ab:Ab o N X Y)(bt:NS o X Y)(hm:Sm st0 st){n mg ac bc:Nat}(m:Mh o X Y ts (na+1) (nb+1))(hb:1<=nb)(hn:na+1+(nb+1)+n<=X.length+Y.length) :
  wpS (model prog w) A E s (U1 (fa f X) (fa f Y) (fa f ts.reverse) (na+1) (nb+1) mg ac bc) (H2 o f X Y n st0) st:=by
 unfold U1;refine wpS_bind (lU hm λ st1 hm1=>?_);have lb:=m.lb;have la:=m.la;rw [show nb+1 - 1=nb by omega,show na+1 - 1=na by omega];have hy:=getD_at (l:=Y) (i:=nb) (by omega);have yB:=mem_of_getElem? hy;refine wpS_bind (bu (dN hy) ?_);refine wpS_bind (CW C (by rw [hm1.k];exact hk) (h:=λ i=>X.getD (0+i) 0) (λ i hi=>dN (getD_at (by omega))) (λ i hi=>ab.lt _ (mem_of_getElem? (getD_at (l:=X) (i:=0+i) (by omega))) _ yB) (ab.nb _ yB) (yT ab.sa _ _ (by omega)) (by omega) λ t t1 t2 t3=>?_);dsimp only;have m3:=Mh.qw ab hy (na+1 - t) (at_:=t) (by rw [show t+(na+1 - t)=na+1 by omega];exact m) λ i z hi1 hi2 ez=>by
  have:=t3 i hi1 (by omega);rw [Nat.zero_add,getD_eq_getElem?_getD (l:=X),ez] at this;exact this
 by_cases c2:na+1 - t > 0
 ·rw [if_pos c2,nX X t (na+1),EI,lE];by_cases c4:t=0
  ·rw [if_pos (by rw [c4];rfl)];exact wpS_pure ⟨hm1,.inl ⟨_,_,rfl,m3.vP ab (.inl c4)⟩⟩
  ·rw [if_neg (by simpa using c4)];obtain ⟨u,rfl⟩:∃ u,t=u+1:=⟨t - 1,by omega⟩;have:=t2 u (by omega);rw [Nat.zero_add] at this;exact JK C (by rw [hm1.k];exact hk) ab bt hm1 m3 hb (by omega) (getD_at (by omega)) hy this
 ·rw [if_neg c2];have:t=na+1:=by omega
  subst this;have:=t2 na (by omega);rw [Nat.zero_add] at this;exact JK C (by rw [hm1.k];exact hk) ab bt hm1 m hb hn (getD_at (by omega)) hy this
theorem Ng (C:rQ prog w A s o N f kd)(hk:kindOf st=kd)(ab:Ab o N X Y)(tp:Top o X Y)(bt:NS o X Y)(h1:1<=X.length)(h2:1<=Y.length)
  {Q:Array Keyed->SortSt->Prop} (q:∀ out st',Sm st st'->Res o f X Y out->Q out st'):wpS (model prog w) A E s (pZ (fa f X) (fa f Y)) Q st:=by
 rw [wZ];refine wpS_bind (wpS_lift (wpAny_rule ⟨rfl,?_⟩));dsimp only;simp only [kK];have hx0:=getD_at (l:=X) (i:=X.length - 1) (by omega);refine wpS_bind (bu (dN hx0) ?_);have m0:Mh o X Y [] (X.length - 1+1) Y.length:=⟨by omega,Nat.le_refl _,by rw [length_nil];omega,List.Pairwise.nil,(λ _ h=>nomatch h),(λ _ _ _ h=>nomatch h),(λ _ _ _ h=>nomatch h)⟩;have m1:=m0.oq ab hx0 λ y hy=>tp _ _ hx0 (by omega) y (mem_of_mem_take hy);obtain ⟨x0,ex0⟩:∃ x0,x0=X.getD (X.length - 1) 0:=⟨_,rfl⟩;rw [<- ex0] at m1 ⊢;have e1:(#[f x0]:Array Keyed)=fa f [x0].reverse:=rfl;rw [e1,lE];by_cases c:X.length - 1=0
 ·rw [if_pos (by rw [c];rfl)];exact wpS_pure (q _ _ Sm.refl (m1.vP ab (.inl c)))
 ·rw [if_neg (by simpa using c)];by_cases c2:Y.length=1
  ·rw [if_pos (by rw [c2];rfl)];exact wpS_pure (q _ _ Sm.refl (kr ab bt m1 c2))
  ·rw [if_neg (by simpa using c2)];refine wpS_bind (wpS_get ?_);refine wpS_bind (wpS_mono (wpS_forRange (I:=λ x c st'=>Sm st st'/\∃ ts na nb mg,c=(none,na,nb,fa f ts.reverse,mg)/\Oh o X Y (x+1) ts na nb)
    (Q:=λ c st'=>Sm st st'/\∃ r z,c=(some r,z)/\Res o f X Y r) ?step ?fin ⟨Sm.refl,_,_,_,_,rfl,m1,by omega,by omega,by omega⟩) ?post)
   case post=>
    rintro c st' ⟨hm,r,z,rfl,hr⟩;exact wpS_pure (q _ _ hm hr)
   case fin=>
    rintro c st' ⟨hm,ts,na,nb,mg,rfl,m,a1,a2,a3⟩;exfalso;omega
   case step=>
    intro x c st' _ hx hh;revert hh;revert c;refine Ql λ hm ts na nb mg ho=>?_;have m:=ho.1;have a1:=ho.2.1;have a2:=ho.2.2.1;have a3:=ho.2.2.2;clear ho;dsimp only;refine wpS_bind (wpS_mono (wpS_forRange (I:=λ x' c st''=>Sm st st''/\∃ ts na nb ac bc,c=(none,na,nb,fa f ts.reverse,ac,bc)/\Oh o X Y (x+1+min x' 1) ts na nb)
     (Q:=λ c st''=>Sm st st''/\((∃ r z,c=(some r,z)/\Res o f X Y r)\/∃ ts na nb ac bc,c=(none,na,nb,fa f ts.reverse,ac,bc)/\Oh o X Y (x+1+1) ts na nb)) ?istep ?ifin ⟨hm,_,_,_,_,_,rfl,m,a1,a2,a3⟩) ?ipost)
    case ifin=>
     rintro c st'' ⟨hm',ts,na,nb,ac,bc,rfl,m,a1,a2,a3⟩;exact ⟨hm',.inr ⟨_,_,_,_,_,rfl,m,a1,a2,by omega⟩⟩
    case istep=>
     intro x' c st'' _ hx' hh;revert hh;revert c;refine Qw λ hm' ts na nb ac bc ho=>?_;have m:=ho.1;have a1:=ho.2.1;have a2:=ho.2.2.1;have a3:=ho.2.2.2;clear ho;dsimp only;obtain ⟨u,rfl⟩:∃ u,na=u+1:=⟨na - 1,by omega⟩;obtain ⟨v,rfl⟩:∃ v,nb=v+1:=⟨nb - 1,by omega⟩;have la:=m.la;have lb:=m.lb;rw [show u+1 - 1=u by omega,show v+1 - 1=v by omega];have hy:=getD_at (l:=Y) (i:=v) (by omega);have hxx:=getD_at (l:=X) (i:=u) (by omega);have yB:=mem_of_getElem? hy;have xA:=mem_of_getElem? hxx;have lt:=ab.lt _ xA _ yB;refine wpS_bind (bu (dN hy) ?_);refine wpS_bind (bu (dN hxx) ?_);refine wpS_bind (pO C (by rw [hm'.k];exact hk) (ab.nb _ yB) (ab.na _ xA) ?_)
     cases hl:o.lt (Y.getD v 0) (X.getD u 0)
     ·simp only [false_eq_true,if_false];refine wpS_bind (bu (dN hy) ?_);have m2:=m.Cz ab hy (iR ab.sa hxx (P.n9 hl lt));rw [o_,lE];by_cases c3:v=1
      ·rw [if_pos (by rw [c3];rfl)];exact wpS_pure ⟨hm',.inl ⟨_,_,rfl,kr ab bt m2 c3⟩⟩
      ·rw [if_neg (by simpa using c3)];by_cases c4:bc+1>=mg
       ·rw [if_pos c4];exact wpS_pure ⟨hm',.inr ⟨_,_,_,_,_,rfl,m2,a1,by omega,by omega⟩⟩
       ·rw [if_neg c4];exact wpS_pure ⟨hm',_,_,_,_,_,rfl,m2,a1,by omega,by omega⟩
     ·simp only [if_true];refine wpS_bind (bu (dN hxx) ?_);have m2:=m.oq ab hxx (iR ab.sb hy (P.of_lt hl));rw [o_,lE];by_cases c3:u=0
      ·rw [if_pos (by rw [c3];rfl)];exact wpS_pure ⟨hm',.inl ⟨_,_,rfl,m2.vP ab (.inl c3)⟩⟩
      ·rw [if_neg (by simpa using c3)];by_cases c4:ac+1>=mg
       ·rw [if_pos c4];exact wpS_pure ⟨hm',.inr ⟨_,_,_,_,_,rfl,m2,by omega,a2,by omega⟩⟩
       ·rw [if_neg c4];exact wpS_pure ⟨hm',_,_,_,_,_,rfl,m2,by omega,a2,by omega⟩
    case ipost=>
     intro c st'' hh;revert hh;revert c;refine Qp (λ hm' r z hr=>?_) λ hm' ts na nb ac bc ho=>?_
     ·dsimp only;exact wpS_pure ⟨hm',r,_,rfl,hr⟩
     ·have m:=ho.1;have a1:=ho.2.1;have a2:=ho.2.2.1;have a3:=ho.2.2.2;clear ho;dsimp only;refine wpS_bind (wpS_lift (wpAny_rule ⟨rfl,?_⟩));refine wpS_bind (wpS_mono (wpS_forRange (I:=λ x' c st''=>Sm st st''/\∃ ts na nb mg ac bc,c=(none,na,nb,fa f ts.reverse,mg,ac,bc)/\Oh o X Y (x+1+1) ts na nb)
       (Q:=λ c st''=>Sm st st''/\((∃ r z,c=(some r,z)/\Res o f X Y r)\/∃ ts na nb mg ac bc,c=(none,na,nb,fa f ts.reverse,mg,ac,bc)/\Oh o X Y (x+1+1) ts na nb)) ?jstep ?jfin ⟨hm',_,_,_,_,_,_,rfl,m,a1,a2,a3⟩) ?jpost)
      case jfin=>
       rintro c st3 ⟨hm3,hh⟩;exact ⟨hm3,.inr hh⟩
      case jstep=>
       intro x' c st3 _ hx' hh;revert hh;revert c;refine Qu λ hm3 ts na nb mg ac bc ho=>?_;have m:=ho.1;have a1:=ho.2.1;have a2:=ho.2.2.1;have a3:=ho.2.2.2;clear ho;dsimp only;obtain ⟨u,rfl⟩:∃ u,na=u+1:=⟨na - 1,by omega⟩;obtain ⟨v,rfl⟩:∃ v,nb=v+1:=⟨nb - 1,by omega⟩;have t1:=λ mg=>M5 (n:=x+1+1) (mg:=mg) (ac:=ac) (bc:=bc) (E:=E) C hk ab bt hm3 m (by omega) a3;unfold U1 U2 U3 at t1;refine wpS_mono (Q:=H2 o f X Y (x+1+1) st) ?_ ?_
       ·by_cases c3:mg > 1
        ·rw [if_pos c3];exact t1 (mg - 1)
        ·rw [if_neg c3];exact t1 mg
       ·rintro r st4 ⟨hm4,hr⟩
        cases r with
        | done c=>exact ⟨hm4,hr⟩
        | yield c=>exact ⟨hm4,hr⟩
      case jpost=>
       intro c st3 hh;revert hh;revert c;refine Qh (λ hm3 r z hr=>?_) λ hm3 ts na nb mg ac bc ho=>?_
       ·dsimp only;exact wpS_pure ⟨hm3,r,_,rfl,hr⟩
       ·have m:=ho.1;have a1:=ho.2.1;have a2:=ho.2.2.1;have a3:=ho.2.2.2;clear ho;dsimp only;refine wpS_bind (lU hm3 λ st4 hm4=>?_);exact wpS_pure ⟨hm4,_,_,_,_,rfl,m,a1,a2,a3⟩
end
theorem xR (i:Nat):mergeAt' i=(do
 let s <- get
 let (some (a1,n1,pw),some (a2,n2,_)):=((pendingOf s)[i]?,(pendingOf s)[i+1]?) | unsupported "internal:list.sort.pending"
 set (setPending s (((pendingOf s).setIfInBounds i (a1,n1+n2,pw)).eraseIdxIfInBounds (i+1)))
 let some k <- dB false (<- elem' (arrOf s) a2) (arrOf s) a1 n1 0 | return false
 let (a1,n1):=(a1+k,n1 - k)
 if n1 == 0 then return true
 let some n2 <- dB true (<- elem' (arrOf s) (a1+n1 - 1)) (arrOf s) a2 n2 (n2 - 1) | return false
 if n2 == 0 then return true
 let x:=(arrOf s).extract a1 a2
 let y:=(arrOf s).extract a2 (a2+n2)
 let both <- if n1<=n2 then p6 x y else pZ x y
 modify λ s=>setArr s (both.toList.zipIdx.foldl (λ a (p,j)=>a.setIfInBounds (a1+j) p) (arrOf s))
 return (failedOf (<- get)).isNone):=rfl
noncomputable def seg (g:Nat->Nat)(a n:Nat):List Nat:=(List.range n).map λ i=>g (a+i)
section
variable {o:Ord} {N:Nat} {f:Nat->Keyed} {g:Nat->Nat}
theorem fL (g:Nat->Nat)(a n:Nat):(seg g a n).length=n:=by unfold seg;rw [length_map,length_range]
theorem jt {a n i:Nat}(h:i < n):(seg g a n)[i]?=some (g (a+i)):=by unfold seg;rw [List.getElem?_map,List.getElem?_range h];rfl
theorem ig {a n x:Nat}(h:x∈seg g a n):∃ i,i < n/\x=g (a+i):=by
 obtain ⟨i,hi,rfl⟩:=mem_map.mp h;exact ⟨i,mem_range.mp hi,rfl⟩
theorem Gr {a n:Nat}(h:So o g a (a+n)):(seg g a n).Pairwise (P o):=by
 rw [pairwise_iff_getElem];intro i j hi hj hij;rw [fL] at hi hj;have e1:=jt (g:=g) (a:=a) hi;have e2:=jt (g:=g) (a:=a) hj;rw [List.getElem?_eq_getElem (by rw [fL];exact hi)] at e1;rw [List.getElem?_eq_getElem (by rw [fL];exact hj)] at e2;rw [Option.some.inj e1,Option.some.inj e2];exact h _ _ (by omega) (by omega) (by omega)
theorem zd {arr:Array Keyed}(hs:arr.size=N)(hg:∀ i,i < N->arr[i]?=some (f (g i))){a n:Nat}(h:a+n<=N):arr.extract a (a+n)=fa f (seg g a n):=by
 apply Array.ext_getElem?;intro i;rw [C6,Array.getElem?_extract];by_cases c:i < n
 ·rw [if_pos (by omega),jt c,hg _ (by omega)];rfl
 ·rw [if_neg (by omega),List.getElem?_eq_none (by rw [fL];omega)];rfl
theorem sM {α:Type}(b:Nat):∀ (l:List α) (n:Nat) (arr:Array α),((l.zipIdx n).foldl (λ a (p,j)=>a.setIfInBounds (b+j) p) arr).size=arr.size
 | [],_,_=>rfl
 | x::l,n,arr=>by
  rw [zipIdx_cons,foldl_cons,sM b l (n+1)];exact Array.size_setIfInBounds ..
theorem uS {α:Type}(b:Nat):∀ (l:List α) (n:Nat) (arr:Array α) (k:Nat),b+n+l.length<=arr.size->((l.zipIdx n).foldl (λ a (p,j)=>a.setIfInBounds (b+j) p) arr)[k]?=if b+n<=k/\k < b+n+l.length then l[k - (b+n)]? else arr[k]?
 | [],n,arr,k,h=>by rw [if_neg (by rw [length_nil];omega)];rfl
 | x::l,n,arr,k,h=>by
  rw [length_cons] at h;rw [zipIdx_cons,foldl_cons,uS b l (n+1) _ k (by rw [Array.size_setIfInBounds];omega),length_cons];by_cases c:k=b+n
  ·subst c;rw [if_neg (by omega),if_pos (by omega),sub_self];show (arr.setIfInBounds (b+n) x)[b+n]?=some x;rw [Array.getElem?_setIfInBounds_self_of_lt (by omega)]
  ·by_cases c2:b+n<=k/\k < b+n+(l.length+1)
   ·rw [if_pos (by omega),if_pos c2,show k - (b+n)=k - (b+(n+1))+1 by omega,List.getElem?_cons_succ]
   ·rw [if_neg (by omega),if_neg c2];show (arr.setIfInBounds (b+n) x)[k]?=arr[k]?;rw [Array.getElem?_setIfInBounds_ne (by omega)]
end
section
variable {prog:Program} {w:World} {A:Around} {E:Value->Shared->Prop} {s:Shared} {o:Ord} {N:Nat} {f:Nat->Keyed} {kd:SortKind} {g:Nat->Nat} {st:SortSt}
theorem H_ {st':SortSt}{Q:PUnit->SortSt->Prop}(h:Q ⟨⟩ st'):wpS (model prog w) A E s (set st':StateT SortSt Sem PUnit) Q st:=by
 unfold wpS;rw [StateT.run_set];exact wpAny_pure ⟨rfl,h⟩
theorem Oc (C:rQ prog w A s o N f kd){l1 l2:List (Nat×Nat×Nat)}{sa na nb pw pv:Nat}(h:Sg N f kd g (l1++(sa,na,pw)::(sa+na,nb,pv)::l2).toArray st)(ha:1<=na)(hb:1<=nb)(hN:sa+na+nb<=N)
  (c1:Cl g sa (sa+na)) (s1:So o g sa (sa+na)) (c2:Cl g (sa+na) (sa+na+nb)) (s2:So o g (sa+na) (sa+na+nb))
  {Q:Bool->SortSt->Prop} (q:∀ g' st',Sg N f kd g' (l1++(sa,na+nb,pw)::l2).toArray st'->Rn o g g' sa (sa+na+nb)->Q true st'):wpS (model prog w) A E s (mergeAt' l1.length) Q st:=by
 rw [xR];refine wpS_bind (wpS_get ?_);have e1:(pendingOf st)[l1.length]?=some (sa,na,pw):=by rw [h.pend];simp
 have e2:(pendingOf st)[l1.length+1]?=some (sa+na,nb,pv):=by rw [h.pend];simp
 have e3:((pendingOf st).setIfInBounds l1.length (sa,na+nb,pw)).eraseIdxIfInBounds (l1.length+1)=(l1++(sa,na+nb,pw)::l2).toArray:=by
  rw [h.pend,List.setIfInBounds_toArray,List.eraseIdxIfInBounds_toArray];congr 1;rw [set_append_right _ _ (Nat.le_refl _),sub_self,List.eraseIdx_append_of_length_le (by omega),show l1.length+1 - l1.length=1 by omega];rfl
 rw [e1,e2];dsimp only;rw [e3];refine wpS_bind (H_ ?_);have h':Sg N f kd g (l1++(sa,na+nb,pw)::l2).toArray (setPending st (l1++(sa,na+nb,pw)::l2).toArray):=⟨h.size,h.get,h.lt,h.kind,h.failed,rfl⟩;obtain ⟨st1,hst1⟩:∃ st1,st1=setPending st (l1++(sa,na+nb,pw)::l2).toArray:=⟨_,rfl⟩;rw [<- hst1] at h' ⊢;refine wpS_bind (bu (h.get (sa+na) (by omega)) ?_);have b0:=c2 (sa+na) (by omega) (by omega);refine wpS_bind (CW C h'.kind (h:=λ i=>g (sa+i)) (λ i hi=>h.get _ (by omega)) (λ i hi=>by have:=c1 (sa+i) (by omega) (by omega);omega) (by omega) (λ i j _ a b=>s1 _ _ (by omega) (by omega) (by omega)) (by omega) λ k k1 k2 k3=>?_);dsimp only;by_cases cz:na - k=0
 ·rw [if_pos (by rw [cz];rfl)];refine wpS_pure (q g st1 h' ⟨λ _ _=>rfl,λ i a b=>?_,λ i j a b c=>?_⟩)
  ·by_cases d:i < sa+na
   ·have:=c1 i a d;omega
   ·have:=c2 i (by omega) b;omega
  ·by_cases d:j < sa+na
   ·exact s1 i j a b d
   ·by_cases d2:sa+na<=i
    ·exact s2 i j d2 b c
    ·have r:=k2 (i - sa) (by omega);rw [show sa+(i - sa)=i by omega] at r;by_cases d3:j=sa+na
     ·subst d3;exact r
     ·exact r.trans (s2 _ _ (by omega) (by omega) c)
 ·rw [if_neg (by simpa using cz)];have hlast:sa+k+(na - k) - 1=sa+na - 1:=by omega
  rw [hlast];refine wpS_bind (bu (h.get (sa+na - 1) (by omega)) ?_);have a0:=c1 (sa+na - 1) (by omega) (by omega);refine wpS_bind (CN C h'.kind (h:=λ i=>g (sa+na+i)) (λ i hi=>h.get _ (by omega)) (λ i hi=>by have:=c2 (sa+na+i) (by omega) (by omega);omega) (λ i j _ a b=>s2 _ _ (by omega) (by omega) (by omega)) (by omega) λ t t1 t2 t3=>?_);dsimp only;by_cases cy:t=0
  ·rw [if_pos (by rw [cy];rfl)];subst cy;refine wpS_pure (q g st1 h' ⟨λ _ _=>rfl,λ i a b=>?_,λ i j a b c=>?_⟩)
   ·by_cases d:i < sa+na
    ·have:=c1 i a d;omega
    ·have:=c2 i (by omega) b;omega
   ·by_cases d:j < sa+na
    ·exact s1 i j a b d
    ·by_cases d2:sa+na<=i
     ·exact s2 i j d2 b c
     ·have r:=t3 (j - (sa+na)) (by omega) (by omega);rw [show sa+na+(j - (sa+na))=j by omega] at r;by_cases d3:i=sa+na - 1
      ·subst d3;exact r
      ·exact (s1 i (sa+na - 1) a (by omega) (by omega)).trans r
  ·rw [if_neg (by simpa using cy)];have x1:(arrOf st).extract (sa+k) (sa+na)=fa f (seg g (sa+k) (na - k)):=by
    have:=zd (f:=f) (g:=g) h.size h.get (a:=sa+k) (n:=na - k) (by omega)
    rwa [show sa+k+(na - k)=sa+na by omega] at this
   have x2:(arrOf st).extract (sa+na) (sa+na+t)=fa f (seg g (sa+na) t):=zd h.size h.get (by omega);rw [x1,x2];have sx:So o g (sa+k) (sa+k+(na - k)):=λ i j a b c=>s1 i j (by omega) b (by omega);have sy:So o g (sa+na) (sa+na+t):=λ i j a b c=>s2 i j a b (by omega);have ab:Ab o N (seg g (sa+k) (na - k)) (seg g (sa+na) t):={
    sa:=Gr sx
    sb:=Gr sy
    lt:=λ x hx y hy=>by
     obtain ⟨i,hi,rfl⟩:=ig hx;obtain ⟨j,hj,rfl⟩:=ig hy;have:=c1 (sa+k+i) (by omega) (by omega);have:=c2 (sa+na+j) (by omega) (by omega);omega
    nb:=λ y hy=>by
     obtain ⟨j,hj,rfl⟩:=ig hy;exact h.lt _ (by omega)
    na:=λ y hy=>by
     obtain ⟨j,hj,rfl⟩:=ig hy;exact h.lt _ (by omega) }
   have tp:Top o (seg g (sa+k) (na - k)) (seg g (sa+na) t):=λ i x hx hi y hy=>by
    rw [fL] at hi;rw [jt (by omega)] at hx
    cases hx
    obtain ⟨j,hj,rfl⟩:=ig hy;rw [show sa+k+i=sa+na - 1 by omega];exact t2 j hj
   have bt:NS o (seg g (sa+k) (na - k)) (seg g (sa+na) t):=λ y hy x hx=>by
    rw [jt (by omega)] at hy
    cases hy
    obtain ⟨i,hi,rfl⟩:=ig hx;have:=k3 (k+i) (by omega) (by omega)
    rwa [<- Nat.add_assoc] at this
   have fin:∀ out st2,Sm st1 st2->Res o f (seg g (sa+k) (na - k)) (seg g (sa+na) t) out->wpS (model prog w) A E s (do
     modify λ s=>setArr s (out.toList.zipIdx.foldl (λ a (p,j)=>a.setIfInBounds (sa+k+j) p) (arrOf s))
     let s <- get
     pure (failedOf s).isNone) Q st2:=by
    rintro out st2 hm ⟨hs,rfl,hlen,hso,hmem⟩;rw [fL,fL] at hlen;refine wpS_bind (wpS_modify (wpS_bind (wpS_get ?_)));have hf:(failedOf st2)=none:=by rw [hm.f];exact h'.failed
    have hmx:∀ j x,hs[j]?=some x->(∃ i,i < na - k/\x=g (sa+k+i))\/∃ i,i < t/\x=g (sa+na+i):=λ j x e=>by
     rcases hmem x (mem_of_getElem? e) with z | z
     ·exact .inl (ig z)
     ·exact .inr (ig z)
    have ez:(fa f hs).toList=hs.map f:=by unfold fa;rfl
    have hsz:sa+k+0+(hs.map f).length<=(arrOf st2).size:=by rw [length_map,hlen,hm.a,h'.size];omega
    refine wpS_pure ?_;show Q (failedOf st2).isNone _;rw [hf];refine q (λ i=>if sa+k<=i/\i < sa+k+(na - k+t) then hs.getD (i - (sa+k)) 0 else g i) _ ⟨?_,λ i hi=>?_,λ i hi=>?_,by rw [show kindOf (setArr st2 _)=kindOf st2 from rfl,hm.k];exact h'.kind,hf,by rw [show pendingOf (setArr st2 _)=pendingOf st2 from rfl,hm.p];exact h'.pend⟩ ?_
    ·have:=sM (sa+k) (fa f hs).toList 0 (arrOf st2);rw [hm.a,h'.size] at this;rw [<- this,<- hm.a]
    ·show (List.foldl _ _ _)[i]?=_;rw [ez,uS _ _ _ _ _ hsz,length_map,hlen,hm.a];by_cases d:sa+k<=i/\i < sa+k+(na - k+t)
     ·rw [if_pos (by omega),if_pos d,List.getElem?_map,Nat.add_zero,getD_at (l:=hs) (by omega)];rfl
     ·rw [if_neg (by omega),if_neg d];exact h'.get i hi
    ·by_cases d:sa+k<=i/\i < sa+k+(na - k+t)
     ·rw [if_pos d]
      rcases hmx _ _ (getD_at (l:=hs) (i:=i - (sa+k)) (by omega)) with ⟨j,hj,e⟩ | ⟨j,hj,e⟩
      ·rw [e];exact h.lt _ (by omega)
      ·rw [e];exact h.lt _ (by omega)
     ·rw [if_neg d];exact h.lt i hi
    ·have gin:∀ i,sa+k<=i->i < sa+na+t->(if sa+k<=i/\i < sa+k+(na - k+t) then hs.getD (i - (sa+k)) 0 else g i)=hs.getD (i - (sa+k)) 0:=λ i a b=>if_pos (by omega);have gout:∀ i,i < sa+k\/sa+na+t<=i->(if sa+k<=i/\i < sa+k+(na - k+t) then hs.getD (i - (sa+k)) 0 else g i)=g i:=λ i a=>if_neg (by omega);refine ⟨λ i hi=>gout i (by omega),λ i a b=>?_,λ i j a b c=>?_⟩
     ·by_cases d:sa+k<=i/\i < sa+na+t
      ·show _<=ite _ _ _/\ite _ _ _ < _;rw [gin i d.1 d.2]
       rcases hmx _ _ (getD_at (l:=hs) (i:=i - (sa+k)) (by omega)) with ⟨j,hj,e⟩ | ⟨j,hj,e⟩
       ·rw [e];have:=c1 (sa+k+j) (by omega) (by omega);omega
       ·rw [e];have:=c2 (sa+na+j) (by omega) (by omega);omega
      ·show _<=ite _ _ _/\ite _ _ _ < _;rw [gout i (by omega)];by_cases d2:i < sa+na
       ·have:=c1 i a d2;omega
       ·have:=c2 i (by omega) b;omega
     ·show P o (ite _ _ _) (ite _ _ _);by_cases d1:i < sa+k
      ·rw [gout i (.inl d1)];have r:=k2 (i - sa) (by omega);rw [show sa+(i - sa)=i by omega] at r;by_cases d2:j < sa+k
       ·rw [gout j (.inl d2)];exact s1 i j a b (by omega)
       ·by_cases d3:j < sa+na+t
        ·rw [gin j (by omega) d3]
         rcases hmx _ _ (getD_at (l:=hs) (i:=j - (sa+k)) (by omega)) with ⟨v,hv,e⟩ | ⟨v,hv,e⟩
         ·rw [e];exact s1 _ _ a (by omega) (by omega)
         ·rw [e];by_cases d4:v=0
          ·subst d4;exact r
          ·exact r.trans (s2 _ _ (by omega) (by omega) (by omega))
        ·rw [gout j (by omega)];exact r.trans (s2 _ _ (by omega) (by omega) c)
      ·by_cases d2:i < sa+na+t
       ·rw [gin i (by omega) d2];by_cases d3:j < sa+na+t
        ·rw [gin j (by omega) d3];exact j3 hso (getD_at (by omega)) (getD_at (by omega)) (by omega)
        ·rw [gout j (by omega)]
         rcases hmx _ _ (getD_at (l:=hs) (i:=i - (sa+k)) (by omega)) with ⟨v,hv,e⟩ | ⟨v,hv,e⟩
         ·rw [e];have r:=t3 (j - (sa+na)) (by omega) (by omega);rw [show sa+na+(j - (sa+na))=j by omega] at r;by_cases d4:sa+k+v=sa+na - 1
          ·rw [d4];exact r
          ·exact (s1 _ (sa+na - 1) (by omega) (by omega) (by omega)).trans r
         ·rw [e];exact s2 _ _ (by omega) (by omega) c
       ·rw [gout i (by omega),gout j (by omega)];exact s2 i j (by omega) b c
   by_cases cl:na - k<=t
   ·rw [if_pos cl];exact wpS_bind (MX C h'.kind ab tp (by rw [fL];omega) (jt (by omega)) (bt _ (jt (by omega))) fin)
   ·rw [if_neg cl];exact wpS_bind (Ng C h'.kind ab tp bt (by rw [fL];omega) (by rw [fL];omega) fin)
end
noncomputable abbrev pr (x:Nat×Nat×Nat):Nat×Nat:=(x.1,x.2.1)
noncomputable def iX (o:Ord)(g:Nat->Nat):List (Nat×Nat)->Nat->Nat->Prop
 | [],a,b=>a=b
 | x::l,a,b=>x.1=a/\1<=x.2/\Cl g a (a+x.2)/\So o g a (a+x.2)/\iX o g l (a+x.2) b
noncomputable def PA (o:Ord)(g:Nat->Nat)(p:Array (Nat×Nat×Nat))(b:Nat):Prop:=iX o g (p.toList.map pr) 0 b
section
variable {o:Ord} {g:Nat->Nat}
theorem iX.le:∀ {l:List (Nat×Nat)} {a b:Nat},iX o g l a b->a+l.length<=b
 | [],a,b,h=>by have h:a=b:=h;rw [length_nil];omega
 | x::l,a,b,h=>by
  have:=h.2.2.2.2.le;have:=h.2.1;rw [length_cons];omega
theorem iX.congr {g':Nat->Nat}:∀ {l:List (Nat×Nat)} {a b:Nat},iX o g l a b->(∀ i,a<=i->i < b->g' i=g i)->iX o g' l a b
 | [],a,b,h,_=>h
 | x::l,a,b,h,e=>by
  have hb:=h.2.2.2.2.le;refine ⟨h.1,h.2.1,λ i h1 h2=>?_,λ i j h1 h2 h3=>?_,h.2.2.2.2.congr λ i h1 h2=>e i (by omega) h2⟩
  ·rw [e i h1 (by omega)];exact h.2.2.1 i h1 h2
  ·rw [e i h1 (by omega),e j (by omega) (by omega)];exact h.2.2.2.1 i j h1 h2 h3
theorem iX.app:∀ {l m:List (Nat×Nat)} {a b:Nat},iX o g (l++m) a b ↔ ∃ c,iX o g l a c/\iX o g m c b
 | [],m,a,b=>⟨λ h=>⟨a,rfl,h⟩,λ ⟨c,h1,h2⟩=>by have h1:a=c:=h1;subst h1;exact h2⟩
 | x::l,m,a,b=>by
  constructor
  ·rintro ⟨h1,h2,h3,h4,h5⟩;obtain ⟨c,h6,h7⟩:=iX.app.mp h5;exact ⟨c,⟨h1,h2,h3,h4,h6⟩,h7⟩
  ·rintro ⟨c,⟨h1,h2,h3,h4,h5⟩,h6⟩;exact ⟨h1,h2,h3,h4,iX.app.mpr ⟨c,h5,h6⟩⟩
theorem Mj {p:Array (Nat×Nat×Nat)}{i:Nat}(h:i+1 < p.size):∃ l1 x y l2,p=(l1++x::y::l2).toArray/\l1.length=i:=by
 have h':i+1 < p.toList.length:=h;refine ⟨p.toList.take i,p.toList[i],p.toList[i+1],p.toList.drop (i+2),?_,by rw [length_take];omega⟩;apply Array.toList_inj.mp;show p.toList=_
 conv=>lhs;rw [<- List.take_append_drop i p.toList,drop_eq_getElem_cons (show i < p.toList.length by omega),drop_eq_getElem_cons h']
end
section
variable {prog:Program} {w:World} {A:Around} {E:Value->Shared->Prop} {s:Shared} {o:Ord} {N:Nat} {f:Nat->Keyed} {kd:SortKind} {g:Nat->Nat} {p:Array (Nat×Nat×Nat)} {st:SortSt}
theorem yj (C:rQ prog w A s o N f kd)(h:Sg N f kd g p st){lo i:Nat}(hp:PA o g p lo)(hlo:lo<=N)(hi:i+1 < p.size)
  {Q:Bool->SortSt->Prop} (q:∀ g' p' st',Sg N f kd g' p' st'->PA o g' p' lo->p'.size+1=p.size->(∀ k,lo<=k->g' k=g k)->Q true st'):wpS (model prog w) A E s (mergeAt' i) Q st:=by
 obtain ⟨l1,⟨sa,na,pw⟩,⟨sb,nb,pv⟩,l2,rfl,rfl⟩:=Mj hi;unfold PA at hp;rw [show (l1++(sa,na,pw)::(sb,nb,pv)::l2).toArray.toList=l1++(sa,na,pw)::(sb,nb,pv)::l2 from rfl,map_append] at hp;obtain ⟨c,h1,h2⟩:=iX.app.mp hp;obtain ⟨e1,n1,cl1,so1,e2,n2,cl2,so2,rest⟩:=h2;have e1:sa=c:=e1;subst e1;have e2:sb=sa+na:=e2;subst e2;have l2b:=rest.le;have n1:1<=na:=n1;have n2:1<=nb:=n2;have l2b:sa+na+nb<=lo:=by
  have:sa+na+nb+(List.map pr l2).length<=lo:=l2b;omega
 refine Oc C h n1 n2 (by omega) cl1 so1 cl2 so2 λ g' st' h' R=>q g' _ st' h' ?_ (by simp;omega) λ k hk=>R.out k (by omega);unfold PA;rw [show (l1++(sa,na+nb,pw)::l2).toArray.toList=l1++(sa,na+nb,pw)::l2 from rfl,map_append];refine iX.app.mpr ⟨sa,h1.congr λ i a b=>R.out i (by omega),rfl,by show 1<=na+nb;omega,?_,?_,?_⟩
 ·show Cl g' sa (sa+(na+nb));rw [<- Nat.add_assoc];exact R.cl
 ·show So o g' sa (sa+(na+nb));rw [<- Nat.add_assoc];exact R.so
 ·show iX o g' _ (sa+(na+nb)) lo;rw [<- Nat.add_assoc];exact rest.congr λ i a b=>R.out i (.inr a)
theorem sA {p:Array (Nat×Nat×Nat)}{i lo:Nat}{u:Nat×Nat×Nat->Nat×Nat×Nat}(hu:∀ x,pr (u x)=pr x)(h:PA o g p lo):PA o g (p.modify i u) lo:=by
 unfold PA at h ⊢;have:(p.modify i u).toList.map pr=p.toList.map pr:=by
  rw [Array.toList_modify];apply List.ext_getElem?;intro k;rw [List.getElem?_map,List.getElem?_map,List.getElem?_modify]
  cases p.toList[k]? with
  | none=>rfl
  | some x=>
   show some (pr (if i=k then u x else x))=some (pr x);by_cases c:i=k
   ·rw [if_pos c,hu x]
   ·rw [if_neg c]
 rw [this];exact h
theorem o8 {p:Array (Nat×Nat×Nat)}{lo n v:Nat}(h:PA o g p lo)(hn:1<=n)(c:Cl g lo (lo+n))(d:So o g lo (lo+n)):PA o g (p.push (lo,n,v)) (lo+n):=by
 unfold PA at h ⊢;rw [Array.toList_push,map_append];exact iX.app.mpr ⟨lo,h,rfl,hn,c,d,rfl⟩
theorem Sg.MV (h:Sg N f kd g p st)(p':Array (Nat×Nat×Nat)):Sg N f kd g p' (setPending st p'):=⟨h.size,h.get,h.lt,h.kind,h.failed,rfl⟩
theorem Ju (C:rQ prog w A s o N f kd)(h:Sg N f kd (λ i=>i) #[] st)(hN:1<=N)
  {Q:Unit->SortSt->Prop} (q:∀ g' p' st',Sg N f kd g' p' st'->Cl g' 0 N->So o g' 0 N->Q () st'):wpS (model prog w) A E s sortRuns' Q st:=by
 rw [sortRuns'_eq];refine wpS_bind (wpS_get ?_);dsimp only;rw [h.size];refine wpS_bind (wpS_mono (wpS_forRange
  (I:=λ x c st'=>∃ lo g p,c=(none,lo)/\lo<=N/\(x<=lo\/lo=N)/\Sg N f kd g p st'/\PA o g p lo/\(∀ i,lo<=i->g i=i))
  (Q:=λ c st'=>∃ g p,c=(none,N)/\Sg N f kd g p st'/\PA o g p N) ?step ?fin ⟨0,_,_,rfl,zero_le _,.inl (Nat.le_refl _),h,rfl,λ _ _=>rfl⟩) ?post)
 case fin=>
  rintro c st' ⟨lo,g,p,rfl,h1,h2,h3,h4,h5⟩;have:lo=N:=by omega
  subst this;exact ⟨g,p,rfl,h3,h4⟩
 case step=>
  rintro x c st' _ hx ⟨lo,g,p,rfl,h1,h2,h3,h4,h5⟩;dsimp only;by_cases hge:lo>=N
  ·rw [if_pos hge];have:lo=N:=by omega
   subst this;exact wpS_pure ⟨g,p,rfl,h3,h4⟩
  ·rw [if_neg hge];refine wpS_bind (Dq C h3 (by omega) (by omega) (λ i a b=>h5 i a) λ m g1 st1 s1 m1 m2 R1=>?_);dsimp only;by_cases c2:m < minRun' N N 0
   ·rw [if_pos c2];refine wpS_bind (wpS_lift (wpAny_rule ⟨rfl,?_⟩));refine wpS_bind (Mm C s1 (by omega) m1 (by omega) R1 (λ i a b=>h5 i (by omega)) λ g2 st2 s2 R2=>?_);rw [if_neg (by decide)];have n2:1<=min (N - lo) (minRun' N N 0):=by omega
    have n3:lo+min (N - lo) (minRun' N N 0)<=N:=by omega
    refine wpS_bind (wpS_get ?_);rw [s2.pend];have hp2:=iX.congr h4 λ i a b=>R2.out i (.inl b)
    cases e:p.back? with
    | none=>
     dsimp only;refine wpS_bind (wpS_modify (wpS_pure ⟨_,_,_,rfl,n3,by omega,s2.MV _,?_,λ i hi=>by rw [R2.out i (.inr hi),h5 i (by omega)]⟩));rw [s2.pend];exact o8 hp2 n2 R2.cl R2.so
    | some y=>
     obtain ⟨y1,y2,y3⟩:=y;dsimp only;refine wpS_bind (wpS_mono (wpS_forRange (I:=λ _ c st'=>c=(none,())/\∃ g' p',Sg N f kd g' p' st'/\PA o g' p' lo/\(∀ k,lo<=k->g' k=g2 k)) (Q:=λ c st'=>c=(none,())/\∃ g' p',Sg N f kd g' p' st'/\PA o g' p' lo/\(∀ k,lo<=k->g' k=g2 k)) ?vstep (λ _ _ h=>h) ⟨rfl,_,_,s2,hp2,λ _ _=>rfl⟩) ?vpost)
     case vstep=>
      rintro x c st' _ hx ⟨rfl,g',p',h1,h2,h3⟩;refine wpS_bind (wpS_get ?_);rw [h1.pend];by_cases c:p'.size > 1
      ·rw [if_pos c]
       cases e:p'[p'.size - 2]? with
       | none=>exact wpS_pure ⟨rfl,g',p',h1,h2,h3⟩
       | some y=>
        obtain ⟨y1,y2,y3⟩:=y;dsimp only;split
        ·exact wpS_pure ⟨rfl,g',p',h1,h2,h3⟩
        ·refine wpS_bind (yj C h1 h2 (by omega) (by omega) λ g3 p3 st3 s3 q3 _ z3=>?_);exact wpS_pure ⟨rfl,g3,p3,s3,q3,λ k hk=>by rw [z3 k hk,h3 k hk]⟩
      ·rw [if_neg c];exact wpS_pure ⟨rfl,g',p',h1,h2,h3⟩
     case vpost=>
      rintro c st' ⟨rfl,g',p',h1,h2,h3⟩;dsimp only;refine wpS_bind (wpS_modify (wpS_bind (wpS_modify (wpS_pure ⟨_,_,_,rfl,n3,by omega,(h1.MV _).MV _,?_,λ i hi=>by rw [h3 i (by omega),R2.out i (.inr hi),h5 i (by omega)]⟩))));show PA o g' (((pendingOf st').modify _ _).push _) _;rw [h1.pend];exact o8 (sA (λ _=>rfl) h2) n2 (λ i a b=>by rw [h3 i a];exact R2.cl i a b) (λ i j a b c=>by rw [h3 i a,h3 j (by omega)];exact R2.so i j a b c)
   ·rw [if_neg c2];have n3:lo+m<=N:=by omega
    obtain ⟨g2,hg2⟩:∃ g2,g2=g1:=⟨_,rfl⟩;rw [<- hg2] at R1 s1;have R2:=R1;have s2:=s1;have n2:=m1;refine wpS_bind (wpS_get ?_);rw [s2.pend];have hp2:=iX.congr h4 λ i a b=>R2.out i (.inl b)
    cases e:p.back? with
    | none=>
     dsimp only;refine wpS_bind (wpS_modify (wpS_pure ⟨_,_,_,rfl,n3,by omega,s2.MV _,?_,λ i hi=>by rw [R2.out i (.inr hi),h5 i (by omega)]⟩));rw [s2.pend];exact o8 hp2 n2 R2.cl R2.so
    | some y=>
     obtain ⟨y1,y2,y3⟩:=y;dsimp only;refine wpS_bind (wpS_mono (wpS_forRange (I:=λ _ c st'=>c=(none,())/\∃ g' p',Sg N f kd g' p' st'/\PA o g' p' lo/\(∀ k,lo<=k->g' k=g2 k)) (Q:=λ c st'=>c=(none,())/\∃ g' p',Sg N f kd g' p' st'/\PA o g' p' lo/\(∀ k,lo<=k->g' k=g2 k)) ?vstep (λ _ _ h=>h) ⟨rfl,_,_,s2,hp2,λ _ _=>rfl⟩) ?vpost)
     case vstep=>
      rintro x c st' _ hx ⟨rfl,g',p',h1,h2,h3⟩;refine wpS_bind (wpS_get ?_);rw [h1.pend];by_cases c:p'.size > 1
      ·rw [if_pos c]
       cases e:p'[p'.size - 2]? with
       | none=>exact wpS_pure ⟨rfl,g',p',h1,h2,h3⟩
       | some y=>
        obtain ⟨y1,y2,y3⟩:=y;dsimp only;split
        ·exact wpS_pure ⟨rfl,g',p',h1,h2,h3⟩
        ·refine wpS_bind (yj C h1 h2 (by omega) (by omega) λ g3 p3 st3 s3 q3 _ z3=>?_);exact wpS_pure ⟨rfl,g3,p3,s3,q3,λ k hk=>by rw [z3 k hk,h3 k hk]⟩
      ·rw [if_neg c];exact wpS_pure ⟨rfl,g',p',h1,h2,h3⟩
     case vpost=>
      rintro c st' ⟨rfl,g',p',h1,h2,h3⟩;dsimp only;refine wpS_bind (wpS_modify (wpS_bind (wpS_modify (wpS_pure ⟨_,_,_,rfl,n3,by omega,(h1.MV _).MV _,?_,λ i hi=>by rw [h3 i (by omega),R2.out i (.inr hi),h5 i (by omega)]⟩))));show PA o g' (((pendingOf st').modify _ _).push _) _;rw [h1.pend];exact o8 (sA (λ _=>rfl) h2) n2 (λ i a b=>by rw [h3 i a];exact R2.cl i a b) (λ i j a b c=>by rw [h3 i a,h3 j (by omega)];exact R2.so i j a b c)
 case post=>
  rintro c st' ⟨g,p,rfl,h1,h2⟩;dsimp only;refine wpS_bind (wpS_mono (wpS_forRange
   (I:=λ x c st''=>c=(none,())/\∃ g p,Sg N f kd g p st''/\PA o g p N/\(p.size<=1\/p.size+x<=N))
   (Q:=λ c st''=>c=(none,())/\∃ g p,Sg N f kd g p st''/\PA o g p N/\p.size<=1) ?fstep ?ffin ⟨rfl,g,p,h1,h2,.inr ?finit⟩) ?fpost)
  case finit=>
   have:=iX.le h2;rw [length_map] at this;show p.toList.length+0<=N;omega
  case ffin=>
   rintro c st'' ⟨rfl,g,p,h1,h2,h3⟩;exact ⟨rfl,g,p,h1,h2,by omega⟩
  case fstep=>
   rintro x c st'' _ hx ⟨rfl,g,p,h1,h2,h3⟩;refine wpS_bind (wpS_get ?_);rw [h1.pend];by_cases c:p.size<=1
   ·rw [if_pos c];exact wpS_pure ⟨rfl,g,p,h1,h2,c⟩
   ·rw [if_neg c];have il:∀ (d:Prop) [Decidable d],(if d then p.size - 2 - 1 else p.size - 2)+1 < p.size:=λ d _=>by
     by_cases hd:d
     ·rw [if_pos hd];omega
     ·rw [if_neg hd];omega
    refine wpS_bind (yj C h1 h2 (Nat.le_refl _) (il _) λ g' p' st3 s3 q3 z3 _=>?_);exact wpS_pure ⟨rfl,g',p',s3,q3,by omega⟩
  case fpost=>
   rintro c st'' ⟨rfl,g,p,h1,h2,h3⟩;dsimp only;refine wpS_pure ?_;unfold PA at h2;have h3:p.toList.length<=1:=h3
   match hl:p.toList,h3 with
   | [],_=>
    rw [hl] at h2;have:0=N:=h2;omega
   | [x],_=>
    rw [hl] at h2;obtain ⟨e1,e2,e3,e4,e5⟩:=h2;have e5:0+x.2.1=N:=e5;have e3:Cl g 0 (0+x.2.1):=e3;have e4:So o g 0 (0+x.2.1):=e4;rw [e5] at e3 e4;exact q g p st'' h1 e3 e4
end
noncomputable abbrev xK (h:Heap)(a:Addr)(vs:List Value):Heap:=((h.update a (Obj.mapSeq λ _=>#[])).push (seqObj "tuple" vs.toArray 0)).push (seqObj "list" #[] 0)
theorem IY {h:Heap}{a b:Addr}{vs:List Value}(hb:b≠a)(hlt:b < h.objs.size):(xK h a vs).get? b=h.get? b:=by
 rw [get?_push_ne _ _ _ (by rw [size_push',size_update];exact ne_of_lt (lt_succ_of_lt hlt)),
  get?_push_ne _ _ _ (by rw [size_update];exact ne_of_lt hlt),Heap.get?_update_ne _ _ _ _ hb]
noncomputable abbrev vv (vs:List Value)(i:Nat):Keyed:=(vs.getD i .none,vs.getD i .none)
theorem zip_get (vs:List Value){i:Nat}(h:i < vs.length):(vs.toArray.zip vs.toArray)[i]?=some (vv vs i):=by
 have e:vs[i]?=some (vs.getD i .none):=by rw [getD_eq_getElem?_getD,List.getElem?_eq_getElem h];rfl
 rw [Array.getElem?_zip_eq_some];exact ⟨by rw [getElem?_toArray];exact e,by rw [getElem?_toArray];exact e⟩
section
variable {prog:Program} {w:World} {A:Around} {E:Value->Shared->Prop} {s:Shared} {o:Ord} {kd:SortKind}
theorem rG {a:Addr}{vs:List Value}{n:Nat}{P:PySem.Fin->Shared->Prop}(hL:s.heap.get? a=some (seqObj "list" vs.toArray n))(hsz:vs.length<=sizeLine)
  (hkk:2<=vs.length->∀ Q:SortKind->Shared->Prop,Q kd { s with heap:=xK s.heap a vs }->wpAny (model prog w) A (keyKind' vs.toArray) Q E { s with heap:=xK s.heap a vs })
  (C:2<=vs.length->rQ prog w A { s with heap:=xK s.heap a vs } o vs.length (vv vs) kd)
  (h:∀ g,Cl g 0 vs.length->So o g 0 vs.length->P (.done (.ret .none)) { s with heap:=sortedHeap s.heap a vs ((List.range vs.length).map λ i=>vs.getD (g i) .none).toArray }) :
  wpAny (model prog w) A (Builtin.«list.sort» ⟨[.ref a],[]⟩) P E s:=by
 rw [list_sort_plain];have lta:a < s.heap.objs.size:=lt_size hL;refine wpAny_bind (listItems_at hL rfl ?_);refine wpAny_bind (listUpdate_at hL rfl ?_ (by rw [size_toArray];exact hsz) (zero_le _));obtain ⟨ep,hL1⟩:∃ ep,(s.heap.update a (Obj.mapSeq λ _=>#[])).get? a=some (seqObj "list" #[] ep):=⟨_,get?_update_seq hL (λ _=>#[])⟩;refine wpAny_bind (seqEpoch_at hL1 rfl ?_);refine wpAny_bind (wpAny_newTuple ?_);refine wpAny_bind (wpAny_newList ?_);refine wpAny_holding ?_;have hL6:(xK s.heap a vs).get? a=some (seqObj "list" #[] ep):=by
  rw [get?_push_ne _ _ _ (by rw [size_push',size_update];exact ne_of_lt (lt_succ_of_lt lta)),get?_push_ne _ _ _ (by rw [size_update];exact ne_of_lt lta)];exact hL1
 show wpAny (model prog w) A _ P E { s with heap:=xK s.heap a vs };dsimp only;have hz:vs.toArray.size=vs.length:=by simp
 have getE:∀ i,i < vs.length->vs[i]?=some (vs.getD i .none):=λ i hi=>by rw [getD_eq_getElem?_getD,List.getElem?_eq_getElem hi];rfl
 have iI:∀ (arr:Array Keyed) (g:Nat->Nat),arr.size=vs.length->(∀ i,i < vs.length->arr[i]?=some (vv vs (g i)))->arr.map (·.2)=((List.range vs.length).map λ i=>vs.getD (g i) .none).toArray:=λ arr g h1 two=>by
  apply Array.ext_getElem?;intro i;have e0:((List.range vs.length).map λ i=>vs.getD (g i) Value.none).toArray[i]?=((List.range vs.length).map λ i=>vs.getD (g i) Value.none)[i]?:=getElem?_toArray ..;rw [Array.getElem?_map,e0,List.getElem?_map];by_cases c:i < vs.length
  ·rw [two i c,List.getElem?_range c];rfl
  ·rw [Array.getElem?_eq_none (by omega),List.getElem?_eq_none (by rw [length_range];omega)];rfl
 by_cases two:vs.toArray.size < 2
 ·rw [if_pos two,if_pos two];refine wpAny_bind (wpAny_pure ?_);rw [StateT.run_pure];refine wpAny_bind (wpAny_pure ?_);dsimp only;refine wpAny_bind (seqEpoch_at hL6 rfl ?_);have oe:=iI (vs.toArray.zip vs.toArray) (λ i=>i) (by rw [size_zip,hz];omega) λ i hi=>zip_get vs hi;refine wpAny_bind (listUpdate_at hL6 rfl ?_ (by simp) (hsz2:=by rw [size_map];show (vs.toArray.zip vs.toArray).size<=_;rw [size_zip,hz];omega));simp only [bne_self_eq_false,false_eq_true,if_false];refine wpAny_pure ?_;have:=h (λ i=>i) (λ i a b=>⟨a,b⟩) (λ i j a b c=>by omega);rw [<- oe] at this;exact this
 ·rw [if_neg two,if_neg two];have h2':2<=vs.length:=by omega
  refine wpAny_bind (hkk h2' _ ?_);refine wpAny_bind (wpAny_mono (Ju (f:=vv vs) (N:=vs.length) (C h2') (st:=SortSt.mk' kd (vs.toArray.zip vs.toArray) #[] 7 none)
   (Q:=λ _ st'=>∃ g p,Sg vs.length (vv vs) kd g p st'/\Cl g 0 vs.length/\So o g 0 vs.length)
   ⟨by show (vs.toArray.zip vs.toArray).size=_;rw [size_zip,hz];omega,λ i hi=>zip_get vs hi,λ i hi=>hi,rfl,rfl,rfl⟩ (by omega) λ g' p' st' a1 a2 a3=>⟨g',p',a1,a2,a3⟩) ?_ λ _ _ e=>e)
  rintro ⟨⟨⟩,st'⟩ s' ⟨rfl,g,p,hS,hc,hso⟩;dsimp only;refine wpAny_bind (seqEpoch_at hL6 rfl ?_);have oe:=iI (arrOf st') g hS.size hS.get;refine wpAny_bind (listUpdate_at hL6 rfl ?_ (by simp) (hsz2:=by have hh:(arrOf st').size=vs.length:=hS.size;show ((arrOf st').map (·.2)).size<=_;rw [size_map,hh];omega));rw [hS.failed];simp only [bne_self_eq_false,false_eq_true,if_false];have:=h g hc hso;rw [<- oe] at this;exact wpAny_pure this
end
section
variable {prog:Program} {w:World} {A:Around} {E:Value->Shared->Prop} {s:Shared}
theorem Cr (b:Bool)(x y:Value):keyLt' (tuples' b) x y=(do
  let us <- Builtin.List.listItems x
  let vs <- Builtin.List.listItems y
  for ((u,v),k) in (us.toList.zip vs.toList).zipIdx do
   if !(<- eqBool u v) then return <- oneLt' (b && k == 0) u v
  return us.size < vs.size):=rfl
theorem zy (b:Bool){x y:Int}{t u:Tok}{Q:Bool->Shared->Prop}(h:Q (decide (x < y)) s):wpAny (model prog w) A (oneLt' b (.int x t) (.int y u)) Q E s:=by
 cases b with
 | true=>exact oneLt_int h
 | false=>
  rw [oneLt'_eq];simp only [false_eq_true,if_false];exact wpAny_bind (PySem.P.lt_int (wpAny_truthy_bool h))
theorem xm (b:Bool){l k:Addr}{xs ys:List Value}{ns ms:List Int}{Q:Bool->Shared->Prop}(hl:IsTup s.heap l xs.toArray)(hk:IsTup s.heap k ys.toArray)(hi:IntsAre xs ns)(hj:IntsAre ys ms)(h:Q (HT.lexLt ns ms) s) :
  wpAny (model prog w) A (keyLt' (tuples' b) (.ref l) (.ref k)) Q E s:=by
 rw [Cr];obtain ⟨o1,ho1,_,n1,hd1⟩:=hl;obtain ⟨o2,ho2,_,n2,hd2⟩:=hk;refine wpAny_bind (listItems_at ho1 hd1 ?_);refine wpAny_bind (listItems_at ho2 hd2 ?_);have key:∀ (xs ys:List Value) (ns ms:List Int) (n:Nat),IntsAre xs ns->IntsAre ys ms->∀ Q':Option Bool×Unit->Shared->Prop,(∀ r,(r=some (HT.lexLt ns ms)\/(r=none/\HT.lexLt ns ms=decide (xs.length < ys.length)))->Q' (r,()) s) ->
   wpAny (model prog w) A (forIn ((xs.zip ys).zipIdx n) ((none,()):Option Bool×Unit) λ x c=>match x with
      | ((p,q),i)=>do
       let e <- eqBool p q
       if (!e)=true then do
         let r <- oneLt' (b && i == 0) p q
         pure (ForInStep.done (some r,()))
        else pure (ForInStep.yield (none,()))) Q' E s:=by
  intro xs
  induction xs with
  | nil=>
   intro ys ns ms n h1 h2 Q' q
   cases h1
   rw [List.zip_nil_left,List.zipIdx_nil,List.forIn_nil];refine wpAny_pure (q none (.inr ⟨rfl,?_⟩))
   cases h2 with
   | nil=>rw [HT.iC];rfl
   | cons a t h2=>rw [HT.eZ,decide_eq_true (by simp)]
  | cons v vs ih=>
   intro ys ns ms n h1 h2 Q' q
   cases h1 with
   | cons a t h1=>
    cases h2 with
    | nil=>
     rw [List.zip_nil_right,List.zipIdx_nil,List.forIn_nil];exact wpAny_pure (q none (.inr ⟨rfl,by rw [HT.gM,decide_eq_false (by simp)]⟩))
    | cons c u h2=>
     rw [List.zip_cons_cons,zipIdx_cons,List.forIn_cons];rw [HT.jf] at q;dsimp only;refine wpAny_bind (wpAny_bind (wpAny_eqBool_int ?_));by_cases e:a=c
     ·rw [if_pos e] at q;subst e;simp only [beq_self_eq_true,Bool.not_true,false_eq_true,if_false];refine wpAny_pure (ih _ _ _ _ h1 h2 _ λ r hr=>q r ?_)
      rcases hr with hr | ⟨hr,hz⟩
      ·exact .inl hr
      ·exact .inr ⟨hr,by rw [hz];simp⟩
     ·rw [if_neg e] at q;have e':(a == c)=false:=by simpa using e
      simp only [e',Bool.not_false,if_true];exact wpAny_bind (zy _ (wpAny_pure (wpAny_pure (q _ (.inl rfl)))))
 refine wpAny_bind (key xs ys ns ms 0 hi hj _ λ r hr=>?_)
 rcases hr with rfl | ⟨rfl,hz⟩
 ·exact wpAny_pure h
 ·dsimp only;rw [size_toArray,size_toArray,<- hz];exact wpAny_pure h
end
theorem ug:∀ a:List Int,HT.lexLt a a=false
 | []=>HT.iC
 | x::a=>by rw [HT.jf,if_pos rfl];exact ug a
theorem t8:∀ {a b c:List Int},HT.lexLt a b=true->HT.lexLt b c=true->HT.lexLt a c=true
 | [],[],_,h,_=>by rw [HT.iC] at h;cases h
 | x::a,[],_,h,_=>by rw [HT.gM] at h;cases h
 | _,y::b,[],_,h=>by rw [HT.gM] at h;cases h
 | [],y::b,z::c,_,_=>HT.eZ ..
 | x::a,y::b,z::c,h1,h2=>by
  rw [HT.jf] at h1 h2 ⊢;by_cases e1:x=y
  ·rw [if_pos e1] at h1;by_cases e2:y=z
   ·rw [if_pos e2] at h2;rw [if_pos (e1.trans e2)];exact t8 h1 h2
   ·rw [if_neg e2] at h2;have:=of_decide_eq_true h2;rw [if_neg (by omega)];exact decide_eq_true (by omega)
  ·rw [if_neg e1] at h1;have l1:=of_decide_eq_true h1;by_cases e2:y=z
   ·rw [if_neg (by omega)];exact decide_eq_true (by omega)
   ·rw [if_neg e2] at h2;have:=of_decide_eq_true h2;rw [if_neg (by omega)];exact decide_eq_true (by omega)
theorem pq:∀ {a b:List Int},HT.lexLt a b=false->HT.lexLt b a=false->a=b
 | [],[],_,_=>rfl
 | [],y::b,h,_=>by rw [HT.eZ] at h;cases h
 | x::a,[],_,h=>by rw [HT.eZ] at h;cases h
 | x::a,y::b,h1,h2=>by
  rw [HT.jf] at h1 h2;by_cases e:x=y
  ·rw [if_pos e] at h1;rw [if_pos e.symm] at h2;rw [e,pq h1 h2]
  ·rw [if_neg e] at h1;rw [if_neg (λ z=>e z.symm)] at h2;have:=of_decide_eq_false h1;have:=of_decide_eq_false h2;omega
theorem zh {a b c:List Int}(h:HT.lexLt a c=true):HT.lexLt a b=true\/HT.lexLt b c=true:=by
 cases e:HT.lexLt a b with
 | true=>exact .inl rfl
 | false=>
  right
  cases e2:HT.lexLt b a with
  | true=>exact t8 e2 h
  | false=>rw [<- pq e e2];exact h
noncomputable def FG (kss:List (List Int)):Ord where
 lt i j:=HT.lexLt (kss.getD i []) (kss.getD j [])
 Gz i:=ug _
 tr i j k:=t8
 neg i j k:=zh
section
variable {prog:Program} {w:World} {A:Around} {E:Value->Shared->Prop} {s:Shared}
theorem yX {α β:Type}{M:Model}{f:α->Sem β}(r:α->β):∀ (l:List α),(∀ a∈l,∀ Q:β->Shared->Prop,Q (r a) s->wpAny M A (f a) Q E s)->∀ Q:List β->Shared->Prop,Q (l.map r) s->wpAny M A (l.mapM f) Q E s
 | [],_,Q,q=>by rw [List.mapM_nil];exact wpAny_pure q
 | a::l,h,Q,q=>by
  rw [List.mapM_cons];refine wpAny_bind (h a (mem_cons_self ..) _ (wpAny_bind (yX r l (λ b hb=>h b (mem_cons_of_mem _ hb)) _ (wpAny_pure q))))
theorem A5 {α β:Type}{M:Model}{f:α->Sem β}(r:α->β)(l:List α)(h:∀ a∈l,∀ Q:β->Shared->Prop,Q (r a) s->wpAny M A (f a) Q E s)(Q:Array β->Shared->Prop)(q:Q (l.map r).toArray s):wpAny M A (l.toArray.mapM f) Q E s:=by
 rw [List.mapM_toArray,map_eq_pure_bind];exact wpAny_bind (yX r l h _ (wpAny_pure q))
theorem Du (u:Value):firstOfTuple' u=(do
  if (<- typeOf u) != .type "tuple" then return none
  return (<- Builtin.List.listItems u)[0]?):=rfl
theorem Bp {vs:List Value}(h0:vs≠[])(ht:∀ v∈vs,∃ (l:Addr) (xs:List Value) (n:Int) (t:Tok),v=.ref l/\IsTup s.heap l (.int n t::xs).toArray){Q:SortKind->Shared->Prop}(q:Q (tuples' true) s) :
  wpAny (model prog w) A (keyKind' vs.toArray) Q E s:=by
 have ch:∀ v,∃ x:Int×Tok,v∈vs->∃ (l:Addr) (xs:List Value),v=.ref l/\IsTup s.heap l (.int x.1 x.2::xs).toArray:=λ v=>by
  by_cases c:v∈vs
  ·obtain ⟨l,xs,n,t,e1,e2⟩:=ht v c;exact ⟨(n,t),λ _=>⟨l,xs,e1,e2⟩⟩
  ·exact ⟨(0,0),λ z=>absurd z c⟩
 obtain ⟨F,hF⟩:=Classical.axiomOfChoice ch;rw [keyKind'_eq];refine wpAny_bind (A5 (λ v=>some (Value.int (F v).1 (F v).2)) vs (λ v hv Q' q'=>?_) _ ?_)
 ·obtain ⟨l,xs,rfl,o,ho,hc,n,hd⟩:=hF v hv;rw [Du];refine wpAny_bind (wpAny_typeOf (T := "tuple") ⟨o,ho,hc⟩ ?_);rw [if_neg (by decide)];exact wpAny_bind (listItems_at ho hd (wpAny_pure q'))
 ·rw [if_pos (by simp)];refine wpAny_bind (wpAny_rule ?_);have e1:(vs.map λ v=>some (Value.int (F v).1 (F v).2)).toArray.filterMap id=(vs.map λ v=>Value.int (F v).1 (F v).2).toArray:=by
   rw [List.filterMap_toArray,List.filterMap_map];congr 1;rw [show (id ∘ λ v=>some (Value.int (F v).1 (F v).2))=λ v=>some (Value.int (F v).1 (F v).2) from rfl];exact congrFun List.filterMap_eq_map' vs
  rw [e1,oneTypeOnly'_eq];refine wpAny_bind (wpAny_bind (A5 (λ _=>Value.type "int") _ (λ v hv Q' q'=>?_) _ ?_))
  ·obtain ⟨u,_,rfl⟩:=mem_map.mp hv;exact wpAny_pure q'
  ·rw [List.map_map];obtain ⟨v0,vs',rfl⟩:∃ v0 vs',vs=v0::vs':=by
    cases vs with
    | nil=>exact absurd rfl h0
    | cons a b=>exact ⟨a,b,rfl⟩
   have ha:((List.map ((λ _=>Value.type "int") ∘ λ v=>Value.int (F v).1 (F v).2) (v0::vs')).toArray.all λ x=>x == Value.type "int")=true:=by
    simp only [List.all_toArray,all_map,all_eq_true];intro _ _;rfl
   have hz:(List.map ((λ _=>Value.type "int") ∘ λ v=>Value.int (F v).1 (F v).2) (v0::vs')).toArray[0]?=some (Value.type "int"):=by simp
   rw [hz];simp only [ha,if_true];exact wpAny_pure (wpAny_pure q)
end
end Sx
namespace L2
open PySem PySem.Spec PyProof.Rows
section
variable {X:Cx}
theorem r8:∀ {rs:List Addr} {its:List Value},Vals (rs.map V.ref) its->its=rs.map Value.ref
 | [],_,r=>by cases r;rfl
 | a::rs,_,r=>by
  cases r with
  | cons h t=>
   have e:_=Value.ref a:=h;rw [e,r8 t];rfl
theorem rV:∀ (rs:List Addr),Vals (rs.map V.ref) (rs.map Value.ref)
 | []=>.nil
 | a::rs=>.cons (show RelV (.ref a) (.ref a) from rfl) (rV rs)
theorem BX {pins:List (Addr×Obj)}{s:Shared}{σ:St}{H:Hp}{Q:VK}{h':Heap}{tk:Nat}{rs:List Addr}{kss:List (List Int)}(I1:Inv X pins σ H { s with heap:=h',toks:=tk })(hlen:rs.length=kss.length)(hz:rs.length<=sizeLine)
  (hT:∀ (i:Nat) (r:Addr) (ks:List Int),rs[i]?=some r->kss[i]?=some ks->fF X.K H r (ks.map V.int)/\ks≠[])
  (q:∀ l g,H l=none->Sx.Cl g 0 kss.length->Sx.So (Sx.FG kss) g 0 kss.length->Q (.ref l) (upd H l (.lst (((List.range kss.length).map λ i=>rs.getD (g i) 0).map V.ref)))) :
  wpAny (model X.prog X.w) X.A.in1 (do
   let l <- newList (rs.map Value.ref)
   let _ <- holding [l] (call (Value.builtin "list.sort") [l] [])
   ret l) (λ fin s'=>∃ v,fin=Fin.done (Flow.ret v)/\EP X pins σ Q v s') X.xe { s with heap:=h',toks:=tk }:=by
 have hN:(rs.map Value.ref).length=kss.length:=by rw [length_map,hlen]
 refine wpAny_bind (wpAny_newList ?_);have hoL:(h'.push (seqObj "list" (rs.map Value.ref).toArray 0)).get? h'.objs.size=some (seqObj "list" (rs.map Value.ref).toArray 0):=get?_push_size _ rfl;show wpAny _ _ _ _ _ { s with toks:=tk,heap:=h'.push (seqObj "list" (rs.map Value.ref).toArray 0) };have tup:∀ (i:Nat) (r:Addr) (ks:List Int),rs[i]?=some r->kss[i]?=some ks->∃ its:List Value,IntsAre its ks/\IsTup (Sx.xK (h'.push (seqObj "list" (rs.map Value.ref).toArray 0)) h'.objs.size (rs.map Value.ref)) r its.toArray:=λ i r ks e1 e2=>by
  obtain ⟨its,rv,⟨o,ho,hc,n,hd⟩,_⟩:=I1.tuple (hT i r ks e1 e2).1;refine ⟨its,intsAre_of rv,o,?_,hc,n,hd⟩;have lt:r < h'.objs.size:=lt_size ho;rw [Sx.IY (ne_of_lt lt) (by rw [size_push];exact lt_succ_of_lt lt)];exact get?_push_of_some _ ho
 refine wpAny_bind (wpAny_holding (wpAny_call_entry slot_list_sort ⟨_,hoL,rfl⟩ entry_list_sort (Sx.rG (o:=Sx.FG kss) (kd:=tuples' true) hoL (by rw [hN];omega) (λ h2 Q' q'=>?_) (λ h2 i j hi hj E' Q' q'=>?_) λ g hc hs=>⟨_,rfl,?_⟩) (args_list_sort _)))
 ·refine Sx.Bp (λ z=>by rw [z] at h2;simp at h2) (λ v hv=>?_) q';obtain ⟨i,hi⟩:=getElem?_of_mem hv;rw [List.getElem?_map] at hi;obtain ⟨r,hr,rfl⟩:=map_eq_some_iff.mp hi;have lt:=(List.getElem?_eq_some_iff.mp hr).1;have e2:kss[i]?=some kss[i]:=List.getElem?_eq_getElem (by omega);obtain ⟨its,h1,h3⟩:=tup i r _ hr e2;have hne:=(hT i r _ hr e2).2;generalize kss[i]=ks at h1 hne
  cases h1 with
  | nil=>exact absurd rfl hne
  | cons a t h1=>exact ⟨r,_,a,t,rfl,h3⟩
 ·rw [hN] at hi hj;have e1:rs[i]?=some (rs[i]'(by omega)):=List.getElem?_eq_getElem _;have e2:rs[j]?=some (rs[j]'(by omega)):=List.getElem?_eq_getElem _;have k1:kss[i]?=some kss[i]:=List.getElem?_eq_getElem hi;have k2:kss[j]?=some kss[j]:=List.getElem?_eq_getElem hj;obtain ⟨x1,a1,b1⟩:=tup i _ _ e1 k1;obtain ⟨x2,a2,b2⟩:=tup j _ _ e2 k2;have v1:(rs.map Value.ref).getD i .none=.ref (rs[i]'(by omega)):=by rw [getD_eq_getElem?_getD,List.getElem?_map,e1];rfl
  have v2:(rs.map Value.ref).getD j .none=.ref (rs[j]'(by omega)):=by rw [getD_eq_getElem?_getD,List.getElem?_map,e2];rfl
  show wpAny _ _ (keyLt' (tuples' true) ((rs.map Value.ref).getD i .none) ((rs.map Value.ref).getD j .none)) Q' E' _;rw [v1,v2];refine Sx.xm true b1 b2 a1 a2 ?_;have d1:kss.getD i []=kss[i]:=by rw [getD_eq_getElem?_getD,k1];rfl
  have d2:kss.getD j []=kss[j]:=by rw [getD_eq_getElem?_getD,k2];rfl
  have:(Sx.FG kss).lt i j=HT.lexLt kss[i] kss[j]:=by show HT.lexLt _ _=_;rw [d1,d2]
  rw [<- this];exact q'
 ·rw [hN] at hc hs ⊢;obtain ⟨e,he⟩:=sortedHeap_at (out:=((List.range kss.length).map λ i=>(rs.map Value.ref).getD (g i) .none).toArray) hoL;have old:∀ b ob,h'.get? b=some ob->(sortedHeap (h'.push (seqObj "list" (rs.map Value.ref).toArray 0)) h'.objs.size (rs.map Value.ref) ((List.range kss.length).map λ i=>(rs.map Value.ref).getD (g i) .none).toArray).get? b=some ob:=λ b ob eb=>by
   rw [sortedHeap_old (ne_of_lt (lt_size eb)) (by rw [size_push];exact lt_succ_of_lt (lt_size eb))];exact get?_push_of_some _ eb
  refine wpAny_pure ⟨_,rfl,.ref h'.objs.size,_,I1.laid (t':=tk) (o:=.lst (((List.range kss.length).map λ i=>rs.getD (g i) 0).map V.ref)) old (Nat.le_refl _) ?_,rfl,q _ g (I1.hok.fresh (Nat.le_refl _)) hc hs⟩;refine ⟨by rw [length_map,length_map,length_range];omega,((List.range kss.length).map λ i=>rs.getD (g i) 0).map Value.ref,e,rV _,?_⟩;rw [he];congr 2;rw [List.map_map];congr 1;refine map_congr_left λ i hi=>?_;have:=(hc i (zero_le _) (mem_range.mp hi)).2;have lt:g i < rs.length:=by omega
  show (rs.map Value.ref).getD (g i) .none=Value.ref (rs.getD (g i) 0);rw [getD_eq_getElem?_getD,List.getElem?_map,List.getElem?_eq_getElem lt,getD_eq_getElem?_getD,List.getElem?_eq_getElem lt];rfl
end
end L2
namespace Sx
open PySem PyProof.Rows
open PySem.AutoSeq1 (wpAny_loadPart')
open PySem.MeetsSeq PySem.MeetsSeq2 PySem.MeetsSeq3
theorem oR:∀ {xs:List Value} {ns:List Int} {i:Nat},IntsAre xs ns->i < ns.length->∃ t,xs[i]?=some (.int (ns.getD i 0) t)
 | _,_,i,.nil,h=>absurd h (not_lt_zero _)
 | _,_,0,.cons n t h,_=>⟨t,rfl⟩
 | _,_,i+1,.cons n t h,hi=>by
  obtain ⟨t',e⟩:=oR h (i:=i) (by simpa using hi);exact ⟨t',by simpa using e⟩
section
variable {prog:Program} {w:World} {A:Around} {E:Value->Shared->Prop} {s:Shared}
end
end Sx
namespace L2
open PySem PySem.Spec PyProof.Rows
section
variable {X:Cx}
end
end L2
namespace Am
open PySem
inductive A where
 | unb | non | bl (b:Bool) | int (i:Int) | str (x:Str) | tup (xs:List A) | frz (xs:List A) | rng (lo hi:Int) | ref (n:Nat) | exn (c:Str) | ty (n:String) | ktu (xs:List A)
inductive O where
 | lst (xs:List A) | dct (kvs:List (List Int×A)) | fK (kvs:List (Int×A)) | ins (c:Str) (fs:List (Str×A))
noncomputable abbrev aA:=List O
inductive R (α:Type) where
 | ok (a:α) (S:aA) | ex (c:Str) (S:aA) | no
noncomputable def R.bind {α β:Type}(r:R α)(f:α->aA->R β):R β:=match r with
 | .ok a S=>f a S
 | .ex c S=>.ex c S
 | .no=>.no
noncomputable def R.post {α:Type}(r:R α)(P:α->aA->Prop)(E:Str->aA->Prop):Prop:=match r with
 | .ok a S=>P a S
 | .ex c S=>E c S
 | .no=>False
theorem aI {α β:Type}{r:R α}{f:α->aA->R β}{P:β->aA->Prop}{E:Str->aA->Prop}(h:(r.bind f).post P E):r.post (λ a S=>(f a S).post P E) E:=by
 cases r <;> exact h
theorem nh {α:Type}{r:R α}{P P':α->aA->Prop}{E E':Str->aA->Prop}(h:r.post P E)(hp:∀ a S,P a S->P' a S)(he:∀ c S,E c S->E' c S):r.post P' E':=by
 cases r with
 | ok a S=>exact hp _ _ h
 | ex c S=>exact he _ _ h
 | no=>exact h.elim
noncomputable def gd {α:Type}(c:Prop)[Decidable c](r:R α):R α:=if c then r else .no
noncomputable def opt {α β:Type}(o:Option β)(f:β->R α):R α:=match o with
 | some b=>f b
 | none=>.no
theorem bh {α:Type}{c:Prop}[Decidable c]{r:R α}{P:α->aA->Prop}{E:Str->aA->Prop}(h:(gd c r).post P E):c/\r.post P E:=by
 unfold gd at h;by_cases hc:c
 ·rw [if_pos hc] at h;exact ⟨hc,h⟩
 ·rw [if_neg hc] at h;exact h.elim
theorem aM {α β:Type}{o:Option β}{f:β->R α}{P:α->aA->Prop}{E:Str->aA->Prop}(h:(opt o f).post P E):∃ b,o=some b/\(f b).post P E:=by
 cases o with
 | none=>exact h.elim
 | some b=>exact ⟨b,rfl,h⟩
theorem Oj {α:Type}{c:Prop}[Decidable c]{r:R α}(h:c):gd c r=r:=if_pos h
noncomputable def aC (S:aA)(n:Nat):Option (List A):=match S[n]? with
 | some (.lst xs)=>some xs
 | _=>none
theorem aS {S:aA}{n:Nat}{xs:List A}(h:aC S n=some xs):S[n]?=some (.lst xs):=by
 unfold aC at h;split at h
 ·rename_i e;cases h;exact e
 ·cases h
theorem lV {S:aA}{n:Nat}{xs:List A}(h:S[n]?=some (.lst xs)):aC S n=some xs:=by
 unfold aC;rw [h]
inductive RS where
 | nx (τ:List A) (S:aA) | rt (a:A) (S:aA) | bk (τ:List A) (S:aA) | ct (τ:List A) (S:aA) | ex (c:Str) (S:aA) | no
noncomputable abbrev Ex:=List A->aA->R A
noncomputable abbrev g_:=List A->aA->R (List A)
noncomputable abbrev Te:=List A->aA->R Bool
noncomputable abbrev Sm:=List A->aA->RS
noncomputable abbrev Tg:=A->List A->aA->R (List A)
end Am
namespace Am
open PySem L2
section
variable (K:PySem.W.Frag) (ρ:List Addr) (H:Hp)
noncomputable def xH (K:PySem.W.Frag)(c:Str)(C:Addr):Prop:=PySem.W.nsIn K mainGlobals c=some (some (.ref C))
noncomputable def Fz (K:PySem.W.Frag)(H:Hp)(a:Addr)(vs:List V):Prop:=
 (∃ o,H a=some (.frz o (.lst vs)))\/∃ (o:Obj) (its:Array Value) (n:Nat),K.lookup a=some o/\o.cls=.type "list" /\ o.dict=none/\o.data=.seq its n/\its.size<=sizeLine/\Vals vs its.toList
noncomputable def Qt (K:PySem.W.Frag)(a:Addr)(vs:List V):Prop:=∃ (o:Obj) (its:Array Value) (n:Nat),K.lookup a=some o/\o.cls=.type "tuple" /\ o.dict=none/\o.data=.seq its n/\its.size<=sizeLine/\Vals vs its.toList
mutual
inductive AV:A->V->Prop
 | non:AV .non .non
 | bl (b:Bool):AV (.bl b) (.bl b)
 | int (i:Int):AV (.int i) (.int i)
 | str (x:Str):AV (.str x) (.str x)
 | ty (n:String):AV (.ty n) (.ty n)
 | tup {a:Addr} {xs:List A} {vs:List V} (h:H a=some (.tup vs)) (r:AVs xs vs):AV (.tup xs) (.ref a)
 | frz {a:Addr} {xs:List A} {vs:List V} (h:Fz K H a vs) (r:AVs xs vs):AV (.frz xs) (.ref a)
 | rng {a:Addr} {lo hi:Int} (h:H a=some (.rng lo hi)):AV (.rng lo hi) (.ref a)
 | ref {a:Addr} {n:Nat} (h:ρ[n]?=some a):AV (.ref n) (.ref a)
 | exn {a C:Addr} {c:Str} {oe:Obj} (n:xH K c C) (h:H a=some (.frz oe xu)) (x:XO C oe):AV (.exn c) (.ref a)
 | ktu {a:Addr} {xs:List A} {vs:List V} (h:Qt K a vs) (r:AVs xs vs):AV (.ktu xs) (.ref a)
inductive AVs:List A->List V->Prop
 | nil:AVs [] []
 | cons {x:A} {v:V} {xs:List A} {vs:List V} (h:AV x v) (t:AVs xs vs):AVs (x::xs) (v::vs)
end
noncomputable def DV:List (List Int×A)->List (List Key×V)->Prop
 | [],[]=>True
 | p::r,q::r'=>(q.1=p.1.map Sum.inl/\AV K ρ H p.2 q.2)/\DV r r'
 | _,_=>False
noncomputable def DI:List (Int×A)->List (Key×V)->Prop
 | [],[]=>True
 | p::r,q::r'=>(q.1=Sum.inl p.1/\AV K ρ H p.2 q.2)/\DI r r'
 | _,_=>False
noncomputable def OR (a:Addr):O->Prop
 | .lst xs=>∃ vs,H a=some (.lst vs)/\AVs K ρ H xs vs
 | .dct kvs=>∃ ks,H a=some (.dT ks)/\DV K ρ H kvs ks
 | .fK kvs=>∃ ks,H a=some (.dK ks)/\DI K ρ H kvs ks
 | .ins _ _=>∃ o u,H a=some (.frz o u)
structure Rel (S:aA):Prop where
 len:ρ.length=S.length
 nd:ρ.Nodup
 «at»:∀ (n:Nat) (a:Addr) (o:O),ρ[n]?=some a->S[n]?=some o->OR K ρ H a o
end
noncomputable def QT:HO->Prop
 | .tup _=>True
 | .rng _ _=>True
 | .frz _ _=>True
 | _=>False
structure Ext0 (ρ ρ':List Addr)(H H':Hp):Prop where
 pre:ρ <+: ρ'
 im:∀ a u,QT u->H a=some u->H' a=some u
structure Ext (ρ ρ':List Addr)(H H':Hp):Prop extends Ext0 ρ ρ' H H' where
 fr:∀ a u,H a=some u->a∉ρ->H' a=some u
 nw:∀ a,a∈ρ'->a∈ρ\/H a=none
theorem Ext.refl {ρ:List Addr}{H:Hp}:Ext ρ ρ H H:=⟨⟨prefix_refl _,λ _ _ _ h=>h⟩,λ _ _ h _=>h,λ _ h=>.inl h⟩
theorem Ext.trans {ρ ρ1 ρ2:List Addr}{H H1 H2:Hp}(a:Ext ρ ρ1 H H1)(b:Ext ρ1 ρ2 H1 H2):Ext ρ ρ2 H H2:=⟨⟨a.pre.trans b.pre,λ x u i h=>b.im x u i (a.im x u i h)⟩,λ x u h n=>b.fr x u (a.fr x u h n) λ z=>(a.nw x z).elim n λ z=>by (rw [z] at h;cases h),λ x h=>by
 by_cases hx:x∈ρ
 ·exact .inl hx
 ·right
  cases q:H x with
  | none=>rfl
  | some u=>
   rcases b.nw x h with z | z
   ·exact ((a.nw x z).elim hx λ z=>by (rw [z] at q;cases q)).elim
   ·rw [a.fr x u q hx] at z;cases z⟩
theorem Ext0.get {ρ ρ':List Addr}{H H':Hp}(e:Ext0 ρ ρ' H H'){n:Nat}{a:Addr}(h:ρ[n]?=some a):ρ'[n]?=some a:=by
 obtain ⟨t,rfl⟩:=e.pre;rw [getElem?_append_left (List.getElem?_eq_some_iff.mp h).1];exact h
section
variable {K:PySem.W.Frag} {ρ ρ':List Addr} {H H':Hp}
theorem Ext0.Qs (e:Ext0 ρ ρ' H H'){a:Addr}{vs:List V}(h:fF K H a vs):fF K H' a vs:=by
 rcases h with (h | ⟨o,h⟩) | h
 ·exact .inl (.inl (e.im _ _ trivial h))
 ·exact .inl (.inr ⟨o,e.im _ _ trivial h⟩)
 ·exact .inr h
theorem Ext0.fz (e:Ext0 ρ ρ' H H'){a:Addr}{vs:List V}(h:Fz K H a vs):Fz K H' a vs:=by
 rcases h with ⟨o,h⟩ | h
 ·exact .inl ⟨o,e.im _ _ trivial h⟩
 ·exact .inr h
theorem Fz.Hj {a:Addr}{vs:List V}(h:Fz K H a vs):gY K H a vs:=by
 rcases h with ⟨o,h⟩ | h
 ·exact .inl (.inr ⟨o,h⟩)
 ·exact .inr h
mutual
theorem AV.fq (e:Ext0 ρ ρ' H H'):∀ {x:A} {v:V},AV K ρ H x v->AV K ρ' H' x v
 | _,_,.non=>.non
 | _,_,.bl b=>.bl b
 | _,_,.int i=>.int i
 | _,_,.str x=>.str x
 | _,_,.ty x=>.ty x
 | _,_,.tup h r=>.tup (e.im _ _ trivial h) (AVs.fq e r)
 | _,_,.frz h r=>.frz (e.fz h) (AVs.fq e r)
 | _,_,.rng h=>.rng (e.im _ _ trivial h)
 | _,_,.ref h=>.ref (e.get h)
 | _,_,.exn n h x=>.exn n (e.im _ _ trivial h) x
 | _,_,.ktu h r=>.ktu h (AVs.fq e r)
theorem AVs.fq (e:Ext0 ρ ρ' H H'):∀ {xs:List A} {vs:List V},AVs K ρ H xs vs->AVs K ρ' H' xs vs
 | _,_,.nil=>.nil
 | _,_,.cons h t=>.cons (AV.fq e h) (AVs.fq e t)
end
theorem DV.fq (e:Ext0 ρ ρ' H H'):∀ {xs:List (List Int×A)} {vs:List (List Key×V)},DV K ρ H xs vs->DV K ρ' H' xs vs
 | [],[],_=>trivial
 | _::_,_::_,⟨⟨a,b⟩,r⟩=>⟨⟨a,AV.fq e b⟩,DV.fq e r⟩
theorem DV.ext {x:List (List Int×A)}{v:List (List Key×V)}(h:DV K ρ H x v)(e:Ext ρ ρ' H H'):DV K ρ' H' x v:=DV.fq e.toExt0 h
theorem DI.fq (e:Ext0 ρ ρ' H H'):∀ {xs:List (Int×A)} {vs:List (Key×V)},DI K ρ H xs vs->DI K ρ' H' xs vs
 | [],[],_=>trivial
 | _::_,_::_,⟨⟨a,b⟩,r⟩=>⟨⟨a,AV.fq e b⟩,DI.fq e r⟩
theorem DI.ext {x:List (Int×A)}{v:List (Key×V)}(h:DI K ρ H x v)(e:Ext ρ ρ' H H'):DI K ρ' H' x v:=DI.fq e.toExt0 h
theorem AV.ext {x:A}{v:V}(h:AV K ρ H x v)(e:Ext ρ ρ' H H'):AV K ρ' H' x v:=AV.fq e.toExt0 h
theorem AVs.ext {x:List A}{v:List V}(h:AVs K ρ H x v)(e:Ext ρ ρ' H H'):AVs K ρ' H' x v:=AVs.fq e.toExt0 h
theorem AVs.length:∀ {xs:List A} {vs:List V},AVs K ρ H xs vs->xs.length=vs.length
 | _,_,.nil=>rfl
 | _,_,.cons _ t=>congrArg (·+1) (AVs.length t)
theorem AVs.append:∀ {xs ys:List A} {vs ws:List V},AVs K ρ H xs vs->AVs K ρ H ys ws->AVs K ρ H (xs++ys) (vs++ws)
 | _,_,_,_,.nil,s=>s
 | _,_,_,_,.cons h t,s=>.cons h (AVs.append t s)
theorem AVs.take:∀ {xs:List A} {vs:List V} (n:Nat),AVs K ρ H xs vs->AVs K ρ H (xs.take n) (vs.take n)
 | _,_,0,_=>.nil
 | _,_,_+1,.nil=>.nil
 | _,_,n+1,.cons h t=>.cons h (AVs.take n t)
theorem AVs.drop:∀ {xs:List A} {vs:List V} (n:Nat),AVs K ρ H xs vs->AVs K ρ H (xs.drop n) (vs.drop n)
 | _,_,0,r=>r
 | _,_,_+1,.nil=>.nil
 | _,_,n+1,.cons _ t=>AVs.drop n t
theorem AVs.get:∀ {xs:List A} {vs:List V} {i:Nat} {x:A},AVs K ρ H xs vs->xs[i]?=some x->∃ v,vs[i]?=some v/\AV K ρ H x v
 | _,_,_,_,.nil,e=>by simp at e
 | _,_,0,_,.cons h _,e=>by simp at e;subst e;exact ⟨_,rfl,h⟩
 | _,_,i+1,x,.cons _ t,e=>by
  obtain ⟨u,h1,h2⟩:=AVs.get (i:=i) (x:=x) t (by simpa using e);exact ⟨u,by simpa using h1,h2⟩
theorem AVs.set {x:A}{v:V}(h:AV K ρ H x v):∀ {xs:List A} {vs:List V} (i:Nat),AVs K ρ H xs vs->AVs K ρ H (xs.set i x) (vs.set i v)
 | _,_,_,.nil=>.nil
 | _,_,0,.cons _ t=>.cons h t
 | _,_,i+1,.cons q t=>.cons q (AVs.set h i t)
theorem AVs.one {x:A}{v:V}(h:AV K ρ H x v):AVs K ρ H [x] [v]:=.cons h .nil
theorem AVs.eraseIdx:∀ {xs:List A} {vs:List V} (i:Nat),AVs K ρ H xs vs->AVs K ρ H (xs.eraseIdx i) (vs.eraseIdx i)
 | _,_,_,.nil=>.nil
 | _,_,0,.cons _ t=>t
 | _,_,i+1,.cons q t=>.cons q (AVs.eraseIdx i t)
theorem jT:∀ (ns:List Int),AVs K ρ H (ns.map .int) (ns.map .int)
 | []=>.nil
 | n::ns=>.cons (.int n) (jT ns)
theorem Rel.lay {S:aA}{p:Addr}{xs:List A}{vs:List V}(R:Rel K ρ H S)(hp:H p=none)(r:AVs K ρ H xs vs):Ext ρ (ρ++[p]) H (upd H p (.lst vs))/\Rel K (ρ++[p]) (upd H p (.lst vs)) (S++[.lst xs])/\(ρ++[p])[S.length]?=some p:=by
 have ex:Ext ρ (ρ++[p]) H (upd H p (.lst vs)):=⟨⟨prefix_append _ _,λ a u _ h=>by rw [aL (a_ h hp)];exact h⟩,λ a u h _=>by rw [aL (a_ h hp)];exact h,λ a h=>by
  rcases mem_append.mp h with z | z
  ·exact .inl z
  ·have e:a=p:=by simpa using z
   rw [e];exact .inr hp⟩
 have np:∀ (n:Nat) (a:Addr),ρ[n]?=some a->a≠p:=by
  intro n a e z;subst z;have hn:n < S.length:=by rw [<- R.len];exact (List.getElem?_eq_some_iff.mp e).1
  have:=R.at n a S[n] e (List.getElem?_eq_getElem hn)
  cases ho:S[n] with
  | lst xs=>rw [ho] at this;obtain ⟨vs,h,_⟩:=this;rw [hp] at h;cases h
  | dct _ | fK _=>rw [ho] at this;obtain ⟨vs,h,_⟩:=this;rw [hp] at h;cases h
  | ins _ _=>rw [ho] at this;obtain ⟨_,_,h⟩:=this;rw [hp] at h;cases h
 have last:(ρ++[p])[S.length]?=some p:=by rw [<- R.len];simp
 refine ⟨ex,⟨by simp [R.len],?_,?_⟩,last⟩
 ·rw [nodup_append];refine ⟨R.nd,by simp,λ a ha b hb e=>?_⟩;have:b=p:=by simpa using hb
  obtain ⟨n,hn,e'⟩:=List.mem_iff_getElem.mp ha;exact np n a (by rw [List.getElem?_eq_getElem hn,e']) (e.trans this)
 ·intro n a o h1 h2;by_cases hn:n < S.length
  ·rw [getElem?_append_left (by rw [R.len];exact hn)] at h1;rw [getElem?_append_left hn] at h2;have:=R.at n a o h1 h2
   cases o with
   | lst ys=>obtain ⟨ws,e,q⟩:=this;exact ⟨ws,by rw [aL (np n a h1)];exact e,q.ext ex⟩
   | dct _ | fK _=>obtain ⟨ws,e,q⟩:=this;exact ⟨ws,by rw [aL (np n a h1)];exact e,q.ext ex⟩
   | ins _ _=>obtain ⟨oo,uu,e⟩:=this;exact ⟨oo,uu,by rw [aL (np n a h1)];exact e⟩
  ·have e:n=S.length:=by
    have:=(List.getElem?_eq_some_iff.mp h2).1;simp at this;omega
   subst e;rw [last] at h1
   cases h1
   simp at h2;subst h2;exact ⟨vs,bM,r.ext ex⟩
theorem Rel.im {S:aA}{p:Addr}{u:HO}(R:Rel K ρ H S)(hp:H p=none):Ext ρ ρ H (upd H p u)/\Rel K ρ (upd H p u) S:=by
 have ex:Ext ρ ρ H (upd H p u):=⟨⟨prefix_refl _,λ a u _ h=>by rw [aL (a_ h hp)];exact h⟩,λ a u h _=>by rw [aL (a_ h hp)];exact h,λ _ h=>.inl h⟩;refine ⟨ex,R.len,R.nd,λ n a o h1 h2=>?_⟩;have:=R.at n a o h1 h2
 cases o with
 | lst ys=>obtain ⟨ws,e,q⟩:=this;exact ⟨ws,by rw [aL (a_ e hp)];exact e,q.ext ex⟩
 | dct _ | fK _=>obtain ⟨ws,e,q⟩:=this;exact ⟨ws,by rw [aL (a_ e hp)];exact e,q.ext ex⟩
 | ins _ _=>obtain ⟨oo,uu,e⟩:=this;exact ⟨oo,uu,by rw [aL (a_ e hp)];exact e⟩
theorem Rel.put {S:aA}{n:Nat}{a:Addr}{xs ys:List A}{ws:List V}(R:Rel K ρ H S)(ha:ρ[n]?=some a)(hS:S[n]?=some (.lst xs))(r:AVs K ρ H ys ws):Ext ρ ρ H (upd H a (.lst ws))/\Rel K ρ (upd H a (.lst ws)) (S.set n (.lst ys)):=by
 obtain ⟨vs,e,_⟩:=R.at n a _ ha hS;have ex:Ext ρ ρ H (upd H a (.lst ws)):=⟨⟨prefix_refl _,λ b u i h=>by
  have:b≠a:=by
   intro z;subst z;rw [e] at h;cases h;exact i
  rw [aL this];exact h⟩,λ b u h n=>by
  rw [aL (λ z=>n (by rw [z];exact mem_of_getElem? ha))];exact h,λ _ h=>.inl h⟩
 refine ⟨ex,by rw [length_set];exact R.len,R.nd,λ m b o h1 h2=>?_⟩;by_cases hm:m=n
 ·subst hm;rw [ha] at h1;cases h1;rw [getElem?_set_self (List.getElem?_eq_some_iff.mp hS).1] at h2
  cases h2
  exact ⟨ws,bM,r.ext ex⟩
 ·rw [getElem?_set_ne (Ne.symm hm)] at h2;have nb:b≠a:=λ z=>by
   subst z;obtain ⟨l1,e1⟩:=List.getElem?_eq_some_iff.mp ha;obtain ⟨l2,e2⟩:=List.getElem?_eq_some_iff.mp h1;exact hm ((getElem_inj R.nd).mp (e2.trans e1.symm))
  have:=R.at m b o h1 h2
  cases o with
  | lst ys=>obtain ⟨ws',e',q⟩:=this;exact ⟨ws',by rw [aL nb];exact e',q.ext ex⟩
  | dct _ | fK _=>obtain ⟨ws',e',q⟩:=this;exact ⟨ws',by rw [aL nb];exact e',q.ext ex⟩
  | ins _ _=>obtain ⟨oo,uu,e'⟩:=this;exact ⟨oo,uu,by rw [aL nb];exact e'⟩
theorem Rel.lst {S:aA}{n:Nat}{a:Addr}{xs:List A}(R:Rel K ρ H S)(ha:ρ[n]?=some a)(hS:S[n]?=some (.lst xs)):∃ vs,H a=some (.lst vs)/\AVs K ρ H xs vs:=R.at n a _ ha hS
structure SR (K:PySem.W.Frag)(ρ:List Addr)(H:Hp)(τ:List A)(σ:St):Prop where
 len:τ.length=σ.length
 «at»:∀ (i:Nat) (a:A),τ[i]?=some a->a=.unb\/∃ v,σ[i]?=some (some v)/\AV K ρ H a v
theorem SR.fq {τ:List A}{σ:St}(s:SR K ρ H τ σ)(e:Ext0 ρ ρ' H H'):SR K ρ' H' τ σ:=⟨s.len,λ i a h=>by
 rcases s.at i a h with z | ⟨v,h1,h2⟩
 ·exact .inl z
 ·exact .inr ⟨v,h1,AV.fq e h2⟩⟩
theorem SR.ext {τ:List A}{σ:St}(s:SR K ρ H τ σ)(e:Ext ρ ρ' H H'):SR K ρ' H' τ σ:=s.fq e.toExt0
theorem Rel.out {S:aA}{D:Addr}{vs ws:List V}(R:Rel K ρ H S)(hD:H D=some (.lst vs))(hn:D∉ρ):Ext0 ρ ρ H (upd H D (.lst ws))/\Rel K ρ (upd H D (.lst ws)) S:=by
 have ex:Ext0 ρ ρ H (upd H D (.lst ws)):=⟨prefix_refl _,λ b u i h=>by
  have:b≠D:=by
   intro z;subst z;rw [hD] at h;cases h;exact i
  rw [aL this];exact h⟩
 refine ⟨ex,R.len,R.nd,λ n a o h1 h2=>?_⟩;have na:a≠D:=λ z=>hn (by rw [<- z];exact mem_of_getElem? h1);have:=R.at n a o h1 h2
 cases o with
 | lst ys=>obtain ⟨ws',e,q⟩:=this;exact ⟨ws',by rw [aL na];exact e,AVs.fq ex q⟩
 | dct _ | fK _=>obtain ⟨ws',e,q⟩:=this;exact ⟨ws',by rw [aL na];exact e,q.fq ex⟩
 | ins _ _=>obtain ⟨oo,uu,e⟩:=this;exact ⟨oo,uu,by rw [aL na];exact e⟩
theorem Rel.take {S:aA}{D:Addr}{xs:List A}{vs:List V}(R:Rel K ρ H S)(hD:H D=some (.lst vs))(hn:D∉ρ)(r:AVs K ρ H xs vs):Rel K (ρ++[D]) H (S++[.lst xs])/\(ρ++[D])[S.length]?=some D:=by
 have ex:Ext0 ρ (ρ++[D]) H H:=⟨prefix_append _ _,λ _ _ _ h=>h⟩;have last:(ρ++[D])[S.length]?=some D:=by rw [<- R.len];simp
 refine ⟨⟨by simp [R.len],?_,λ n a o h1 h2=>?_⟩,last⟩
 ·rw [nodup_append];refine ⟨R.nd,by simp,λ a ha b hb e=>?_⟩;have:b=D:=by simpa using hb
  exact hn (by rw [<- this,<- e];exact ha)
 ·by_cases hs:n < S.length
  ·rw [getElem?_append_left (by rw [R.len];exact hs)] at h1;rw [getElem?_append_left hs] at h2;have:=R.at n a o h1 h2
   cases o with
   | lst ys=>obtain ⟨ws,e,q⟩:=this;exact ⟨ws,e,AVs.fq ex q⟩
   | dct _ | fK _=>obtain ⟨ws,e,q⟩:=this;exact ⟨ws,e,q.fq ex⟩
   | ins _ _=>obtain ⟨oo,uu,e⟩:=this;exact ⟨oo,uu,e⟩
  ·have e:n=S.length:=by
    have:=(List.getElem?_eq_some_iff.mp h2).1;simp at this;omega
   subst e;rw [last] at h1
   cases h1
   simp at h2;subst h2;exact ⟨vs,hD,AVs.fq ex r⟩
theorem SR.set {τ:List A}{σ:St}{i:Nat}{a:A}{v:V}(s:SR K ρ H τ σ)(h:AV K ρ H a v):SR K ρ H (τ.set i a) (σ.set i (some v)):=by
 refine ⟨by simp [s.len],λ j b e=>?_⟩;by_cases hj:j=i
 ·subst hj;have hl:j < τ.length:=by
   have:=(List.getElem?_eq_some_iff.mp e).1;simpa using this
  rw [getElem?_set_self hl] at e
  cases e
  exact .inr ⟨v,getElem?_set_self (by rw [<- s.len];exact hl),h⟩
 ·rw [getElem?_set_ne (Ne.symm hj)] at e;rw [getElem?_set_ne (Ne.symm hj)];exact s.at j b e
end
end Am
namespace Am
open PySem PySem.Spec PyProof.Rows L2
noncomputable def XE (X:Cx)(ρ:List Addr)(H:Hp):Str->aA->Prop:=λ c S'=>∀ (C:Addr) (ρ':List Addr) (H':Hp),xH X.K c C->Ext ρ ρ' H H'->Rel X.K ρ' H' S'->EX X (.ref C) none H'
theorem XE.ext {X:Cx}{ρ ρ':List Addr}{H H':Hp}{c:Str}{S:aA}(h:XE X ρ H c S)(e:Ext ρ ρ' H H'):XE X ρ' H' c S:=λ C ρ2 H2 n e2=>h C ρ2 H2 n (e.trans e2)
noncomputable def rf (X:Cx)(ρ:List Addr)(H:Hp)(Q:VK):A->aA->Prop:=λ a S'=>∀ ρ' H' v,Ext ρ ρ' H H'->Rel X.K ρ' H' S'->AV X.K ρ' H' a v->Q v H'
noncomputable def OT (X:Cx)(ρ:List Addr)(H:Hp)(Q:Bool->Hp->Prop):Bool->aA->Prop:=λ b S'=>∀ ρ' H',Ext ρ ρ' H H'->Rel X.K ρ' H' S'->Q b H'
noncomputable def QO (X:Cx)(ρ:List Addr)(H:Hp)(Q:List V->Hp->Prop):List A->aA->Prop:=λ as S'=>∀ ρ' H' vs,Ext ρ ρ' H H'->Rel X.K ρ' H' S'->AVs X.K ρ' H' as vs->Q vs H'
theorem rf.ext {X:Cx}{ρ ρ':List Addr}{H H':Hp}{Q:VK}{a:A}{S:aA}(h:rf X ρ H Q a S)(e:Ext ρ ρ' H H'):rf X ρ' H' Q a S:=λ ρ2 H2 v e2=>h ρ2 H2 v (e.trans e2)
theorem OT.ext {X:Cx}{ρ ρ':List Addr}{H H':Hp}{Q:Bool->Hp->Prop}{a:Bool}{S:aA}(h:OT X ρ H Q a S)(e:Ext ρ ρ' H H'):OT X ρ' H' Q a S:=λ ρ2 H2 e2=>h ρ2 H2 (e.trans e2)
theorem aG {α:Type}{X:Cx}{ρ ρ':List Addr}{H H':Hp}{r:R α}{P P':α->aA->Prop}(h:r.post P (XE X ρ H))(e:Ext ρ ρ' H H')(hp:∀ a S,P a S->P' a S):r.post P' (XE X ρ' H'):=nh h hp λ _ _ z=>z.ext e
noncomputable def tE (X:Cx)(c:Ex):TE:=λ σ H Q=>∃ ρ S τ,Rel X.K ρ H S/\SR X.K ρ H τ σ/\(c τ S).post (rf X ρ H Q) (XE X ρ H)
noncomputable def tT (X:Cx)(c:Te):TT:=λ σ H Q=>∃ ρ S τ,Rel X.K ρ H S/\SR X.K ρ H τ σ/\(c τ S).post (OT X ρ H Q) (XE X ρ H)
noncomputable def tL (X:Cx)(c:g_):TA:=λ σ H Q=>∃ ρ S τ,Rel X.K ρ H S/\SR X.K ρ H τ σ/\(c τ S).post (QO X ρ H Q) (XE X ρ H)
noncomputable def AE (X:Cx)(e:Expr)(c:Ex):Prop:=PE X e (tE X c)
noncomputable def AT (X:Cx)(e:Expr)(c:Te):Prop:=PT X e (tT X c)
noncomputable def AW (X:Cx)(e:Expr)(c:Te):Prop:=PW X e (tT X c)
noncomputable def AL (X:Cx)(es:List Expr)(c:g_):Prop:=PA X es (tL X c)
theorem PE.imp {X:Cx}{e:Expr}{t t':TE}(h:PE X e t)(i:∀ σ H Q,t' σ H Q->t σ H Q):PE X e t':=λ pins s σ H Q I q=>h pins s σ H Q I (i σ H Q q)
theorem PT.imp {X:Cx}{e:Expr}{t t':TT}(h:PT X e t)(i:∀ σ H Q,t' σ H Q->t σ H Q):PT X e t':=λ pins s σ H Q I q=>h pins s σ H Q I (i σ H Q q)
theorem PW.imp {X:Cx}{e:Expr}{t t':TT}(h:PW X e t)(i:∀ σ H Q,t' σ H Q->t σ H Q):PW X e t':=λ w pins s σ H Q I q=>h w pins s σ H Q I (i σ H Q q)
theorem PA.imp {X:Cx}{e:List Expr}{t t':TA}(h:PA X e t)(i:∀ σ H Q,t' σ H Q->t σ H Q):PA X e t':=λ p pins s σ H Q I q=>h p pins s σ H Q I (i σ H Q q)
theorem AW.at {X:Cx}{e:Expr}{c:Te}(h:AW X e c):AT X e c:=h _
noncomputable def A.gq:A->Bool
 | .unb=>true
 | _=>false
noncomputable def ak (i:Nat):Ex:=λ τ S=>if (τ.getD i .unb).gq then .no else .ok (τ.getD i .unb) S
noncomputable def eC (a:A):Ex:=λ _ S=>.ok a S
section
variable {X:Cx} {pos:Pos} {a b:Expr}
theorem ah (i:Nat){x:Str}(hN:X.N[i]?=some x:=by rfl)(hv:Oq X.env.scope x:=by first | exact Or.inl rfl | exact Or.inr (Or.inl rfl) | exact Or.inr (Or.inr rfl))(hd:(x == ("__debug__" : Str))=false:=by decide)
  (hcd:(x == ("__classdict__" : Str))=false:=by decide):AE X (.Name x pos) (ak i):=PE.imp (CH hN hv hd hcd) λ σ H Q h9=>by
 obtain ⟨ρ,S,τ,R,r,h⟩:=h9;unfold ak at h
 cases hi:τ[i]? with
 | none=>
  rw [getD_eq_getElem?_getD,hi] at h;exact h.elim
 | some x=>
  rw [getD_eq_getElem?_getD,hi] at h
  rcases r.at i x hi with z | ⟨v,e,q⟩
  ·subst z;exact h.elim
  ·refine ⟨v,e,?_⟩
   cases x <;> first | (exact h ρ H v .refl R q) | exact h.elim
theorem aE {i:Int}{j pos}:AE X (.Constant (.int i) j pos) (eC (.int i)):=PE.imp L7 λ σ H Q ⟨ρ,S,τ,R,r,h⟩=>h ρ H _ .refl R (.int i)
theorem iO {i:Bool}{j pos}:AE X (.Constant (.bool i) j pos) (eC (.bl i)):=PE.imp Nn λ σ H Q ⟨ρ,S,τ,R,r,h⟩=>h ρ H _ .refl R (.bl i)
theorem jk {x:Str}{j pos}:AE X (.Constant (.str x) j pos) (eC (.str x)):=PE.imp LM λ σ H Q ⟨ρ,S,τ,R,r,h⟩=>h ρ H _ .refl R (.str x)
noncomputable def aJ (f:A->A->aA->R A)(ca cb:Ex):Ex:=λ τ S=>(ca τ S).bind λ a S1=>(cb τ S1).bind λ b S2=>f a b S2
noncomputable def r2 (X:Cx)(f:A->A->aA->R A):R2:=λ x y H Q=>∃ ρ S a b,Rel X.K ρ H S/\AV X.K ρ H a x/\AV X.K ρ H b y/\(f a b S).post (rf X ρ H Q) (XE X ρ H)
noncomputable def r1 (X:Cx)(f:A->aA->R A):V->Hp->VK->Prop:=λ x H Q=>∃ ρ S a,Rel X.K ρ H S/\AV X.K ρ H a x/\(f a S).post (rf X ρ H Q) (XE X ρ H)
noncomputable def rN (X:Cx)(f:List A->aA->R A):List V->Hp->VK->Prop:=λ xs H Q=>∃ ρ S as,Rel X.K ρ H S/\AVs X.K ρ H as xs/\(f as S).post (rf X ρ H Q) (XE X ρ H)
theorem fX.imp {f:Value->Value->Sem Value}{r r':R2}(h:fX X f r)(i:∀ x y H Q,r' x y H Q->r x y H Q):fX X f r':=λ pins s σ H x y v u Q I rx ry q=>h pins s σ H x y v u Q I rx ry (i _ _ _ _ q)
theorem bH.imp {f:Value}{r r':List V->Hp->VK->Prop}(h:bH X f r)(i:∀ x H Q,r' x H Q->r x H Q):bH X f r':=λ pins s σ H x v Q I rx q=>h pins s σ H x v Q I rx (i _ _ _ q)
theorem ki {f:A->A->aA->R A}{ca cb:Ex}{σ:L2.St}{H:Hp}{Q:VK}(h:tE X (aJ f ca cb) σ H Q):Ot (r2 X f) (tE X ca) (tE X cb) σ H Q:=by
 obtain ⟨ρ,S,τ,R,r,h⟩:=h;refine ⟨ρ,S,τ,R,r,aG (aI h) .refl λ a S1 h1 ρ1 H1 x e1 R1 v1=>⟨ρ1,S1,τ,R1,r.ext e1,aG (aI h1) e1 λ b S2 h2 ρ2 H2 y e2 R2 v2=>?_⟩⟩;exact ⟨ρ2,S2,a,b,R2,v1.ext e2,v2,aG h2 (e1.trans e2) λ c S3 h3=>h3.ext (e1.trans e2)⟩
theorem aO {op:Operator}{f:A->A->aA->R A}{ca cb:Ex}(ho:fX X (binaryOp op) (r2 X f))(ha:AE X a ca)(hb:AE X b cb):AE X (.BinOp a op b pos) (aJ f ca cb):=
 PE.imp (Nb ho ha hb) λ σ H Q h=>ki h
theorem nQ {op:CmpOp}{f:A->A->aA->R A}{ca cb:Ex}(ho:fX X (compareOp op) (r2 X f))(ha:AE X a ca)(hb:AE X b cb)(hm:behindInMarks op b=false:=by first | exact Fc _ | with_unfolding_all rfl):AE X (.Compare a [op] [b] pos) (aJ f ca cb):=
 PE.imp (HZ ho ha hb hm) λ σ H Q h=>ki h
noncomputable def A.MU:A->aA->Option Bool
 | .non,_=>some false
 | .bl b,_=>some b
 | .int i,_=>some (i != 0)
 | .str x,_=>if x.length<=sizeLine then some ((x.length:Int) != 0) else none
 | .tup xs,_=>some (!xs.isEmpty)
 | .frz xs,_=>some (!xs.isEmpty)
 | .ref n,S=>(aC S n).map λ xs=>!xs.isEmpty
 | _,_=>none
noncomputable def jJ (c:Ex):Te:=λ τ S=>(c τ S).bind λ a S1=>opt (a.MU S1) λ b=>.ok b S1
noncomputable def mw (c:Ex):Te:=λ τ S=>(c τ S).bind λ a S1=>match a with
 | .bl b=>.ok b S1
 | _=>.no
theorem vz {K:PySem.W.Frag}{ρ:List Addr}{H:Hp}{b:Bool}{v:V}(h:AV K ρ H (.bl b) v):v=.bl b:=by cases h;rfl
theorem cA {op:CmpOp}{f:A->A->aA->R A}{ca cb:Ex}(ho:fX X (compareOp op) (r2 X f))(ha:AE X a ca)(hb:AE X b cb)(hm:behindInMarks op b=false:=by first | exact Fc _ | with_unfolding_all rfl):AT X (.Compare a [op] [b] pos) (mw (aJ f ca cb)):=
 PT.imp (IZ ho ha hb hm) λ σ H Q h9=>by
  obtain ⟨ρ,S,τ,R,r,h⟩:=h9;refine ki ⟨ρ,S,τ,R,r,aG (aI h) .refl λ c S1 h1 ρ1 H1 x e1 R1 v1=>?_⟩
  cases c with
  | bl k=>cases vz v1;exact ⟨k,rfl,h1 ρ1 H1 e1 R1⟩
  | _=>exact h1.elim
theorem L8 {K:PySem.W.Frag}{ρ:List Addr}{H:Hp}{S:aA}{x:A}{v:V}{b:Bool}(R:Rel K ρ H S)(h:AV K ρ H x v)(e:x.MU S=some b):K6 K v H b:=by
 have emp:∀ {xs:List A} {vs:List V},AVs K ρ H xs vs->(!xs.isEmpty)=!vs.isEmpty:=λ r=>by cases r <;> rfl
 cases h with
 | non=>exact (Option.some.inj e).symm
 | bl b=>exact (Option.some.inj e).symm
 | int i=>exact (Option.some.inj e).symm
 | str x=>
  by_cases hx:x.length<=sizeLine
  ·exact ⟨hx,by have:=(if_pos hx).symm.trans e;exact (Option.some.inj this).symm⟩
  ·have:=(if_neg hx).symm.trans e;cases this
 | tup h r=>exact .inr (.inl ⟨_,fF.of h,by rw [<- emp r];exact (Option.some.inj e).symm⟩)
 | frz h r=>exact .inl ⟨_,h.Hj,by rw [<- emp r];exact (Option.some.inj e).symm⟩
 | rng h=>cases e
 | ty n=>cases e
 | exn n h x=>cases e
 | ktu h r=>cases e
 | @ref a n h=>
  have e:(aC S n).map (λ xs=>!xs.isEmpty)=some b:=e;obtain ⟨xs,hn,e⟩:=map_eq_some_iff.mp e;obtain ⟨vs,h1,h2⟩:=R.lst h (aS hn);exact .inl ⟨vs,gY.of h1,by rw [<- emp h2];exact e.symm⟩
theorem eU {ca:Ex}(ha:AE X a ca)(he:∀ whole,isTrue a X.env whole=(do let v <- whole;standAt a.pos;holding [v] (truthy v)):=by intro _;rfl):AT X a (jJ ca):=
 PT.imp (D5 ha he) λ σ H Q ⟨ρ,S,τ,R,r,h⟩=>⟨ρ,S,τ,R,r,aG (aI h) .refl λ c S1 h1 ρ1 H1 x e1 R1 v1=>by
  obtain ⟨b,hb,h1⟩:=aM h1;exact ⟨b,L8 R1 v1 hb,h1 ρ1 H1 e1 R1⟩⟩
noncomputable def lQ (c:Te):Te:=λ τ S=>(c τ S).bind λ b S1=>.ok (!b) S1
noncomputable def GJ (c d:Te):Te:=λ τ S=>(c τ S).bind λ b S1=>match b with | true=>d τ S1 | false=>.ok false S1
noncomputable def Hg (c d:Te):Te:=λ τ S=>(c τ S).bind λ b S1=>match b with | true=>.ok true S1 | false=>d τ S1
theorem gc {c:Te}(h:AT X a c):AT X (.UnaryOp .Not a pos) (lQ c):=PT.imp (Lz h) λ σ H Q ⟨ρ,S,τ,R,r,h⟩=>⟨ρ,S,τ,R,r,aG (aI h) .refl λ b S1 h1=>h1⟩
theorem and_imp {c d:Te}{σ:L2.St}{H:Hp}{Q:Bool->Hp->Prop}(h:tT X (GJ c d) σ H Q):N6 (tT X c) (tT X d) σ H Q:=by
 obtain ⟨ρ,S,τ,R,r,h⟩:=h;refine ⟨ρ,S,τ,R,r,aG (aI h) .refl λ b S1 h1 ρ1 H1 e1 R1=>?_⟩
 cases b with
 | true=>
  rw [if_pos rfl];exact ⟨ρ1,S1,τ,R1,r.ext e1,aG h1 e1 λ _ _ z=>z.ext e1⟩
 | false=>
  rw [if_neg Bool.false_ne_true];exact h1 ρ1 H1 e1 R1
theorem or_imp {c d:Te}{σ:L2.St}{H:Hp}{Q:Bool->Hp->Prop}(h:tT X (Hg c d) σ H Q):Qn (tT X c) (tT X d) σ H Q:=by
 obtain ⟨ρ,S,τ,R,r,h⟩:=h;refine ⟨ρ,S,τ,R,r,aG (aI h) .refl λ b S1 h1 ρ1 H1 e1 R1=>?_⟩
 cases b with
 | false=>
  rw [if_neg Bool.false_ne_true];exact ⟨ρ1,S1,τ,R1,r.ext e1,aG h1 e1 λ _ _ z=>z.ext e1⟩
 | true=>
  rw [if_pos rfl];exact h1 ρ1 H1 e1 R1
variable {rest:List Expr}
theorem zk {c:Te}(h:AT X a c):AW X (.BoolOp .And [a] pos) c:=Hx h
theorem pI {c:Te}(h:AT X a c):AW X (.BoolOp .Or [a] pos) c:=LH h
theorem C1 {c d:Te}(h:AT X a c)(h2:AW X (.BoolOp .And (b::rest) pos) d):AW X (.BoolOp .And (a::b::rest) pos) (GJ c d):=PW.imp (Mu h h2) λ _ _ _ q=>and_imp q
theorem n8 {c d:Te}(h:AT X a c)(h2:AW X (.BoolOp .Or (b::rest) pos) d):AW X (.BoolOp .Or (a::b::rest) pos) (Hg c d):=PW.imp (Np h h2) λ _ _ _ q=>or_imp q
noncomputable def Ct (c d:Ex):Ex:=λ τ S=>(c τ S).bind λ a S1=>match a with | .bl true=>d τ S1 | .bl false=>.ok (.bl false) S1 | _=>.no
noncomputable def Qk (c d:Ex):Ex:=λ τ S=>(c τ S).bind λ a S1=>match a with | .bl true=>.ok (.bl true) S1 | .bl false=>d τ S1 | _=>.no
noncomputable def LB (c:Ex):Ex:=λ τ S=>(c τ S).bind λ a S1=>match a with | .bl b=>.ok (.bl !b) S1 | _=>.no
theorem xQ {op}{c:Ex}(h:AE X a c):AE X (.BoolOp op [a] pos) c:=K2 h
theorem w9 {c d:Ex}(h:AE X a c)(h2:AE X (.BoolOp .And (b::rest) pos) d):AE X (.BoolOp .And (a::b::rest) pos) (Ct c d):=PE.imp (LL h h2) λ σ H Q h9=>by
 obtain ⟨ρ,S,τ,R,r,h⟩:=h9;refine ⟨ρ,S,τ,R,r,aG (aI h) .refl λ b S1 h1 ρ1 H1 x e1 R1 v1=>?_⟩
 cases b with
 | bl k=>
  cases vz v1
  refine ⟨k,rfl,?_⟩
  cases k with
  | true=>
   rw [if_pos rfl];exact ⟨ρ1,S1,τ,R1,r.ext e1,aG h1 e1 λ _ _ z=>z.ext e1⟩
  | false=>
   rw [if_neg Bool.false_ne_true];exact h1 ρ1 H1 _ e1 R1 (.bl false)
 | _=>exact h1.elim
theorem Lv {c:Ex}(h:AE X a c):AE X (.UnaryOp .Not a pos) (LB c):=PE.imp (Lg h) λ σ H Q h9=>by
 obtain ⟨ρ,S,τ,R,r,h⟩:=h9;refine ⟨ρ,S,τ,R,r,aG (aI h) .refl λ b S1 h1 ρ1 H1 x e1 R1 v1=>?_⟩
 cases b with
 | bl k=>
  cases vz v1
  exact ⟨k,rfl,h1 ρ1 H1 _ e1 R1 (.bl _)⟩
 | _=>exact h1.elim
noncomputable def QL (t:Te)(c d:Ex):Ex:=λ τ S=>(t τ S).bind λ b S1=>match b with | true=>c τ S1 | false=>d τ S1
noncomputable def aK:g_:=λ _ S=>.ok [] S
noncomputable def aj (c:Ex)(d:g_):g_:=λ τ S=>(c τ S).bind λ a S1=>(d τ S1).bind λ as S2=>.ok (a::as) S2
theorem au:AL X [] aK:=PA.imp qL λ σ H Q ⟨ρ,S,τ,R,r,h⟩=>h ρ H _ .refl R .nil
theorem af {e:Expr}{es:List Expr}{c:Ex}{d:g_}(ha:AE X e c)(hr:AL X es d)(hs:starEach (e::es) X.env=(false,eval e X.env)::starEach es X.env:=by rfl):AL X (e::es) (aj c d):=
 PA.imp (ju ha hr hs) λ σ H Q h9=>by
  obtain ⟨ρ,S,τ,R,r,h⟩:=h9;refine ⟨ρ,S,τ,R,r,aG (aI h) .refl λ a S1 h1 ρ1 H1 x e1 R1 v1=>⟨ρ1,S1,τ,R1,r.ext e1,aG (aI h1) e1 λ as S2 h2 ρ2 H2 xs e2 R2 v2=>?_⟩⟩;exact h2 ρ2 H2 _ (e1.trans e2) R2 (.cons (v1.ext e2) v2)
noncomputable def fC (d:g_):Ex:=λ τ S=>(d τ S).bind λ as S1=>gd (as.length<=sizeLine) (.ok (.tup as) S1)
noncomputable def newL (as:List A)(S:aA):R A:=gd (as.length<=sizeLine) (.ok (.ref S.length) (S++[.lst as]))
noncomputable def gE (d:g_):Ex:=λ τ S=>(d τ S).bind λ as S1=>newL as S1
theorem kI {ρ ρ0:List Addr}{H H0:Hp}{S:aA}{as:List A}{vs:List V}{Q:VK}(R:Rel X.K ρ H S)(r:AVs X.K ρ H as vs)(e:Ext ρ0 ρ H0 H)(h:rf X ρ0 H0 Q (.tup as) S):∀ p,H p=none->Q (.ref p) (upd H p (.tup vs)):=λ p hp=>by
 obtain ⟨ex,R'⟩:=R.im (u:=.tup vs) hp;exact h ρ _ _ (e.trans ex) R' (.tup bM (r.ext ex))
theorem e_ {ρ ρ0:List Addr}{H H0:Hp}{S:aA}{as:List A}{vs:List V}{Q:VK}(R:Rel X.K ρ H S)(r:AVs X.K ρ H as vs)(e:Ext ρ0 ρ H0 H)(h:rf X ρ0 H0 Q (.ref S.length) (S++[.lst as])):∀ p,H p=none->Q (.ref p) (upd H p (.lst vs)):=λ p hp=>by
 obtain ⟨ex,R',g⟩:=R.lay hp r;exact h _ _ _ (e.trans ex) R' (.ref g)
theorem Ip {ρ ρ0:List Addr}{H H0:Hp}{S:aA}{as:List A}{vs:List V}{Q:VK}(R:Rel X.K ρ H S)(r:AVs X.K ρ H as vs)(e:Ext ρ0 ρ H0 H)(h:(newL as S).post (rf X ρ0 H0 Q) (XE X ρ0 H0)):vs.length<=sizeLine/\∀ p,H p=none->Q (.ref p) (upd H p (.lst vs)):=by
 obtain ⟨hl,h⟩:=bh h;exact ⟨by rw [<- r.length];exact hl,e_ R r e h⟩
theorem dh {es:List Expr}{d:g_}{x1}(h:AL X es d):AE X (.Tuple es x1 pos) (fC d):=PE.imp (Ll h) λ σ H Q h9=>by
 obtain ⟨ρ,S,τ,R,r,h⟩:=h9;refine ⟨ρ,S,τ,R,r,aG (aI h) .refl λ as S1 h1 ρ1 H1 xs e1 R1 v1=>?_⟩;obtain ⟨hl,h1⟩:=bh h1;exact ⟨by rw [<- v1.length];exact hl,kI R1 v1 e1 h1⟩
theorem cR {es:List Expr}{d:g_}(h:AL X es d):AE X (.List es pos) (gE d):=PE.imp (LN h) λ σ H Q ⟨ρ,S,τ,R,r,h⟩=>
 ⟨ρ,S,τ,R,r,aG (aI h) .refl λ as S1 h1 ρ1 H1 xs e1 R1 v1=>Ip R1 v1 e1 h1⟩
end
section
variable {X:Cx} {pos:Pos} {a b:Expr}
noncomputable def aSub (a b:A)(S:aA):R A:=match a,b with
 | .int i,.int j=>.ok (.int (i - j)) S
 | _,_=>.no
theorem j9:fX X (binaryOp .Sub) (r2 X aSub):=fX.imp Mv λ x y H Q h9=>by
 obtain ⟨ρ,S,a,b,R,va,vb,h⟩:=h9
 cases va <;> first | exact h.elim | (cases vb <;> first | exact h.elim | exact ⟨_,_,rfl,rfl,h _ _ _ .refl R (.int _)⟩)
noncomputable def vR (i j:Int):Bool:=(decide (-(2 ^ 64) < i) && decide (i < 2 ^ 64)) || (decide (-(2 ^ 64) < j) && decide (j < 2 ^ 64))
theorem mulOk_of {i j:Int}(h:vR i j=true):Ie i j:=by
 unfold vR at h;simp only [Bool.or_eq_true,and_eq_true,decide_eq_true_eq] at h;exact h
noncomputable def mj (a b:A)(S:aA):R A:=match a,b with
 | .int i,.int j=>gd (vR i j) (.ok (.int (i * j)) S)
 | .ref n,.int k=>opt (aC S n) λ xs=>gd (-(2 ^ 63)<=k/\k < 2 ^ 63/\xs.length * k.toNat<=sizeLine) (.ok (.ref S.length) (S++[.lst (List.replicate k.toNat xs).flatten]))
 | _,_=>.no
theorem AVs.rep {K:PySem.W.Frag}{ρ:List Addr}{H:Hp}{xs:List A}{vs:List V}(r:AVs K ρ H xs vs):∀ k:Nat,AVs K ρ H (List.replicate k xs).flatten (List.replicate k vs).flatten
 | 0=>.nil
 | k+1=>by rw [replicate_succ,replicate_succ,flatten_cons,flatten_cons];exact r.append (AVs.rep r k)
theorem sR:fX X (binaryOp .Mult) (r2 X mj):=λ pins s σ H x y v u Q I rx ry h9=>by
 obtain ⟨ρ,S,a,b,R,va,vb,h⟩:=h9
 cases va with
 | int i=>
  cases vb with
  | int j=>
   obtain ⟨hm,h⟩:=bh h;exact KH pins s σ H _ _ v u Q I rx ry ⟨i,j,rfl,rfl,mulOk_of hm,h _ _ _ .refl R (.int _)⟩
  | _=>exact h.elim
 | @ref p n hp=>
  cases vb with
  | int k=>
   obtain ⟨xs,hn,h⟩:=aM h;obtain ⟨hc,h⟩:=bh h;obtain ⟨vs,h1,h2⟩:=R.lst hp (aS hn);exact KU pins s σ H _ _ v u Q I rx ry ⟨p,k,vs,rfl,rfl,h1,hc.1,hc.2.1,by rw [<- h2.length];exact hc.2.2,e_ R (h2.rep _) .refl h⟩
  | _=>exact h.elim
 | _=>exact h.elim
noncomputable def yU (a b:A)(S:aA):R A:=match a,b with
 | .int i,.int j=>gd (0 < j/\j < 18446744073709551616) (.ok (.int (i / j)) S)
 | _,_=>.no
theorem DP:fX X (binaryOp .FloorDiv) (r2 X yU):=fX.imp GZ λ x y H Q h9=>by
 obtain ⟨ρ,S,a,b,R,va,vb,h⟩:=h9
 cases va <;> first | exact h.elim | (cases vb <;> first | exact h.elim | exact ⟨_,_,rfl,rfl,(bh h).1,(bh h).2 _ _ _ .refl R (.int _)⟩)
noncomputable def uF (a b:A)(S:aA):R A:=match a,b with
 | .int i,.int j=>gd (0 < j) (.ok (.int (i % j)) S)
 | _,_=>.no
theorem vZ:fX X (binaryOp .Mod) (r2 X uF):=fX.imp LC λ x y H Q h9=>by
 obtain ⟨ρ,S,a,b,R,va,vb,h⟩:=h9
 cases va <;> first | exact h.elim | (cases vb <;> first | exact h.elim | exact ⟨_,_,rfl,rfl,(bh h).1,(bh h).2 _ _ _ .refl R (.int _)⟩)
noncomputable def wR (a b:A)(S:aA):R A:=match a,b with
 | .int i,.int j=>gd (0<=j/\j<=1000000/\i.natAbs < 2 ^ 64) (.ok (.int (i ^ j.toNat)) S)
 | _,_=>.no
theorem E6:fX X (binaryOp .Pow) (r2 X wR):=fX.imp Ld λ x y H Q h9=>by
 obtain ⟨ρ,S,a,b,R,va,vb,h⟩:=h9
 cases va <;> first | exact h.elim | (cases vb <;> first | exact h.elim | exact ⟨_,_,rfl,rfl,(bh h).1,(bh h).2 _ _ _ .refl R (.int _)⟩)
noncomputable def cj (a b:A)(S:aA):R A:=match a,b with
 | .int i,.int j=>.ok (.int (i+j)) S
 | .tup xs,.tup ys=>gd (xs.length+ys.length<=sizeLine) (.ok (.tup (xs++ys)) S)
 | .str x,.str y=>gd (x.length+y.length<=sizeLine) (.ok (.str (x++y)) S)
 | .ref n,.ref m=>opt (aC S n) λ xs=>opt (aC S m) λ ys=>gd (xs.length+ys.length<=sizeLine) (.ok (.ref S.length) (S++[.lst (xs++ys)]))
 | _,_=>.no
theorem AVs.nil_inv {K:PySem.W.Frag}{ρ:List Addr}{H:Hp}{xs:List A}{vs:List V}(r:AVs K ρ H xs vs):xs=[] ↔ vs=[]:=by cases r <;> simp
theorem cK:fX X (binaryOp .Add) (r2 X cj):=λ pins s σ H x y v u Q I rx ry h9=>by
 obtain ⟨ρ,S,a,b,R,va,vb,h⟩:=h9
 cases va with
 | int i=>
  cases vb with
  | int j=>exact KI pins s σ H _ _ v u Q I rx ry ⟨i,j,rfl,rfl,h _ _ _ .refl R (.int _)⟩
  | _=>exact h.elim
 | str x=>
  cases vb with
  | str y=>
   obtain ⟨hc,h⟩:=bh h;exact wW pins s σ H _ _ v u Q I rx ry ⟨x,y,rfl,rfl,hc,h _ _ _ .refl R (.str _)⟩
  | _=>exact h.elim
 | @tup p xs vs h1 r1=>
  cases vb with
  | @tup q ys ws h2 r2=>
   obtain ⟨hc,h⟩:=bh h;by_cases hv:vs=[]
   ·have hx:=r1.nil_inv.mpr hv;subst hv hx;exact D8 pins s σ H _ _ v u Q I rx ry ⟨p,q,ws,rfl,rfl,fF.of h1,fF.of h2,h _ _ _ .refl R (.tup h2 r2)⟩
   ·refine Iq pins s σ H _ _ v u Q I rx ry ⟨p,q,vs,ws,rfl,rfl,fF.of h1,fF.of h2,hv,by rw [<- r1.length,<- r2.length];exact hc,λ e=>?_,λ _=>kI R (r1.append r2) .refl h⟩;have hy:=r2.nil_inv.mpr e;subst hy;rw [append_nil] at h;exact h _ _ _ .refl R (.tup h1 r1)
  | _=>exact h.elim
 | @ref p n hp=>
  cases vb with
  | @ref q m hq=>
   obtain ⟨xs,hn,h⟩:=aM h;obtain ⟨ys,hm,h⟩:=aM h;obtain ⟨hc,h⟩:=bh h;obtain ⟨vs,h1,h2⟩:=R.lst hp (aS hn);obtain ⟨ws,h3,h4⟩:=R.lst hq (aS hm);exact Le pins s σ H _ _ v u Q I rx ry ⟨p,q,vs,ws,rfl,rfl,h1,h3,by rw [<- h2.length,<- h4.length];exact hc,e_ R (h2.append h4) .refl h⟩
  | _=>exact h.elim
 | _=>exact h.elim
noncomputable def A.ints:List A->Option (List Int)
 | []=>some []
 | .int i::xs=>(A.ints xs).map (i::·)
 | _=>none
theorem uG {K:PySem.W.Frag}{ρ:List Addr}{H:Hp}:∀ {xs:List A} {vs:List V} {bs:List Int},AVs K ρ H xs vs->A.ints xs=some bs->vs=bs.map V.int
 | _,_,_,.nil,e=>by cases e;rfl
 | _,_,_,.cons (x:=.int b) h t,e=>by
  obtain ⟨cs,e1,rfl⟩:=map_eq_some_iff.mp e
  cases h
  rw [uG t e1];rfl
 | _,_,_,.cons (x:=.unb) h t,e=>nomatch e
 | _,_,_,.cons (x:=.non) h t,e=>nomatch e
 | _,_,_,.cons (x:=.bl _) h t,e=>nomatch e
 | _,_,_,.cons (x:=.str _) h t,e=>nomatch e
 | _,_,_,.cons (x:=.tup _) h t,e=>nomatch e
 | _,_,_,.cons (x:=.frz _) h t,e=>nomatch e
 | _,_,_,.cons (x:=.rng _ _) h t,e=>nomatch e
 | _,_,_,.cons (x:=.ref _) h t,e=>nomatch e
 | _,_,_,.cons (x:=.exn _) h t,e=>nomatch e
 | _,_,_,.cons (x:=.ty _) h t,e=>nomatch e
noncomputable def Hs (a b:A)(S:aA):R A:=match a,b with
 | .int i,.int j=>.ok (.bl (decide (i < j))) S
 | _,_=>.no
theorem Jq (hu:X.A.units+64 < cLine):fX X (compareOp .Lt) (r2 X Hs):=λ pins s σ H x y v u Q I rx ry h9=>by
 obtain ⟨ρ,S,a,b,R,va,vb,h⟩:=h9
 cases va with
 | int i=>
  cases vb with
  | int j=>exact Ox pins s σ H _ _ v u Q I rx ry ⟨i,j,rfl,rfl,h _ _ _ .refl R (.bl _)⟩
  | _=>exact h.elim
 | _=>exact h.elim
noncomputable def MR (a b:A)(S:aA):R A:=match a,b with
 | .int i,.int j=>.ok (.bl (decide (i<=j))) S
 | _,_=>.no
theorem Ow:fX X (compareOp .LtE) (r2 X MR):=fX.imp Of λ x y H Q h9=>by
 obtain ⟨ρ,S,a,b,R,va,vb,h⟩:=h9
 cases va <;> first | exact h.elim | (cases vb <;> first | exact h.elim | exact ⟨_,_,rfl,rfl,h _ _ _ .refl R (.bl _)⟩)
noncomputable def Ku (a b:A)(S:aA):R A:=match a,b with
 | .int i,.int j=>.ok (.bl (decide (j < i))) S
 | _,_=>.no
theorem CF (hu:X.A.units+64 < cLine):fX X (compareOp .Gt) (r2 X Ku):=λ pins s σ H x y v u Q I rx ry h9=>by
 obtain ⟨ρ,S,a,b,R,va,vb,h⟩:=h9
 cases va with
 | int i=>
  cases vb with
  | int j=>exact M0 pins s σ H _ _ v u Q I rx ry ⟨i,j,rfl,rfl,h _ _ _ .refl R (.bl _)⟩
  | _=>exact h.elim
 | _=>exact h.elim
noncomputable def OU (a b:A)(S:aA):R A:=match a,b with
 | .int i,.int j=>.ok (.bl (decide (j<=i))) S
 | _,_=>.no
theorem PU:fX X (compareOp .GtE) (r2 X OU):=fX.imp N8 λ x y H Q h9=>by
 obtain ⟨ρ,S,a,b,R,va,vb,h⟩:=h9
 cases va <;> first | exact h.elim | (cases vb <;> first | exact h.elim | exact ⟨_,_,rfl,rfl,h _ _ _ .refl R (.bl _)⟩)
noncomputable def JG (neg:Bool)(a b:A)(S:aA):R A:=match a,b with
 | .bl i,.bl j=>.ok (.bl (if neg then i != j else i == j)) S
 | .non,.non=>.ok (.bl (!neg)) S
 | .unb,.non=>.no
 | .exn _,.non=>.no
 | _,.non=>.ok (.bl neg) S
 | _,_=>.no
noncomputable def Hi (f:A->aA->R A)(c:Ex):Ex:=λ τ S=>(c τ S).bind λ a S1=>f a S1
noncomputable def rq (a:A)(S:aA):R A:=match a with
 | .int i=>.ok (.int (-i)) S
 | _=>.no
theorem OB:OX X (unaryOp .USub) (r1 X rq):=λ pins s σ H x v Q I rx h9=>by
 obtain ⟨ρ,S,a,R,va,h⟩:=h9
 cases va with
 | int i=>exact LZ pins s σ H _ v Q I rx ⟨i,rfl,h _ _ _ .refl R (.int _)⟩
 | _=>exact h.elim
theorem Mr {f:A->aA->R A}{c:Ex}{σ:L2.St}{H:Hp}{Q:VK}(h:tE X (Hi f c) σ H Q):Qz (r1 X f) (tE X c) σ H Q:=by
 obtain ⟨ρ,S,τ,R,r,h⟩:=h;exact ⟨ρ,S,τ,R,r,aG (aI h) .refl λ a S1 h1 ρ1 H1 x e1 R1 v1=>⟨ρ1,S1,a,R1,v1,aG h1 e1 λ c S3 h3=>h3.ext e1⟩⟩
theorem nI {c:Ex}(h:AE X a c):AE X (.UnaryOp .USub a pos) (Hi rq c):=PE.imp (MY OB h) λ _ _ _ q=>Mr q
noncomputable def gW (a b:A)(S:aA):R A:=match a,b with
 | .tup xs,.int i=>opt (gF xs i) λ x=>.ok x S
 | .frz xs,.int i=>opt (gF xs i) λ x=>.ok x S
 | .ref n,.int i=>opt (aC S n) λ xs=>opt (gF xs i) λ x=>.ok x S
 | .str z,.int i=>gd (z.length<=sizeLine) (opt (gF z.cps.toList i) λ c=>.ok (.str ⟨#[c]⟩) S)
 | _,_=>.no
theorem AVs.gF {K:PySem.W.Frag}{ρ:List Addr}{H:Hp}{xs:List A}{vs:List V}{i:Int}{x:A}(r:AVs K ρ H xs vs)(h:L2.gF xs i=some x):∃ v,L2.gF vs i=some v/\AV K ρ H x v:=by
 unfold L2.gF at h ⊢;rw [<- r.length]
 cases hj:rF xs.length i with
 | none=>rw [hj] at h;cases h
 | some j=>
  rw [hj] at h;exact r.get h
theorem NZ:JV X (r2 X gW):=λ value slice pins s σ H x y v u Q I rx ry ⟨ρ,S,a,b,R,va,vb,h⟩ hs=>by
 cases va with
 | @tup p xs vs h1 r1=>
  cases vb with
  | int i=>
   obtain ⟨x,hx,h⟩:=aM h;obtain ⟨z,e,q⟩:=r1.gF hx;exact Lw value slice pins s σ H _ _ v u Q I rx ry ⟨p,vs,i,z,rfl,rfl,fF.of h1,e,h _ _ _ .refl R q⟩ hs
  | _=>exact h.elim
 | @frz p xs vs h1 r1=>
  cases vb with
  | int i=>
   obtain ⟨x,hx,h⟩:=aM h;obtain ⟨z,e,q⟩:=r1.gF hx;exact zH value slice pins s σ H _ _ v u Q I rx ry ⟨p,vs,i,z,rfl,rfl,h1.Hj,e,h _ _ _ .refl R q⟩ hs
  | _=>exact h.elim
 | @ref p n hp=>
  cases vb with
  | int i=>
   obtain ⟨xs,hn,h⟩:=aM h;obtain ⟨x,hx,h⟩:=aM h;obtain ⟨vs,h1,r1⟩:=R.lst hp (aS hn);obtain ⟨z,e,q⟩:=r1.gF hx;exact zH value slice pins s σ H _ _ v u Q I rx ry ⟨p,vs,i,z,rfl,rfl,gY.of h1,e,h _ _ _ .refl R q⟩ hs
  | _=>exact h.elim
 | str z=>
  cases vb with
  | int i=>
   obtain ⟨hz,h⟩:=bh h;obtain ⟨c,hc,h⟩:=aM h;exact Lf value slice pins s σ H _ _ v u Q I rx ry ⟨z,i,c,rfl,rfl,hz,hc,h _ _ _ .refl R (.str _)⟩ hs
  | _=>exact h.elim
 | _=>exact h.elim
theorem b9 {ca cb:Ex}(ha:AE X a ca)(hb:AE X b cb)(hs:oK b:=by exact λ _ _=>rfl):AE X (.Subscript a b pos) (aJ gW ca cb):=PE.imp (DG NZ ha hb hs) λ σ H Q h=>ki h
end
noncomputable def gR (f:A->A->Option Bool):List A->List A->Option Bool
 | [],[]=>some true
 | x::xs,y::ys=>(f x y).bind λ p=>(gR f xs ys).map λ q=>p && q
 | _,_=>some false
inductive Sh
 | non
 | bl (b:Bool)
 | int (i:Int)
 | str (x:Str)
 | tup (xs:List A)
 | lst
noncomputable def K4 (S:aA):A->Option Sh
 | .non=>some .non
 | .bl b=>some (.bl b)
 | .int i=>some (.int i)
 | .str x=>some (.str x)
 | .tup xs=>some (.tup xs)
 | .ref i=>(aC S i).map λ _=>.lst
 | _=>none
noncomputable def Jo (f:A->A->Option Bool):Sh->Sh->Option Bool
 | .non,.non=>some true
 | .bl x,.bl y=>some (x == y)
 | .bl x,.int y=>some ((if x then 1 else 0) == y)
 | .int x,.bl y=>some (x == (if y then 1 else 0))
 | .int x,.int y=>some (x == y)
 | .str x,.str y=>some (x == y)
 | .tup xs,.tup ys=>gR f xs ys
 | .lst,.lst=>none
 | _,_=>some false
noncomputable def iY (S:aA):Nat->A->A->Option Bool
 | 0,_,_=>none
 | n+1,a,b=>match a,b with
  | .ref i,.ref j=>(aC S i).bind λ xs=>(aC S j).bind λ ys=>gR (iY S n) xs ys
  | _,_=>(K4 S a).bind λ x=>(K4 S b).bind λ y=>Jo (iY S n) x y
section
variable {X:Cx} {pins:List (Addr×Obj)} {σ:L2.St} {H:Hp} {s:Shared} {ρ:List Addr} {S:aA}
inductive KdV (s:Shared):Sh->Value->Prop
 | non:KdV s .non .none
 | bl (b:Bool):KdV s (.bl b) (.bool b)
 | int (i:Int) (t:Tok):KdV s (.int i) (.int i t)
 | str (x:Str) (t:Tok):KdV s (.str x) (.str x t)
 | tup {p:Addr} {us:List Value} (xs:List A) (h:s.heap.IsTuple p us.toArray):KdV s (.tup xs) (.ref p)
 | lst {p:Addr} {us:List Value} (h:s.heap.IsList p us.toArray):KdV s .lst (.ref p)
theorem zE {p:Addr}{us ws:Array Value}(h:s.heap.IsTuple p us)(h':s.heap.IsList p ws):False:=by
 obtain ⟨o,e,c,_⟩:=h;obtain ⟨o',e',c',_⟩:=h';rw [e] at e'
 cases e'
 exact absurd (c.symm.trans c') (by decide)
theorem yH (I:Inv X pins σ H s)(R:Rel X.K ρ H S){a:A}{x:V}{u:Value}{h:Sh}(ha:AV X.K ρ H a x)(r:RelV x u)(e:K4 S a=some h):KdV s h u:=by
 cases ha with
 | non=>cases e;cases (show u=Value.none from r);exact .non
 | bl b=>cases e;cases (show u=Value.bool b from r);exact .bl b
 | int i=>cases e;obtain ⟨t,rfl⟩:∃ t,u=Value.int i t:=r;exact .int i t
 | str i=>cases e;obtain ⟨t,rfl⟩:∃ t,u=Value.str i t:=r;exact .str i t
 | tup h1 r1=>cases e;cases (show u=Value.ref _ from r);obtain ⟨us,_,p,_⟩:=I.tuple (fF.of h1);exact .tup _ p
 | ref h1=>
  obtain ⟨xs,e1,rfl⟩:=map_eq_some_iff.mp e
  cases (show u=Value.ref _ from r)
  obtain ⟨vs,h3,r1⟩:=R.lst h1 (aS e1);obtain ⟨us,_,p,_⟩:=I.list (gY.of h3);exact .lst p.isList
 | _=>cases e
noncomputable def Al (B:Around)(s:Shared)(u v:Value)(k:Bool):Prop:=SeqAt.RcAt B s u v k/\SeqAt.EqAt B s u v k/\SeqAt.RcNeAt B s u v (!k)
theorem Nc {B:Around}(hu:B.units < cLine){f:A->A->Option Bool}{h h':Sh}{u v:Value}{k:Bool}(d:KdV s h u)(d':KdV s h' v)(nt:∀ xs ys,h=.tup xs->h'≠.tup ys)(e:Jo f h h'=some k):Al B s u v k:=by
 cases d with
 | non=>cases d' with
  | non=>cases e;exact ⟨.none_none,.same _,.none_none⟩
  | bl b=>cases e;exact ⟨.none_bool _,.none_bool _,.none_bool _⟩
  | int i t=>cases e;exact ⟨.none_int _ _,.none_int _ _,.none_int _ _⟩
  | str x t=>cases e;exact ⟨.none_str _ _,.none_str _ _,.none_str _ _⟩
  | tup xs p=>cases e;exact ⟨.none_tuple p hu,.none_tuple p hu,.none_tuple p hu⟩
  | lst p=>cases e;exact ⟨.none_list p hu,.none_list p hu,.none_list p hu⟩
 | bl c=>cases d' with
  | non=>cases e;exact ⟨.bool_none _,.bool_none _,.bool_none _⟩
  | bl b=>cases e;exact ⟨.bool_bool _ _,.bool_bool _ _,.bool_bool _ _⟩
  | int i t=>cases e;exact ⟨.bool_int _ _ _,.bool_int _ _ _,.bool_int _ _ _⟩
  | str x t=>cases e;exact ⟨.bool_str _ _ _,.bool_str _ _ _,.bool_str _ _ _⟩
  | tup xs p=>cases e;exact ⟨.bool_tuple _ p hu,.bool_tuple _ p hu,.bool_tuple _ p hu⟩
  | lst p=>cases e;exact ⟨.bool_list _ p hu,.bool_list _ p hu,.bool_list _ p hu⟩
 | int c t'=>cases d' with
  | non=>cases e;exact ⟨.int_none _ _,.int_none _ _,.int_none _ _⟩
  | bl b=>cases e;exact ⟨.int_bool _ _ _,.int_bool _ _ _,.int_bool _ _ _⟩
  | int i t=>cases e;exact ⟨.int_int _ _ _ _,.int_int _ _ _ _,.int_int _ _ _ _⟩
  | str x t=>cases e;exact ⟨.int_str _ _ _ _,.int_str _ _ _ _,.int_str _ _ _ _⟩
  | tup xs p=>cases e;exact ⟨.int_tuple _ _ p hu,.int_tuple _ _ p hu,.int_tuple _ _ p hu⟩
  | lst p=>cases e;exact ⟨.int_list _ _ p hu,.int_list _ _ p hu,.int_list _ _ p hu⟩
 | str c t'=>cases d' with
  | non=>cases e;exact ⟨.str_none _ _,.str_none _ _,.str_none _ _⟩
  | bl b=>cases e;exact ⟨.str_bool _ _ _,.str_bool _ _ _,.str_bool _ _ _⟩
  | int i t=>cases e;exact ⟨.str_int _ _ _ _,.str_int _ _ _ _,.str_int _ _ _ _⟩
  | str x t=>cases e;exact ⟨.str_str _ _ _ _,.str_str _ _ _ _,.str_str _ _ _ _⟩
  | tup xs p=>cases e;exact ⟨.str_tuple _ _ p hu,.str_tuple _ _ p hu,.str_tuple _ _ p hu⟩
  | lst p=>cases e;exact ⟨.str_list _ _ p hu,.str_list _ _ p hu,.str_list _ _ p hu⟩
 | tup zs p'=>cases d' with
  | non=>cases e;exact ⟨.tuple_none p' hu,.tuple_none p' hu,.tuple_none p' hu⟩
  | bl b=>cases e;exact ⟨.tuple_bool _ p' hu,.tuple_bool _ p' hu,.tuple_bool _ p' hu⟩
  | int i t=>cases e;exact ⟨.tuple_int _ _ p' hu,.tuple_int _ _ p' hu,.tuple_int _ _ p' hu⟩
  | str x t=>cases e;exact ⟨.tuple_str _ _ p' hu,.tuple_str _ _ p' hu,.tuple_str _ _ p' hu⟩
  | tup xs p=>exact absurd rfl (nt _ _ rfl)
  | lst p=>cases e;exact ⟨.tuple_list p' p hu,.of_refs (λ z=>by subst z;exact zE p' p) (.tuple_list p' p hu),.tuple_list p' p hu⟩
 | lst p'=>cases d' with
  | non=>cases e;exact ⟨.list_none p' hu,.list_none p' hu,.list_none p' hu⟩
  | bl b=>cases e;exact ⟨.list_bool _ p' hu,.list_bool _ p' hu,.list_bool _ p' hu⟩
  | int i t=>cases e;exact ⟨.list_int _ _ p' hu,.list_int _ _ p' hu,.list_int _ _ p' hu⟩
  | str x t=>cases e;exact ⟨.list_str _ _ p' hu,.list_str _ _ p' hu,.list_str _ _ p' hu⟩
  | tup xs p=>cases e;exact ⟨.list_tuple p' p hu,.of_refs (λ z=>by subst z;exact zE p p') (.list_tuple p' p hu),.list_tuple p' p hu⟩
  | lst p=>cases e
theorem t7 {a:A}{x:V}{xs:List A}(h:AV X.K ρ H a x)(e:K4 S a=some (.tup xs)):a=.tup xs/\∃ p vs,x=.ref p/\H p=some (.tup vs)/\AVs X.K ρ H xs vs:=by
 cases h with
 | tup h r=>cases e;exact ⟨rfl,_,_,rfl,h,r⟩
 | ref h=>obtain ⟨_,_,z⟩:=map_eq_some_iff.mp e;cases z
 | _=>cases e
theorem uz {i:Nat}{x:V}(h:AV X.K ρ H (.ref i) x):∃ p,x=.ref p/\ρ[i]?=some p:=by
 cases h with
 | ref h=>exact ⟨_,rfl,h⟩
theorem D4 {a:A}(e:K4 S a=some .lst):∃ i,a=.ref i:=by
 cases a with
 | ref i=>exact ⟨i,rfl⟩
 | _=>cases e
theorem E2 {n:Nat}{a b:A}{k:Bool}(e:iY S (n+1) a b=some k):(∃ i j xs ys,a=.ref i/\b=.ref j/\aC S i=some xs/\aC S j=some ys/\gR (iY S n) xs ys=some k)\/(∃ h h',K4 S a=some h/\K4 S b=some h'/\Jo (iY S n) h h'=some k/\(h=.lst->h'≠.lst)):=by
 unfold iY at e;split at e
 ·obtain ⟨xs,e1,e⟩:=bind_eq_some_iff.mp e;obtain ⟨ys,e2,e⟩:=bind_eq_some_iff.mp e;exact .inl ⟨_,_,xs,ys,rfl,rfl,e1,e2,e⟩
 ·rename_i nr;obtain ⟨h,e1,e⟩:=bind_eq_some_iff.mp e;obtain ⟨h',e2,e⟩:=bind_eq_some_iff.mp e;refine .inr ⟨h,h',e1,e2,e,λ z1 z2=>?_⟩;subst z1 z2;obtain ⟨i,rfl⟩:=D4 e1;obtain ⟨j,rfl⟩:=D4 e2;exact nr i j rfl rfl
theorem Ij {f:A->A->Option Bool}{h h':Sh}{u:Value}{k:Bool}(d:KdV s h u)(d':KdV s h' u)(nt:∀ xs ys,h=.tup xs->h'≠.tup ys)(e:Jo f h h'=some k):k=true:=by
 cases d with
 | non=>cases d';exact (Option.some.inj e).symm
 | bl b=>cases d';exact (Option.some.inj e).symm.trans (beq_self_eq_true b)
 | int b=>cases d';exact (Option.some.inj e).symm.trans (beq_self_eq_true b)
 | str b=>cases d';exact (Option.some.inj e).symm.trans (beq_self_eq_true b)
 | tup xs p=>cases d' with
  | tup=>exact absurd rfl (nt _ _ rfl)
  | lst q=>exact (zE p q).elim
 | lst p=>cases d' with
  | tup _ q=>exact (zE q p).elim
  | lst q=>cases e
theorem wu {f:A->A->Option Bool}(hf:∀ a b x u k,AV X.K ρ H a x->AV X.K ρ H b x->RelV x u->f a b=some k->k=true):∀ {xs ys:List A} {vs:List V} {us:List Value} {k:Bool},AVs X.K ρ H xs vs->AVs X.K ρ H ys vs->Vals vs us->gR f xs ys=some k->k=true:=by
 intro xs ys vs us k h1 h2 q e
 induction q generalizing xs ys k with
 | nil=>cases h1;cases h2;exact (Option.some.inj e).symm
 | cons rv _ ih=>
  cases h1 with
  | cons h t=>cases h2 with
   | cons h' t'=>
    obtain ⟨p,e1,e⟩:=bind_eq_some_iff.mp e;obtain ⟨q,e2,e3⟩:=map_eq_some_iff.mp e;rw [<- e3,hf _ _ _ _ p h h' rv e1,ih t t' e2];rfl
theorem yN (h h':Sh):(∃ xs ys,h=.tup xs/\h'=.tup ys)\/(∀ xs ys,h=.tup xs->h'≠.tup ys):=by
 cases h with
 | tup xs=>cases h' with
  | tup ys=>exact .inl ⟨xs,ys,rfl,rfl⟩
  | _=>exact .inr λ _ _ _ z=>nomatch z
 | _=>exact .inr λ _ _ z=>nomatch z
theorem uw (I:Inv X pins σ H s)(R:Rel X.K ρ H S):∀ (n:Nat) (a b:A) (x:V) (u:Value) (k:Bool),AV X.K ρ H a x->AV X.K ρ H b x->RelV x u->iY S n a b=some k->k=true
 | 0,_,_,_,_,_,_,_,_,e=>nomatch e
 | n+1,a,b,x,u,k,ha,hb,ru,e=>by
  rcases E2 e with ⟨i,j,xs,ys,rfl,rfl,e1,e2,e⟩ | ⟨h,h',e1,e2,e,_⟩
  ·obtain ⟨p,rfl,h1⟩:=uz ha;obtain ⟨q,z,h2⟩:=uz hb
   cases z
   obtain ⟨vs,h3,r1⟩:=R.lst h1 (aS e1);obtain ⟨ws,h4,r2⟩:=R.lst h2 (aS e2);rw [h3] at h4
   cases h4
   obtain ⟨us,q,_⟩:=I.list (gY.of h3);exact wu (λ a b x u k=>uw I R n a b x u k) r1 r2 q e
  ·rcases yN h h' with ⟨xs,ys,rfl,rfl⟩ | nt
   ·obtain ⟨rfl,p,vs,rfl,h3,r1⟩:=t7 ha e1;obtain ⟨rfl,q,ws,z,h4,r2⟩:=t7 hb e2
    cases z
    have:=I.sL (fF.of h3) (fF.of h4);subst this;obtain ⟨us,q,_⟩:=I.tuple (fF.of h3);exact wu (λ a b x u k=>uw I R n a b x u k) r1 r2 q e
   ·exact Ij (yH I R ha ru e1) (yH I R hb ru e2) nt e
noncomputable def rA (f:A->A->Option Bool)(xs ys:List A)(j:Nat):Bool:=match xs[j]?,ys[j]? with
 | some x,some y=>(f x y).getD true
 | _,_=>true
theorem oX {f:A->A->Option Bool}:∀ {xs ys:List A} {k:Bool},gR f xs ys=some k->k=((List.range (min xs.length ys.length)).all (rA f xs ys) && xs.length == ys.length)/\∀ j x y,xs[j]?=some x->ys[j]?=some y->f x y=some (rA f xs ys j)
 | [],[],k,e=>⟨(Option.some.inj e).symm,λ j x y h=>by simp at h⟩
 | [],_::_,k,e=>⟨(Option.some.inj e).symm,λ j x y h=>by simp at h⟩
 | _::_,[],k,e=>⟨(Option.some.inj e).symm,λ j x y _ h=>by simp at h⟩
 | x::xs,y::ys,k,e=>by
  unfold gR at e
  cases e1:f x y with
  | none=>rw [e1] at e;cases e
  | some p=>
   rw [e1] at e;obtain ⟨q,e2,e3⟩:=map_eq_some_iff.mp e;obtain ⟨h1,h2⟩:=oX e2;have p0:rA f (x::xs) (y::ys) 0=p:=by simp [rA,e1]
   have ps:∀ j,rA f (x::xs) (y::ys) (j+1)=rA f xs ys j:=λ j=>by simp [rA]
   refine ⟨?_,λ j a b ha hb=>?_⟩
   ·rw [<- e3,h1,length_cons,length_cons,Nat.succ_min_succ,List.range_succ_eq_map,List.all_cons,all_map,p0];have:(rA f (x::xs) (y::ys) ∘ Nat.succ)=rA f xs ys:=funext ps;rw [this,Bool.and_assoc];simp
   ·cases j with
    | zero=>
     simp at ha hb;subst ha hb;rw [p0];exact e1
    | succ j=>rw [ps];exact h2 j a b (by simpa using ha) (by simpa using hb)
theorem o7 {f:A->A->Option Bool}{B:Around}(hf:∀ a b x y u v k,AV X.K ρ H a x->AV X.K ρ H b y->RelV x u->RelV y v->f a b=some k->SeqAt.EqAt B s u v k){xs ys:List A}{vs ws:List V}{us ts:List Value}{k:Bool}
  (r1:AVs X.K ρ H xs vs) (r2:AVs X.K ρ H ys ws) (q1:Vals vs us) (q2:Vals ws ts) (e:gR f xs ys=some k):∀ j (h1:j < us.toArray.size) (h2:j < ts.toArray.size),SeqAt.EqAt B s us.toArray[j] ts.toArray[j] (rA f xs ys j):=by
 intro j h1 h2;have l1:=r1.length;have l2:=r2.length;have l3:=q1.length;have l4:=q2.length;have hx:j < xs.length:=by simp at h1;omega
 have hy:j < ys.length:=by simp at h2;omega
 have e1:xs[j]?=some xs[j]:=List.getElem?_eq_getElem hx;have e2:ys[j]?=some ys[j]:=List.getElem?_eq_getElem hy;obtain ⟨x,ex,ax⟩:=r1.get e1;obtain ⟨y,ey,ay⟩:=r2.get e2;obtain ⟨u,eu,ru⟩:=q1.get ex;obtain ⟨t,et,rt⟩:=q2.get ey;have a1:us.toArray[j]=u:=by
  have:us[j]?=some us.toArray[j]:=by simp at h1;simp [h1]
  rw [eu] at this;exact (Option.some.inj this).symm
 have a2:ts.toArray[j]=t:=by
  have:ts[j]?=some ts.toArray[j]:=by simp at h2;simp [h2]
  rw [et] at this;exact (Option.some.inj this).symm
 rw [a1,a2];exact hf _ _ x y u t _ ax ay ru rt ((oX e).2 j _ _ e1 e2)
theorem in1_units (B:Around):B.in1.units=B.units+1:=rfl
theorem yv (I:Inv X pins σ H s)(R:Rel X.K ρ H S):∀ (n:Nat) (B:Around) (a b:A) (x y:V) (u v:Value) (k:Bool),B.units+n < cLine->AV X.K ρ H a x->AV X.K ρ H b y->RelV x u->RelV y v->iY S n a b=some k->Al B s u v k
 | 0,_,_,_,_,_,_,_,_,_,_,_,_,_,e=>nomatch e
 | n+1,B,a,b,x,y,u,v,k,hu,ha,hb,rx,ry,e=>by
  have hu0:B.units < cLine:=by omega
  have items:∀ a b x y u v k,AV X.K ρ H a x->AV X.K ρ H b y->RelV x u->RelV y v->iY S n a b=some k->SeqAt.EqAt B.in1 s u v k:=λ a b x y u v k h1 h2 h3 h4 h5=>(yv I R n B.in1 a b x y u v k (by rw [in1_units];omega) h1 h2 h3 h4 h5).2.1;have same:=λ (z:y=x)=>uw I R (n+1) a b x u k ha (z ▸ hb) rx e;have refs:∀ {p q:Addr},x=.ref p->y=.ref q->u=.ref p->v=.ref q->SeqAt.RcAt B s u v k->SeqAt.EqAt B s u v k:=λ {p q} z1 z2 z3 z4 h=>by
   subst z3 z4;by_cases hp:p=q
   ·subst hp;rw [same (z2.trans z1.symm)];exact .same _
   ·exact .of_refs hp h
  rcases E2 e with ⟨i,j,xs,ys,rfl,rfl,e1,e2,e⟩ | ⟨h,h',e1,e2,e,_⟩
  ·obtain ⟨p,rfl,h1⟩:=uz ha;obtain ⟨q,rfl,h2⟩:=uz hb;obtain ⟨vs,h3,r1⟩:=R.lst h1 (aS e1);obtain ⟨ws,h4,r2⟩:=R.lst h2 (aS e2);obtain ⟨us,q1,p1,_⟩:=I.list (gY.of h3);obtain ⟨ts,q2,p2,_⟩:=I.list (gY.of h4);have ru:=refs rfl rfl rx ry
   cases (show u=Value.ref p from rx)
   cases (show v=Value.ref q from ry)
   have l1:=r1.length;have l2:=r2.length;have l3:=q1.length;have l4:=q2.length;have ek:=(oX e).1;by_cases hl:xs.length=ys.length
   ·rw [<- hl,Nat.min_self,beq_self_eq_true,Bool.and_true] at ek;have eh:us.toArray.size=ts.toArray.size:=by simp;omega
    have z1:=SeqAt.RcAt.lists p1.isList p2.isList eh hu0 (o7 items r1 r2 q1 q2 e);have z2:=SeqAt.RcNeAt.lists p1.isList p2.isList eh hu0 (o7 items r1 r2 q1 q2 e);rw [size_toArray,<- l3,<- l1,<- ek] at z1 z2;exact ⟨z1,ru z1,z2⟩
   ·have:(xs.length == ys.length)=false:=by simpa using hl
    rw [this,Bool.and_false] at ek;subst ek;have eh:(us.toArray.size != ts.toArray.size)=true:=by simp;omega
    have z1:=SeqAt.RcAt.lists_lengths p1.isList p2.isList eh hu0;exact ⟨z1,ru z1,SeqAt.RcNeAt.lists_lengths p1.isList p2.isList eh hu0⟩
  ·rcases yN h h' with ⟨xs,ys,rfl,rfl⟩ | nt
   ·obtain ⟨rfl,p,vs,rfl,h3,r1⟩:=t7 ha e1;obtain ⟨rfl,q,ws,rfl,h4,r2⟩:=t7 hb e2;have ru:=refs rfl rfl rx ry
    cases (show u=Value.ref p from rx)
    cases (show v=Value.ref q from ry)
    obtain ⟨us,q1,p1,_⟩:=I.tuple (fF.of h3);obtain ⟨ts,q2,p2,_⟩:=I.tuple (fF.of h4);have ek:=(oX e).1;have z1:=SeqAt.RcAt.tuples p1 p2 hu0 (o7 items r1 r2 q1 q2 e);have z2:=SeqAt.RcNeAt.tuples p1 p2 hu0 (o7 items r1 r2 q1 q2 e);rw [size_toArray,size_toArray,<- q1.length,<- q2.length,<- r1.length,<- r2.length,<- ek] at z1 z2;exact ⟨z1,ru z1,z2⟩
   ·exact Nc hu0 (yH I R ha rx e1) (yH I R hb ry e2) nt e
end
section
variable {X:Cx}
noncomputable def je (neg:Bool)(a b:A)(S:aA):R A:=opt (iY S 12 a b) λ k=>.ok (.bl (if neg then !k else k)) S
theorem xw (hu:X.A.units+64 < cLine):fX X (compareOp .Eq) (r2 X (je false)):=λ pins s σ H x y v u Q I rx ry h9=>by
 obtain ⟨ρ,S,a,b,R,va,vb,h⟩:=h9;obtain ⟨k,e,h⟩:=aM h;exact (yv I R 12 X.A a b x y v u k (by omega) va vb rx ry e).1 _ _ _ _ ⟨.bl _,H,I,rfl,h _ _ _ .refl R (.bl _)⟩
theorem rD (hu:X.A.units+64 < cLine):fX X (compareOp .NotEq) (r2 X (je true)):=λ pins s σ H x y v u Q I rx ry h9=>by
 obtain ⟨ρ,S,a,b,R,va,vb,h⟩:=h9;obtain ⟨k,e,h⟩:=aM h;exact (yv I R 12 X.A a b x y v u k (by omega) va vb rx ry e).2.2 _ _ _ _ ⟨.bl _,H,I,rfl,h _ _ _ .refl R (.bl _)⟩
end
section
variable {X:Cx} {pos:Pos} {a b:Expr}
noncomputable abbrev Pt:=List A->aA->R (Option Int)
noncomputable def zY:Pt:=λ _ S=>.ok none S
noncomputable def A0 (c:Ex):Pt:=λ τ S=>(c τ S).bind λ a S1=>match a with
 | .int i=>.ok (some i) S1
 | _=>.no
noncomputable def tO (X:Cx)(c:Pt):TO:=λ σ H Q=>∃ ρ S τ,Rel X.K ρ H S/\SR X.K ρ H τ σ/\(c τ S).post (λ o S'=>∀ ρ' H',Ext ρ ρ' H H'->Rel X.K ρ' H' S'->Q o H') (XE X ρ H)
noncomputable def AO (X:Cx)(e:Option Expr)(c:Pt):Prop:=PO X e (tO X c)
theorem AN:AO X none zY:=λ pins s σ H Q I ⟨ρ,S,τ,R,r,h⟩=>I_ pins s σ H Q I (h ρ H .refl R)
theorem yK {c:Ex}(ha:AE X a c):AO X (some a) (A0 c):=λ pins s σ H Q I ⟨ρ,S,τ,R,r,h⟩=>HK ha pins s σ H Q I ⟨ρ,S,τ,R,r,aG (aI h) .refl λ x S1 h1 ρ1 H1 v e1 R1 v1=>by
 cases v1 <;> first | exact h1.elim | exact ⟨_,rfl,h1 ρ1 H1 e1 R1⟩⟩
noncomputable def qh (xs:List A)(lo hi:Option Int):List A:=(xs.drop (HT.eK xs.length 0 lo)).take (HT.eK xs.length xs.length hi - HT.eK xs.length 0 lo)
theorem AVs.cut {K:PySem.W.Frag}{ρ:List Addr}{H:Hp}{xs:List A}{vs:List V}(r:AVs K ρ H xs vs)(lo hi:Option Int):AVs K ρ H (qh xs lo hi) (uT vs lo hi):=by
 unfold qh uT;rw [r.length];exact (r.drop _).take _
noncomputable def DO (a:A)(lo hi:Option Int)(S:aA):R A:=match a with
 | .ref n=>opt (aC S n) λ xs=>.ok (.ref S.length) (S++[.lst (qh xs lo hi)])
 | .frz xs=>.ok (.ref S.length) (S++[.lst (qh xs lo hi)])
 | .tup xs=>gd (¬ (HT.eK xs.length 0 lo=0/\HT.eK xs.length xs.length hi=xs.length)) (.ok (.tup (qh xs lo hi)) S)
 | _=>.no
noncomputable def OC (c:Ex)(lo hi:Pt):Ex:=λ τ S=>(c τ S).bind λ a S1=>(lo τ S1).bind λ l S2=>(hi τ S2).bind λ u S3=>DO a l u S3
noncomputable def rS (X:Cx):V->Option Int->Option Int->Hp->VK->Prop:=λ x lo hi H Q=>∃ ρ S a,Rel X.K ρ H S/\AV X.K ρ H a x/\(DO a lo hi S).post (rf X ρ H Q) (XE X ρ H)
theorem K0:OO X (rS X):=λ pins s σ H x v vl vu lo hi sl Q I rx hs pl pu h9=>by
 obtain ⟨ρ,S,a,R,va,h⟩:=h9
 cases va with
 | @tup p xs vs h1 r1=>
  obtain ⟨hc,h⟩:=bh h;exact Lx pins s σ H _ v vl vu lo hi sl Q I rx hs pl pu ⟨p,vs,rfl,(fF.of h1),by rw [<- r1.length];exact hc,kI R (r1.cut lo hi) .refl h⟩
 | @frz p xs vs h1 r1=>exact A4 pins s σ H _ v vl vu lo hi sl Q I rx hs pl pu ⟨p,vs,rfl,h1.Hj,e_ R (r1.cut lo hi) .refl h⟩
 | @ref p n hp=>
  obtain ⟨xs,hn,h⟩:=aM h;obtain ⟨vs,h1,r1⟩:=R.lst hp (aS hn);exact A4 pins s σ H _ v vl vu lo hi sl Q I rx hs pl pu ⟨p,vs,rfl,gY.of h1,e_ R (r1.cut lo hi) .refl h⟩
 | _=>exact h.elim
theorem J6 {e:Expr}{lo hi:Option Expr}{p2:Pos}{c:Ex}{cl ch:Pt}(he:AE X e c)(hl:AO X lo cl)(hh:AO X hi ch):AE X (.Subscript e (.Slice lo hi none p2) pos) (OC c cl ch):=PE.imp (Gg K0 he hl hh) λ σ H Q h9=>by
 obtain ⟨ρ,S,τ,R,r,h⟩:=h9;refine ⟨ρ,S,τ,R,r,aG (aI h) .refl λ a S1 h1 ρ1 H1 x e1 R1 v1=>⟨ρ1,S1,τ,R1,r.ext e1,aG (aI h1) e1 λ l S2 h2 ρ2 H2 e2 R2=>⟨ρ2,S2,τ,R2,r.ext (e1.trans e2),aG (aI h2) (e1.trans e2) λ u S3 h3 ρ3 H3 e3 R3=>?_⟩⟩⟩;exact ⟨ρ3,S3,a,R3,v1.ext (e2.trans e3),aG h3 (e1.trans (e2.trans e3)) λ _ _ z=>z.ext (e1.trans (e2.trans e3))⟩
noncomputable def Nf (a:A)(S:aA):R A:=match a with
 | .ref n=>opt (aC S n) λ xs=>.ok (.ref S.length) (S++[.lst xs.reverse])
 | .tup xs=>.ok (.tup xs.reverse) S
 | _=>.no
noncomputable def bf (f:List A->aA->R A)(d:g_):Ex:=λ τ S=>(d τ S).bind λ as S1=>f as S1
theorem wk {f:List A->aA->R A}{d:g_}{σ:L2.St}{H:Hp}{Q:VK}(h:tE X (bf f d) σ H Q):PB (rN X f) (tL X d) σ H Q:=by
 obtain ⟨ρ,S,τ,R,r,h⟩:=h;exact ⟨ρ,S,τ,R,r,aG (aI h) .refl λ as S1 h1 ρ1 H1 vs e1 R1 v1=>⟨ρ1,S1,as,R1,v1,aG h1 e1 λ _ _ z=>z.ext e1⟩⟩
variable {x:Str} {p:Pos} {e:Expr} {es:List Expr} {id T:String} {f:List A->aA->R A} {d:g_}
theorem aW (hc:bH X (.builtin id) (rN X f))(hm:X.mg x=none)(hv:bootBuiltins x=some (.builtin id))(ha:AL X (e::es) d)(hg:Gl X x:=by rfl)(hn:x ≠ "__name__" := by decide)(hdb:(x == ("__debug__" : Str))=false:=by decide)
  (he:starEach (e::es) X.env=(false,eval e X.env)::starEach es X.env:=by rfl) (hpl:(backTo pos (starEach es X.env)).any (·.1)=false:=by rfl):AE X (.Call (.Name x p) (e::es) [] pos) (bf f d):=
 PE.imp (vY hc hg hm hv ha hn hdb he hpl) λ _ _ _ h=>wk h
theorem fm (hc:bH X (.type T) (rN X f))(hm:X.mg x=none)(hv:bootBuiltins x=some (.type T))(ha:AL X (e::es) d)(hg:Gl X x:=by rfl)(hn:x ≠ "__name__" := by decide)(hdb:(x == ("__debug__" : Str))=false:=by decide)
  (he:starEach (e::es) X.env=(false,eval e X.env)::starEach es X.env:=by rfl) (hpl:(backTo pos (starEach es X.env)).any (·.1)=false:=by rfl):AE X (.Call (.Name x p) (e::es) [] pos) (bf f d):=
 PE.imp (B7 hc hg hm hv ha hn hdb he hpl) λ _ _ _ h=>wk h
theorem mQ (hm:X.mg x=none)(hv:bootBuiltins x=some (.type T))(hg:Gl X x:=by rfl)(hn:x ≠ "__name__" := by decide)(hdb:(x == ("__debug__" : Str))=false:=by decide):AE X (.Name x pos) (eC (.ty T)):=
 PE.imp (yz (v:=.ty T) hg hm hv rfl hn hdb) λ σ H Q ⟨ρ,S,τ,R,r,h⟩=>h ρ H _ .refl R (.ty T)
noncomputable def A.seq (S:aA):A->Option (List A)
 | .tup xs=>some xs
 | .frz xs=>some xs
 | .ref n=>aC S n
 | _=>none
theorem Lr {K:PySem.W.Frag}{ρ:List Addr}{H:Hp}{S:aA}{x:A}{v:V}{xs:List A}(R:Rel K ρ H S)(h:AV K ρ H x v)(e:x.seq S=some xs):∃ p vs,v=.ref p/\(gY K H p vs\/fF K H p vs)/\AVs K ρ H xs vs:=by
 cases h with
 | tup h r=>cases Option.some.inj e;exact ⟨_,_,rfl,.inr (fF.of h),r⟩
 | frz h r=>cases Option.some.inj e;exact ⟨_,_,rfl,.inl h.Hj,r⟩
 | ref h=>
  obtain ⟨vs,h1,r1⟩:=R.lst h (aS e);exact ⟨_,vs,rfl,.inl (gY.of h1),r1⟩
 | _=>cases e
theorem Hv {K:PySem.W.Frag}{ρ:List Addr}{H:Hp}{x:A}{vs:List V}(h:AVs K ρ H [x] vs):∃ v,vs=[v]/\AV K ρ H x v:=by
 cases h with
 | cons h t=>cases t;exact ⟨_,rfl,h⟩
theorem LK {K:PySem.W.Frag}{ρ:List Addr}{H:Hp}{x y:A}{vs:List V}(h:AVs K ρ H [x,y] vs):∃ v w,vs=[v,w]/\AV K ρ H x v/\AV K ρ H y w:=by
 cases h with
 | cons h t=>obtain ⟨w,rfl,h'⟩:=Hv t;exact ⟨_,_,rfl,h,h'⟩
noncomputable def f1 (g:A->aA->R A):List A->aA->R A:=λ as S=>match as with
 | [x]=>g x S
 | _=>.no
noncomputable def f2 (g:A->A->aA->R A):List A->aA->R A:=λ as S=>match as with
 | [x,y]=>g x y S
 | _=>.no
theorem Hr {g:A->aA->R A}{as:List A}{S:aA}{P:A->aA->Prop}{E:Str->aA->Prop}(h:(f1 g as S).post P E):∃ x,as=[x]/\(g x S).post P E:=by
 match as,h with
 | [],h=>exact h.elim
 | [x],h=>exact ⟨x,rfl,h⟩
 | _::_::_,h=>exact h.elim
theorem Jl {g:A->A->aA->R A}{as:List A}{S:aA}{P:A->aA->Prop}{E:Str->aA->Prop}(h:(f2 g as S).post P E):∃ x y,as=[x,y]/\(g x y S).post P E:=by
 match as,h with
 | [],h=>exact h.elim
 | [_],h=>exact h.elim
 | [x,y],h=>exact ⟨x,y,rfl,h⟩
 | _::_::_::_,h=>exact h.elim
theorem JS {g:A->aA->R A}{vs:List V}{H:Hp}{Q:VK}(h:rN X (f1 g) vs H Q):∃ v,vs=[v]/\∃ ρ S x,Rel X.K ρ H S/\AV X.K ρ H x v/\(g x S).post (rf X ρ H Q) (XE X ρ H):=by
 obtain ⟨ρ,S,as,R,v,h⟩:=h;obtain ⟨x,rfl,h⟩:=Hr h;obtain ⟨w,rfl,hv⟩:=Hv v;exact ⟨w,rfl,ρ,S,x,R,hv,h⟩
theorem OH {g:A->A->aA->R A}{vs:List V}{H:Hp}{Q:VK}(h:rN X (f2 g) vs H Q):∃ v w,vs=[v,w]/\∃ ρ S x y,Rel X.K ρ H S/\AV X.K ρ H x v/\AV X.K ρ H y w/\(g x y S).post (rf X ρ H Q) (XE X ρ H):=by
 obtain ⟨ρ,S,as,R,v,h⟩:=h;obtain ⟨x,y,rfl,h⟩:=Jl h;obtain ⟨w,w',rfl,hv,hv'⟩:=LK v;exact ⟨w,w',rfl,ρ,S,x,y,R,hv,hv',h⟩
noncomputable def iZ (x:A)(S:aA):R A:=match x with
 | .str x=>gd (x.length<=sizeLine) (.ok (.int x.length) S)
 | .tup xs=>.ok (.int xs.length) S
 | .frz xs=>.ok (.int xs.length) S
 | .ref n=>opt (aC S n) λ xs=>.ok (.int xs.length) S
 | _=>.no
theorem jD:bH X (.builtin "len") (rN X (f1 iZ)):=bH.imp Ew λ vs H Q h0=>by
 obtain ⟨w,rfl,ρ,S,x,R,hv,h⟩:=JS h0;clear h0
 cases hv with
 | str z=>
  obtain ⟨hz,h⟩:=bh h;exact ⟨_,_,rfl,⟨hz,rfl⟩,h _ _ _ .refl R (.int _)⟩
 | @tup p xs us h1 r=>exact ⟨_,us.length,rfl,.inr ⟨us,(fF.of h1),rfl⟩,by rw [<- r.length];exact h _ _ _ .refl R (.int _)⟩
 | @frz p xs us h1 r=>exact ⟨_,us.length,rfl,.inl ⟨us,h1.Hj,rfl⟩,by rw [<- r.length];exact h _ _ _ .refl R (.int _)⟩
 | ref hp=>
  obtain ⟨xs,hn,h⟩:=aM h;obtain ⟨us,h1,r⟩:=R.lst hp (aS hn);exact ⟨_,us.length,rfl,.inl ⟨us,gY.of h1,rfl⟩,by rw [<- r.length];exact h _ _ _ .refl R (.int _)⟩
 | _=>exact h.elim
noncomputable def Pd (x:A)(S:aA):R A:=match x with
 | .int i=>.ok (.int (if i < 0 then -i else i)) S
 | _=>.no
noncomputable def FI (x y:A)(S:aA):R A:=match x,y with
 | .int i,.int j=>.ok (.int (if j > i then j else i)) S
 | _,_=>.no
theorem LU (hc:X.calm=true):bH X (.builtin "max") (rN X (f2 FI)):=bH.imp (BG hc) λ vs H Q h0=>by
 obtain ⟨w,w',rfl,ρ,S,x,y,R,hv,hv',h⟩:=OH h0;clear h0
 cases hv <;> first | exact h.elim | (cases hv' <;> first | exact h.elim | exact ⟨_,_,rfl,h _ _ _ .refl R (.int _)⟩)
noncomputable def DK (x y:A)(S:aA):R A:=match x,y with
 | .int i,.int j=>.ok (.int (if j < i then j else i)) S
 | _,_=>.no
theorem LO (hc:X.calm=true):bH X (.builtin "min") (rN X (f2 DK)):=bH.imp (B8 hc) λ vs H Q h0=>by
 obtain ⟨w,w',rfl,ρ,S,x,y,R,hv,hv',h⟩:=OH h0;clear h0
 cases hv <;> first | exact h.elim | (cases hv' <;> first | exact h.elim | exact ⟨_,_,rfl,h _ _ _ .refl R (.int _)⟩)
noncomputable def yW (x:A)(S:aA):R A:=match x with
 | .int i=>.ok (.int i) S
 | .bl k=>.ok (.int (if k then 1 else 0)) S
 | .str y=>opt (PySem.intText? y) λ n=>gd (y.length<=640) (.ok (.int n) S)
 | _=>.no
theorem Mi:bH X (.type "int") (rN X (f1 yW)):=λ pins s σ H xs us Q I rv h0=>by
 obtain ⟨w,rfl,ρ,S,x,R,hv,h⟩:=JS h0;clear h0
 cases hv with
 | int i=>exact rK pins s σ H _ us Q I rv (.inl ⟨i,rfl,h _ _ _ .refl R (.int _)⟩)
 | bl k=>exact rK pins s σ H _ us Q I rv (.inr ⟨k,rfl,h _ _ _ .refl R (.int _)⟩)
 | str y=>
  obtain ⟨n,hn,h⟩:=aM h;obtain ⟨hl,h⟩:=bh h;exact By pins s σ H _ us Q I rv ⟨y,n,rfl,hl,hn,h _ _ _ .refl R (.int _)⟩
 | _=>exact h.elim
noncomputable def uh (x y:A)(S:aA):R A:=match x,y with
 | .int i,.int j=>.ok (.rng i j) S
 | _,_=>.no
theorem Fq:bH X (.type "range") (rN X (f2 uh)):=bH.imp uy λ vs H Q h0=>by
 obtain ⟨w,w',rfl,ρ,S,x,y,R,hv,hv',h⟩:=OH h0;clear h0
 cases hv with
 | int i=>
  cases hv' with
  | int j=>
   refine ⟨i,j,rfl,λ p hp=>?_⟩;obtain ⟨ex,R'⟩:=R.im (u:=.rng i j) hp;exact h ρ _ _ ex R' (.rng bM)
  | _=>exact h.elim
 | _=>exact h.elim
noncomputable def sQ (i j:Int):Prop:=(-(2 ^ 62)<=i/\i < 2 ^ 62/\-(2 ^ 62)<=j/\j < 2 ^ 62)/\(j - i).toNat<=1000
instance (i j:Int):Decidable (sQ i j):=by unfold sQ;infer_instance
noncomputable def kQ (x:A)(S:aA):R A:=match x with
 | .rng i j=>gd (sQ i j) (.ok (.ref S.length) (S++[.lst ((fD i j).map .int)]))
 | .tup xs=>.ok (.ref S.length) (S++[.lst xs])
 | .frz xs=>.ok (.ref S.length) (S++[.lst xs])
 | .ref n=>opt (aC S n) λ xs=>.ok (.ref S.length) (S++[.lst xs])
 | _=>.no
theorem tB (hc:X.calm=true):bH X (.type "list") (rN X (f1 kQ)):=λ pins s σ H vs us Q I rx h0=>by
 obtain ⟨w,rfl,ρ,S,x,R,hv,h⟩:=JS h0;clear h0
 cases hv with
 | @rng p i j hp=>
  obtain ⟨hc',h⟩:=bh h;exact q_ hc pins s σ H _ us Q I rx ⟨p,i,j,rfl,hp,hc'.1,hc'.2,e_ R (jT _) .refl h⟩
 | @tup p xs vs h1 r=>exact jq pins s σ H _ us Q I rx ⟨p,vs,rfl,.inr (fF.of h1),e_ R r .refl h⟩
 | @frz p xs vs h1 r=>exact jq pins s σ H _ us Q I rx ⟨p,vs,rfl,.inl h1.Hj,e_ R r .refl h⟩
 | @ref p n hp=>
  obtain ⟨xs,hn,h⟩:=aM h;obtain ⟨vs,h1,r⟩:=R.lst hp (aS hn);exact jq pins s σ H _ us Q I rx ⟨p,vs,rfl,.inl (gY.of h1),e_ R r .refl h⟩
 | _=>exact h.elim
noncomputable def nK (x:A)(S:aA):R A:=match x with
 | .rng i j=>gd (sQ i j) (.ok (.tup ((fD i j).map .int)) S)
 | .tup xs=>.ok (.tup xs) S
 | .frz xs=>.ok (.tup xs) S
 | .ref n=>opt (aC S n) λ xs=>.ok (.tup xs) S
 | _=>.no
theorem yx (hc:X.calm=true):bH X (.type "tuple") (rN X (f1 nK)):=λ pins s σ H vs us Q I rx h0=>by
 obtain ⟨w,rfl,ρ,S,x,R,hv,h⟩:=JS h0;clear h0
 cases hv with
 | @rng p i j hp=>
  obtain ⟨hc',h⟩:=bh h;exact qy hc pins s σ H _ us Q I rx ⟨p,i,j,rfl,hp,hc'.1,hc'.2,kI R (jT _) .refl h⟩
 | @tup p xs vs h1 r=>exact iF pins s σ H _ us Q I rx ⟨p,vs,rfl,.inr ⟨(fF.of h1),h _ _ _ .refl R (.tup h1 r)⟩⟩
 | @frz p xs vs h1 r=>exact iF pins s σ H _ us Q I rx ⟨p,vs,rfl,.inl ⟨h1.Hj,kI R r .refl h⟩⟩
 | @ref p n hp=>
  obtain ⟨xs,hn,h⟩:=aM h;obtain ⟨vs,h1,r⟩:=R.lst hp (aS hn);exact iF pins s σ H _ us Q I rx ⟨p,vs,rfl,.inl ⟨gY.of h1,kI R r .refl h⟩⟩
 | _=>exact h.elim
noncomputable def A.Hh:List A->Option (List Bool)
 | []=>some []
 | .bl b::xs=>(A.Hh xs).map (b::·)
 | _=>none
theorem Gf {K:PySem.W.Frag}{ρ:List Addr}{H:Hp}:∀ {xs:List A} {vs:List V} {bs:List Bool},AVs K ρ H xs vs->A.Hh xs=some bs->vs=bs.map V.bl
 | _,_,_,.nil,e=>by cases e;rfl
 | _,_,_,.cons (x:=.bl b) h t,e=>by
  obtain ⟨cs,e1,rfl⟩:=map_eq_some_iff.mp e
  cases h
  rw [Gf t e1];rfl
 | _,_,_,.cons (x:=.unb) h t,e=>nomatch e
 | _,_,_,.cons (x:=.non) h t,e=>nomatch e
 | _,_,_,.cons (x:=.int _) h t,e=>nomatch e
 | _,_,_,.cons (x:=.str _) h t,e=>nomatch e
 | _,_,_,.cons (x:=.tup _) h t,e=>nomatch e
 | _,_,_,.cons (x:=.frz _) h t,e=>nomatch e
 | _,_,_,.cons (x:=.rng _ _) h t,e=>nomatch e
 | _,_,_,.cons (x:=.ref _) h t,e=>nomatch e
 | _,_,_,.cons (x:=.exn _) h t,e=>nomatch e
 | _,_,_,.cons (x:=.ty _) h t,e=>nomatch e
noncomputable def Dh (x:A)(S:aA):R A:=match x with
 | .ref n=>opt (aC S n) λ xs=>opt (A.Hh xs) λ bs=>.ok (.bl (bs.all λ b=>b)) S
 | _=>.no
theorem JX (hc:X.calm=true):bH X (.builtin "all") (rN X (f1 Dh)):=bH.imp (BW hc) λ vs H Q h0=>by
 obtain ⟨w,rfl,ρ,S,x,R,hv,h⟩:=JS h0;clear h0
 cases hv with
 | @ref p n hp=>
  obtain ⟨xs,hn,h⟩:=aM h;obtain ⟨bs,hb,h⟩:=aM h;obtain ⟨vs,h1,r⟩:=R.lst hp (aS hn);rw [Gf r hb] at h1;exact ⟨p,bs,rfl,gY.of h1,h _ _ _ .refl R (.bl _)⟩
 | _=>exact h.elim
noncomputable def insI (x:Int):List Int->List Int
 | []=>[x]
 | y::ys=>if x<=y then x::y::ys else y::insI x ys
noncomputable def sortI:List Int->List Int
 | []=>[]
 | x::xs=>insI x (sortI xs)
theorem insI_perm (x:Int):∀ ys:List Int,(insI x ys).Perm (x::ys)
 | []=>List.Perm.refl _
 | y::ys=>by
  unfold insI;by_cases h:x<=y
  ·rw [if_pos h]
  ·rw [if_neg h];exact ((insI_perm x ys).cons y).trans (List.Perm.swap x y ys)
theorem sortI_perm:∀ xs:List Int,(sortI xs).Perm xs
 | []=>List.Perm.refl _
 | x::xs=>(insI_perm x (sortI xs)).trans ((sortI_perm xs).cons x)
theorem A1 (x:Int):∀ ys:List Int,ys.Pairwise (·<=·)->(insI x ys).Pairwise (·<=·)
 | [],_=>pairwise_singleton _ _
 | y::ys,h=>by
  unfold insI;obtain ⟨h1,h2⟩:=pairwise_cons.mp h;by_cases hx:x<=y
  ·rw [if_pos hx];exact pairwise_cons.mpr ⟨λ z hz=>(mem_cons.mp hz).elim (λ e=>e ▸ hx) λ hz=>Int.le_trans hx (h1 z hz),h⟩
  ·rw [if_neg hx];refine pairwise_cons.mpr ⟨λ z hz=>?_,A1 x ys h2⟩
   rcases mem_cons.mp ((insI_perm x ys).mem_iff.mp hz) with e | hz
   ·subst e;omega
   ·exact h1 z hz
theorem pV:∀ xs:List Int,(sortI xs).Pairwise (·<=·)
 | []=>List.Pairwise.nil
 | x::xs=>A1 x _ (pV xs)
noncomputable def A.kd:A->aA->Option Kd
 | .non,_=>some .non
 | .bl _,_=>some .bl
 | .int _,_=>some .int
 | .str _,_=>some .str
 | .tup _,_=>some .tup
 | .ref n,S=>(aC S n).map λ _=>.lst
 | _,_=>none
theorem Je {K:PySem.W.Frag}(k:Kd):PySem.W.kitOne K k.ty (.type "str")=some (decide (k=.str)):=by cases k <;> rfl
noncomputable def oG (k:Kd)(c:String):Option Bool:=if c = "int" then some (decide (k=.int\/k=.bl)) else if c = "bool" then some (decide (k=.bl)) else if c = "tuple" then some (decide (k=.tup)) else if c = "list" then some (decide (k=.lst)) else if c = "str" then some (decide (k=.str)) else none
theorem yP {K:PySem.W.Frag}{k:Kd}{c:String}{b:Bool}(h:oG k c=some b):PySem.W.kitOne K k.ty (.type c)=some b:=by
 unfold oG at h;split at h
 ·rename_i e;subst e;rw [<- h];exact HN k
 ·split at h
  ·rename_i e;subst e;rw [<- h];exact Ey k
  ·split at h
   ·rename_i e;subst e;rw [<- h];exact kit_tuple k
   ·split at h
    ·rename_i e;subst e;rw [<- h];exact FU k
    ·split at h
     ·rename_i e;subst e;rw [<- h];exact Je k
     ·cases h
noncomputable def pW (x y:A)(S:aA):R A:=match y with
 | .ty c=>opt (x.kd S) λ k=>opt (oG k c) λ b=>.ok (.bl b) S
 | _=>.no
theorem NJ {K:PySem.W.Frag}{ρ:List Addr}{H:Hp}{S:aA}{x:A}{v:V}{k:Kd}(R:Rel K ρ H S)(h:AV K ρ H x v)(e:x.kd S=some k):(∃ p vs,v=.ref p/\fF K H p vs/\k=.tup)\/K9 H v k:=by
 cases h with
 | non=>cases e;exact .inr rfl
 | bl b=>cases e;exact .inr ⟨b,rfl⟩
 | int i=>cases e;exact .inr ⟨i,rfl⟩
 | str i=>cases e;exact .inr ⟨i,rfl⟩
 | tup h r=>cases e;exact .inl ⟨_,_,rfl,(fF.of h),rfl⟩
 | ref h=>
  obtain ⟨xs,e1,e2⟩:=map_eq_some_iff.mp e;obtain ⟨vs,h1,_⟩:=R.lst h (aS e1)
  cases e2
  exact .inr ⟨_,vs,rfl,h1⟩
 | _=>cases e
theorem lW:bH X (.builtin "isinstance") (rN X (f2 pW)):=λ pins s σ H vs us Q I rx h0=>by
 obtain ⟨w,w',rfl,ρ,S,x,y,R,hv,hv',h⟩:=OH h0;clear h0
 cases hv' with
 | ty c=>
  obtain ⟨k,hk,h⟩:=aM h;obtain ⟨b,hb,hq⟩:=aM h;have hq:rf X ρ H Q (.bl b) S:=hq;clear h
  rcases NJ R hv hk with ⟨p,vs,rfl,ht,rfl⟩ | hd
  ·obtain ⟨u1,u2,rfl,r1,r2⟩:=vals2 rx;obtain ⟨its,q,⟨o,h1,h2,_⟩,_⟩:=I.tuple ht
   cases (show _=Value.ref p from r1)
   cases (show _=Value.type c from r2)
   exact PySem.W.kia_one PySem.W.kitx_tuple I.qP ⟨o,h1,h2⟩ (yP hb) (λ z=>nomatch z) λ tk=>⟨.bl b,H,I.tok _,rfl,hq _ _ _ .refl R (.bl _)⟩
  ·exact vg (c:=c) pins s σ H _ us Q I rx ⟨w,_,b,rfl,hd.P5,yP hb,hq _ _ _ .refl R (.bl _)⟩
 | _=>exact h.elim
end
noncomputable def BB (x:List Int):List (List Int)->List (List Int)
 | []=>[x]
 | y::ys=>if HT.lexLt y x=true then y::BB x ys else x::y::ys
noncomputable def dX:List (List Int)->List (List Int)
 | []=>[]
 | x::xs=>BB x (dX xs)
noncomputable def vf (a b:List Int):Prop:=HT.lexLt b a=false
theorem vf.trans {a b c:List Int}(h1:vf a b)(h2:vf b c):vf a c:=by
 unfold vf at *
 cases e:HT.lexLt c a with
 | false=>rfl
 | true=>
  rcases Sx.zh (b:=b) e with z | z
  ·rw [h2] at z;cases z
  ·rw [h1] at z;cases z
theorem nR (x:List Int):∀ ys:List (List Int),(BB x ys).Perm (x::ys)
 | []=>List.Perm.refl _
 | y::ys=>by
  unfold BB;by_cases h:HT.lexLt y x=true
  ·rw [if_pos h];exact ((nR x ys).cons y).trans (List.Perm.swap x y ys)
  ·rw [if_neg h]
theorem bF:∀ xs:List (List Int),(dX xs).Perm xs
 | []=>List.Perm.refl _
 | x::xs=>(nR x (dX xs)).trans ((bF xs).cons x)
theorem zM (x:List Int):∀ ys:List (List Int),ys.Pairwise vf->(BB x ys).Pairwise vf
 | [],_=>pairwise_singleton _ _
 | y::ys,h=>by
  unfold BB;obtain ⟨h1,h2⟩:=pairwise_cons.mp h;by_cases hx:HT.lexLt y x=true
  ·rw [if_pos hx];refine pairwise_cons.mpr ⟨λ z hz=>?_,zM x ys h2⟩
   rcases mem_cons.mp ((nR x ys).mem_iff.mp hz) with e | hz
   ·subst e;unfold vf
    cases e:HT.lexLt z y with
    | false=>rfl
    | true=>have:=Sx.t8 hx e;rw [Sx.ug] at this;cases this
   ·exact h1 z hz
  ·rw [if_neg hx];have hx':vf x y:=by unfold vf;simpa using hx
   exact pairwise_cons.mpr ⟨λ z hz=>(mem_cons.mp hz).elim (λ e=>e ▸ hx') λ hz=>hx'.trans (h1 z hz),h⟩
theorem qp:∀ xs:List (List Int),(dX xs).Pairwise vf
 | []=>List.Pairwise.nil
 | x::xs=>zM x _ (qp xs)
theorem ya {xs ys:List (List Int)}(p:xs.Perm ys)(h:xs.Pairwise vf):xs=dX ys:=
 List.Perm.eq_of_pairwise (λ a b _ _ h1 h2=>(Sx.pq h1 h2).symm) h (qp ys) (p.trans (bF ys).symm)
theorem Qe:∀ (N:Nat) (l:List Nat),l.Nodup->(∀ x∈l,x < N)->l.length<=N
 | 0,l,_,h=>by
  cases l with
  | nil=>exact Nat.le_refl _
  | cons a l=>exact absurd (h a (mem_cons_self ..)) (not_lt_zero _)
 | N+1,l,nd,h=>by
  have h1:=Qe N (l.erase N) (nd.erase N) λ x hx=>by
   have:=h x (List.mem_of_mem_erase hx);have:x≠N:=λ z=>by
    subst z;exact (List.Nodup.not_mem_erase nd) hx
   omega
  have:=List.le_length_erase (l:=l) (a:=N);omega
theorem qM {N:Nat}{g:Nat->Nat}(h:∀ i,i < N->g i < N)(inj:∀ i j,i < j->j < N->g i≠g j):((List.range N).map g).Perm (List.range N):=by
 have nd:((List.range N).map g).Nodup:=by
  unfold List.Nodup;rw [pairwise_iff_getElem];intro i j hi hj hij;rw [length_map,length_range] at hi hj;rw [getElem_map,getElem_map,getElem_range,getElem_range];exact inj i j hij hj
 have lt:∀ x∈(List.range N).map g,x < N:=λ x hx=>by
  obtain ⟨i,hi,rfl⟩:=mem_map.mp hx;exact h i (mem_range.mp hi)
 refine (List.perm_ext_iff_of_nodup nd List.nodup_range).mpr λ a=>⟨λ ha=>mem_range.mpr (lt a ha),λ ha=>?_⟩;refine Classical.byContradiction λ hn=>?_;have:=Qe N (a::(List.range N).map g) (nodup_cons.mpr ⟨hn,nd⟩) λ x hx=>by
  rcases mem_cons.mp hx with rfl | hx
  ·exact mem_range.mp ha
  ·exact lt x hx
 rw [length_cons,length_map,length_range] at this;omega
theorem range_getD {α:Type}(l:List α)(d:α):(List.range l.length).map (λ i=>l.getD i d)=l:=by
 apply List.ext_getElem?;intro i;rw [List.getElem?_map];by_cases c:i < l.length
 ·rw [List.getElem?_range c];show some (l.getD i d)=_;rw [getD_eq_getElem?_getD,List.getElem?_eq_getElem c];rfl
 ·rw [List.getElem?_eq_none (by rw [length_range];omega),List.getElem?_eq_none (by omega)];rfl
theorem Ma {kss:List (List Int)}{g:Nat->Nat}(c:Sx.Cl g 0 kss.length)(so:Sx.So (Sx.FG kss) g 0 kss.length):(List.range kss.length).map (λ i=>kss.getD (g i) [])=dX kss:=by
 refine ya ?_ ?_
 ·have p:=qM (N:=kss.length) (g:=g) (λ i hi=>(c i (zero_le _) hi).2) λ i j hij hj z=>by
   have:=so i j (zero_le _) hij hj;rw [z] at this;exact this.Gz
  have:=p.map λ i=>kss.getD i [];rw [List.map_map,range_getD] at this;exact this
 ·rw [pairwise_iff_getElem];intro i j hi hj hij;rw [length_map,length_range] at hi hj;rw [getElem_map,getElem_map,getElem_range,getElem_range];exact (so i j (zero_le _) hij hj).ge
theorem xD {K:PySem.W.Frag}{ρ:List Addr}{H:Hp}{α:Type}{f:α->A}{h:α->V}:∀ {l:List α},(∀ a∈l,AV K ρ H (f a) (h a))->AVs K ρ H (l.map f) (l.map h)
 | [],_=>.nil
 | a::l,e=>.cons (e a (mem_cons_self ..)) (xD λ b hb=>e b (mem_cons_of_mem _ hb))
section
variable {X:Cx}
end
section
variable {X:Cx}
end
noncomputable def RS.post (r:RS)(N:List A->aA->Prop)(T:A->aA->Prop)(B C:List A->aA->Prop)(E:Str->aA->Prop):Prop:=match r with
 | .nx τ S=>N τ S
 | .rt a S=>T a S
 | .bk τ S=>B τ S
 | .ct τ S=>C τ S
 | .ex c S=>E c S
 | .no=>False
noncomputable def RS.of {α:Type}(r:R α)(f:α->aA->RS):RS:=match r with
 | .ok a S=>f a S
 | .ex c S=>.ex c S
 | .no=>.no
theorem of_post {α:Type}{r:R α}{f:α->aA->RS}{N B C:List A->aA->Prop}{T:A->aA->Prop}{E:Str->aA->Prop}(h:(RS.of r f).post N T B C E):r.post (λ a S=>(f a S).post N T B C E) E:=by
 cases r <;> exact h
theorem RS.mono {r:RS}{N B C N' B' C':List A->aA->Prop}{T T':A->aA->Prop}{E E':Str->aA->Prop}(h:r.post N T B C E)(hn:∀ τ S,N τ S->N' τ S)(ht:∀ a S,T a S->T' a S)(hb:∀ τ S,B τ S->B' τ S)(hc:∀ τ S,C τ S->C' τ S)(he:∀ c S,E c S->E' c S):r.post N' T' B' C' E':=by
 cases r with
 | nx τ S=>exact hn _ _ h
 | rt a S=>exact ht _ _ h
 | bk τ S=>exact hb _ _ h
 | ct τ S=>exact hc _ _ h
 | ex c S=>exact he _ _ h
 | no=>exact h.elim
noncomputable def EN (X:Cx)(ρ:List Addr)(H:Hp)(N:L2.St->Hp->Prop):List A->aA->Prop:=λ τ' S'=>∀ ρ' H' σ',Ext ρ ρ' H H'->Rel X.K ρ' H' S'->SR X.K ρ' H' τ' σ'->N σ' H'
theorem EN.ext {X:Cx}{ρ ρ':List Addr}{H H':Hp}{N:L2.St->Hp->Prop}{τ:List A}{S:aA}(h:EN X ρ H N τ S)(e:Ext ρ ρ' H H'):EN X ρ' H' N τ S:=λ ρ2 H2 σ2 e2=>h ρ2 H2 σ2 (e.trans e2)
noncomputable def qv (X:Cx)(ρ:List Addr)(H:Hp)(D:Ends)(r:RS):Prop:=r.post (EN X ρ H D.nx) (rf X ρ H D.rt) (EN X ρ H D.bk) (EN X ρ H D.ct) (XE X ρ H)
theorem qv.ext {X:Cx}{ρ ρ':List Addr}{H H':Hp}{D:Ends}{r:RS}(h:qv X ρ H D r)(e:Ext ρ ρ' H H'):qv X ρ' H' D r:=RS.mono h (λ _ _ z=>z.ext e) (λ _ _ z=>z.ext e) (λ _ _ z=>z.ext e) (λ _ _ z=>z.ext e) λ _ _ z=>z.ext e
noncomputable def tS (X:Cx)(c:Sm):TS:=λ D σ H=>∃ ρ S τ,Rel X.K ρ H S/\SR X.K ρ H τ σ/\qv X ρ H D (c τ S)
noncomputable def AS (X:Cx)(st:Stmt)(c:Sm):Prop:=PS X st (tS X c)
noncomputable def Cd (X:Cx)(sts:List Stmt)(c:Sm):Prop:=qW X sts (tS X c)
noncomputable def tG (X:Cx)(g:Tg):TG:=λ v σ H Q=>∃ ρ S τ a,Rel X.K ρ H S/\SR X.K ρ H τ σ/\AV X.K ρ H a v/\(g a τ S).post (EN X ρ H Q) (XE X ρ H)
noncomputable def AG (X:Cx)(e:Expr)(g:Tg):Prop:=PG X e (tG X g)
noncomputable abbrev Hl:=List A->List A->aA->R (List A)
noncomputable def QN (X:Cx)(g:Hl):Kx:=λ vs σ H Q=>∃ ρ S τ as,Rel X.K ρ H S/\SR X.K ρ H τ σ/\AVs X.K ρ H as vs/\(g as τ S).post (EN X ρ H Q) (XE X ρ H)
noncomputable def OS (X:Cx)(es:List Expr)(g:Hl):Prop:=Nh X es (QN X g)
section
variable {X:Cx} {pos:Pos} {a b e:Expr} {st:Stmt} {rest:List Stmt} {c d:Sm}
theorem PS.imp {t t':TS}(h:PS X st t)(i:∀ D σ H,t' D σ H->t D σ H):PS X st t':=λ pins s σ H D I q=>h pins s σ H D I (i D σ H q)
theorem qW.imp {t t':TS}(h:qW X rest t)(i:∀ D σ H,t' D σ H->t D σ H):qW X rest t':=λ pins s σ H D I q=>h pins s σ H D I (i D σ H q)
theorem PG.imp {t t':TG}(h:PG X e t)(i:∀ v σ H Q,t' v σ H Q->t v σ H Q):PG X e t':=λ pins s σ H v u Q I r q=>h pins s σ H v u Q I r (i _ _ _ _ q)
noncomputable def bQ (i:Nat):Tg:=λ a τ S=>.ok (τ.set i a) S
theorem aR {i:Nat}{x:Str}(hN:X.N.Nodup)(hi:X.N[i]?=some x:=by rfl)(hx:Loc X.env.scope x:=by first | exact Or.inl rfl | exact Or.inr rfl)(hf:X.fn x=true\/X.env.scope.names.lookup x=some .local:=by first | exact .inl rfl | exact .inr rfl | assumption):AG X (.Name x pos) (bQ i):=
 PG.imp (HY hN hi hx hf) λ v σ H Q ⟨ρ,S,τ,a,R,r,va,h⟩=>h ρ H _ .refl R (r.set va)
noncomputable def qS:Hl:=λ as τ S=>match as with
 | []=>.ok τ S
 | _=>.no
noncomputable def iN (g:Tg)(gs:Hl):Hl:=λ as τ S=>match as with
 | a::as=>(g a τ S).bind λ τ1 S1=>gs as τ1 S1
 | []=>.no
theorem dY:OS X [] qS:=λ pins s σ H vs us Q I r ⟨ρ,S,τ,as,R,sr,va,h⟩=>HL pins s σ H vs us Q I r (by
 cases va with
 | nil=>exact ⟨rfl,h ρ H σ .refl R sr⟩
 | cons _ _=>exact h.elim)
theorem bz {es:List Expr}{g:Tg}{gs:Hl}(h1:AG X e g)(h2:OS X es gs)(hs:(assignEach (e::es) X.env).map (·.2)=assign e X.env::(assignEach es X.env).map (·.2):=by rfl):OS X (e::es) (iN g gs):=
 λ pins s σ H vs us Q I r ⟨ρ,S,τ,as,R,sr,va,h⟩=>C2 h1 h2 hs pins s σ H vs us Q I r (by
  cases va with
  | nil=>exact h.elim
  | cons ha hr=>exact ⟨_,_,rfl,ρ,S,τ,_,R,sr,ha,aG (aI h) .refl λ τ1 S1 h1 ρ1 H1 σ1 e1 R1 sr1=>⟨ρ1,S1,τ1,_,R1,sr1,hr.ext e1,aG h1 e1 λ _ _ z=>z.ext e1⟩⟩)
noncomputable def qT (n:Nat)(gs:Hl):Tg:=λ a τ S=>match a with
 | .tup xs | .ktu xs=>gd (xs.length=n) (gs xs τ S)
 | _=>.no
theorem fY {es:List Expr}{k n:Nat}{gs:Hl}(hc:X.calm=true)(h:OS X es gs)(hn:(assignEach es X.env).length=n:=by rfl)(hst:(assignEach es X.env).findIdx? (·.1)=none:=by rfl):AG X (.Tuple es k pos) (qT n gs):=
 PG.imp (Mb hc h hn hst) λ v σ H Q h9=>by
  obtain ⟨ρ,S,τ,a,R,r,va,h⟩:=h9
  cases va with
  | tup h1 r1=>
   obtain ⟨hl,h⟩:=bh h;exact ⟨_,_,rfl,fF.of h1,by rw [<- r1.length];exact hl,ρ,S,τ,_,R,r,r1,h⟩
  | ktu h1 r1=>
   obtain ⟨hl,h⟩:=bh h;exact ⟨_,_,rfl,.inr h1,by rw [<- r1.length];exact hl,ρ,S,τ,_,R,r,r1,h⟩
  | _=>exact h.elim
noncomputable def vm (o i v:A)(S:aA):R Unit:=match o,i with
 | .ref n,.int k=>opt (aC S n) λ xs=>opt (rF xs.length k) λ j=>.ok () (S.set n (.lst (xs.set j v)))
 | _,_=>.no
noncomputable def QH (X:Cx):BA:=λ o i v H Q=>∃ ρ S ao ai av,Rel X.K ρ H S/\AV X.K ρ H ao o/\AV X.K ρ H ai i/\AV X.K ρ H av v/\(vm ao ai av S).post (λ _ S'=>∀ ρ' H',Ext ρ ρ' H H'->Rel X.K ρ' H' S'->Q H') (XE X ρ H)
theorem Ir:BJ X (QH X):=λ pins s σ H o i v ov iv u Q I ro ri rv h9=>by
 obtain ⟨ρ,S,ao,ai,av,R,h1,h2,h3,h⟩:=h9
 cases h1 with
 | @ref p n hp=>
  cases h2 with
  | int k=>
   obtain ⟨xs,hn,h⟩:=aM h;obtain ⟨j,hj,h⟩:=aM h;obtain ⟨vs,e,r⟩:=R.lst hp (aS hn);obtain ⟨ex,R'⟩:=R.put hp (aS hn) (r.set h3 j);exact set_list pins s σ H _ _ v ov iv u Q I ro ri rv ⟨p,vs,k,j,rfl,rfl,e,by rw [<- r.length];exact hj,h _ _ ex R'⟩
  | _=>exact h.elim
 | _=>exact h.elim
noncomputable def MS (co ci:Ex):Tg:=λ a τ S=>(co τ S).bind λ o S1=>(ci τ S1).bind λ i S2=>(vm o i a S2).bind λ _ S3=>.ok τ S3
theorem tW {o i:Expr}{co ci:Ex}(ho:AE X o co)(hi:AE X i ci)
  (ha:∀ v,assign (.Subscript o i pos) X.env v=(do
   let ov <- holding [v] (eval o X.env)
   let iv <- holding [v,ov] (eval i X.env)
   standAt pos
   holding [v,ov,iv] (setItem ov iv v)
   release [v,ov,iv] []):=by intro _;rfl):AG X (.Subscript o i pos) (MS co ci):=PG.imp (ym ho hi Ir ha) λ v σ H Q h9=>by
 obtain ⟨ρ,S,τ,a,R,r,va,h⟩:=h9;refine ⟨ρ,S,τ,R,r,aG (aI h) .refl λ o S1 h1 ρ1 H1 x e1 R1 v1=>⟨ρ1,S1,τ,R1,r.ext e1,aG (aI h1) e1 λ i S2 h2 ρ2 H2 y e2 R2 v2=>?_⟩⟩;refine ⟨ρ2,S2,o,i,a,R2,v1.ext e2,v2,va.ext (e1.trans e2),aG (aI h2) (e1.trans e2) λ _ S3 h3 ρ3 H3 e3 R3=>?_⟩;exact h3 ρ3 H3 σ ((e1.trans e2).trans e3) R3 (r.ext ((e1.trans e2).trans e3))
noncomputable def gZ:Sm:=λ τ S=>.nx τ S
noncomputable def bw (c d:Sm):Sm:=λ τ S=>match c τ S with
 | .nx τ' S'=>d τ' S'
 | r=>r
theorem b5:Cd X [] gZ:=qW.imp Ii λ D σ H ⟨ρ,S,τ,R,r,h⟩=>h ρ H σ .refl R r
theorem ID {D:Ends}{σ:L2.St}{H:Hp}(h:tS X (bw c d) D σ H):Nl (tS X c) (tS X d) D σ H:=by
 obtain ⟨ρ,S,τ,R,r,h⟩:=h;refine ⟨ρ,S,τ,R,r,?_⟩;unfold bw at h
 cases hc:c τ S with
 | nx τ1 S1=>
  rw [hc] at h;exact λ ρ1 H1 σ1 e1 R1 r1=>⟨ρ1,S1,τ1,R1,r1,qv.ext h e1⟩
 | rt a S1=>rw [hc] at h;exact h
 | bk τ1 S1=>rw [hc] at h;exact h
 | ct τ1 S1=>rw [hc] at h;exact h
 | ex x S1=>rw [hc] at h;exact h
 | no=>rw [hc] at h;exact h
theorem aF (h1:AS X st c)(h2:Cd X rest d):Cd X (st::rest) (bw c d):=qW.imp (DU h1 h2) λ D σ H h=>ID h
theorem aH (h1:AS X st c):Cd X [st] c:=HD h1
noncomputable def MJ:Sm:=λ τ S=>.bk τ S
noncomputable def N4:Sm:=λ τ S=>.ct τ S
noncomputable def iP (e:Ex):Sm:=λ τ S=>.of (e τ S) λ _ S1=>.nx τ S1
theorem fj {f:Ex}(he:AE X e f)(hs:swapsWith e none pos.line X.env=pure false:=by rfl):AS X (.Expr e pos) (iP f):=PS.imp (Hw he hs) λ D σ H ⟨ρ,S,τ,R,r,h⟩=>
 ⟨ρ,S,τ,R,r,aG (of_post h) .refl λ a S1 h1 ρ1 H1 x e1 R1 v1=>h1 ρ1 H1 σ e1 R1 (r.ext e1)⟩
noncomputable def ck (e:Ex):Sm:=λ τ S=>.of (e τ S) λ a S1=>.rt a S1
theorem aZ {f:Ex}(he:AE X e f):AS X (.Return (some e) pos) (ck f):=PS.imp (KQ he) λ D σ H ⟨ρ,S,τ,R,r,h⟩=>⟨ρ,S,τ,R,r,aG (of_post h) .refl λ a S1 h1=>h1⟩
noncomputable def MZ:Sm:=λ τ S=>.rt .non S
noncomputable def qC (t:Te)(c d:Sm):Sm:=λ τ S=>.of (t τ S) λ b S1=>match b with | true=>c τ S1 | false=>d τ S1
theorem eO {t:Te}{ca cb:List Stmt}(ht:AT X e t)(ha:Cd X ca c)(hb:Cd X cb d):AS X (.If e ca cb pos) (qC t c d):=PS.imp (Om ht ha hb) λ D σ H h9=>by
 obtain ⟨ρ,S,τ,R,r,h⟩:=h9;refine ⟨ρ,S,τ,R,r,aG (of_post h) .refl λ b S1 h1 ρ1 H1 e1 R1=>?_⟩
 cases b with
 | true=>rw [if_pos rfl];exact ⟨ρ1,S1,τ,R1,r.ext e1,qv.ext h1 e1⟩
 | false=>rw [if_neg Bool.false_ne_true];exact ⟨ρ1,S1,τ,R1,r.ext e1,qv.ext h1 e1⟩
noncomputable def bP (e:Ex)(g:Tg):Sm:=λ τ S=>.of (e τ S) λ a S1=>.of (g a τ S1) λ τ' S2=>.nx τ' S2
theorem Hu {f:Ex}{g:Tg}{D:Ends}{σ:L2.St}{H:Hp}(h:tS X (bP f g) D σ H):KP (tE X f) (tG X g) D σ H:=by
 obtain ⟨ρ,S,τ,R,r,h⟩:=h;exact ⟨ρ,S,τ,R,r,aG (of_post h) .refl λ a S1 h1 ρ1 H1 x e1 R1 v1=>⟨ρ1,S1,τ,a,R1,r.ext e1,v1,aG (of_post h1) e1 λ τ2 S2 h2=>EN.ext h2 e1⟩⟩
theorem iG {tg:Expr}{f:Ex}{g:Tg}(he:AE X e f)(hg:AG X tg g)(hs:swapsWithSole [tg] e pos.line X.env=pure false:=by rfl)(hw:swappedStores [tg] e X.env=pure none:=by rfl)
  (h1:(assignEach [tg] X.env).map (·.2)=[assign tg X.env]:=by rfl):AS X (.Assign [tg] e pos) (bP f g):=PS.imp (LQ he hg hs hw h1) λ D σ H h=>Hu h
theorem br {i:Nat}{x:Str}{f:Ex}{pos':Pos}(hN:X.N.Nodup)(he:AE X e f)(hi:X.N[i]?=some x:=by rfl)(hx:Loc X.env.scope x:=by first | exact Or.inl rfl | exact Or.inr rfl)(hs:swapsWith e (some (.Name x pos')) pos.line X.env=pure false:=by rfl)(hf:X.fn x=true\/X.env.scope.names.lookup x=some .local:=by first | exact .inl rfl | exact .inr rfl | assumption) :
  AS X (.Assign [.Name x pos'] e pos) (bP f (bQ i)):=PS.imp (LR hN hi hx he hs hf) λ D σ H ⟨ρ,S,τ,R,r,h⟩=>
 ⟨ρ,S,τ,R,r,aG (of_post h) .refl λ a S1 h1 ρ1 H1 x e1 R1 v1=>h1 ρ1 H1 _ e1 R1 ((r.ext e1).set v1)⟩
noncomputable def Pe (i j:Nat)(c:g_):Sm:=λ τ S=>.of (c τ S) λ as S1=>match as with
 | [a,b]=>.nx ((τ.set i a).set j b) S1
 | _=>.no
noncomputable def Pb (a b:A)(S:aA):R A:=match a,b with
 | .int i,.int j=>.ok (.int (i+j)) S
 | _,_=>.no
noncomputable def NV (i:Nat)(f:A->A->aA->R A)(e:Ex):Sm:=λ τ S=>if (τ.getD i .unb).gq then .no else .of (e τ S) λ b S1=>.of (f (τ.getD i .unb) b S1) λ c S2=>.nx (τ.set i c) S2
noncomputable def HV (a b:A)(S:aA):R A:=match a,b with
 | .ref n,.int i=>opt (aC S n) λ xs=>gd (0<=i) (opt (xs[i.toNat]?) λ x=>.ok x S)
 | _,_=>.no
noncomputable def Ol (co ci ce:Ex)(f:A->A->aA->R A):Sm:=λ τ S=>.of (co τ S) λ o S1=>.of (ci τ S1) λ i S2=>.of (HV o i S2) λ x S3=>.of (ce τ S3) λ y S4=>.of (f x y S4) λ z S5=>.of (vm o i z S5) λ _ S6=>.nx τ S6
noncomputable def eY (t:Te)(c:Sm):Nat->Sm
 | 0=>λ _ _=>.no
 | n+1=>λ τ S=>.of (t τ S) λ b S1=>match b with
  | false=>.nx τ S1
  | true=>match c τ S1 with
   | .nx τ' S'=>eY t c n τ' S'
   | .ct τ' S'=>eY t c n τ' S'
   | .bk τ' S'=>.nx τ' S'
   | r=>r
theorem D9 (n:Nat){t:Te}{body:List Stmt}(hp:PassesOwn (model X.prog X.w) X.A X.env X.xe)(ht:AT X e t)(hb:Cd X body c):AS X (.While e body [] pos) (eY t c n):=PS.imp (G9 hp ht hb) λ D σ H h9=>by
 obtain ⟨ρ,S,τ,R,r,h⟩:=h9;refine ⟨λ m σ' H'=>∃ ρ' S' τ',Ext ρ ρ' H H'/\Rel X.K ρ' H' S'/\SR X.K ρ' H' τ' σ'/\qv X ρ' H' D (eY t c m τ' S'),⟨n,ρ,S,τ,.refl,R,r,h⟩,?_⟩;rintro m σ1 H1 ⟨ρ1,S1,τ1,e1,R1,r1,h1⟩
 cases m with
 | zero=>exact h1.elim
 | succ m=>
  refine ⟨ρ1,S1,τ1,R1,r1,aG (of_post h1) .refl λ b S2 h2 ρ2 H2 e2 R2=>?_⟩
  cases b with
  | false=>rw [if_neg Bool.false_ne_true];exact h2 ρ2 H2 σ1 e2 R2 (r1.ext e2)
  | true=>
   rw [if_pos rfl];refine ⟨λ σ' H'=>∃ ρ' S' τ',Ext ρ ρ' H H'/\Rel X.K ρ' H' S'/\SR X.K ρ' H' τ' σ'/\qv X ρ' H' D (eY t c m τ' S'),λ σ' H' z=>⟨m,lt_succ_self _,z⟩,ρ2,S2,τ1,R2,r1.ext e2,?_⟩;have h2:qv X ρ1 H1 D (match c τ1 S2 with
    | .nx τ' S'=>eY t c m τ' S'
    | .ct τ' S'=>eY t c m τ' S'
    | .bk τ' S'=>.nx τ' S'
    | r=>r):=h2
   cases hc:c τ1 S2 with
   | nx τ3 S3=>rw [hc] at h2;exact λ ρ3 H3 σ3 e3 R3 r3=>⟨ρ3,S3,τ3,(e1.trans e2).trans e3,R3,r3,qv.ext h2 (e2.trans e3)⟩
   | ct τ3 S3=>rw [hc] at h2;exact λ ρ3 H3 σ3 e3 R3 r3=>⟨ρ3,S3,τ3,(e1.trans e2).trans e3,R3,r3,qv.ext h2 (e2.trans e3)⟩
   | bk τ3 S3=>rw [hc] at h2;exact EN.ext h2 e2
   | rt a S3=>rw [hc] at h2;exact rf.ext h2 e2
   | ex x S3=>rw [hc] at h2;exact XE.ext h2 e2
   | no=>rw [hc] at h2;exact h2
end
end Am
namespace L2
open PySem PySem.Spec PyProof.Rows
section
variable {X:Cx}
end
end L2
namespace Am
open PySem PySem.Spec PyProof.Rows L2
section
variable {X:Cx}
end
section
variable {X:Cx} {o e:Expr} {p2 spos pos:Pos} {co ci:Ex}
end
structure Src where
 k:Nat
 get:Nat->aA->Option A
 fin:aA->Bool
structure JR (K:PySem.W.Frag)(s:Src)(J:It)(ρ0:List Addr)(H0:Hp):Prop where
 go:∀ (i:Nat) (S:aA) (H:Hp) (ρ:List Addr) (x:A),Ext0 ρ0 ρ H0 H->Rel K ρ H S->s.get i S=some x->J.go i H/\∀ v H',J.yld i H v H'->Ext ρ ρ H H'/\Rel K ρ H' S/\AV K ρ H' x v
 stop:∀ (S:aA) (H:Hp) (ρ:List Addr),Ext0 ρ0 ρ H0 H->Rel K ρ H S->s.fin S=true->J.stop s.k H
noncomputable abbrev Ic:=List A->aA->R Src
noncomputable def tI (X:Cx)(c:Ic):TI:=λ σ H Q=>∃ ρ S τ,Rel X.K ρ H S/\SR X.K ρ H τ σ/\(c τ S).post (λ s S'=>∀ ρ' H' J,Ext ρ ρ' H H'->Rel X.K ρ' H' S'->JR X.K s J ρ' H'->Q J H') (XE X ρ H)
noncomputable def AI (X:Cx)(tg iter:Expr)(c:Ic):Prop:=PI X tg iter (tI X c)
noncomputable def jo (xs:List A):Src:=⟨xs.length,λ i _=>xs[i]?,λ _=>true⟩
noncomputable def b_ (n k:Nat):Src:=⟨k,λ i S=>(aC S n).bind (·[i]?),λ S=>match aC S n with
 | some ys=>decide (ys.length<=k)
 | none=>false⟩
noncomputable def j7 (lo hi:Int):Src:=⟨(hi - lo).toNat,λ i _=>if i < (hi - lo).toNat then some (.int (lo+i)) else none,λ _=>true⟩
noncomputable def dJ (c:Ex):Ic:=λ τ S=>(c τ S).bind λ a S1=>match a with
 | .tup xs=>.ok (jo xs) S1
 | .frz xs=>.ok (jo xs) S1
 | .ref n=>opt (aC S1 n) λ xs=>.ok (b_ n xs.length) S1
 | .str x=>gd (x.cps.all (· < 128)=true) (.ok (jo (x.cps.toList.map λ c=>.str ⟨#[c]⟩)) S1)
 | _=>.no
section
variable {X:Cx} {pos:Pos} {tg e a b:Expr}
theorem LD {K:PySem.W.Frag}{ρ0:List Addr}{H0:Hp}{p:Addr}{xs:List A}{vs:List V}(h:fF K H0 p vs)(r:AVs K ρ0 H0 xs vs):JR K (jo xs) (MO K p) ρ0 H0 where
 go:=λ i S H ρ x e R g=>by
  obtain ⟨v,ev,av⟩:=(AVs.fq e r).get g;have hs:=e.Qs h;refine ⟨⟨vs,v,hs,ev⟩,λ w H' ⟨e1,y⟩=>?_⟩;subst e1;have:=y vs hs;rw [ev] at this
  cases this
  exact ⟨.refl,R,av⟩
 stop:=λ S H ρ e R _=>⟨vs,e.Qs h,by rw [<- r.length];exact Nat.le_refl _⟩
theorem Mq {K:PySem.W.Frag}{ρ0:List Addr}{H0:Hp}{p:Addr}{xs:List A}{vs:List V}(h:Fz K H0 p vs)(r:AVs K ρ0 H0 xs vs):JR K (jo xs) (M9 K p) ρ0 H0 where
 go:=λ i S H ρ x e R g=>by
  obtain ⟨v,ev,av⟩:=(AVs.fq e r).get g;have hs:=(e.fz h).Hj;refine ⟨⟨vs,v,hs,ev⟩,λ w H' ⟨e1,y⟩=>?_⟩;subst e1;have:=y vs hs;rw [ev] at this
  cases this
  exact ⟨.refl,R,av⟩
 stop:=λ S H ρ e R _=>⟨vs,(e.fz h).Hj,by rw [<- r.length];exact Nat.le_refl _⟩
theorem CB {K:PySem.W.Frag}{ρ0:List Addr}{H0:Hp}{p:Addr}{n k:Nat}(h:ρ0[n]?=some p):JR K (b_ n k) (M9 K p) ρ0 H0 where
 go:=λ i S H ρ x e R g=>by
  obtain ⟨ys,hn,hx⟩:=bind_eq_some_iff.mp (show (aC S n).bind (·[i]?)=some x from g);obtain ⟨vs,h1,r⟩:=R.lst (e.get h) (aS hn);obtain ⟨v,ev,av⟩:=r.get hx;refine ⟨⟨vs,v,gY.of h1,ev⟩,λ w H' ⟨e1,y⟩=>?_⟩;subst e1;have:=y vs (gY.of h1);rw [ev] at this
  cases this
  exact ⟨.refl,R,av⟩
 stop:=λ S H ρ e R g=>by
  have g:(match aC S n with
   | some ys=>decide (ys.length<=k)
   | none=>false)=true:=g
  cases hn:aC S n with
  | none=>rw [hn] at g;cases g
  | some ys=>
   rw [hn] at g;obtain ⟨vs,h1,r⟩:=R.lst (e.get h) (aS hn);exact ⟨vs,gY.of h1,by rw [<- r.length];exact of_decide_eq_true g⟩
theorem Gy {K:PySem.W.Frag}{ρ0:List Addr}{H0:Hp}{lo hi:Int}:JR K (j7 lo hi) (NW lo (hi - lo).toNat) ρ0 H0 where
 go:=λ i S H ρ x e R g=>by
  have g:(if i < (hi - lo).toNat then some (A.int (lo+i)) else none)=some x:=g;by_cases hi':i < (hi - lo).toNat
  ·rw [if_pos hi'] at g
   cases g
   refine ⟨hi',λ w H' ⟨e1,y⟩=>?_⟩;subst e1 y;exact ⟨.refl,R,.int _⟩
  ·rw [if_neg hi'] at g;cases g
 stop:=λ S H ρ e R _=>Nat.le_refl _
theorem MD {K:PySem.W.Frag}{ρ0:List Addr}{H0:Hp}{x:Str}:JR K (jo (x.cps.toList.map λ c=>A.str ⟨#[c]⟩)) (Qd x) ρ0 H0 where
 go:=λ i S H ρ y e R g=>by
  have g:(x.cps.toList.map λ c=>A.str ⟨#[c]⟩)[i]?=some y:=g;rw [List.getElem?_map] at g;obtain ⟨c,hc,rfl⟩:=map_eq_some_iff.mp g;rw [getElem?_toList] at hc;refine ⟨(Array.getElem?_eq_some_iff.mp hc).1,λ w H' ⟨e1,c',hc',y'⟩=>?_⟩;rw [hc] at hc'
  cases hc'
  subst e1 y';exact ⟨.refl,R,.str _⟩
 stop:=λ S H ρ e R _=>by
  show (x.cps.toList.map λ c=>A.str ⟨#[c]⟩).length=x.cps.size;rw [length_map,length_toList]
theorem cU {c:Ex}(he:AE X e c):AI X tg e (dJ c):=λ pins s σ H Q I h9=>by
 obtain ⟨ρ,S,τ,R,r,h⟩:=h9;have hb:=aI h
 cases hc:c τ S with
 | no=>rw [hc] at hb;exact hb.elim
 | ex x S1=>
  rw [hc] at hb;exact EL he pins s σ H Q I ⟨ρ,S,τ,R,r,by rw [hc];exact hb⟩
 | ok a S1=>
  rw [hc] at hb
  cases a with
  | tup xs=>
   refine EL he pins s σ H Q I ⟨ρ,S,τ,R,r,?_⟩;rw [hc];intro ρ1 H1 x e1 R1 v1
   cases v1 with
   | tup h1 r1=>exact ⟨_,rfl,⟨_,(fF.of h1)⟩,hb ρ1 H1 _ e1 R1 (LD (fF.of h1) r1)⟩
  | frz xs=>
   refine y9 he pins s σ H Q I ⟨ρ,S,τ,R,r,?_⟩;rw [hc];intro ρ1 H1 x e1 R1 v1
   cases v1 with
   | frz h1 r1=>exact ⟨_,rfl,⟨_,h1.Hj⟩,hb ρ1 H1 _ e1 R1 (Mq h1 r1)⟩
  | ref n=>
   obtain ⟨xs,hn,hb⟩:=aM hb;refine y9 he pins s σ H Q I ⟨ρ,S,τ,R,r,?_⟩;rw [hc];intro ρ1 H1 x e1 R1 v1
   cases v1 with
   | ref hp=>
    obtain ⟨vs,h1,r1⟩:=R1.lst hp (aS hn);exact ⟨_,rfl,⟨_,gY.of h1⟩,hb ρ1 H1 _ e1 R1 (CB hp)⟩
  | str x=>
   obtain ⟨ha,hb⟩:=bh hb;refine K3 he pins s σ H Q I ⟨ρ,S,τ,R,r,?_⟩;rw [hc];intro ρ1 H1 v e1 R1 v1
   cases v1 with
   | str=>exact ⟨x,rfl,ha,hb ρ1 H1 _ e1 R1 MD⟩
  | _=>exact hb.elim
noncomputable def bnd (i:Int):Prop:=-(2 ^ 62)<=i/\i < 2 ^ 62
instance (i:Int):Decidable (bnd i):=by unfold bnd;infer_instance
noncomputable def gI (c:Ex):Ic:=λ τ S=>(c τ S).bind λ a S1=>match a with
 | .int j=>gd (bnd j) (.ok (j7 0 j) S1)
 | _=>.no
noncomputable def oB (c d:Ex):Ic:=λ τ S=>(c τ S).bind λ a S1=>(d τ S1).bind λ b S2=>match a,b with
 | .int i,.int j=>gd (bnd i/\bnd j) (.ok (j7 i j) S2)
 | _,_=>.no
theorem eN {p:Pos}{c:Ex}(hm:X.mg "range" = none)(ha:AE X a c)(hg:Gl X "range" := by rfl)(hs:starEach [a] X.env=[(false,eval a X.env)]:=by rfl):AI X tg (.Call (.Name "range" p) [a] [] pos) (gI c):=λ pins s σ H Q I h9=>by
 obtain ⟨ρ,S,τ,R,r,h⟩:=h9;refine BD hg hm (ju ha qL hs) hs pins s σ H Q I ⟨ρ,S,τ,R,r,aG (aI h) .refl λ x S1 h1 ρ1 H1 v e1 R1 v1=>?_⟩
 cases v1 with
 | int j=>
  obtain ⟨hb,h1⟩:=bh h1;exact ⟨_,rfl,hb.1,hb.2,by have:=h1 ρ1 H1 _ e1 R1 Gy;rwa [Int.sub_zero] at this⟩
 | _=>exact h1.elim
theorem sU {p:Pos}{c d:Ex}(hm:X.mg "range" = none)(ha:AE X a c)(hb:AE X b d)(hg:Gl X "range" := by rfl)(hs:starEach [a,b] X.env=[(false,eval a X.env),(false,eval b X.env)]:=by rfl)(hs2:starEach [b] X.env=[(false,eval b X.env)]:=by rfl):AI X tg (.Call (.Name "range" p) [a,b] [] pos) (oB c d):=λ pins s σ H Q I h9=>by
 obtain ⟨ρ,S,τ,R,r,h⟩:=h9;refine BY hg hm (ju ha (ju hb qL hs2) (by rw [hs,hs2])) hs hs2 pins s σ H Q I ⟨ρ,S,τ,R,r,aG (aI h) .refl λ x S1 h1 ρ1 H1 v e1 R1 v1=>⟨ρ1,S1,τ,R1,r.ext e1,aG (aI h1) e1 λ y S2 h2 ρ2 H2 w e2 R2 v2=>?_⟩⟩
 cases v1 with
 | int i=>
  cases v2 with
  | int j=>
   obtain ⟨hb,h2⟩:=bh h2;exact ⟨_,_,rfl,⟨hb.1.1,hb.1.2,hb.2.1,hb.2.2⟩,h2 ρ2 H2 _ (e1.trans e2) R2 Gy⟩
  | _=>exact h2.elim
 | _=>exact h2.elim
noncomputable def gp (s:Src)(g:Tg)(c:Sm):Nat->Nat->Sm
 | 0,_=>λ τ S=>if s.fin S then .nx τ S else .no
 | k+1,i=>λ τ S=>match s.get i S with
  | none=>.no
  | some x=>.of (g x τ S) λ τ1 S1=>match c τ1 S1 with
   | .nx τ' S'=>gp s g c k (i+1) τ' S'
   | .ct τ' S'=>gp s g c k (i+1) τ' S'
   | .bk τ' S'=>.nx τ' S'
   | r=>r
noncomputable def cI (src:Ic)(g:Tg)(c:Sm):Sm:=λ τ S=>.of (src τ S) λ s S1=>gp s g c s.k 0 τ S1
theorem cO {iter:Expr}{body:List Stmt}{src:Ic}{g:Tg}{c:Sm}(hp:PassesOwn (model X.prog X.w) X.A X.env X.xe)(hc:X.calm=true)(hi:AI X tg iter src)(hg:AG X tg g)(hb:Cd X body c)
  (hs:∀ x,foldedSetIterable iter X.env x=pure x:=by intro _;rfl):AS X (.For tg iter body [] pos) (cI src g c):=PS.imp (L3 hp hc hi hg hb hs) λ D σ H h9=>by
 obtain ⟨ρ,S,τ,R,r,h⟩:=h9;refine ⟨ρ,S,τ,R,r,aG (of_post h) .refl λ s S1 h1 ρ1 H1 J e1 R1 jr=>?_⟩;refine ⟨λ i m σ' H'=>m+i=s.k/\∃ ρ' S' τ',Ext ρ1 ρ' H1 H'/\Rel X.K ρ' H' S'/\SR X.K ρ' H' τ' σ'/\qv X ρ' H' D (gp s g c m i τ' S'),⟨s.k,rfl,ρ1,S1,τ,.refl,R1,r.ext e1,qv.ext h1 e1⟩,?_⟩;rintro i m σ2 H2 ⟨hm,ρ2,S2,τ2,e2,R2,r2,h2⟩
 cases m with
 | zero=>
  left;have h2:qv X ρ2 H2 D (if s.fin S2 then .nx τ2 S2 else .no):=h2
  cases hf:s.fin S2 with
  | false=>rw [hf] at h2;exact h2.elim
  | true=>
   rw [hf] at h2;refine ⟨by rw [show i=s.k by omega];exact jr.stop S2 H2 ρ2 e2.toExt0 R2 hf,h2 ρ2 H2 σ2 .refl R2 r2⟩
 | succ m=>
  right;have h2:qv X ρ2 H2 D (match s.get i S2 with
   | none=>.no
   | some x=>.of (g x τ2 S2) λ τ1 S1=>match c τ1 S1 with
    | .nx τ' S'=>gp s g c m (i+1) τ' S'
    | .ct τ' S'=>gp s g c m (i+1) τ' S'
    | .bk τ' S'=>.nx τ' S'
    | r=>r):=h2
  cases hx:s.get i S2 with
  | none=>rw [hx] at h2;exact h2.elim
  | some x=>
   rw [hx] at h2;obtain ⟨hgo,hy⟩:=jr.go i S2 H2 ρ2 x e2.toExt0 R2 hx;refine ⟨hgo,λ σ' H'=>m+(i+1)=s.k/\∃ ρ' S' τ',Ext ρ1 ρ' H1 H'/\Rel X.K ρ' H' S'/\SR X.K ρ' H' τ' σ'/\qv X ρ' H' D (gp s g c m (i+1) τ' S'),λ σ' H' z=>⟨m,lt_succ_self _,z⟩,λ v H3 y=>?_⟩;obtain ⟨e3,R3,v3⟩:=hy v H3 y;refine ⟨ρ2,S2,τ2,x,R3,r2.ext e3,v3,aG (of_post h2) e3 λ τ4 S4 h4 ρ4 H4 σ4 e4 R4 r4=>⟨ρ4,S4,τ4,R4,r4,?_⟩⟩;have e24:=e3.trans e4
   cases hcc:c τ4 S4 with
   | nx τ5 S5=>rw [hcc] at h4;exact λ ρ5 H5 σ5 e5 R5 r5=>⟨by omega,ρ5,S5,τ5,(e2.trans e24).trans e5,R5,r5,qv.ext h4 (e24.trans e5)⟩
   | ct τ5 S5=>rw [hcc] at h4;exact λ ρ5 H5 σ5 e5 R5 r5=>⟨by omega,ρ5,S5,τ5,(e2.trans e24).trans e5,R5,r5,qv.ext h4 (e24.trans e5)⟩
   | bk τ5 S5=>rw [hcc] at h4;exact EN.ext h4 e24
   | rt x5 S5=>rw [hcc] at h4;exact rf.ext h4 e24
   | ex x5 S5=>rw [hcc] at h4;exact XE.ext h4 e24
   | no=>rw [hcc] at h4;exact h4
end
section
variable {X:Cx} {tg a b c0:Expr} {pos:Pos}
end
noncomputable def R.jG {α β:Type}(r:R α)(f:α->aA->R β):R β:=match r with
 | .ok a S=>f a S
 | _=>.no
theorem mY {α β:Type}{r:R α}{f:α->aA->R β}{b:β}{S2:aA}(h:r.jG f=.ok b S2):∃ a S,r=.ok a S/\f a S=.ok b S2:=by
 cases r with
 | ok a S=>exact ⟨a,S,rfl,h⟩
 | ex _ _=>cases h
 | no=>cases h
theorem wM {α β:Type}{r:R α}{f:α->aA->R β}{P:β->aA->Prop}{E:Str->aA->Prop}(h:(r.jG f).post P E):∃ a S,r=.ok a S/\(f a S).post P E:=by
 cases r with
 | ok a S=>exact ⟨a,S,rfl,h⟩
 | ex _ _=>exact h.elim
 | no=>exact h.elim
theorem LY {α β:Type}{o:Option β}{f:β->R α}{a:α}{S:aA}(h:opt o f=.ok a S):∃ b,o=some b/\f b=.ok a S:=by
 cases o with
 | none=>cases h
 | some b=>exact ⟨b,rfl,h⟩
noncomputable def d_ (s:Src)(g:Tg)(t:Te)(e:Ex):Nat->Nat->List A->aA->R (List A)
 | 0,_=>λ _ S=>if s.fin S then .ok [] S else .no
 | k+1,i=>λ τ S=>opt (s.get i S) λ x=>(g x τ S).jG λ τ1 S1=>(t τ1 S1).jG λ b S2=>match b with
  | true=>(e τ1 S2).jG λ y S3=>(d_ s g t e k (i+1) τ1 S3).jG λ ys S4=>.ok (y::ys) S4
  | false=>d_ s g t e k (i+1) τ1 S2
noncomputable def dz (cap:List (Option Nat))(τ:List A):List A:=cap.map λ o=>match o with
 | some j=>τ.getD j .unb
 | none=>.unb
noncomputable def cJ (cap:List (Option Nat))(src:Ic)(g:Tg)(t:Te)(e:Ex):Ex:=λ τ S=>(src τ S).bind λ s S1=>(d_ s g t e s.k 0 (dz cap τ) S1).jG λ ys S2=>newL ys S2
noncomputable def mX:Te:=λ _ S=>.ok true S
theorem wc {s:Src}{g:Tg}{t:Te}{e:Ex}{k i:Nat}{τ:List A}{S S':aA}{zs:List A}(h:d_ s g t e (k+1) i τ S=.ok zs S') :
  ∃ x τ1 S1 b S2,s.get i S=some x/\g x τ S=.ok τ1 S1/\t τ1 S1=.ok b S2/\(b=true->∃ y S3 ws,e τ1 S2=.ok y S3/\d_ s g t e k (i+1) τ1 S3=.ok ws S'/\zs=y::ws)/\(b=false->d_ s g t e k (i+1) τ1 S2=.ok zs S'):=by
 obtain ⟨x,hx,h⟩:=LY h;obtain ⟨τ1,S1,h1,h⟩:=mY h;obtain ⟨b,S2,h2,h⟩:=mY h;refine ⟨x,τ1,S1,b,S2,hx,h1,h2,λ hb=>?_,λ hb=>?_⟩
 ·subst hb;obtain ⟨y,S3,h3,h⟩:=mY h;obtain ⟨ws,S4,h4,h⟩:=mY h
  cases h
  exact ⟨y,S3,ws,h3,h4,rfl⟩
 ·subst hb;exact h
noncomputable def OG (K:PySem.W.Frag)(c:Ex):TE:=λ σ H Q=>∃ ρ S τ a S',Rel K ρ H S/\SR K ρ H τ σ/\c τ S=.ok a S'/\∀ ρ' H' v,Ext ρ ρ' H H'->Rel K ρ' H' S'->AV K ρ' H' a v->Q v H'
noncomputable def NG (K:PySem.W.Frag)(c:Te):TT:=λ σ H Q=>∃ ρ S τ a S',Rel K ρ H S/\SR K ρ H τ σ/\c τ S=.ok a S'/\∀ ρ' H',Ext ρ ρ' H H'->Rel K ρ' H' S'->Q a H'
noncomputable def ON (K:PySem.W.Frag)(g:Tg):TG:=λ v σ H Q=>∃ ρ S τ a τ' S',Rel K ρ H S/\SR K ρ H τ σ/\AV K ρ H a v/\g a τ S=.ok τ' S'/\∀ ρ' H' σ',Ext ρ ρ' H H'->Rel K ρ' H' S'->SR K ρ' H' τ' σ'->Q σ' H'
section
variable {X:Cx} {pos:Pos} {tg iter elt e:Expr} {ifs:List Expr} {scope:Scope} {N:List Str} {cap:List (Option Nat)} {src:Ic} {g:Tg} {t:Te} {c:Ex}
theorem AE.e0 {K:PySem.W.Frag}(hK:X.K=K)(h:AE X e c):PE X e (OG K c):=PE.imp h λ σ H Q ⟨ρ,S,τ,a,S',R,r,hc,q⟩=>⟨ρ,S,τ,by rw [hK];exact R,by rw [hK];exact r,by rw [hc];exact λ ρ' H' v e R' v'=>q ρ' H' v e (by rw [<- hK];exact R') (by rw [<- hK];exact v')⟩
theorem AT.t0 {K:PySem.W.Frag}(hK:X.K=K)(h:AT X e t):PT X e (NG K t):=PT.imp h λ σ H Q ⟨ρ,S,τ,a,S',R,r,hc,q⟩=>⟨ρ,S,τ,by rw [hK];exact R,by rw [hK];exact r,by rw [hc];exact λ ρ' H' e R'=>q ρ' H' e (by rw [<- hK];exact R')⟩
theorem AG.g0 {K:PySem.W.Frag}(hK:X.K=K)(h:AG X e g):PG X e (ON K g):=PG.imp h λ v σ H Q ⟨ρ,S,τ,a,τ',S',R,r,va,hc,q⟩=>⟨ρ,S,τ,a,by rw [hK];exact R,by rw [hK];exact r,by rw [hK];exact va,by rw [hc];exact λ ρ' H' v e R' v'=>q ρ' H' v e (by rw [<- hK];exact R') (by rw [<- hK];exact v')⟩
noncomputable def OE (X:Cx)(ifs:List Expr)(t:Te):Prop:=MP X ifs (NG X.K t)
theorem m7:OE X [] mX:=λ pins s σ H Q I ⟨ρ,S,τ,a,S',R,r,hc,q⟩=>Jj pins s σ H Q I (by cases hc;exact q ρ H .refl R)
theorem mG (h:AT X e t):OE X [e] t:=IX (h.t0 rfl)
theorem M8 {K:PySem.W.Frag}{ρ:List Addr}{H:Hp}{τ:List A}{σ:L2.St}(r:SR K ρ H τ σ)(cap:List (Option Nat)):SR K ρ H (dz cap τ) (cap.map (MH σ)):=by
 refine ⟨by simp [dz],λ i a h=>?_⟩;unfold dz at h;rw [List.getElem?_map] at h;obtain ⟨o,ho,e⟩:=map_eq_some_iff.mp h
 cases o with
 | none=>exact .inl e.symm
 | some j=>
  have e:τ.getD j .unb=a:=e
  cases hj:τ[j]? with
  | none=>rw [getD_eq_getElem?_getD,hj] at e;exact .inl e.symm
  | some b=>
   rw [getD_eq_getElem?_getD,hj] at e;have e:b=a:=e;subst e
   rcases r.at j b hj with z | ⟨v,h1,h2⟩
   ·exact .inl z
   ·exact .inr ⟨v,by rw [List.getElem?_map,ho];show some ((σ[j]?).getD none)=_;rw [h1];rfl,h2⟩
theorem Rel.Gs {K:PySem.W.Frag}{ρ:List Addr}{H:Hp}{S:aA}{p:Addr}(R:Rel K ρ H S)(hp:H p=none):p∉ρ:=λ hm=>by
 obtain ⟨n,hn,e⟩:=List.mem_iff_getElem.mp hm;have hl:n < S.length:=by rw [<- R.len];exact hn
 have:=R.at n p S[n] (by rw [List.getElem?_eq_getElem hn,e]) (List.getElem?_eq_getElem hl)
 cases ho:S[n] with
 | lst xs=>rw [ho] at this;obtain ⟨vs,h,_⟩:=this;rw [hp] at h;cases h
 | dct _ | fK _=>rw [ho] at this;obtain ⟨vs,h,_⟩:=this;rw [hp] at h;cases h
 | ins _ _=>rw [ho] at this;obtain ⟨_,_,h⟩:=this;rw [hp] at h;cases h
theorem wg (σ:L2.St)(H:Hp)(Q:VK)(h:tE X (cJ cap src g t c) σ H Q):OV cap (tI X src) (ON X.K g) (NG X.K t) (OG X.K c) σ H Q:=by
 obtain ⟨ρ,S,τ,R,r,h⟩:=h;refine ⟨ρ,S,τ,R,r,aG (aI h) .refl λ s S1 h1 ρ1 H1 J e1 R1 jr D hD=>?_⟩;obtain ⟨ys,S2,hcg,h1⟩:=wM h1;obtain ⟨hlen,h1⟩:=bh h1;have h1:rf X ρ H Q (.ref S2.length) (S2++[.lst ys]):=h1;obtain ⟨eD,RD⟩:=R1.im (u:=.lst []) hD;have nD:=R1.Gs hD;refine ⟨λ i m σ' H'=>m+i=s.k/\∃ ρ' S' τ' acc zs accV,Ext0 ρ1 ρ' H1 H'/\(∀ a u,a≠D->H1 a=some u->a∉ρ1->H' a=some u)/\(∀ a∈ρ',a∈ρ1\/H1 a=none)/\D∉ρ'/\H' D=some (.lst accV)/\Rel X.K ρ' H' S'/\SR X.K ρ' H' τ' σ'/\AVs X.K ρ' H' acc accV/\d_ s g t c m i τ' S'=.ok zs S2/\acc++zs=ys,
  ⟨s.k,rfl,ρ1,S1,dz cap τ,[],ys,[],eD.toExt0,λ a u na hu _=>by rw [aL na];exact hu,λ a ha=>.inl ha,nD,bM,RD,(M8 ((r.ext e1).ext eD) cap),.nil,hcg,rfl⟩,?_⟩
 rintro i m σ3 H3 ⟨hm,ρ3,S3,τ3,acc,zs,accV,e3,fr3,nw3,nD3,hD3,R3,r3,ac3,cg3,eys⟩
 cases m with
 | zero=>
  left;have cg3:(if s.fin S3 then Am.R.ok [] S3 else .no)=.ok zs S2:=cg3
  cases hf:s.fin S3 with
  | false=>rw [hf] at cg3;cases cg3
  | true=>
   rw [hf] at cg3
   cases cg3
   rw [append_nil] at eys;subst eys;refine ⟨by rw [show i=s.k by omega];exact jr.stop _ H3 ρ3 e3 R3 hf,?_⟩;obtain ⟨RT,gt⟩:=R3.take hD3 nD3 ac3;refine h1 (ρ3++[D]) H3 _ (e1.trans ⟨⟨e3.pre.trans (prefix_append _ _),e3.im⟩,λ a u hu na=>fr3 a u (a_ hu hD) hu na,λ a ha=>?_⟩) RT (.ref gt)
   rcases mem_append.mp ha with z | z
   ·exact nw3 a z
   ·have:a=D:=by simpa using z
    rw [this];exact .inr hD
 | succ m=>
  right;obtain ⟨x,τ4,S4,b,S5,hx,hg4,ht5,hT,hF⟩:=wc cg3;obtain ⟨hgo,hy⟩:=jr.go i S3 H3 ρ3 x e3 R3 hx;refine ⟨hgo,λ v H4 y=>?_⟩;obtain ⟨e4,R4,v4⟩:=hy v H4 y;refine ⟨ρ3,S3,τ3,x,τ4,S4,R4,r3.ext e4,v4,hg4,λ ρ5 H5 σ5 e5 R5 r5=>?_⟩;refine ⟨ρ5,S4,τ4,b,S5,R5,r5,ht5,λ ρ6 H6 e6 R6=>?_⟩;have e36:=(e4.trans e5).trans e6;have stay:∀ {ρ7:List Addr} {H7:Hp},Ext ρ3 ρ7 H3 H7->Ext0 ρ1 ρ7 H1 H7/\(∀ a u,a≠D->H1 a=some u->a∉ρ1->H7 a=some u)/\(∀ a∈ρ7,a∈ρ1\/H1 a=none)/\D∉ρ7/\H7 D=some (.lst accV):=λ {ρ7 H7} e7=>by
   refine ⟨⟨e3.pre.trans e7.pre,λ a u i h=>e7.im a u i (e3.im a u i h)⟩,λ a u na hu nr=>e7.fr a u (fr3 a u na hu nr) λ z=>(nw3 a z).elim nr λ z=>by (rw [z] at hu;cases hu),λ a ha=>?_,λ z=>(e7.nw D z).elim nD3 λ z=>by (rw [hD3] at z;cases z),e7.fr D _ hD3 nD3⟩;by_cases hr:a∈ρ1
   ·exact .inl hr
   ·right
    cases q:H1 a with
    | none=>rfl
    | some u=>
     have aD:a≠D:=a_ q hD
     rcases e7.nw a ha with z | z
     ·exact ((nw3 a z).elim hr λ z=>by (rw [z] at q;cases q)).elim
     ·rw [fr3 a u aD q hr] at z;cases z
  cases b with
  | false=>
   dsimp only;rw [if_neg Bool.false_ne_true];obtain ⟨g1,g2,g3,g4,g5⟩:=stay e36;exact ⟨m,lt_succ_self _,by omega,ρ6,S5,τ4,acc,zs,accV,g1,g2,g3,g4,g5,R6,r5.ext e6,ac3.ext e36,hF rfl,eys⟩
  | true=>
   dsimp only;rw [if_pos rfl];obtain ⟨y,S6,ws,he6,cg6,ezs⟩:=hT rfl;refine ⟨ρ6,S5,τ4,y,S6,R6,r5.ext e6,he6,λ ρ7 H7 w e7 R7 v7=>?_⟩;obtain ⟨g1,g2,g3,g4,g5⟩:=stay (e36.trans e7);obtain ⟨ex8,R8⟩:=R7.out (ws:=accV++[w]) g5 g4;have l1:=ac3.length;refine ⟨accV,g5,?_,m,lt_succ_self _,by omega,ρ7,S6,τ4,acc++[y],ws,accV++[w],?_,λ a u na hu nr=>by rw [aL na];exact g2 a u na hu nr,g3,g4,bM,R8,(r5.ext (e6.trans e7)).fq ex8,(AVs.fq ex8 ((ac3.ext (e36.trans e7)).append (.one v7))),cg6,?_⟩
   ·have:(acc++zs).length<=sizeLine:=by rw [eys];exact hlen
    rw [ezs,length_append,length_cons] at this;omega
   ·exact ⟨g1.pre,λ a u i h=>ex8.im a u i (g1.im a u i h)⟩
   ·rw [List.append_assoc,<- eys,ezs];rfl
theorem gw (hc:X.calm=true)(Sc:CpScope X scope N cap)(hi:AI X tg iter src)(hg:∀ C s₀ H₀ ex,AG (gh X scope N C s₀ H₀ ex) tg g)(ht:∀ C s₀ H₀ ex,OE (gh X scope N C s₀ H₀ ex) ifs t)(he:∀ C s₀ H₀ ex,AE (gh X scope N C s₀ H₀ ex) elt c)
  (hs:∀ x,foldedSetIterable iter X.env x=pure x:=by intro _;rfl):AE X (.ListComp elt [⟨tg,iter,ifs,0⟩] scope pos) (cJ cap src g t c):=
 PE.imp (NH hc Sc hi (g:=ON X.K g) (tc:=NG X.K t) (te:=OG X.K c) (λ C s₀ H₀ ex=>(hg C s₀ H₀ ex).g0 rfl) (λ C s₀ H₀ ex=>ht C s₀ H₀ ex) (λ C s₀ H₀ ex=>(he C s₀ H₀ ex).e0 rfl) hs) wg
end
noncomputable def A.lst? (S:aA):A->Option (List A)
 | .ref n=>aC S n
 | _=>none
noncomputable def Ln (f:A->List A->aA->R A)(co:Ex)(d:g_):Ex:=λ τ S=>(co τ S).bind λ o S1=>opt (o.lst? S1) λ _=>(d τ S1).bind λ as S2=>f o as S2
noncomputable def O8 (f:A->List A->aA->R A)(co:Ex):Ex:=λ τ S=>(co τ S).bind λ o S1=>opt (o.lst? S1) λ _=>f o [] S1
noncomputable def rM (X:Cx)(f:A->List A->aA->R A):V->List V->Hp->VK->Prop:=λ x vs H Q=>∃ ρ S o as,Rel X.K ρ H S/\AV X.K ρ H o x/\AVs X.K ρ H as vs/\(f o as S).post (rf X ρ H Q) (XE X ρ H)
section
variable {X:Cx} {pos apos cpos:Pos} {o e:Expr} {es:List Expr} {name:Str} {id:String} {f:A->List A->aA->R A} {co:Ex} {d:g_}
theorem lst?_ty {K:PySem.W.Frag}{ρ:List Addr}{H:Hp}{S:aA}{x:A}{v:V}{xs:List A}(R:Rel K ρ H S)(h:AV K ρ H x v)(e:x.lst? S=some xs):Ov K "list" v H:=by
 cases h with
 | ref h=>
  obtain ⟨vs,h1,_⟩:=R.lst h (aS e);exact .inl ⟨rfl,vs,gY.of h1⟩
 | _=>cases e
theorem uO (slot:Slot "list" name id)(hty:typeOf (.builtin id)=pure (.type "method_descriptor"))(hm:Ky X id (rM X f))(ho:AE X o co)(ha:AL X (e::es) d)
  (hbase:attributeBase o name X.env (eval o X.env)=eval o X.env:=by rfl)
  (hfew:((backTo cpos (starEach (e::es) X.env)).all (λ x=>!x.1) && (backToKw cpos (keywordEach [] X.env)).all (λ x=>x.1.isSome)
   && decide ((e::es).length+([]:List Keyword).length+(if ([]:List Keyword).isEmpty then 0 else 1) < 30))=true:=by rfl)
  (hline:(apos.endLine == cpos.line)=true:=by rfl) (hs:starEach (e::es) X.env=(false,eval e X.env)::starEach es X.env:=by rfl) (hplain:(backTo cpos (starEach es X.env)).any (·.1)=false:=by rfl) :
  AE X (.Call (.Attribute o name apos) (e::es) [] cpos) (Ln f co d):=PE.imp (ET PySem.F.plainAttrs_list slot hty hm ho ha hbase hfew hline hs hplain) λ σ H Q h9=>by
 obtain ⟨ρ,S,τ,R,r,h⟩:=h9;refine ⟨ρ,S,τ,R,r,aG (aI h) .refl λ x S1 h1 ρ1 H1 v e1 R1 v1=>?_⟩;obtain ⟨xs,hx,h1⟩:=aM h1;refine ⟨lst?_ty R1 v1 hx,ρ1,S1,τ,R1,r.ext e1,aG (aI h1) e1 λ as S2 h2 ρ2 H2 vs e2 R2 v2=>?_⟩;exact ⟨ρ2,S2,x,as,R2,v1.ext e2,v2,aG h2 (e1.trans e2) λ _ _ z=>z.ext (e1.trans e2)⟩
noncomputable def kH (o:A)(as:List A)(S:aA):R A:=match o,as with
 | .ref n,[x]=>opt (aC S n) λ xs=>gd (xs.length < sizeLine) (.ok .non (S.set n (.lst (xs++[x]))))
 | _,_=>.no
theorem mF:Ky X "list.append" (rM X kH):=λ pins s σ H x vs v us Q I rx rv h9=>by
 obtain ⟨ρ,S,o,as,R,vo,va,h⟩:=h9
 cases vo with
 | @ref p n hp=>
  match as,va,h with
  | [],_,h=>exact h.elim
  | _::_::_,_,h=>exact h.elim
  | [y],va,h=>
   obtain ⟨w,rfl,hw⟩:=Hv va;obtain ⟨xs,hn,h⟩:=aM h;obtain ⟨hl,h⟩:=bh h;obtain ⟨ws,h1,r⟩:=R.lst hp (aS hn);obtain ⟨ex,R'⟩:=R.put hp (aS hn) (r.append (.one hw));exact se pins s σ H _ _ v us Q I rx rv ⟨p,ws,w,rfl,rfl,h1,by rw [<- r.length];exact hl,h _ _ _ ex R' .non⟩
 | _=>exact h.elim
noncomputable def w_ (o:A)(as:List A)(S:aA):R A:=match o,as with
 | .ref n,[.int i]=>opt (aC S n) λ xs=>gd (-(2 ^ 63)<=i/\i < 2 ^ 63) (opt (seqIndex? i xs.length) λ k=>opt (xs[k]?) λ x=>.ok x (S.set n (.lst (xs.eraseIdx k))))
 | _,_=>.no
theorem HB:Ky X "list.pop" (rM X w_):=λ pins s σ H x vs v us Q I rx rv h9=>by
 obtain ⟨ρ,S,o,as,R,vo,va,h⟩:=h9
 cases vo with
 | @ref p n hp=>
  match as,va,h with
  | [],_,h=>exact h.elim
  | y::_::_,_,h=>exact (by cases y <;> exact h.elim)
  | [y],va,h=>
   obtain ⟨w,rfl,hw⟩:=Hv va
   cases hw with
   | int i=>
    obtain ⟨xs,hn,h⟩:=aM h;obtain ⟨hi,h⟩:=bh h;obtain ⟨k,hk,h⟩:=aM h;obtain ⟨y,hy,h⟩:=aM h;obtain ⟨ws,h1,r⟩:=R.lst hp (aS hn);obtain ⟨w,hw,vw⟩:=r.get hy;obtain ⟨ex,R'⟩:=R.put hp (aS hn) (r.eraseIdx k);exact GV pins s σ H _ _ v us Q I rx rv ⟨p,ws,i,k,w,rfl,rfl,h1,hi.1,hi.2,by rw [<- r.length];exact hk,hw,h _ _ _ ex R' (vw.ext ex)⟩
   | _=>exact h.elim
 | _=>exact h.elim
end
noncomputable def cT (N:List Str)(m:Sm)(as:List A)(S:aA):R A:=match m (as++List.replicate (N.length - as.length) .unb) S with
 | .rt a S'=>.ok a S'
 | .nx _ S'=>.ok .non S'
 | .ex c S'=>.ex c S'
 | _=>.no
noncomputable def jH (K:PySem.W.Frag)(n:Nat)(F:List A->aA->R A):Sp:=λ vs H Q _=>vs.length=n/\∃ ρ S as a S',Rel K ρ H S/\AVs K ρ H as vs/\F as S=.ok a S'/\∀ ρ' H' v,Ext ρ ρ' H H'->Rel K ρ' H' S'->AV K ρ' H' a v->Q v H'
theorem uo {K:PySem.W.Frag}{ρ:List Addr}{H:Hp}{as:List A}{vs:List V}(r:AVs K ρ H as vs)(N:List Str):SR K ρ H (as++List.replicate (N.length - as.length) .unb) (L2.start N vs):=by
 have hl:=r.length;refine ⟨by unfold L2.start;simp [hl],λ i a h=>?_⟩;by_cases hi:i < as.length
 ·rw [getElem?_append_left hi] at h;obtain ⟨v,hv,av⟩:=r.get h;exact .inr ⟨v,by unfold L2.start;rw [getElem?_append_left (by simp;omega),List.getElem?_map,hv];rfl,av⟩
 ·rw [getElem?_append_right (by omega),List.getElem?_replicate] at h;split at h
  ·exact .inl (Option.some.inj h).symm
  ·cases h
section
variable {P:Program} {w:World} {K:PySem.W.Frag} {mg:Str->Option Value} {base:Heap}
theorem m_ {x qual:Str}{st:Stmt}{f:Addr}{fd:FuncData}{N ps:List Str}{k:Nat}{m:Sm}(F:Fun K x qual st f fd)(Sc:FnScope N ps (az st))
  (body:∀ (cdv:Value) (A:Around) (outer:List Env) (s:Shared) (H:Hp) (E:XK),Room k (A.deeper (envOfC qual (az st) s.heap.objs.size f cdv))->Cd (lX iS P w K mg base N qual (az st) f cdv A outer s H E).Ni (aQ st) m) :
  FnOk P w K mg base iS (k+1) f fd ps (jH K ps.length (cT N m)):=by
 refine F.ok Sc (λ vs H Q E h=>h.1) λ cdv B outer s H vs Q E hr ⟨hl,ρ,S,as,a,S',R,va,hF,q⟩=>⟨_,body cdv B outer s H E hr,ρ,S,_,R,uo va N,?_⟩;unfold cT at hF
 cases hm:m (as++List.replicate (N.length - as.length) .unb) S with
 | rt b S2=>rw [hm] at hF;cases hF;exact q
 | nx τ S2=>rw [hm] at hF;cases hF;exact λ ρ' H' σ' e R' _=>q ρ' H' _ e R' .non
 | bk τ S2=>rw [hm] at hF;cases hF
 | ct τ S2=>rw [hm] at hF;cases hF
 | ex c S2=>rw [hm] at hF;cases hF
 | no=>rw [hm] at hF;cases hF
end
noncomputable abbrev d7 (P:Program)(w:World)(K:PySem.W.Frag)(mg:Str->Option Value)(base:Heap)(k:Nat)(x:Str)(ps:List Str)(F:List A->aA->R A):Prop:=Kn P w K mg base k x ps (jH K ps.length F)
noncomputable def eFn (F:List A->aA->R A)(d:g_):Ex:=λ τ S=>(d τ S).bind λ as S1=>match F as S1 with
 | .ok a S2=>.ok a S2
 | _=>.no
section
variable {X:Cx} {pos p:Pos} {e:Expr} {es:List Expr} {x:Str} {ps:List Str} {k:Nat} {F:List A->aA->R A} {d:g_}
theorem bC (G:d7 X.prog X.w X.K X.mg X.base k x ps F)(hr:Room k X.A)(ha:AL X (e::es) d)(hl:∀ τ S as S',d τ S=.ok as S'->as.length=ps.length)(hg:Gl X x:=by rfl)(hdb:(x == ("__debug__" : Str))=false:=by decide)
  (hs:starEach (e::es) X.env=(false,eval e X.env)::starEach es X.env:=by rfl) (hplain:(backTo pos (starEach es X.env)).any (·.1)=false:=by rfl):AE X (.Call (.Name x p) (e::es) [] pos) (eFn F d):=
 PE.imp (Oo G hr ha hg hdb hs hplain) λ σ H Q h9=>by
  obtain ⟨ρ,S,τ,R,r,h⟩:=h9;refine ⟨ρ,S,τ,R,r,?_⟩;have hb:=aI h
  cases hd:d τ S with
  | no=>rw [hd] at hb;exact hb
  | ex c S1=>rw [hd] at hb;exact hb
  | ok as S1=>
   rw [hd] at hb;intro ρ1 H1 vs e1 R1 v1;rw [append_nil];refine ⟨by rw [<- v1.length];exact hl τ S as S1 hd,ρ1,S1,as,?_⟩;have hb:Am.R.post (match F as S1 with
    | .ok a S2=>.ok a S2
    | _=>.no) (rf X ρ H Q) (XE X ρ H):=hb
   cases hF:F as S1 with
   | ok a S2=>rw [hF] at hb;exact ⟨a,S2,R1,v1,rfl,λ ρ2 H2 v e2=>hb ρ2 H2 v (e1.trans e2)⟩
   | ex c S2=>rw [hF] at hb;exact hb.elim
   | no=>rw [hF] at hb;exact hb.elim
theorem aN:∀ τ S as S',aK τ S=.ok as S'->as.length=0:=λ τ S as S' h=>by cases h;rfl
theorem aq {c:Ex}{d:g_}{n:Nat}(h:∀ τ S as S',d τ S=.ok as S'->as.length=n):∀ τ S as S',aj c d τ S=.ok as S'->as.length=n+1:=λ τ S as S' e=>by
 unfold aj at e
 cases hc:c τ S with
 | ok a S1=>
  rw [hc] at e
  cases hd:d τ S1 with
  | ok bs S2=>
   have e:R.bind (d τ S1) (λ as S2=>.ok (a::as) S2)=.ok as S':=e;rw [hd] at e;cases e;rw [length_cons,h τ S1 bs _ hd]
  | ex _ _=>
   have e:R.bind (d τ S1) (λ as S2=>.ok (a::as) S2)=.ok as S':=e;rw [hd] at e;cases e
  | no=>
   have e:R.bind (d τ S1) (λ as S2=>.ok (a::as) S2)=.ok as S':=e;rw [hd] at e;cases e
 | ex _ _=>rw [hc] at e;cases e
 | no=>rw [hc] at e;cases e
end
section
variable {X:Cx} {pos:Pos} {a b c d:Expr}
noncomputable def Qq (f':A->A->aA->R A)(cc:Ex)(τ:List A)(b k:A)(S:aA):R A:=match k with
 | .bl true=>(cc τ S).bind λ c S4=>f' b c S4
 | .bl false=>.ok (.bl false) S
 | _=>.no
noncomputable def HG (f f':A->A->aA->R A)(ca cb cc:Ex):Ex:=λ τ S=>(ca τ S).bind λ a S1=>(cb τ S1).bind λ b S2=>(f a b S2).bind λ k S3=>Qq f' cc τ b k S3
theorem MA {f f':A->A->aA->R A}{ca cb cc:Ex}{σ:L2.St}{H:Hp}{Q:VK}(h:tE X (HG f f' ca cb cc) σ H Q):EV (r2 X f) (r2 X f') (tE X ca) (tE X cb) (tE X cc) σ H Q:=by
 obtain ⟨ρ,S,τ,R,r,h⟩:=h;refine ⟨ρ,S,τ,R,r,aG (aI h) .refl λ a S1 h1 ρ1 H1 x e1 R1 v1=>⟨ρ1,S1,τ,R1,r.ext e1,aG (aI h1) e1 λ b S2 h2 ρ2 H2 y e2 R2 v2=>?_⟩⟩;have e12:=e1.trans e2;refine ⟨ρ2,S2,a,b,R2,v1.ext e2,v2,aG (aI h2) e12 λ k S3 h3 ρ3 H3 z e3 R3 v3=>?_⟩;have e13:=e12.trans e3
 cases k with
 | bl k=>
  cases vz v3
  refine ⟨k,rfl,?_⟩
  cases k with
  | true=>
   rw [if_pos rfl];exact ⟨ρ3,S3,τ,R3,r.ext e13,aG (aI h3) e13 λ c S4 h4 ρ4 H4 w e4 R4 v4=>⟨ρ4,S4,b,c,R4,v2.ext (e3.trans e4),v4,aG h4 (e13.trans e4) λ _ _ q=>q.ext (e13.trans e4)⟩⟩
  | false=>
   rw [if_neg Bool.false_ne_true];exact h3 ρ3 H3 _ e13 R3 (.bl false)
 | _=>exact h3.elim
theorem NQ {op op':CmpOp}{f f':A->A->aA->R A}{ca cb cc:Ex}(ho:fX X (compareOp op) (r2 X f))(ho':fX X (compareOp op') (r2 X f'))(ha:AE X a ca)(hb:AE X b cb)(hc:AE X c cc)(hm:lastMarks [op,op'] [b,c]=false:=by with_unfolding_all rfl) :
  AE X (.Compare a [op,op'] [b,c] pos) (HG f f' ca cb cc):=PE.imp (ED ho ho' ha hb hc hm) λ _ _ _ h=>MA h
noncomputable def NI (S:aA)(x:A):List A->Option Bool
 | []=>some false
 | z::zs=>(iY S 12 z x).bind λ p=>(NI S x zs).map λ q=>p || q
noncomputable def Pk (neg:Bool)(x y:A)(S:aA):R A:=opt (y.seq S) λ ys=>opt (NI S x ys) λ b=>.ok (.bl (if neg then !b else b)) S
theorem ur {pins:List (Addr×Obj)}{σ:L2.St}{H:Hp}{s:Shared}{ρ:List Addr}{S:aA}{x:A}{vx:V}{v:Value}(I:Inv X pins σ H s)(R:Rel X.K ρ H S)(hu:X.A.units+64 < cLine)(hx:AV X.K ρ H x vx)(rx:RelV vx v) :
  ∀ {ys:List A} {us:List V} {its:List Value} {b:Bool},AVs X.K ρ H ys us->Vals us its->NI S x ys=some b->∃ e:Value->Bool,(∀ w∈its,SeqAt.EqAt X.A.in1 s w v (e w))/\its.any e=b
 | _,_,_,b,.nil,.nil,h=>⟨λ _=>false,(λ w hw=>by cases hw),Option.some.inj h⟩
 | z::zs,u::us,w0::its,b,.cons hz hzs,.cons r rs,h=>by
  classical
  obtain ⟨p,hp,h⟩:=bind_eq_some_iff.mp h;obtain ⟨q,hq,h⟩:=map_eq_some_iff.mp h;obtain ⟨e,he,ha⟩:=ur I R hu hx rx hzs rs hq;have h0:=(yv I R 12 X.A.in1 z x u vx w0 v p (by rw [in1_units];omega) hz hx r rx hp).2.1;subst h
  cases p with
  | true=>
   refine ⟨λ w=>if w=w0 then true else e w,λ w hw=>?_,?_⟩
   ·by_cases hww:w=w0
    ·simp only [hww,if_true];exact h0
    ·simp only [hww,if_false]
     rcases mem_cons.mp hw with z | z
     ·exact absurd z hww
     ·exact he w z
   ·simp
  | false=>
   by_cases hm:w0∈its
   ·refine ⟨e,λ w hw=>?_,?_⟩
    ·rcases mem_cons.mp hw with z | z
     ·rw [z];exact he w0 hm
     ·exact he w z
    ·rw [any_cons,ha,Bool.false_or]
     cases q with
     | true=>simp
     | false=>
      have:=List.any_eq_false.mp ha w0 hm;simpa using this
   ·refine ⟨λ w=>if w=w0 then false else e w,λ w hw=>?_,?_⟩
    ·by_cases hww:w=w0
     ·simp only [hww,if_true];exact h0
     ·simp only [hww,if_false]
      rcases mem_cons.mp hw with z | z
      ·exact absurd z hww
      ·exact he w z
    ·rw [any_cons,<- ha];simp only [if_true,Bool.false_or];have:∀ l:List Value,(∀ w∈l,w≠w0)->l.any (λ w=>if w=w0 then false else e w)=l.any e:=λ l hl=>by
      induction l with
      | nil=>rfl
      | cons c l ih=>rw [any_cons,any_cons,ih λ w hw=>hl w (mem_cons_of_mem _ hw),if_neg (hl c (mem_cons_self ..))]
     exact this its λ w hw z=>hm (z ▸ hw)
theorem PD (hu:X.A.units+64 < cLine):fX X (compareOp .In) (r2 X (Pk false)):=λ pins s σ H x y v u Q I rx ry h9=>by
 obtain ⟨ρ,S,a,b,R,va,vb,h⟩:=h9;obtain ⟨ys,hy,h⟩:=aM h;obtain ⟨k,hk,h⟩:=aM h;obtain ⟨p,us,rfl,hs,r⟩:=Lr R vb hy
 cases ry
 rcases hs with hs | hs
 ·obtain ⟨its,rv,pl,hz⟩:=I.list hs;obtain ⟨e,he,ha⟩:=ur I R hu va rx r rv hk;refine SeqAt.in_listAt e pl.isList (λ w hw=>he w (by simpa using hw)) ⟨.bl _,H,I,rfl,?_⟩;rw [show its.toArray.any e=its.any e by simp,ha];exact h _ _ _ .refl R (.bl _)
 ·obtain ⟨its,rv,pl,hz⟩:=I.tuple hs;obtain ⟨e,he,ha⟩:=ur I R hu va rx r rv hk;refine SeqAt.in_tupleAt e pl (λ w hw=>he w (by simpa using hw)) ⟨.bl _,H,I,rfl,?_⟩;rw [show its.toArray.any e=its.any e by simp,ha];exact h _ _ _ .refl R (.bl _)
end
section
variable {X:Cx}
end
section
variable {X:Cx}
end
section
variable {X:Cx} {pos apos cpos:Pos} {a b o e:Expr} {es:List Expr}
end
noncomputable def bA (S:aA)(n:Nat):Option (List (List Int×A)):=match S[n]? with
 | some (.dct xs)=>some xs
 | _=>none
theorem ff {S:aA}{n:Nat}{xs:List (List Int×A)}(h:bA S n=some xs):S[n]?=some (.dct xs):=by
 unfold bA at h;split at h
 ·rename_i e;cases h;exact e
 ·cases h
theorem mO {S:aA}{n:Nat}{xs:List (List Int×A)}(h:S[n]?=some (.dct xs)):bA S n=some xs:=by
 unfold bA;rw [h]
noncomputable def dM (kvs:List (List Int×A))(k:List Int):Option A:=(kvs.find? λ kv=>decide (kv.1=k)).map (·.2)
noncomputable def putD (kvs:List (List Int×A))(k:List Int)(v:A):List (List Int×A):=
 if (dM kvs k).isSome=true then kvs.map (λ kv=>if kv.1=k then (kv.1,v) else kv) else kvs++[(k,v)]
theorem ux:∀ {a b:List Int},a.map (Sum.inl:Int->Key)=b.map Sum.inl->a=b
 | [],[],_=>rfl
 | [],_::_,e=>by simp at e
 | _::_,[],e=>by simp at e
 | x::xs,y::ys,e=>by
  rw [map_cons,map_cons] at e
  injection e with e1 e2
  injection e1 with e1
  rw [e1,ux e2]
theorem zK (ns:List Int):(ns.map (Sum.inl:Int->Key)).map kV=ns.map V.int:=by rw [List.map_map];rfl
section
variable {K:PySem.W.Frag} {ρ ρ':List Addr} {H H':Hp}
theorem Bk {p:List Int×A}{r:List (List Int×A)}{k:List Int}(e:p.1=k):dM (p::r) k=some p.2:=by simp [dM,find?_cons,e]
theorem BC {p:List Int×A}{r:List (List Int×A)}{k:List Int}(e:¬ p.1=k):dM (p::r) k=dM r k:=by simp [dM,find?_cons,e]
theorem DV.look:∀ {kvs:List (List Int×A)} {ks:List (List Key×V)} (k:List Int),DV K ρ H kvs ks->(dM kvs k).isSome=(gG ks (k.map Sum.inl)).isSome/\∀ x,dM kvs k=some x->∃ v,gG ks (k.map Sum.inl)=some v/\AV K ρ H x v
 | [],[],k,_=>⟨rfl,λ x h=>nomatch h⟩
 | p::r,q::r',k,⟨⟨e,a⟩,t⟩=>by
  by_cases c:p.1=k
  ·have c':q.1=k.map Sum.inl:=by rw [e,c]
   rw [Bk c,jW c'];exact ⟨rfl,λ x h=>by cases h;exact ⟨_,rfl,a⟩⟩
  ·have c':¬ q.1=k.map Sum.inl:=λ z=>c (ux (e.symm.trans z));rw [BC c,jV c'];exact DV.look k t
theorem DV.repl {x:A}{v:V}(h:AV K ρ H x v)(k:List Int):∀ {kvs:List (List Int×A)} {ks:List (List Key×V)},DV K ρ H kvs ks->DV K ρ H (kvs.map λ kv=>if kv.1=k then (kv.1,x) else kv) (ks.map λ kv=>if kv.1=k.map Sum.inl then (kv.1,v) else kv)
 | [],[],_=>trivial
 | p::r,q::r',⟨⟨e,a⟩,t⟩=>by
  refine ⟨?_,DV.repl h k t⟩;dsimp only;by_cases c:p.1=k
  ·rw [if_pos c,if_pos (by rw [e,c])];exact ⟨e,h⟩
  ·rw [if_neg c,if_neg (λ z=>c (ux (e.symm.trans z)))];exact ⟨e,a⟩
theorem DV.snoc {x:A}{v:V}(h:AV K ρ H x v)(k:List Int):∀ {kvs:List (List Int×A)} {ks:List (List Key×V)},DV K ρ H kvs ks->DV K ρ H (kvs++[(k,x)]) (ks++[(k.map Sum.inl,v)])
 | [],[],_=>⟨⟨rfl,h⟩,trivial⟩
 | p::r,q::r',⟨a,t⟩=>⟨a,DV.snoc h k t⟩
theorem DV.put {x:A}{v:V}(h:AV K ρ H x v)(k:List Int){kvs:List (List Int×A)}{ks:List (List Key×V)}(d:DV K ρ H kvs ks):DV K ρ H (putD kvs k x) (putK ks (k.map Sum.inl) v):=by
 unfold putD putK;rw [mS,<- (d.look k).1];by_cases c:(dM kvs k).isSome=true
 ·rw [if_pos c,if_pos c];exact DV.repl h k d
 ·rw [if_neg c,if_neg c];exact DV.snoc h k d
theorem DV.length:∀ {kvs:List (List Int×A)} {ks:List (List Key×V)},DV K ρ H kvs ks->kvs.length=ks.length
 | [],[],_=>rfl
 | _::_,_::_,⟨_,t⟩=>congrArg (·+1) t.length
theorem Rel.dct {S:aA}{n:Nat}{a:Addr}{xs:List (List Int×A)}(R:Rel K ρ H S)(ha:ρ[n]?=some a)(hS:S[n]?=some (.dct xs)):∃ vs,H a=some (.dT vs)/\DV K ρ H xs vs:=R.at n a _ ha hS
theorem Rel.P9 {S:aA}{p:Addr}{xs:List (List Int×A)}{vs:List (List Key×V)}(R:Rel K ρ H S)(hp:H p=none)(r:DV K ρ H xs vs):Ext ρ (ρ++[p]) H (upd H p (.dT vs))/\Rel K (ρ++[p]) (upd H p (.dT vs)) (S++[.dct xs])/\(ρ++[p])[S.length]?=some p:=by
 have ex:Ext ρ (ρ++[p]) H (upd H p (.dT vs)):=⟨⟨prefix_append _ _,λ a u _ h=>by rw [aL (a_ h hp)];exact h⟩,λ a u h _=>by rw [aL (a_ h hp)];exact h,λ a h=>by
  rcases mem_append.mp h with z | z
  ·exact .inl z
  ·have e:a=p:=by simpa using z
   rw [e];exact .inr hp⟩
 have np:p∉ρ:=R.Gs hp;have last:(ρ++[p])[S.length]?=some p:=by rw [<- R.len];simp
 refine ⟨ex,⟨by simp [R.len],?_,?_⟩,last⟩
 ·rw [nodup_append];refine ⟨R.nd,by simp,λ a ha b hb e=>?_⟩;have:b=p:=by simpa using hb
  exact np (by rw [<- this,<- e];exact ha)
 ·intro n a o h1 h2;by_cases hn:n < S.length
  ·rw [getElem?_append_left (by rw [R.len];exact hn)] at h1;rw [getElem?_append_left hn] at h2;have na:a≠p:=λ z=>np (by rw [<- z];exact mem_of_getElem? h1);have:=R.at n a o h1 h2
   cases o with
   | lst ys=>obtain ⟨ws,e,q⟩:=this;exact ⟨ws,by rw [aL na];exact e,q.ext ex⟩
   | dct _ | fK _=>obtain ⟨ws,e,q⟩:=this;exact ⟨ws,by rw [aL na];exact e,q.ext ex⟩
   | ins _ _=>obtain ⟨oo,uu,e⟩:=this;exact ⟨oo,uu,by rw [aL na];exact e⟩
  ·have e:n=S.length:=by
    have:=(List.getElem?_eq_some_iff.mp h2).1;simp at this;omega
   subst e;rw [last] at h1
   cases h1
   simp at h2;subst h2;exact ⟨vs,bM,r.ext ex⟩
theorem Rel.putD {S:aA}{n:Nat}{a:Addr}{xs ys:List (List Int×A)}{ws:List (List Key×V)}(R:Rel K ρ H S)(ha:ρ[n]?=some a)(hS:S[n]?=some (.dct xs))(r:DV K ρ H ys ws):Ext ρ ρ H (upd H a (.dT ws))/\Rel K ρ (upd H a (.dT ws)) (S.set n (.dct ys)):=by
 obtain ⟨vs,e,_⟩:=R.at n a _ ha hS;have ex:Ext ρ ρ H (upd H a (.dT ws)):=⟨⟨prefix_refl _,λ b u i h=>by
  have:b≠a:=by
   intro z;subst z;rw [e] at h;cases h;exact i
  rw [aL this];exact h⟩,λ b u h n=>by
  rw [aL (λ z=>n (by rw [z];exact mem_of_getElem? ha))];exact h,λ _ h=>.inl h⟩
 refine ⟨ex,by rw [length_set];exact R.len,R.nd,λ m b o h1 h2=>?_⟩;by_cases hm:m=n
 ·subst hm;rw [ha] at h1;cases h1;rw [getElem?_set_self (List.getElem?_eq_some_iff.mp hS).1] at h2
  cases h2
  exact ⟨ws,bM,r.ext ex⟩
 ·rw [getElem?_set_ne (Ne.symm hm)] at h2;have nb:b≠a:=λ z=>by
   subst z;obtain ⟨l1,e1⟩:=List.getElem?_eq_some_iff.mp ha;obtain ⟨l2,e2⟩:=List.getElem?_eq_some_iff.mp h1;exact hm ((getElem_inj R.nd).mp (e2.trans e1.symm))
  have:=R.at m b o h1 h2
  cases o with
  | lst ys=>obtain ⟨ws',e',q⟩:=this;exact ⟨ws',by rw [aL nb];exact e',q.ext ex⟩
  | dct _ | fK _=>obtain ⟨ws',e',q⟩:=this;exact ⟨ws',by rw [aL nb];exact e',q.ext ex⟩
  | ins _ _=>obtain ⟨oo,uu,e'⟩:=this;exact ⟨oo,uu,by rw [aL nb];exact e'⟩
end
section
variable {X:Cx} {pos:Pos} {a b:Expr}
theorem A8 {ρ:List Addr}{H:Hp}{S:aA}{p q:Addr}{n:Nat}{xs:List A}{vs:List V}{kvs:List (List Int×A)}{ns:List Int}(R:Rel X.K ρ H S)(hp:ρ[n]?=some p)(hn:bA S n=some kvs)(hq:H q=some (.tup vs))(r:AVs X.K ρ H xs vs)(hi:A.ints xs=some ns) :
  ∃ ks,H p=some (.dT ks)/\DV X.K ρ H kvs ks/\H q=some (.tup ((ns.map (Sum.inl:Int->Key)).map kV))/\nU H p (.ref q) (gG ks (ns.map Sum.inl)):=by
 obtain ⟨ks,e,d⟩:=R.dct hp (ff hn);have z:=uG r hi;subst z;rw [<- zK] at hq;exact ⟨ks,e,d,hq,nU.t e hq⟩
noncomputable def nP (x y:A)(S:aA):R A:=match x,y with
 | .ref n,.tup xs=>opt (bA S n) λ kvs=>opt (A.ints xs) λ ns=>opt (dM kvs ns) λ v=>.ok v S
 | _,_=>.no
theorem NO (hu:X.A.units+64 < cLine):JV X (r2 X nP):=λ value slice pins s σ H x y v u Q I rx ry ⟨ρ,S,a,b,R,va,vb,h⟩ hs=>by
 cases va with
 | @ref p n hp=>
  cases vb with
  | @tup q xs vs hq r=>
   obtain ⟨kvs,hn,h⟩:=aM h;obtain ⟨ns,hi,h⟩:=aM h;obtain ⟨z,hz,h⟩:=aM h;obtain ⟨ks,e,d,hq',g⟩:=A8 R hp hn hq r hi;obtain ⟨w,hw,aw⟩:=(d.look ns).2 z hz;rw [hw] at g;exact Ad (by omega) value slice pins s σ H _ _ v u Q I rx ry ⟨p,w,rfl,g,h _ _ _ .refl R aw⟩ hs
  | _=>exact h.elim
 | _=>exact h.elim
theorem p8 (hu:X.A.units+64 < cLine){ca cb:Ex}(ha:AE X a ca)(hb:AE X b cb)(hs:oK b:=by exact λ _ _=>rfl):AE X (.Subscript a b pos) (aJ nP ca cb):=PE.imp (DG (NO hu) ha hb hs) λ σ H Q h=>ki h
noncomputable def yy (o i v:A)(S:aA):R Unit:=match o,i with
 | .ref n,.tup xs=>opt (bA S n) λ kvs=>opt (A.ints xs) λ ns=>gd (kvs.length < sizeLine) (.ok () (S.set n (.dct (putD kvs ns v))))
 | _,_=>.no
noncomputable def P0 (X:Cx):BA:=λ o i v H Q=>∃ ρ S ao ai av,Rel X.K ρ H S/\AV X.K ρ H ao o/\AV X.K ρ H ai i/\AV X.K ρ H av v/\(yy ao ai av S).post (λ _ S'=>∀ ρ' H',Ext ρ ρ' H H'->Rel X.K ρ' H' S'->Q H') (XE X ρ H)
theorem Jr (hu:X.A.units+64 < cLine):BJ X (P0 X):=λ pins s σ H o i v ov iv u Q I ro ri rv h9=>by
 obtain ⟨ρ,S,ao,ai,av,R,h1,h2,h3,h⟩:=h9
 cases h1 with
 | @ref p n hp=>
  cases h2 with
  | @tup q xs vs hq r=>
   obtain ⟨kvs,hn,h⟩:=aM h;obtain ⟨ns,hi,h⟩:=aM h;obtain ⟨hl,h⟩:=bh h;obtain ⟨ks,e,d,hq',g⟩:=A8 R hp hn hq r hi;obtain ⟨ex,R'⟩:=R.putD hp (ff hn) (d.put h3 ns);exact set_dict (by omega) pins s σ H _ _ v ov iv u Q I ro ri rv ⟨p,_,rfl,vh.t e hq' (by rw [<- d.length];exact hl),h _ _ ex R'⟩
  | _=>exact h.elim
 | _=>exact h.elim
noncomputable def Gh (co ci:Ex):Tg:=λ a τ S=>(co τ S).bind λ o S1=>(ci τ S1).bind λ i S2=>(yy o i a S2).bind λ _ S3=>.ok τ S3
theorem s_ (hu:X.A.units+64 < cLine){o i:Expr}{co ci:Ex}(ho:AE X o co)(hi:AE X i ci)
  (ha:∀ v,assign (.Subscript o i pos) X.env v=(do
   let ov <- holding [v] (eval o X.env)
   let iv <- holding [v,ov] (eval i X.env)
   standAt pos
   holding [v,ov,iv] (setItem ov iv v)
   release [v,ov,iv] []):=by intro _;rfl):AG X (.Subscript o i pos) (Gh co ci):=PG.imp (ym ho hi (Jr hu) ha) λ v σ H Q h9=>by
 obtain ⟨ρ,S,τ,a,R,r,va,h⟩:=h9;refine ⟨ρ,S,τ,R,r,aG (aI h) .refl λ o S1 h1 ρ1 H1 x e1 R1 v1=>⟨ρ1,S1,τ,R1,r.ext e1,aG (aI h1) e1 λ i S2 h2 ρ2 H2 y e2 R2 v2=>?_⟩⟩;refine ⟨ρ2,S2,o,i,a,R2,v1.ext e2,v2,va.ext (e1.trans e2),aG (aI h2) (e1.trans e2) λ _ S3 h3 ρ3 H3 e3 R3=>?_⟩;exact h3 ρ3 H3 σ ((e1.trans e2).trans e3) R3 (r.ext ((e1.trans e2).trans e3))
noncomputable def rO:Ex:=λ _ S=>.ok (.ref S.length) (S++[.dct []])
theorem oM:AE X (.Dict [] [] pos) rO:=PE.imp E_ λ σ H Q ⟨ρ,S,τ,R,r,h⟩ p hp=>by
 obtain ⟨ex,R',hl⟩:=R.P9 (xs:=[]) (vs:=[]) hp trivial;exact h _ _ _ ex R' (.ref hl)
noncomputable def dct? (a:A)(S:aA):Option Unit:=match a with
 | .ref n=>(bA S n).map λ _=>()
 | _=>none
noncomputable def IT (f:A->List A->aA->R A)(co:Ex)(d:g_):Ex:=λ τ S=>(co τ S).bind λ x S1=>opt (dct? x S1) λ _=>(d τ S1).bind λ as S2=>f x as S2
theorem dct?_ty {K:PySem.W.Frag}{ρ:List Addr}{H:Hp}{S:aA}{x:A}{v:V}{u:Unit}(R:Rel K ρ H S)(a:AV K ρ H x v)(e:dct? x S=some u):Ov K "dict" v H:=by
 cases a with
 | @ref p n h=>
  obtain ⟨xs,hx,_⟩:=map_eq_some_iff.mp e;obtain ⟨vs,h1,_⟩:=R.dct h (ff hx);exact .inr (.inr (.inl ⟨rfl,.inr ⟨vs,h1⟩⟩))
 | _=>cases e
theorem DA {o e:Expr}{es:List Expr}{name:Str}{id:String}{apos cpos:Pos}{f:A->List A->aA->R A}{co:Ex}{d:g_}(slot:Slot "dict" name id)(hty:typeOf (.builtin id)=pure (.type "method_descriptor"))(hm:Ky X id (rM X f))(ho:AE X o co)(ha:AL X (e::es) d)
  (hbase:attributeBase o name X.env (eval o X.env)=eval o X.env:=by rfl)
  (hfew:((backTo cpos (starEach (e::es) X.env)).all (λ x=>!x.1) && (backToKw cpos (keywordEach [] X.env)).all (λ x=>x.1.isSome)
   && decide ((e::es).length+([]:List Keyword).length+(if ([]:List Keyword).isEmpty then 0 else 1) < 30))=true:=by rfl)
  (hline:(apos.endLine == cpos.line)=true:=by rfl) (hs:starEach (e::es) X.env=(false,eval e X.env)::starEach es X.env:=by rfl) (hplain:(backTo cpos (starEach es X.env)).any (·.1)=false:=by rfl) :
  AE X (.Call (.Attribute o name apos) (e::es) [] cpos) (IT f co d):=PE.imp (ET PySem.F.plainAttrs_dict slot hty hm ho ha hbase hfew hline hs hplain) λ σ H Q h9=>by
 obtain ⟨ρ,S,τ,R,r,h⟩:=h9;refine ⟨ρ,S,τ,R,r,aG (aI h) .refl λ x S1 h1 ρ1 H1 v e1 R1 v1=>?_⟩;obtain ⟨xs,hx,h1⟩:=aM h1;refine ⟨dct?_ty R1 v1 hx,ρ1,S1,τ,R1,r.ext e1,aG (aI h1) e1 λ as S2 h2 ρ2 H2 vs e2 R2 v2=>?_⟩;exact ⟨ρ2,S2,x,as,R2,v1.ext e2,v2,aG h2 (e1.trans e2) λ _ _ z=>z.ext (e1.trans e2)⟩
noncomputable def HU (o:A)(as:List A)(S:aA):R A:=match o,as with
 | .ref n,[.tup xs,y]=>opt (bA S n) λ kvs=>opt (A.ints xs) λ k=>.ok ((dM kvs k).getD y) S
 | _,_=>.no
theorem Ks (hu:X.A.units+64 < cLine):Ky X "dict.get" (rM X HU):=λ pins s σ H x vs v us Q I rx rv h9=>by
 obtain ⟨ρ,S,o,as,R,vo,va,h⟩:=h9
 cases vo with
 | @ref p n hp=>
  match as,va,h with
  | [],_,h=>exact h.elim
  | [z],_,h=>exact (by cases z <;> exact h.elim)
  | z::_::_::_,_,h=>exact (by cases z <;> exact h.elim)
  | [z,y],va,h=>
   obtain ⟨w1,w2,rfl,hz,hy⟩:=LK va
   cases hz with
   | @tup q xs ws hq rr=>
    obtain ⟨kvs,hn,h⟩:=aM h;obtain ⟨ns,hi,h⟩:=aM h;have z:=uG rr hi;subst z;obtain ⟨ks,h1,dv⟩:=R.dct hp (ff hn);refine Iz (by omega) pins s σ H _ _ v us Q I rx rv ⟨p,q,ns.map Sum.inl,ks,w2,rfl,rfl,h1,by rw [zK];exact hq,h _ _ _ .refl R ?_⟩;obtain ⟨l1,l2⟩:=dv.look ns
    cases e1:dM kvs ns with
    | none=>
     rw [e1] at l1
     cases e2:gG ks (ns.map Sum.inl) with
     | none=>exact hy
     | some _=>rw [e2] at l1;cases l1
    | some x1=>
     obtain ⟨v1,e2,a1⟩:=l2 x1 e1;rw [e2];exact a1
   | _=>exact h.elim
 | _=>exact h.elim
end
section
variable {X:Cx} {pos:Pos} {a b:Expr}
end
section
variable {X:Cx} {pos:Pos} {a b tg:Expr}
end
structure Out (ρ1:List Addr)(H1:Hp)(D:Addr)(accV:List V)(ρ:List Addr)(H:Hp):Prop where
 e0:Ext0 ρ1 ρ H1 H
 fr:∀ a u,a≠D->H1 a=some u->a∉ρ1->H a=some u
 nw:∀ a∈ρ,a∈ρ1\/H1 a=none
 nD:D∉ρ
 hD:H D=some (.lst accV)
section
variable {X:Cx} {pos:Pos} {tg iter tg2 iter2 elt e:Expr} {ifs ifs2:List Expr} {scope:Scope} {N:List Str} {cap:List (Option Nat)} {src src2:Ic} {g g2:Tg} {t t2:Te} {c:Ex}
end
noncomputable def OF (K:PySem.W.Frag)(n:Nat)(F:List A->aA->R A):Sp:=λ vs H Q E=>vs.length=n/\∃ ρ S as,Rel K ρ H S/\AVs K ρ H as vs/\(F as S).post (λ a S'=>∀ ρ' H' v,Ext ρ ρ' H H'->Rel K ρ' H' S'->AV K ρ' H' a v->Q v H') (λ c S'=>∀ C ρ' H',xH K c C->Ext ρ ρ' H H'->Rel K ρ' H' S'->E (.ref C) none H')
section
variable {P:Program} {w:World} {K:PySem.W.Frag} {mg:Str->Option Value} {base:Heap}
theorem Fun.QM {x qual:Str}{st:Stmt}{f:Addr}{fd:FuncData}{N ps:List Str}{k:Nat}{sp:Sp}(F:Fun K x qual st f fd)(S:FnScope N ps (az st))(len:∀ vs H Q E,sp vs H Q E->vs.length=ps.length)
  (hb:∀ (cdv:Value) (A:Around) (outer:List Env) (s:Shared) (H:Hp) (vs:List V) (Q:VK) (E:XK),Room k (A.deeper (envOfC qual (az st) s.heap.objs.size f cdv))->sp vs H Q E->∃ t,qW (lX (Cu P w) P w K mg base N qual (az st) f cdv A outer s H E) (aQ st) t/\t { nx:=λ _ H'=>Q .non H',rt:=Q } (L2.start N vs) H):FnOk P w K mg base (Cu P w) (k+1) f fd ps sp:=by
 obtain ⟨oc,od,kV,doc,pm,an,cdv,ct,osl,rfl,lk,hcd⟩:=F.ex;exact Kr lk hcd S len λ A outer s H vs Q E hr hsp=>hb cdv A outer s H vs Q E hr hsp
theorem fnX {x qual:Str}{st:Stmt}{f:Addr}{fd:FuncData}{N ps:List Str}{k:Nat}{m:Sm}(F:Fun K x qual st f fd)(Sc:FnScope N ps (az st))
  (body:∀ (cdv:Value) (A:Around) (outer:List Env) (s:Shared) (H:Hp) (E:XK),Room k (A.deeper (envOfC qual (az st) s.heap.objs.size f cdv))->Cd (lX (Cu P w) P w K mg base N qual (az st) f cdv A outer s H E) (aQ st) m) :
  FnOk P w K mg base (Cu P w) (k+1) f fd ps (OF K ps.length (cT N m)):=by
 refine Fun.QM F Sc (λ vs H Q E h=>h.1) λ cdv B outer s H vs Q E hr ⟨hl,ρ,S,as,R,va,q⟩=>⟨_,body cdv B outer s H E hr,ρ,S,_,R,uo va N,?_⟩;unfold cT at q
 cases hm:m (as++List.replicate (N.length - as.length) .unb) S with
 | rt b S2=>rw [hm] at q;exact q
 | nx τ S2=>rw [hm] at q;exact λ ρ' H' σ' e R' _=>q ρ' H' _ e R' .non
 | bk τ S2=>rw [hm] at q;exact q.elim
 | ct τ S2=>rw [hm] at q;exact q.elim
 | no=>rw [hm] at q;exact q.elim
 | ex c S2=>
  rw [hm] at q;intro C ρ' H' n e R';exact ⟨rfl,λ pins σ' s' ea I Ra=>Co I rfl Ra (q C ρ' H' n e R')⟩
end
noncomputable def MT (P:Program)(w:World)(K:PySem.W.Frag)(mg:Str->Option Value)(base:Heap)(k:Nat)(x:Str)(ps:List Str)(F:List A->aA->R A):Prop:=
 ∃ (f:Addr) (fd:FuncData),FnOk P w K mg base (Cu P w) k f fd ps (OF K ps.length F)/\mg x=some (.ref f)/\PySem.W.keepIn K (.ref f)=true/\Binds K fd ps []
noncomputable def Bw (F:List A->aA->R A)(d:g_):Ex:=λ τ S=>(d τ S).bind λ as S1=>F as S1
section
variable {X:Cx} {pos p:Pos} {e:Expr} {es:List Expr} {x:Str} {ps:List Str} {k:Nat} {F:List A->aA->R A} {d:g_}
theorem uc (G:MT X.prog X.w X.K X.mg X.base k x ps F)(hr:Room k X.A)(ha:AL X (e::es) d)(hl:∀ τ S as S',d τ S=.ok as S'->as.length=ps.length)(hg:Gl X x:=by rfl)(hdb:(x == ("__debug__" : Str))=false:=by decide)
  (hs:starEach (e::es) X.env=(false,eval e X.env)::starEach es X.env:=by rfl) (hplain:(backTo pos (starEach es X.env)).any (·.1)=false:=by rfl):AE X (.Call (.Name x p) (e::es) [] pos) (Bw F d):=by
 obtain ⟨f,fd,Fo,hm,hk,hb⟩:=G;refine PE.imp (zU Fo hr hg hm hk hb .nil (FT (X:=X) rfl rfl) ha hdb hs hplain) λ σ H Q h9=>?_;obtain ⟨ρ,S,τ,R,r,h⟩:=h9;refine ⟨ρ,S,τ,R,r,?_⟩;have hq:=aI h
 cases hd:d τ S with
 | no=>rw [hd] at hq;exact hq
 | ex c S1=>rw [hd] at hq;exact hq
 | ok as S1=>
  rw [hd] at hq;intro ρ1 H1 vs e1 R1 v1;rw [append_nil];refine ⟨by rw [<- v1.length];exact hl τ S as S1 hd,ρ1,S1,as,R1,v1,nh hq (λ a S2 q ρ2 H2 v e2=>q ρ2 H2 v (e1.trans e2)) λ c S2 q C ρ2 H2 n e2=>q C ρ2 H2 n (e1.trans e2)⟩
end
noncomputable def IA:List Value:=[.type "ValueError",.type "Exception",.type "BaseException",.type "object"]
theorem Nz {K:PySem.W.Frag}{mg:Str->Option Value}{base:Heap}{x:Str}{C:Addr}{bmB:List Value}{newId:String}(M:Mod K mg base)(e:xH K x C)(q:PySem.W.excIn K C bmB newId=true):OwnCls x C bmB newId mg base:=by
 refine ⟨PySem.W.mg_of M.kin M.glob e,?_⟩;unfold PySem.W.excIn at q;split at q
 ·rename_i dd cd sl ho;split at q
  ·rename_i C' bm k0 k1 k2 k3 nw k5 hm hs;rw [and_eq_true,and_eq_true,and_eq_true,and_eq_true,and_eq_true] at q;obtain ⟨⟨⟨⟨⟨q1,q2⟩,q3⟩,q4⟩,q5⟩,q6⟩:=q;have q1:=beq_iff_eq.mp q1;have q2:=beq_iff_eq.mp q2;have q3:cd.hasDel=false:=by simpa using q3
   have q6:=beq_iff_eq.mp q6;subst q1 q2;obtain ⟨nm,bs,mro,ns,qn,hd,sn,sub,ab,col,del⟩:=cd;have hm:mro=_:=hm;have q3:del=false:=q3;subst hm q3;obtain ⟨sl⟩:=sl;have hs:sl=_:=hs;subst hs;exact ⟨bm,ns,nm,qn,bs,hd,sn,sub,ab,col,dd,k0,k1,k2,k3,k5,_,M.kin _ _ ho,.of_isNs (PySem.W.isNs_of_in M.kin q5),PySem.W.nsMap_none_of_in M.kin q5 q6,PySem.W.tail_of_in M.kin q4⟩
  ·cases q
 ·cases q
noncomputable def GP:List (Str ⊕ Ex)->List A->aA->R Unit
 | [],_,S=>.ok () S
 | .inl _::ps,τ,S=>GP ps τ S
 | .inr e::ps,τ,S=>(e τ S).bind λ v S1=>match v with
  | .int i=>gd (i.natAbs.log2 < 64) (GP ps τ S1)
  | _=>.no
noncomputable def Ib:List (Str ⊕ Ex)->Bool
 | []=>true
 | .inl x::ps=>decide (x.length<=1000) && Ib ps
 | .inr _::ps=>Ib ps
noncomputable def xP (c:Str)(ps:List (Str ⊕ Ex)):Sm:=λ τ S=>.of (GP ps τ S) λ _ S1=>.ex c S1
noncomputable def OI (X:Cx):List (Str ⊕ Ex)->List (Str ⊕ TE)
 | []=>[]
 | .inl x::ps=>.inl x::OI X ps
 | .inr e::ps=>.inr (tE X e)::OI X ps
section
variable {X:Cx} {pos np cpos fp:Pos} {x:Str} {C:Addr} {e1 e2:Expr} {es:List Expr} {ps:List (Str ⊕ Ex)}
theorem nM {ρ0:List Addr}{H0:Hp}{σ:L2.St}{τ:List A}{k:Hp->Prop}(c:Str)(hk:∀ ρ H S,Ext ρ0 ρ H0 H->Rel X.K ρ H S->XE X ρ0 H0 c S->k H):∀ (ps:List (Str ⊕ Ex)) (ρ:List Addr) (H:Hp) (S:aA),Ib ps=true->Ext ρ0 ρ H0 H->Rel X.K ρ H S->SR X.K ρ H τ σ ->
  (GP ps τ S).post (λ _ S'=>XE X ρ0 H0 c S') (XE X ρ0 H0)->p7 (OI X ps) σ H k
 | [],ρ,H,S,_,e,R,r,h=>hk ρ H S e R h
 | .inl x::ps,ρ,H,S,ok,e,R,r,h=>by
  obtain ⟨hx,ok⟩:=Bool.and_eq_true_iff.mp ok;exact ⟨of_decide_eq_true hx,nM c hk ps ρ H S ok e R r h⟩
 | .inr a::ps,ρ,H,S,ok,e,R,r,h=>by
  refine ⟨ρ,S,τ,R,r,?_⟩;have h:=aI h;refine nh h (λ v S1 h1 ρ1 H1 u e1 R1 v1=>?_) λ c' S' z=>z.ext e
  cases v with
  | int i=>
   obtain ⟨hi,h1⟩:=bh h1
   cases v1
   exact ⟨i,rfl,hi,nM c hk ps ρ1 H1 S1 ok (e.trans e1) R1 (r.ext e1) h1⟩
  | _=>exact h1.elim
theorem B_ (hn:xH X.K x C)(hq:PySem.W.excIn X.K C IA "ValueError.__new__" = true)(hh:X.A.handled=none)(hp:FParts X (e1::e2::es) (OI X ps))(hfs:Ib ps=true:=by rfl)(hg:Gl X x:=by rfl)(hl:2000 * (e1::e2::es).length<=sizeLine:=by decide)
  (hs:starEach [.JoinedStr (e1::e2::es) fp] X.env=(false,eval (.JoinedStr (e1::e2::es) fp) X.env)::starEach [] X.env:=by rfl) (hpl:(backTo cpos (starEach [] X.env)).any (·.1)=false:=by rfl) (hd:(x == ("__debug__" : Str))=false:=by decide) :
  AS X (.Raise (some (.Call (.Name x np) [.JoinedStr (e1::e2::es) fp] [] cpos)) none pos) (xP x ps):=by
 intro pins s σ H D I ⟨ρ,S,τ,R,r,h⟩;refine Ep (Nz I.mod hn hq) PySem.F.excBase_ValueError hh (ju (Oa hp hl) qL hs) hg hs hpl hd pins s σ H D I ?_;refine nM (X:=X) (ρ0:=ρ) (H0:=H) x (λ ρ1 H1 S1 e1 R1 z y hy=>?_) ps ρ H S hfs .refl R r (of_post h);exact ⟨(show 1<=sizeLine by decide),z C ρ1 H1 hn e1 R1⟩
end
noncomputable def IK (i:Nat):RS->RS
 | .nx τ S=>.nx (τ.set i .unb) S
 | .bk τ S=>.bk (τ.set i .unb) S
 | .ct τ S=>.ct (τ.set i .unb) S
 | .rt a S=>.rt a S
 | _=>.no
noncomputable def vJ (i n:Nat)(cs:List Str)(c d:Sm):Sm:=λ τ S=>match c τ S with
 | .ex x S1=>if x∈cs then IK i (d ((List.replicate n .unb).set i (.exn x)) S1) else .no
 | r=>r
theorem SR.unset {K:PySem.W.Frag}{ρ:List Addr}{H:Hp}{τ:List A}{σ:L2.St}{i:Nat}(s:SR K ρ H τ σ):SR K ρ H (τ.set i .unb) (σ.set i none):=by
 refine ⟨by simp [s.len],λ j b e=>?_⟩;by_cases hj:j=i
 ·subst hj;have hl:j < τ.length:=by
   have:=(List.getElem?_eq_some_iff.mp e).1;simpa using this
  rw [getElem?_set_self hl] at e
  cases e
  exact .inl rfl
 ·rw [getElem?_set_ne (Ne.symm hj)] at e;rw [getElem?_set_ne (Ne.symm hj)];exact s.at j b e
section
variable {X:Cx} {pos np hp:Pos} {y n:Str} {Dc:Addr} {i:Nat} {body suite:List Stmt} {b0:Stmt} {c d:Sm} {cs:List Str}
theorem KJ (hb:∀ pn' xe',Cd (X.qX pn' xe') body c)(hh:∀ pn' e oe C,XO C oe->Cd (X.hand pn' e oe) (b0::suite) d)(hN:X.N.Nodup)(hD:xH X.K y Dc)(mD:L2.mroIn X.K Dc=some IA)(hcs:∀ x∈cs,∃ C,xH X.K x C/\L2.mroIn X.K C=some (.ref Dc::IA))
  {ln:Nat} (hln:X.N.length=ln:=by rfl) (hi:X.N[i]?=some n:=by rfl) (hlo:X.env.scope.names.lookup n=some .local:=by rfl) (hst:X.stack=X.env::X.outer:=by rfl) (hf:X.env.frame=some X.env.locals:=by rfl) (hex:X.ex=[]:=by rfl) (hg:Gl X y:=by rfl) (hdb:(y == ("__debug__" : Str))=false:=by decide) :
  AS X (.Try body [.ExceptHandler (some (.Name y np)) (some n) (b0::suite) hp] [] [] pos) (vJ i ln cs c d):=by
 subst hln;intro pins s σ H D I ⟨ρ,S,τ,R,r,h⟩;refine wpAny_Try_except ?_;have tl:τ.length=X.N.length:=by rw [r.len];exact I.len
 have hgo:∀ xe',(∀ x S1,c τ S=.ex x S1->XE (X.qX (X.pn++pins) xe') ρ H x S1)->qv (X.qX (X.pn++pins) xe') ρ H D (c τ S):=λ xe' hx=>by
  have h:qv X ρ H D (vJ i X.N.length cs c d τ S):=h;unfold vJ at h
  cases hc:c τ S with
  | nx τ' S'=>rw [hc] at h;exact h
  | rt a S'=>rw [hc] at h;exact h
  | bk τ' S'=>rw [hc] at h;exact h
  | ct τ' S'=>rw [hc] at h;exact h
  | no=>rw [hc] at h;exact h
  | ex x S1=>exact hx x S1 hc
 refine wpAny_mono (hb (X.pn++pins) _ [] s σ H D (I.qX _) ⟨ρ,S,τ,R,r,hgo _ λ x S1 hc C ρ1 H1 hn e1 R1=>?_⟩) (λ f s1 hs=>?_) λ e s1 z=>z
 ·refine ⟨hex,λ pins' σ' s' e I' R'=>?_⟩;have h:qv X ρ H D (vJ i X.N.length cs c d τ S):=h;unfold vJ at h;rw [hc] at h;have h:qv X ρ H D (if x∈cs then IK i (d ((List.replicate X.N.length .unb).set i (.exn x)) S1) else .no):=h;by_cases hx:x∈cs
  ·rw [if_pos hx] at h;obtain ⟨C',hn',mC⟩:=hcs x hx;have:C'=C:=by
    have z:=hn'.symm.trans hn
    injection z with z
    injection z with z
    injection z
   subst this;have hm:X.mg y=some (.ref Dc):=PySem.W.mg_of I.mod.kin I.mod.glob hD;refine Di hst hf hex hN hi hlo hg hm mD (by decide) I' R' mC (by simp) (λ oe s6 xo hn0 I6=>?_) I.ok hdb;obtain ⟨ex,Rn⟩:=R1.im (u:=.frz oe xu) hn0;refine hh (X.pn++pins) e oe C' xo [] s6 _ _ (O7 i D) I6 ⟨ρ1,S1,(List.replicate X.N.length .unb).set i (.exn x),Rn,SR.set ⟨?_,λ j b z=>?_⟩ (.exn hn' bM xo),?_⟩
   ·rw [List.length_replicate];exact I'.len.symm
   ·rw [List.getElem?_replicate] at z;split at z
    ·exact .inl (Option.some.inj z).symm
    ·cases z
   ·have e2:=e1.trans ex
    cases hd:d ((List.replicate X.N.length .unb).set i (.exn x)) S1 with
    | nx τ' S'=>rw [hd] at h;exact λ ρ' H' σ' e' R' r'=>h ρ' H' _ (e2.trans e') R' r'.unset
    | bk τ' S'=>rw [hd] at h;exact λ ρ' H' σ' e' R' r'=>h ρ' H' _ (e2.trans e') R' r'.unset
    | ct τ' S'=>rw [hd] at h;exact λ ρ' H' σ' e' R' r'=>h ρ' H' _ (e2.trans e') R' r'.unset
    | rt a S'=>rw [hd] at h;exact λ ρ' H' v e' R' r'=>h ρ' H' v (e2.trans e') R' r'
    | ex _ _=>rw [hd] at h;exact h.elim
    | no=>rw [hd] at h;exact h.elim
  ·rw [if_neg hx] at h;exact h.elim
 ·cases f with
  | next=>obtain ⟨σ',H',J,q⟩:=hs;exact wpAny_execs_nil ⟨σ',H',J.zw,q⟩
  | brk=>obtain ⟨σ',H',J,q⟩:=hs;exact ⟨σ',H',J.zw,q⟩
  | cont=>obtain ⟨σ',H',J,q⟩:=hs;exact ⟨σ',H',J.zw,q⟩
  | ret u=>obtain ⟨v,σ',H',J,rv,q⟩:=hs;exact ⟨v,σ',H',J.zw,rv,q⟩
end
noncomputable def ni (f:Str->Option Bool)(c:Ex):Ex:=λ τ S=>(c τ S).bind λ v S1=>match v with
 | .exn x=>opt (f x) λ b=>.ok (.bl b) S1
 | _=>.no
section
variable {X:Cx} {pos p py:Pos} {a:Expr} {y:Str} {vy:V} {cy:Value} {f:Str->Option Bool} {c:Ex}
theorem Gj (ry:∀ u,RelV vy u->u=cy)(hf:∀ x b C,f x=some b->xH X.K x C->XCls X.K C/\(PySem.W.clsIn X.K C).isSome=true/\PySem.W.kitOne X.K (.ref C) cy=some b) :
  bH X (.builtin "isinstance") (λ xs H Q=>∃ ρ S x v b,Rel X.K ρ H S/\xs=[v,vy]/\AV X.K ρ H (.exn x) v/\f x=some b/\Q (.bl b) H):=by
 intro pins s σ H xs us Q I r ⟨ρ,S,x,v,b,R,exs,va,hb,q⟩;subst exs;obtain ⟨u,w',rfl,r1,r2⟩:=vals2 r;have:=ry _ r2;subst this
 cases va with
 | exn n h xo=>
  obtain ⟨g1,g2,g3⟩:=hf _ _ _ hb n
  cases (show u=Value.ref _ from r1)
  exact xY g1 g2 I h xo g3 λ tk=>⟨.bl b,H,I.tok tk,rfl,q⟩
theorem CI (hy:PE X (.Name y py) (tC vy))(ry:∀ u,RelV vy u->u=cy)(hf:∀ x b C,f x=some b->xH X.K x C->XCls X.K C/\(PySem.W.clsIn X.K C).isSome=true/\PySem.W.kitOne X.K (.ref C) cy=some b)(ha:AE X a c)(hm:X.mg "isinstance" = none)(hg:Gl X "isinstance" := by rfl)
  (he:starEach [a,.Name y py] X.env=(false,eval a X.env)::starEach [.Name y py] X.env:=by rfl) (he2:starEach [.Name y py] X.env=(false,eval (.Name y py) X.env)::starEach [] X.env:=by rfl) (hpl:(backTo pos (starEach [.Name y py] X.env)).any (·.1)=false:=by rfl) :
  AE X (.Call (.Name "isinstance" p) [a,.Name y py] [] pos) (ni f c):=
 PE.imp (vY (Gj ry hf) hg hm bK (ju ha (ju hy qL he2) he) (by decide) (by decide) he hpl) λ σ H Q h9=>by
  obtain ⟨ρ,S,τ,R,r,h⟩:=h9;refine ⟨ρ,S,τ,R,r,aG (aI h) .refl λ v S1 h1 ρ1 H1 x e1 R1 v1=>?_⟩
  cases v with
  | exn n=>
   obtain ⟨b,hb,h1⟩:=aM h1;exact ⟨ρ1,S1,n,x,b,R1,rfl,v1,hb,h1 ρ1 H1 _ e1 R1 (.bl b)⟩
  | _=>exact h1.elim
end
structure ExcK (K:PySem.W.Frag)(U:Addr)(c:Str)(C:Addr):Prop where
 n:xH K c C
 q:PySem.W.excIn K C IA "ValueError.__new__" = true
 r:L2.mroIn K C=some (.ref U::IA)
 x:XCls K C
 cl:(PySem.W.clsIn K C).isSome=true
 v:PySem.W.kitOne K (.ref C) (.type "ValueError")=some true
theorem qU:bootBuiltins "ValueError" = some (.type "ValueError"):=by decide +kernel
noncomputable def BN (tb:List (Str×Bool)):Str->Option Bool:=λ x=>tb.lookup x
theorem Kq {K:PySem.W.Frag}{cy:Value}{tb:List (Str×Bool)}(h:∀ p∈tb,∃ C,xH K p.1 C/\XCls K C/\(PySem.W.clsIn K C).isSome=true/\PySem.W.kitOne K (.ref C) cy=some p.2):∀ x b C,BN tb x=some b->xH K x C->XCls K C/\(PySem.W.clsIn K C).isSome=true/\PySem.W.kitOne K (.ref C) cy=some b:=λ x b C e n=>by
 obtain ⟨C',n',g⟩:=h (x,b) (PySem.mem_of_lookup e);have:C'=C:=by
  have z:=n'.symm.trans n
  injection z with z
  injection z with z
  injection z
 subst this;exact g
section
variable {X:Cx} {pos p py:Pos} {a:Expr} {y:Str} {Cy:Addr} {tb:List (Str×Bool)} {c:Ex}
theorem jO (hm:X.mg y=some (.ref Cy))(h:∀ p∈tb,∃ C,xH X.K p.1 C/\XCls X.K C/\(PySem.W.clsIn X.K C).isSome=true/\PySem.W.kitOne X.K (.ref C) (.ref Cy)=some p.2)(ha:AE X a c)(hi:X.mg "isinstance" = none)(hg:Gl X "isinstance" := by rfl)(hgy:Gl X y:=by rfl)(hdb:(y == ("__debug__" : Str))=false:=by decide)
  (he:starEach [a,.Name y py] X.env=(false,eval a X.env)::starEach [.Name y py] X.env:=by rfl) (he2:starEach [.Name y py] X.env=(false,eval (.Name y py) X.env)::starEach [] X.env:=by rfl) (hpl:(backTo pos (starEach [.Name y py] X.env)).any (·.1)=false:=by rfl) :
  AE X (.Call (.Name "isinstance" p) [a,.Name y py] [] pos) (ni (BN tb) c):=CI (vy:=.ref Cy) (cy:=.ref Cy) (yE hgy hm rfl hdb) (λ u r=>r) (Kq h) ha hi hg he he2 hpl
theorem L_ (hm:X.mg "ValueError" = none)(h:∀ p∈tb,∃ C,xH X.K p.1 C/\XCls X.K C/\(PySem.W.clsIn X.K C).isSome=true/\PySem.W.kitOne X.K (.ref C) (.type "ValueError")=some p.2)(ha:AE X a c)(hi:X.mg "isinstance" = none)(hg:Gl X "isinstance" := by rfl)(hgy:Gl X "ValueError" := by rfl)
  (he:starEach [a,.Name "ValueError" py] X.env=(false,eval a X.env)::starEach [.Name "ValueError" py] X.env:=by rfl) (he2:starEach [.Name "ValueError" py] X.env=(false,eval (.Name "ValueError" py) X.env)::starEach [] X.env:=by rfl) (hpl:(backTo pos (starEach [.Name "ValueError" py] X.env)).any (·.1)=false:=by rfl) :
  AE X (.Call (.Name "isinstance" p) [a,.Name "ValueError" py] [] pos) (ni (BN tb) c):=CI (vy:=.ty "ValueError") (cy:=.type "ValueError") (yz hgy hm qU rfl (by decide) (by decide)) (λ u r=>r) (Kq h) ha hi hg he he2 hpl
end
section
variable {P:Program} {w:World} {K:PySem.W.Frag} {mg:Str->Option Value} {base:Heap}
theorem QS {x qual:Str}{st:Stmt}{f:Addr}{fd:FuncData}{N ps:List Str}{k:Nat}{m:Sm}(F:Fun K x qual st f fd)(Sc:FnScope N ps (az st))
  (body:∀ (cdv:Value) (A:Around) (outer:List Env) (s:Shared) (H:Hp) (e:Addr) (oe:Obj) (C:Addr),sG k (A.deeper (envOfC qual (az st) s.heap.objs.size f cdv))->A.handled=some (.ref e)->H e=some (.frz oe xu)->XO C oe->Cd (OD P w K mg base N qual (az st) f cdv A outer s H) (aQ st) m) :
  FnOkH P w K mg base (k+1) f fd ps (jH K ps.length (cT N m)):=by
 refine Me F Sc (λ vs H Q E h=>h.1) λ cdv B outer s H vs Q e oe C hr hx ⟨hl,ρ,S,as,a,S',R,va,hF,q⟩=>⟨_,body cdv B outer s H e oe C hr hx.hh hx.h0 hx.xo,ρ,S,_,R,uo va N,?_⟩;unfold cT at hF
 cases hm:m (as++List.replicate (N.length - as.length) .unb) S with
 | rt b S2=>rw [hm] at hF;cases hF;exact q
 | nx τ S2=>rw [hm] at hF;cases hF;exact λ ρ' H' σ' e R' _=>q ρ' H' _ e R' .non
 | bk τ S2=>rw [hm] at hF;cases hF
 | ct τ S2=>rw [hm] at hF;cases hF
 | ex c S2=>rw [hm] at hF;cases hF
 | no=>rw [hm] at hF;cases hF
end
noncomputable abbrev KL (P:Program)(w:World)(K:PySem.W.Frag)(mg:Str->Option Value)(base:Heap)(k:Nat)(x:Str)(ps:List Str)(F:List A->aA->R A):Prop:=Qm P w K mg base k x ps (jH K ps.length F)
theorem Lk {X:Cx}{pos p:Pos}{a:Expr}{es:List Expr}{x:Str}{ps:List Str}{k:Nat}{F:List A->aA->R A}{d:g_}{e C:Addr}{oe:Obj}(G:KL X.prog X.w X.K X.mg X.base k x ps F)(hr:sG k X.A)(hh:X.A.handled=some (.ref e))(h0:X.H₀ e=some (.frz oe xu))(xo:XO C oe)(ha:AL X (a::es) d)(hl:∀ τ S as S',d τ S=.ok as S'->as.length=ps.length)(hg:Gl X x:=by rfl)(hdb:(x == ("__debug__" : Str))=false:=by decide)
  (hs:starEach (a::es) X.env=(false,eval a X.env)::starEach es X.env:=by rfl) (hplain:(backTo pos (starEach es X.env)).any (·.1)=false:=by rfl):AE X (.Call (.Name x p) (a::es) [] pos) (eFn F d):=
 PE.imp (MM G hr hh h0 xo ha hg hdb hs hplain) λ σ H Q h9=>by
  obtain ⟨ρ,S,τ,R,r,h⟩:=h9;refine ⟨ρ,S,τ,R,r,?_⟩;have hq:=aI h
  cases hd:d τ S with
  | no=>rw [hd] at hq;exact hq
  | ex c S1=>rw [hd] at hq;exact hq
  | ok as S1=>
   rw [hd] at hq;intro ρ1 H1 vs e1 R1 v1;rw [append_nil];refine ⟨by rw [<- v1.length];exact hl τ S as S1 hd,ρ1,S1,as,?_⟩;have hq:Am.R.post (match F as S1 with
    | .ok a S2=>.ok a S2
    | _=>.no) (rf X ρ H Q) (XE X ρ H):=hq
   cases hF:F as S1 with
   | ok a S2=>rw [hF] at hq;exact ⟨a,S2,R1,v1,rfl,λ ρ2 H2 v e2=>hq ρ2 H2 v (e1.trans e2)⟩
   | ex c S2=>rw [hF] at hq;exact hq.elim
   | no=>rw [hF] at hq;exact hq.elim
noncomputable def NC (F:List A->aA->R A)(d:g_):Ex:=λ τ S=>match d τ S with
 | .ok as S1=>F as S1
 | _=>.no
section
variable {X:Cx} {pos p:Pos} {e:Expr} {es:List Expr} {x:Str} {ps:List Str} {k:Nat} {F:List A->aA->R A} {d:g_}
noncomputable def Od (t:Te)(c d:Sm):Sm:=λ τ S=>match t τ S with
 | .ok true S1=>c τ S1
 | .ok false S1=>d τ S1
 | _=>.no
end
noncomputable def JY (i:Nat)(cs:List Str)(c d:Sm):Sm:=λ τ S=>match c τ S with
 | .ex x S1=>if x∈cs then IK i (d (τ.set i (.exn x)) S1) else .no
 | r=>r
section
variable {X:Cx} {pos np hp:Pos} {y n:Str} {Dc:Addr} {i:Nat} {suite:List Stmt} {b b0:Stmt} {c d:Sm} {cs:List Str}
end
end Am
namespace L2
open PySem PySem.Spec PyProof.Rows
noncomputable def HX (e:Addr)(oe:Obj)(Y:Cx):Prop:=Y.A.handled=some (.ref e)/\Y.H₀ e=some (.frz oe xu)
theorem xT {P:Program}{w:World}{K:PySem.W.Frag}{tg:Expr}{e C:Addr}{oe:Obj}(ho:XO C oe)(a it:Addr):TurnG (HX e oe) P w K tg (M9 K a) [it] it (λ i h=>h.IsListIter it a i) where
 obj:=(ng (P:=P) (w:=w) (K:=K) (tg:=tg) a it).obj
 keep:=(ng (P:=P) (w:=w) (K:=K) (tg:=tg) a it).keep
 item:=by
  intro X hP hw hK hc i pins s σ H E I hf st hg;subst hP hw hK;obtain ⟨xs,x,hq,hx⟩:=hg;obtain ⟨its,rv,p,hz⟩:=I.list hq;obtain ⟨u,hu,ru⟩:=rv.get hx;obtain ⟨f0,f1,f2,f3,f4,f5⟩:=hf it (by simp);refine wpAny_pyNext_list_item st p.isList (x:=u) (by simpa using hu) λ h' st' sb=>?_;have I1:Inv X pins σ H { s with heap:=h' }:=I.turned (t':=s.toks) (λ b o hb e=>(sb.2 b hb).trans e) f0 f1 f3 f4 f5;obtain ⟨o,e,c,d⟩:=id st';exact ⟨u,rfl,uJ (s:={ s with heap:=h' }) e c d (by decide) ⟨x,H,I1,ru,⟨rfl,λ ys hy=>by rw [I.vt hy hq];exact hx⟩,st',λ b hb=>(hf b hb).1⟩⟩
 done:=by
  intro X hP hw hK hc i pins s σ H E I hf st hg;subst hP hw hK;obtain ⟨xs,hq,hx⟩:=hg;obtain ⟨its,rv,p,hz⟩:=I.list hq;obtain ⟨f0,f1,f2,f3,f4,f5⟩:=hf it (by simp);obtain ⟨vs,d1,d2⟩:=ho.ctx;have fe:=I.base.frzs e oe xu hc.2;obtain ⟨ge,_⟩:=I.hok e _ fe;have hl:=rv.length;exact xN hc.1 ge d1 d2 (λ z=>by rw [z,f0] at fe;cases fe) st p.isList (by simp;omega) λ h' eb=>⟨rfl,I.turned (t':=s.toks) (λ b o hb e=>eb b o hb e) f0 f1 f3 f4 f5⟩
 self:=λ _ _ _ _ _ st h=>wpAny_pyIter_listiter st h
theorem uU {X:Cx}{tg:Expr}{e C:Addr}{oe:Obj}(ho:XO C oe){l:Expr}{tl:TE}(hl:PE X l tl):Oe (HX e oe) X tg l (Ka X.K tl):=by
 intro pins s σ H R I h;refine dP (hl pins s σ H _ I h) λ v s1 h9=>?_;obtain ⟨x,H1,I1,r1,q1⟩:=h9;obtain ⟨a,e,⟨xs,hq⟩,q⟩:=q1;subst e
 cases r1
 obtain ⟨its,rv,p,hz⟩:=I1.list hq;refine wpAny_pyIter_list p.isList ?_;refine ⟨s1.heap.objs.size,[s1.heap.objs.size],_,_,H1,rfl,I1.kept (t':=s1.toks) λ b o e=>get?_push_of_some _ e,xT ho a _,⟨_,get?_push_size _ rfl,rfl,rfl⟩,λ b hb=>?_,q⟩;have e:b=s1.heap.objs.size:=by simpa using hb
 subst e;exact I1.BI (Nat.le_refl _) (I1.hok.fresh (Nat.le_refl _))
end L2
namespace Am
open PySem PySem.Spec PyProof.Rows L2
noncomputable def sO (c:Ex):Ic:=λ τ S=>(c τ S).bind λ a S1=>match a with
 | .ref n=>opt (aC S1 n) λ xs=>.ok (b_ n xs.length) S1
 | _=>.no
theorem IV {X:Cx}{tg l:Expr}{e C:Addr}{oe:Obj}(ho:XO C oe){c:Ex}(he:AE X l c):Oe (HX e oe) X tg l (tI X (sO c)):=λ pins s σ H Q I h9=>by
 obtain ⟨ρ,S,τ,R,r,h⟩:=h9;have hb:=aI h
 cases hc:c τ S with
 | no=>rw [hc] at hb;exact hb.elim
 | ex x S1=>
  rw [hc] at hb;exact uU ho he pins s σ H Q I ⟨ρ,S,τ,R,r,by rw [hc];exact hb⟩
 | ok a S1=>
  rw [hc] at hb
  cases a with
  | ref n=>
   obtain ⟨xs,hn,hb⟩:=aM hb;refine uU ho he pins s σ H Q I ⟨ρ,S,τ,R,r,?_⟩;rw [hc];intro ρ1 H1 x e1 R1 v1
   cases v1 with
   | ref hp=>
    obtain ⟨vs,h1,r1⟩:=R1.lst hp (aS hn);exact ⟨_,rfl,⟨_,gY.of h1⟩,hb ρ1 H1 _ e1 R1 (CB hp)⟩
  | _=>exact hb.elim
theorem CU {X:Cx}{tg iter elt:Expr}{ifs:List Expr}{scope:Scope}{pos:Pos}{N:List Str}{cap:List (Option Nat)}{g:Tg}{t:Te}{c ci:Ex}{e C:Addr}{oe:Obj}(hh:X.A.handled=some (.ref e))(h0:X.H₀ e=some (.frz oe xu))(ho:XO C oe)
  (Sc:CpScope X scope N cap) (hi:AE X iter ci) (hg:∀ C s₀ H₀ ex,AG (gh X scope N C s₀ H₀ ex) tg g) (ht:∀ C s₀ H₀ ex,OE (gh X scope N C s₀ H₀ ex) ifs t) (he:∀ C s₀ H₀ ex,AE (gh X scope N C s₀ H₀ ex) elt c)
  (hs:∀ x,foldedSetIterable iter X.env x=pure x:=by intro _;rfl):AE X (.ListComp elt [⟨tg,iter,ifs,0⟩] scope pos) (cJ cap (sO ci) g t c):=
 PE.imp (EU Sc (λ _ _ _ _ hk=>⟨hh,hk e oe xu h0⟩) (IV ho hi) (g:=ON X.K g) (tc:=NG X.K t) (te:=OG X.K c) (λ C s₀ H₀ ex=>(hg C s₀ H₀ ex).g0 rfl) (λ C s₀ H₀ ex=>ht C s₀ H₀ ex) (λ C s₀ H₀ ex=>(he C s₀ H₀ ex).e0 rfl) hs) wg
theorem BV {K:PySem.W.Frag}{H:Hp}{a:Addr}{ns:List Int}{F:List A->aA->R A}(hO:HM H)(hS:gY K H a (ns.map V.int))(h:∃ S',F [.frz (ns.map .int)] []=.ok (.bl true) S'):jH K 1 F [.ref a] H (λ v _=>v=.bl true) λ _ _ _=>False:=by
 obtain ⟨S',h⟩:=h;have fz:Fz K H a (ns.map V.int):=by
  rcases hS with (h | ⟨o,h⟩) | h
  ·rcases hO a with z | ⟨ob,xs,z⟩
   ·rw [h] at z;cases z
   ·rw [h] at z;cases z
  ·exact .inl ⟨o,h⟩
  ·exact .inr h
 exact ⟨rfl,[],[],_,_,S',⟨rfl,nodup_nil,λ n a o h=>by simp at h⟩,.cons (.frz fz (jT ns)) .nil,h,λ ρ' H' v _ _ hv=>vz hv⟩
section
variable {P:Program} {w:World} {K:PySem.W.Frag} {mg:Str->Option Value} {base:Heap} {f:Addr} {fd:FuncData} {ps:List Str} {k n:Nat}
end
theorem Ca {P:List Value->Prop}(h:∀ a0,P [a0]):∀ us:List Value,us.length=1->P us
 | [_],_=>h _
theorem xy {P:List Value->Prop}(h:∀ a0 a1,P [a0,a1]):∀ us:List Value,us.length=2->P us
 | [_,_],_=>h _ _
theorem xx {n:Nat}{us:List Value}(h:us.length=n+1):∃ a t,us=a::t/\t.length=n:=by
 cases us with
 | nil=>simp at h
 | cons a t=>exact ⟨a,t,rfl,by simpa using h⟩
theorem OJ {P:List Value->Prop}(h:∀ a0 a1 a2,P [a0,a1,a2]):∀ us:List Value,us.length=3->P us:=λ us e=>by
 obtain ⟨a0,t0,rfl,e0⟩:=xx e;obtain ⟨a1,t1,rfl,e1⟩:=xx e0;obtain ⟨a2,t2,rfl,e2⟩:=xx e1
 cases List.length_eq_zero_iff.mp e2
 exact h _ _ _
theorem QD {P:List Value->Prop}(h:∀ a0 a1 a2 a3,P [a0,a1,a2,a3]):∀ us:List Value,us.length=4->P us:=λ us e=>by
 obtain ⟨a0,t0,rfl,e0⟩:=xx e;obtain ⟨a1,t1,rfl,e1⟩:=xx e0;obtain ⟨a2,t2,rfl,e2⟩:=xx e1;obtain ⟨a3,t3,rfl,e3⟩:=xx e2
 cases List.length_eq_zero_iff.mp e3
 exact h _ _ _ _
end Am
namespace Am
open PySem L2
section
variable {α β:Type} {a b:A} {S S1 S2:aA} {τ:List A} {x:α}
@[simp] theorem R.d8 {f:α->aA->R β}:(R.ok x S).bind f=f x S:=rfl
@[simp] theorem R.zR {f:α->aA->R β}{c:Str}:(R.ex c S:R α).bind f=.ex c S:=rfl
@[simp] theorem R.dg {f:α->aA->R β}:(R.ok x S).jG f=f x S:=rfl
@[simp] theorem RS.of_ok {f:α->aA->RS}:RS.of (R.ok x S) f=f x S:=rfl
@[simp] theorem RS.JU {f:α->aA->RS}{c:Str}:RS.of (R.ex c S:R α) f=.ex c S:=rfl
@[simp] theorem dm {f:β->R α}{y:β}:opt (some y) f=f y:=rfl
@[simp] theorem yQ {r:R α}:gd True r=r:=if_pos trivial
theorem eV {c:Prop}[Decidable c]{r:R α}(h:c):gd c r=r:=if_pos h
@[simp] theorem z0 {i:Nat}:ak i τ S=bif (τ.getD i .unb).gq then .no else .ok (τ.getD i .unb) S:=by unfold ak;cases (τ.getD i .unb).gq <;> rfl
@[simp] theorem zQ {xs:List A}:A.gq (.tup xs)=false:=rfl
@[simp] theorem zG {xs:List A}:A.gq (.frz xs)=false:=rfl
@[simp] theorem Ah {i:Int}:A.gq (.int i)=false:=rfl
@[simp] theorem Ga {i:Bool}:A.gq (.bl i)=false:=rfl
@[simp] theorem AQ {i:Str}:A.gq (.str i)=false:=rfl
@[simp] theorem zo {i:Nat}:A.gq (.ref i)=false:=rfl
@[simp] theorem z_:A.gq .non=false:=rfl
@[simp] theorem A7 {i j:Int}:A.gq (.rng i j)=false:=rfl
@[simp] theorem yG {c:Str}:A.gq (.exn c)=false:=rfl
@[simp] theorem Km:eC a τ S=.ok a S:=rfl
noncomputable def MW (f:A->A->aA->R A)(cb:Ex)(τ:List A)(a:A)(S:aA):R A:=(cb τ S).bind (f a)
@[simp] theorem yD {f:A->A->aA->R A}{cb:Ex}:MW f cb τ a S=(cb τ S).bind (f a):=rfl
@[simp] theorem zS {f:A->A->aA->R A}{ca cb:Ex}:aJ f ca cb τ S=(ca τ S).bind (MW f cb τ):=rfl
@[simp] theorem G7 {f:A->aA->R A}{ca:Ex}:Hi f ca τ S=(ca τ S).bind f:=rfl
@[simp] theorem zA {c:Ex}:jJ c τ S=(c τ S).bind λ a S1=>opt (a.MU S1) λ b=>.ok b S1:=rfl
noncomputable def aB (a:A)(S:aA):R Bool:=match a with
 | .bl b=>.ok b S
 | _=>.no
@[simp] theorem Kg {b:Bool}:aB (.bl b) S=.ok b S:=rfl
@[simp] theorem Dv {c:Ex}:mw c τ S=(c τ S).bind aB:=rfl
@[simp] theorem z7 {c:Te}:lQ c τ S=(c τ S).bind λ b S1=>.ok (!b) S1:=rfl
noncomputable def La (d:Te)(τ:List A)(b:Bool)(S:aA):R Bool:=match b with | true=>d τ S | false=>.ok false S
noncomputable def Pw (d:Te)(τ:List A)(b:Bool)(S:aA):R Bool:=match b with | true=>.ok true S | false=>d τ S
@[simp] theorem E5 {d:Te}:La d τ true S=d τ S:=rfl
@[simp] theorem F0 {d:Te}:La d τ false S=.ok false S:=rfl
@[simp] theorem J_ {d:Te}:Pw d τ true S=.ok true S:=rfl
@[simp] theorem JI {d:Te}:Pw d τ false S=d τ S:=rfl
@[simp] theorem Bc {c d:Te}:GJ c d τ S=(c τ S).bind (La d τ):=rfl
@[simp] theorem Gv {c d:Te}:Hg c d τ S=(c τ S).bind (Pw d τ):=rfl
@[simp] theorem yC:mX τ S=.ok true S:=rfl
noncomputable def GQ (d:Ex)(τ:List A)(a:A)(S:aA):R A:=match a with | .bl true=>d τ S | .bl false=>.ok (.bl false) S | _=>.no
noncomputable def MF (d:Ex)(τ:List A)(a:A)(S:aA):R A:=match a with | .bl true=>.ok (.bl true) S | .bl false=>d τ S | _=>.no
@[simp] theorem zT {d:Ex}:GQ d τ (.bl true) S=d τ S:=rfl
@[simp] theorem Ax {d:Ex}:GQ d τ (.bl false) S=.ok (.bl false) S:=rfl
@[simp] theorem GI {d:Ex}:MF d τ (.bl true) S=.ok (.bl true) S:=rfl
@[simp] theorem EJ {d:Ex}:MF d τ (.bl false) S=d τ S:=rfl
@[simp] theorem zC {c d:Ex}:Ct c d τ S=(c τ S).bind (GQ d τ):=by
 unfold Ct
 cases c τ S with
 | ok a S1=>cases a <;> first | rfl | (rename_i b;cases b <;> rfl)
 | _=>rfl
@[simp] theorem Gx {c d:Ex}:Qk c d τ S=(c τ S).bind (MF d τ):=by
 unfold Qk
 cases c τ S with
 | ok a S1=>cases a <;> first | rfl | (rename_i b;cases b <;> rfl)
 | _=>rfl
noncomputable def Kz (a:A)(S:aA):R A:=match a with | .bl b=>.ok (.bl !b) S | _=>.no
@[simp] theorem wG {b:Bool}:Kz (.bl b) S=.ok (.bl !b) S:=rfl
@[simp] theorem Ae {c:Ex}:LB c τ S=(c τ S).bind Kz:=rfl
noncomputable def LP (c d:Ex)(τ:List A)(b:Bool)(S:aA):R A:=match b with | true=>c τ S | false=>d τ S
@[simp] theorem Eo {c d:Ex}:LP c d τ true S=c τ S:=rfl
@[simp] theorem CJ {c d:Ex}:LP c d τ false S=d τ S:=rfl
@[simp] theorem EY {t:Te}{c d:Ex}:QL t c d τ S=(t τ S).bind (LP c d τ):=rfl
@[simp] theorem Ao:aK τ S=.ok [] S:=rfl
noncomputable def xX (a:A)(as:List A)(S:aA):R (List A):=.ok (a::as) S
noncomputable def J8 (d:g_)(τ:List A)(a:A)(S:aA):R (List A):=(d τ S).bind (xX a)
@[simp] theorem rR {as:List A}:xX a as S=.ok (a::as) S:=rfl
@[simp] theorem vn {d:g_}:J8 d τ a S=(d τ S).bind (xX a):=rfl
@[simp] theorem u9 {c:Ex}{d:g_}:aj c d τ S=(c τ S).bind (J8 d τ):=rfl
@[simp] theorem Ay {d:g_}:fC d τ S=(d τ S).bind λ as S1=>gd (as.length<=sizeLine) (.ok (.tup as) S1):=rfl
@[simp] theorem AY {d:g_}:gE d τ S=(d τ S).bind newL:=rfl
theorem bI {as:List A}(h:as.length<=16777216):newL as S=.ok (.ref S.length) (S++[.lst as]):=eV (by rw [sizeLine_eq];exact h)
@[simp] theorem uK {f:List A->aA->R A}{d:g_}:bf f d τ S=(d τ S).bind f:=rfl
noncomputable def O4 (r:R A):R A:=match r with
 | .ok a S=>.ok a S
 | _=>.no
@[simp] theorem C5:O4 (.ok a S)=.ok a S:=rfl
noncomputable def Qj (f:List A->aA->R A)(as:List A)(S:aA):R A:=O4 (f as S)
@[simp] theorem GC {f:List A->aA->R A}{as:List A}:Qj f as S=O4 (f as S):=rfl
@[simp] theorem EH {f:List A->aA->R A}{d:g_}:eFn f d τ S=(d τ S).bind (Qj f):=rfl
@[simp] theorem JL {g:A->aA->R A}:f1 g [a] S=g a S:=rfl
@[simp] theorem Kw {g:A->A->aA->R A}:f2 g [a,b] S=g a b S:=rfl
noncomputable def K5 (h:Pt)(τ:List A)(a:A)(l:Option Int)(S:aA):R A:=(h τ S).bind (DO a l)
noncomputable def QA (l h:Pt)(τ:List A)(a:A)(S:aA):R A:=(l τ S).bind (K5 h τ a)
@[simp] theorem yt {h:Pt}{l:Option Int}:K5 h τ a l S=(h τ S).bind (DO a l):=rfl
@[simp] theorem G1 {l h:Pt}:QA l h τ a S=(l τ S).bind (K5 h τ a):=rfl
@[simp] theorem Ge {c:Ex}{l h:Pt}:OC c l h τ S=(c τ S).bind (QA l h τ):=rfl
@[simp] theorem uV:zY τ S=.ok none S:=rfl
noncomputable def Qo (a:A)(S:aA):R (Option Int):=match a with
 | .int i=>.ok (some i) S
 | _=>.no
@[simp] theorem Aj {i:Int}:Qo (.int i) S=.ok (some i) S:=rfl
@[simp] theorem uR {c:Ex}:A0 c τ S=(c τ S).bind Qo:=rfl
noncomputable def MK (f:A->List A->aA->R A)(d:g_)(τ:List A)(o:A)(S:aA)(_:List A):R A:=(d τ S).bind (f o)
noncomputable def Qy (f:A->List A->aA->R A)(d:g_)(τ:List A)(o:A)(S:aA):R A:=opt (o.lst? S) (MK f d τ o S)
@[simp] theorem zB {f:A->List A->aA->R A}{d:g_}{xs:List A}:MK f d τ a S xs=(d τ S).bind (f a):=rfl
@[simp] theorem GH {f:A->List A->aA->R A}{d:g_}:Qy f d τ a S=opt (a.lst? S) (MK f d τ a S):=rfl
@[simp] theorem Dy {f:A->List A->aA->R A}{c:Ex}{d:g_}:Ln f c d τ S=(c τ S).bind (Qy f d τ):=rfl
@[simp] theorem yq {f:A->List A->aA->R A}{c:Ex}:O8 f c τ S=(c τ S).bind λ o S1=>opt (o.lst? S1) λ _=>f o [] S1:=rfl
@[simp] theorem lst?_ref {n:Nat}:A.lst? S (.ref n)=aC S n:=rfl
noncomputable def RS.seq (r:RS)(d:Sm):RS:=match r with
 | .nx τ S=>d τ S
 | r=>r
@[simp] theorem RS.CK {d:Sm}:RS.seq (.nx τ S) d=d τ S:=rfl
@[simp] theorem RS.Fv {d:Sm}:RS.seq (.rt a S) d=.rt a S:=rfl
@[simp] theorem RS.Fj {d:Sm}{c:Str}:RS.seq (.ex c S) d=.ex c S:=rfl
@[simp] theorem RS.GX {d:Sm}:RS.seq (.bk τ S) d=.bk τ S:=rfl
@[simp] theorem RS.G6 {d:Sm}:RS.seq (.ct τ S) d=.ct τ S:=rfl
@[simp] theorem zp {c d:Sm}:bw c d τ S=RS.seq (c τ S) d:=by unfold bw RS.seq;cases c τ S <;> rfl
@[simp] theorem zW:gZ τ S=.nx τ S:=rfl
@[simp] theorem sI:MJ τ S=.bk τ S:=rfl
@[simp] theorem vM:N4 τ S=.ct τ S:=rfl
@[simp] theorem wI {e:Ex}:iP e τ S=RS.of (e τ S) λ _ S1=>.nx τ S1:=rfl
@[simp] theorem zF {e:Ex}:ck e τ S=RS.of (e τ S) .rt:=rfl
@[simp] theorem wB:MZ τ S=.rt .non S:=rfl
noncomputable def OQ (c d:Sm)(τ:List A)(b:Bool)(S:aA):RS:=match b with | true=>c τ S | false=>d τ S
@[simp] theorem JF {c d:Sm}:OQ c d τ true S=c τ S:=rfl
@[simp] theorem JD {c d:Sm}:OQ c d τ false S=d τ S:=rfl
@[simp] theorem Gw {t:Te}{c d:Sm}:qC t c d τ S=RS.of (t τ S) (OQ c d τ):=rfl
noncomputable def Nm (g:Tg)(τ:List A)(a:A)(S:aA):RS:=RS.of (g a τ S) .nx
@[simp] theorem zZ {g:Tg}:Nm g τ a S=RS.of (g a τ S) .nx:=rfl
@[simp] theorem Ai {e:Ex}{g:Tg}:bP e g τ S=RS.of (e τ S) (Nm g τ):=rfl
@[simp] theorem G8 {i:Nat}:bQ i a τ S=.ok (τ.set i a) S:=rfl
noncomputable def Lh (a o:A)(τ:List A)(i:A)(S:aA):R (List A):=(vm o i a S).bind λ _ S3=>.ok τ S3
noncomputable def Qi (ci:Ex)(τ:List A)(a o:A)(S:aA):R (List A):=(ci τ S).bind (Lh a o τ)
@[simp] theorem zP {o i:A}:Lh a o τ i S=(vm o i a S).bind λ _ S3=>.ok τ S3:=rfl
@[simp] theorem FY {ci:Ex}{o:A}:Qi ci τ a o S=(ci τ S).bind (Lh a o τ):=rfl
@[simp] theorem Hf {co ci:Ex}:MS co ci a τ S=(co τ S).bind (Qi ci τ a):=rfl
@[simp] theorem C4 {n:Nat}{gs:Hl}{xs:List A}:qT n gs (.tup xs) τ S=gd (xs.length=n) (gs xs τ S):=rfl
@[simp] theorem GO:qS [] τ S=.ok τ S:=rfl
@[simp] theorem CG {g:Tg}{gs:Hl}{as:List A}:iN g gs (a::as) τ S=(g a τ S).bind (gs as):=rfl
noncomputable def QC (i j:Nat)(τ:List A)(as:List A)(S:aA):RS:=match as with
 | [a,b]=>.nx ((τ.set i a).set j b) S
 | _=>.no
@[simp] theorem GB {i j:Nat}:QC i j τ [a,b] S=.nx ((τ.set i a).set j b) S:=rfl
@[simp] theorem yM {i j:Nat}{c:g_}:Pe i j c τ S=RS.of (c τ S) (QC i j τ):=rfl
noncomputable def Cw (i:Nat)(τ:List A)(c:A)(S:aA):RS:=.nx (τ.set i c) S
noncomputable def Nd (i:Nat)(f:A->A->aA->R A)(τ:List A)(b:A)(S:aA):RS:=.of (f (τ.getD i .unb) b S) (Cw i τ)
@[simp] theorem vq {i:Nat}:Cw i τ a S=.nx (τ.set i a) S:=rfl
@[simp] theorem yV {i:Nat}{f:A->A->aA->R A}:Nd i f τ a S=.of (f (τ.getD i .unb) a S) (Cw i τ):=rfl
@[simp] theorem z9 {i:Nat}{f:A->A->aA->R A}{e:Ex}:NV i f e τ S=bif (τ.getD i .unb).gq then .no else .of (e τ S) (Nd i f τ):=by
 unfold NV;cases (τ.getD i .unb).gq <;> rfl
noncomputable def O6 (o i:A)(τ:List A)(z:A)(S:aA):RS:=.of (vm o i z S) λ _ S6=>.nx τ S6
noncomputable def O3 (f:A->A->aA->R A)(o i x:A)(τ:List A)(y:A)(S:aA):RS:=.of (f x y S) (O6 o i τ)
noncomputable def Px (ce:Ex)(f:A->A->aA->R A)(o i:A)(τ:List A)(x:A)(S:aA):RS:=.of (ce τ S) (O3 f o i x τ)
noncomputable def NR (ce:Ex)(f:A->A->aA->R A)(o:A)(τ:List A)(i:A)(S:aA):RS:=.of (HV o i S) (Px ce f o i τ)
noncomputable def OM (ci ce:Ex)(f:A->A->aA->R A)(τ:List A)(o:A)(S:aA):RS:=.of (ci τ S) (NR ce f o τ)
@[simp] theorem GS {o i:A}:O6 o i τ a S=.of (vm o i a S) λ _ S6=>.nx τ S6:=rfl
@[simp] theorem C_ {f:A->A->aA->R A}{o i x:A}:O3 f o i x τ a S=.of (f x a S) (O6 o i τ):=rfl
@[simp] theorem E9 {ce:Ex}{f:A->A->aA->R A}{o i:A}:Px ce f o i τ a S=.of (ce τ S) (O3 f o i a τ):=rfl
@[simp] theorem Eb {ce:Ex}{f:A->A->aA->R A}{o:A}:NR ce f o τ a S=.of (HV o a S) (Px ce f o a τ):=rfl
@[simp] theorem EW {ci ce:Ex}{f:A->A->aA->R A}:OM ci ce f τ a S=.of (ci τ S) (NR ce f a τ):=rfl
@[simp] theorem v_ {co ci ce:Ex}{f:A->A->aA->R A}:Ol co ci ce f τ S=RS.of (co τ S) (OM ci ce f τ):=rfl
noncomputable def RS.end (r:RS):R A:=match r with
 | .rt a S'=>.ok a S'
 | .nx _ S'=>.ok .non S'
 | .ex c S'=>.ex c S'
 | _=>.no
@[simp] theorem RS.Dk:RS.end (.rt a S)=.ok a S:=rfl
@[simp] theorem RS.D_:RS.end (.nx τ S)=.ok .non S:=rfl
@[simp] theorem RS.CV {c:Str}:RS.end (.ex c S)=.ex c S:=rfl
theorem oZ {N:List Str}{m:Sm}{as:List A}:cT N m as S=RS.end (m (as++List.replicate (N.length - as.length) .unb) S):=by
 unfold cT RS.end;cases m (as++List.replicate (N.length - as.length) .unb) S <;> rfl
@[simp] theorem DJ {i j:Int}:cj (.int i) (.int j) S=.ok (.int (i+j)) S:=rfl
@[simp] theorem GW {i j:Int}:aSub (.int i) (.int j) S=.ok (.int (i - j)) S:=rfl
@[simp] theorem Gq {i j:Int}:Pb (.int i) (.int j) S=.ok (.int (i+j)) S:=rfl
theorem zD {i j:Int}(h:-18446744073709551616 < i)(h':i < 18446744073709551616):mj (.int i) (.int j) S=.ok (.int (i * j)) S:=eV (by unfold vR;simp;left;exact ⟨by omega,by omega⟩)
theorem mul_r {i j:Int}(h:-18446744073709551616 < j)(h':j < 18446744073709551616):mj (.int i) (.int j) S=.ok (.int (i * j)) S:=eV (by unfold vR;simp;right;exact ⟨by omega,by omega⟩)
theorem Dj {i j:Int}(h:0 < j)(h':j < 1073741824):yU (.int i) (.int j) S=.ok (.int (i / j)) S:=eV ⟨h,by omega⟩
theorem vG {i j:Int}(h:0 < j):uF (.int i) (.int j) S=.ok (.int (i % j)) S:=eV h
@[simp] theorem J0 {i j:Int}:Hs (.int i) (.int j) S=.ok (.bl (decide (i < j))) S:=rfl
@[simp] theorem JH {i j:Int}:MR (.int i) (.int j) S=.ok (.bl (decide (i<=j))) S:=rfl
@[simp] theorem JO {i j:Int}:Ku (.int i) (.int j) S=.ok (.bl (decide (j < i))) S:=rfl
@[simp] theorem JQ {i j:Int}:OU (.int i) (.int j) S=.ok (.bl (decide (j<=i))) S:=rfl
@[simp] theorem J5 {i j:Bool}:JG false (.bl i) (.bl j) S=.ok (.bl (i == j)) S:=rfl
@[simp] theorem DB {i j:Bool}:JG true (.bl i) (.bl j) S=.ok (.bl (i != j)) S:=rfl
@[simp] theorem Dw {i:Int}:rq (.int i) S=.ok (.int (-i)) S:=rfl
@[simp] theorem Ff {xs:List A}:iZ (.tup xs) S=.ok (.int xs.length) S:=rfl
@[simp] theorem Fp {xs:List A}:iZ (.frz xs) S=.ok (.int xs.length) S:=rfl
@[simp] theorem DF {n:Nat}:iZ (.ref n) S=opt (aC S n) λ xs=>.ok (.int xs.length) S:=rfl
@[simp] theorem EM {i:Int}:Pd (.int i) S=.ok (.int (if i < 0 then -i else i)) S:=rfl
@[simp] theorem AU {i j:Int}:FI (.int i) (.int j) S=.ok (.int (if j > i then j else i)) S:=rfl
@[simp] theorem yp {i j:Int}:DK (.int i) (.int j) S=.ok (.int (if j < i then j else i)) S:=rfl
@[simp] theorem Af {i:Int}:yW (.int i) S=.ok (.int i) S:=rfl
@[simp] theorem zv {i:Bool}:yW (.bl i) S=.ok (.int (if i then 1 else 0)) S:=rfl
@[simp] theorem rX {i j:Int}:uh (.int i) (.int j) S=.ok (.rng i j) S:=rfl
@[simp] theorem JA {xs:List A}{i:Int}:gW (.tup xs) (.int i) S=opt (gF xs i) λ x=>.ok x S:=rfl
@[simp] theorem Ke {xs:List A}{i:Int}:gW (.frz xs) (.int i) S=opt (gF xs i) λ x=>.ok x S:=rfl
@[simp] theorem Kl {n:Nat}{i:Int}:gW (.ref n) (.int i) S=opt (aC S n) λ xs=>opt (gF xs i) λ x=>.ok x S:=rfl
@[simp] theorem EA {n:Nat}{k:Int}:vm (.ref n) (.int k) a S=opt (aC S n) λ xs=>opt (rF xs.length k) λ j=>.ok () (S.set n (.lst (xs.set j a))):=rfl
@[simp] theorem FH {n:Nat}{i:Int}:HV (.ref n) (.int i) S=opt (aC S n) λ xs=>gd (0<=i) (opt (xs[i.toNat]?) λ x=>.ok x S):=rfl
theorem BZ {i j:Int}(h:sQ i j):kQ (.rng i j) S=.ok (.ref S.length) (S++[.lst ((fD i j).map .int)]):=eV h
@[simp] theorem AK {xs:List A}:kQ (.tup xs) S=.ok (.ref S.length) (S++[.lst xs]):=rfl
@[simp] theorem Aq {xs:List A}:kQ (.frz xs) S=.ok (.ref S.length) (S++[.lst xs]):=rfl
@[simp] theorem ze {n:Nat}:kQ (.ref n) S=opt (aC S n) λ xs=>.ok (.ref S.length) (S++[.lst xs]):=rfl
@[simp] theorem uL {xs:List A}:nK (.tup xs) S=.ok (.tup xs) S:=rfl
@[simp] theorem vN {n:Nat}:nK (.ref n) S=opt (aC S n) λ xs=>.ok (.tup xs) S:=rfl
@[simp] theorem El {xs:List A}:Nf (.tup xs) S=.ok (.tup xs.reverse) S:=rfl
@[simp] theorem F_ {n:Nat}:Nf (.ref n) S=opt (aC S n) λ xs=>.ok (.ref S.length) (S++[.lst xs.reverse]):=rfl
@[simp] theorem JP {n:Nat}{l u:Option Int}:DO (.ref n) l u S=opt (aC S n) λ xs=>.ok (.ref S.length) (S++[.lst (qh xs l u)]):=rfl
@[simp] theorem qz {n:Nat}:kH (.ref n) [a] S=opt (aC S n) λ xs=>gd (xs.length < sizeLine) (.ok .non (S.set n (.lst (xs++[a])))):=rfl
@[simp] theorem FA {b:Bool}:A.MU (.bl b) S=some b:=rfl
@[simp] theorem A_ {i:Int}:A.MU (.int i) S=some (i != 0):=rfl
theorem wX {o:O}:(S++[o])[S.length]?=some o:=by simp
@[simp] theorem aV {xs:List A}:aC (S++[.lst xs]) S.length=some xs:=lV wX
theorem aY {o:O}{n:Nat}{xs:List A}(h:aC S n=some xs):aC (S++[o]) n=some xs:=by
 have h':=aS h;exact lV (by rw [getElem?_append_left (List.getElem?_eq_some_iff.mp h').1];exact h')
theorem iD {n:Nat}{xs:List A}(h:aC S n=some xs):n < S.length:=(List.getElem?_eq_some_iff.mp (aS h)).1
theorem gz {n:Nat}{ys:List A}(h:n < S.length):aC (S.set n (.lst ys)) n=some ys:=lV (getElem?_set_self h)
theorem di {n m:Nat}{ys:List A}(h:n≠m):aC (S.set n (.lst ys)) m=aC S m:=by unfold aC;rw [getElem?_set_ne h]
theorem pL {xs:List A}{i:Int}{k:Nat}{x:A}(h:i=k)(hx:xs[k]?=some x):gF xs i=some x:=by rw [h];exact IJ hx
theorem uA {n:Nat}{i:Int}{k:Nat}(h:i=k)(hk:k < n):rF n i=some k:=by
 subst h;unfold rF;rw [if_pos (by omega),if_pos (by omega)];simp
end
structure Kp (b:Nat->Prop)(S S':aA):Prop where
 len:S.length<=S'.length
 obj:∀ (n:Nat) (o:O),¬ b n->S[n]?=some o->S'[n]?=some o
noncomputable abbrev eT:=Kp λ _=>False
theorem Kp.lst {b:Nat->Prop}{S S':aA}(h:Kp b S S')(n:Nat)(xs:List A)(hb:¬ b n)(e:aC S n=some xs):aC S' n=some xs:=lV (h.obj n _ hb (aS e))
theorem Kp.dct {b:Nat->Prop}{S S':aA}(h:Kp b S S')(n:Nat)(xs:List (List Int×A))(hb:¬ b n)(e:bA S n=some xs):bA S' n=some xs:=mO (h.obj n _ hb (ff e))
theorem Kp.refl {b:Nat->Prop}{S:aA}:Kp b S S:=⟨Nat.le_refl _,λ _ _ _ h=>h⟩
theorem Kp.trans {b:Nat->Prop}{S S1 S2:aA}(h:Kp b S S1)(h':Kp b S1 S2):Kp b S S2:=⟨Nat.le_trans h.len h'.len,λ n xs hb e=>h'.obj n xs hb (h.obj n xs hb e)⟩
theorem tD {S:aA}{n:Nat}{o:O}(e:S[n]?=some o):n < S.length:=(List.getElem?_eq_some_iff.mp e).1
theorem Kp.lay {b:Nat->Prop}{S S1:aA}{o:O}(h:Kp b S S1):Kp b S (S1++[o]):=⟨Nat.le_trans h.len (by simp),λ n xs hb e=>by
 have:=h.obj n xs hb e;rw [getElem?_append_left (tD this)];exact this⟩
theorem Kp.tH {b:Nat->Prop}{S S1:aA}{m:Nat}{o:O}(h:Kp b S S1)(hm:b m\/S.length<=m):Kp b S (S1.set m o):=⟨by rw [length_set];exact h.len,λ n xs hb e=>by
 have:m≠n:=λ z=>by
  subst z
  rcases hm with z | z
  ·exact hb z
  ·exact absurd (tD e) (by omega)
 rw [getElem?_set_ne this];exact h.obj n xs hb e⟩
theorem Kp.set {b:Nat->Prop}{S S1:aA}{m:Nat}{ys:List A}(h:Kp b S S1)(hm:b m\/S.length<=m):Kp b S (S1.set m (.lst ys)):=h.tH hm
theorem Kp.mono {b c:Nat->Prop}{S S1:aA}(h:Kp b S S1)(hb:∀ n,n < S.length->b n->c n):Kp c S S1:=⟨h.len,λ n xs hc e=>h.obj n xs (λ z=>hc (hb n (tD e) z)) e⟩
theorem Kp.of0 {b:Nat->Prop}{S S1:aA}(h:eT S S1):Kp b S S1:=h.mono λ _ _ z=>z.elim
theorem Kp.old {b c:Nat->Prop}{S S1 S2:aA}(h:Kp b S S1)(h':Kp c S1 S2)(hc:∀ n,n < S.length->¬ b n->¬ c n):Kp b S S2:=⟨Nat.le_trans h.len h'.len,λ n xs hb e=>h'.obj n xs (hc n (tD e) hb) (h.obj n xs hb e)⟩
theorem pJ {t:Te}{c:Sm}(Inv:List A->aA->Prop)(μ:List A->aA->Nat)(Post:RS->Prop)
  (h:∀ τ S,Inv τ S->(∃ S1,t τ S=.ok false S1/\Post (.nx τ S1))\/(∃ S1,t τ S=.ok true S1/\((∃ τ' S',c τ S1=.nx τ' S'/\Inv τ' S'/\μ τ' S' < μ τ S)\/(∃ a S',c τ S1=.rt a S'/\Post (.rt a S'))))) :
  ∀ n τ S,Inv τ S->μ τ S < n->Post (eY t c n τ S)
 | 0,_,_,_,hn=>absurd hn (not_lt_zero _)
 | n+1,τ,S,hi,hn=>by
  unfold eY
  rcases h τ S hi with ⟨S1,e,q⟩ | ⟨S1,e,⟨τ',S',e2,hi',hm⟩ | ⟨a,S',e2,q⟩⟩
  ·rw [e];exact q
  ·rw [e];show Post (match c τ S1 with
    | .nx τ' S'=>eY t c n τ' S'
    | .ct τ' S'=>eY t c n τ' S'
    | .bk τ' S'=>.nx τ' S'
    | r=>r)
   rw [e2];exact pJ Inv μ Post h n τ' S' hi' (by omega)
  ·rw [e];show Post (match c τ S1 with
    | .nx τ' S'=>eY t c n τ' S'
    | .ct τ' S'=>eY t c n τ' S'
    | .bk τ' S'=>.nx τ' S'
    | r=>r)
   rw [e2];exact q
theorem tU {s:Src}{g:Tg}{c:Sm}(Inv:Nat->List A->aA->Prop)(Post:RS->Prop)
  (step:∀ i τ S,i < s.k->Inv i τ S->∃ x τ1 S1,s.get i S=some x/\g x τ S=.ok τ1 S1/\((∃ τ' S',c τ1 S1=.nx τ' S'/\Inv (i+1) τ' S')\/(∃ a S',c τ1 S1=.rt a S'/\Post (.rt a S'))))
  (fin:∀ τ S,Inv s.k τ S->s.fin S=true/\Post (.nx τ S)):∀ k i τ S,k+i=s.k->Inv i τ S->Post (gp s g c k i τ S)
 | 0,i,τ,S,hk,hi=>by
  have:i=s.k:=by omega
  subst this;obtain ⟨hf,q⟩:=fin τ S hi;unfold gp;rw [if_pos hf];exact q
 | k+1,i,τ,S,hk,hi=>by
  obtain ⟨x,τ1,S1,hx,hg,h⟩:=step i τ S (by omega) hi;unfold gp;rw [hx];show Post (RS.of (g x τ S) λ τ1 S1=>match c τ1 S1 with
   | .nx τ' S'=>gp s g c k (i+1) τ' S'
   | .ct τ' S'=>gp s g c k (i+1) τ' S'
   | .bk τ' S'=>.nx τ' S'
   | r=>r)
  rw [hg];show Post (match c τ1 S1 with
   | .nx τ' S'=>gp s g c k (i+1) τ' S'
   | .ct τ' S'=>gp s g c k (i+1) τ' S'
   | .bk τ' S'=>.nx τ' S'
   | r=>r)
  rcases h with ⟨τ',S',e,hi'⟩ | ⟨a,S',e,q⟩
  ·rw [e];exact tU Inv Post step fin k (i+1) τ' S' (by omega) hi'
  ·rw [e];exact q
theorem ji {lo hi:Int}{j:Nat}{c:Sm}{src:Ic}{τ:List A}{S S1:aA}(hs:src τ S=.ok (j7 lo hi) S1)(Inv:Nat->List A->aA->Prop)(Post:RS->Prop)(h0:Inv 0 τ S1)
  (step:∀ (i:Nat) τ S,(i:Int) < hi - lo->Inv i τ S->(∃ τ' S',c (τ.set j (.int (lo+i))) S=.nx τ' S'/\Inv (i+1) τ' S')\/(∃ a S',c (τ.set j (.int (lo+i))) S=.rt a S'/\Post (.rt a S')))
  (fin:∀ τ S,Inv (hi - lo).toNat τ S->Post (.nx τ S)):Post (cI src (bQ j) c τ S):=by
 unfold cI;rw [hs];refine tU (s:=j7 lo hi) Inv Post (λ i τ S hi' h=>?_) (λ τ S h=>⟨rfl,fin τ S h⟩) _ 0 τ S1 rfl h0;have hi':i < (hi - lo).toNat:=hi';exact ⟨.int (lo+i),_,S,if_pos hi',rfl,step i τ S (by omega) h⟩
theorem zz {xs:List A}{g:Tg}{c:Sm}{src:Ic}{τ:List A}{S S1:aA}(hs:src τ S=.ok (jo xs) S1)(Inv:Nat->List A->aA->Prop)(Post:RS->Prop)(h0:Inv 0 τ S1)
  (step:∀ (i:Nat) x τ S,xs[i]?=some x->Inv i τ S->∃ τ1 S1,g x τ S=.ok τ1 S1/\((∃ τ' S',c τ1 S1=.nx τ' S'/\Inv (i+1) τ' S')\/(∃ a S',c τ1 S1=.rt a S'/\Post (.rt a S'))))
  (fin:∀ τ S,Inv xs.length τ S->Post (.nx τ S)):Post (cI src g c τ S):=by
 unfold cI;rw [hs];refine tU (s:=jo xs) Inv Post (λ i τ S hi' h=>?_) (λ τ S h=>⟨rfl,fin τ S h⟩) _ 0 τ S1 rfl h0;have hi':i < xs.length:=hi';obtain ⟨τ1,S1,e,q⟩:=step i xs[i] τ S (List.getElem?_eq_getElem hi') h;exact ⟨xs[i],τ1,S1,List.getElem?_eq_getElem hi',e,q⟩
theorem kg {n:Nat}{xs:List A}{g:Tg}{c:Sm}{src:Ic}{τ:List A}{S S1:aA}(hs:src τ S=.ok (b_ n xs.length) S1)(Inv:Nat->List A->aA->Prop)(Post:RS->Prop)(h0:Inv 0 τ S1)(hl:∀ i τ S,Inv i τ S->aC S n=some xs)
  (step:∀ (i:Nat) x τ S,xs[i]?=some x->Inv i τ S->∃ τ1 S1,g x τ S=.ok τ1 S1/\((∃ τ' S',c τ1 S1=.nx τ' S'/\Inv (i+1) τ' S')\/(∃ a S',c τ1 S1=.rt a S'/\Post (.rt a S'))))
  (fin:∀ τ S,Inv xs.length τ S->Post (.nx τ S)):Post (cI src g c τ S):=by
 unfold cI;rw [hs];refine tU (s:=b_ n xs.length) Inv Post (λ i τ S hi' h=>?_) (λ τ S h=>⟨?_,fin τ S h⟩) _ 0 τ S1 rfl h0
 ·have hi':i < xs.length:=hi';obtain ⟨τ1,S1,e,q⟩:=step i xs[i] τ S (List.getElem?_eq_getElem hi') h;exact ⟨xs[i],τ1,S1,by show (aC S n).bind _=_;rw [hl i τ S h];exact List.getElem?_eq_getElem hi',e,q⟩
 ·show (match aC S n with
   | some ys=>decide (ys.length<=xs.length)
   | none=>false)=true
  rw [hl _ τ S h];exact decide_eq_true (Nat.le_refl _)
@[simp] theorem fR {c:Ex}{τ:List A}{S S1:aA}{j:Int}(h:c τ S=.ok (.int j) S1)(hb:bnd j):gI c τ S=.ok (j7 0 j) S1:=by
 unfold gI;rw [h];exact eV hb
theorem wH {c d:Ex}{τ:List A}{S S1 S2:aA}{i j:Int}(h:c τ S=.ok (.int i) S1)(h':d τ S1=.ok (.int j) S2)(hb:bnd i)(hb':bnd j):oB c d τ S=.ok (j7 i j) S2:=by
 unfold oB;rw [h];show (d τ S1).bind _=_;rw [h'];exact eV ⟨hb,hb'⟩
theorem K_ {c:Ex}{τ:List A}{S S1:aA}{xs:List A}(h:c τ S=.ok (.tup xs) S1):dJ c τ S=.ok (jo xs) S1:=by unfold dJ;rw [h];rfl
theorem dR {c:Ex}{τ:List A}{S S1:aA}{n:Nat}{xs:List A}(h:c τ S=.ok (.ref n) S1)(hl:aC S1 n=some xs):dJ c τ S=.ok (b_ n xs.length) S1:=by
 unfold dJ;rw [h];show opt (aC S1 n) _=_;rw [hl];rfl
theorem pe {s:Src}{g:Tg}{t:Te}{e:Ex}{P:aA->Prop}{T:List A->Prop}(it:Nat->A)(p:Nat->Bool)(f:Nat->A)
  (hget:∀ i S,i < s.k->P S->s.get i S=some (it i)) (hfin:∀ S,P S->s.fin S=true)
  (step:∀ i τ S,i < s.k->T τ->P S->∃ τ1 S1 S2,g (it i) τ S=.ok τ1 S1/\t τ1 S1=.ok (p i) S2/\T τ1/\(p i=false->P S2)/\(p i=true->∃ S3,e τ1 S2=.ok (f i) S3/\P S3)) :
  ∀ k i τ S,k+i=s.k->T τ->P S->∃ S',d_ s g t e k i τ S=.ok (((List.range' i k).filter p).map f) S'/\P S'
 | 0,i,τ,S,hk,hT,hP=>⟨S,by unfold d_;rw [if_pos (hfin S hP)];rfl,hP⟩
 | k+1,i,τ,S,hk,hT,hP=>by
  obtain ⟨τ1,S1,S2,hg,ht,hT1,hF,hTr⟩:=step i τ S (by omega) hT hP;unfold d_;rw [hget i S (by omega) hP,dm,hg,R.dg,ht,R.dg,List.range'_succ,filter_cons]
  cases hp:p i with
  | false=>
   obtain ⟨S',h1,h2⟩:=pe it p f hget hfin step k (i+1) τ1 S2 (by omega) hT1 (hF hp);exact ⟨S',by simpa using h1,h2⟩
  | true=>
   obtain ⟨S3,he,hP3⟩:=hTr hp;obtain ⟨S',h1,h2⟩:=pe it p f hget hfin step k (i+1) τ1 S3 (by omega) hT1 hP3;refine ⟨S',?_,h2⟩;show (e τ1 S2).jG _=_;rw [he,R.dg,h1];rfl
theorem rZ {s:Src}{cap:List (Option Nat)}{src:Ic}{t:Te}{e:Ex}{τ:List A}{S S1:aA}(hs:src τ S=.ok s S1)(it:Nat->A)(p:Nat->Bool)(f:Nat->A)(hget:∀ i,i < s.k->s.get i S1=some (it i))(hfin:s.fin S1=true)
  (ht:∀ i,i < s.k->t (it i::dz cap τ) S1=.ok (p i) S1) (he:∀ i,i < s.k->p i=true->e (it i::dz cap τ) S1=.ok (f i) S1) (hl:s.k<=16777216) :
  cJ (none::cap) src (bQ 0) t e τ S=.ok (.ref S1.length) (S1++[.lst (((List.range s.k).filter p).map f)]):=by
 unfold cJ;rw [hs,R.d8];obtain ⟨S',h1,h2⟩:=pe (s:=s) (g:=bQ 0) (t:=t) (e:=e) (P:=λ S=>S=S1) (T:=λ τ'=>∃ y,τ'=y::dz cap τ) it p f (λ i S hi h=>by subst h;exact hget i hi) (λ S h=>by subst h;exact hfin)
  (λ i τ' S hi ⟨y,hy⟩ h=>by
   subst h hy;exact ⟨it i::dz cap τ,S,S,rfl,ht i hi,⟨_,rfl⟩,λ _=>rfl,λ hp=>⟨S,he i hi hp,rfl⟩⟩) s.k 0 (dz (none::cap) τ) S1 rfl ⟨_,rfl⟩ rfl
 subst h2;rw [h1,R.dg,List.range_eq_range'];refine bI ?_;rw [length_map];refine Nat.le_trans (length_filter_le _ _) ?_;rw [List.length_range'];exact hl
theorem ja {α β:Type}(xs:List α)(p:α->Bool)(f:α->β):∀ (d:α) ,(((List.range xs.length).filter λ i=>p (xs.getD i d)).map λ i=>f (xs.getD i d))=(xs.filter p).map f:=by
 intro d
 induction xs with
 | nil=>rfl
 | cons x xs ih=>
  rw [length_cons,List.range_succ_eq_map,filter_cons,filter_cons];have e:((List.filter (λ i=>p ((x::xs).getD i d)) (List.map Nat.succ (List.range xs.length))).map λ i=>f ((x::xs).getD i d))=(xs.filter p).map f:=by
   rw [filter_map,List.map_map];rw [<- ih];rfl
  show List.map _ (if p x=true then _ else _)=List.map f (if p x=true then _ else _);by_cases hp:p x=true
  ·rw [if_pos hp,if_pos hp,map_cons,map_cons,e];rfl
  ·rw [if_neg hp,if_neg hp,e]
theorem pQ {lo hi:Int}{cap:List (Option Nat)}{src:Ic}{t:Te}{e:Ex}{τ:List A}{S S1:aA}(hs:src τ S=.ok (j7 lo hi) S1)(p:Int->Bool)(f:Int->A)
  (ht:∀ k,lo<=k->k < hi->t (.int k::dz cap τ) S1=.ok (p k) S1) (he:∀ k,lo<=k->k < hi->p k=true->e (.int k::dz cap τ) S1=.ok (f k) S1) (hl:(hi - lo).toNat<=16777216) :
  cJ (none::cap) src (bQ 0) t e τ S=.ok (.ref S1.length) (S1++[.lst (((fD lo hi).filter p).map f)]):=by
 rw [rZ hs (λ i=>.int (lo+i)) (λ i=>p (lo+i)) (λ i=>f (lo+i)) (λ i hi'=>if_pos hi') rfl (λ i hi'=>ht _ (by omega) (by have:i < (hi - lo).toNat:=hi';omega)) (λ i hi'=>he _ (by omega) (by have:i < (hi - lo).toNat:=hi';omega)) hl];unfold fD;rw [filter_map,List.map_map];rfl
@[simp] theorem Gb {cap:List (Option Nat)}{τ:List A}:dz (none::cap) τ=.unb::dz cap τ:=rfl
@[simp] theorem Dl {cap:List (Option Nat)}{τ:List A}{j:Nat}:dz (some j::cap) τ=τ.getD j .unb::dz cap τ:=rfl
@[simp] theorem uW {τ:List A}:dz [] τ=[]:=rfl
theorem zL {x:A}{xs:List A}:gF (x::xs) 0=some x:=pL (k:=0) rfl rfl
theorem y_ {x y:A}{xs:List A}:gF (x::y::xs) 1=some y:=pL (k:=1) rfl rfl
theorem Ac {ns:List Int}{i:Int}{k:Nat}{x:Int}(h:i=k)(hx:ns[k]?=some x):gF (ns.map A.int) i=some (.int x):=pL h (by rw [List.getElem?_map,hx];rfl)
theorem gf {j:Int}(h:-4611686018427387904<=j)(h':j < 4611686018427387904):bnd j:=⟨by omega,by omega⟩
theorem FO {i j:Int}(h1:-1000000<=i)(h2:i<=1000000)(h3:-1000000<=j)(h4:j<=1000000)(h5:j - i<=1000):sQ i j:=⟨⟨by omega,by omega,by omega,by omega⟩,by omega⟩
theorem ints_map:∀ (ns:List Int),A.ints (ns.map .int)=some ns
 | []=>rfl
 | n::ns=>by show (A.ints (ns.map .int)).map (n::·)=_;rw [ints_map ns];rfl
theorem kc {S:aA}{n:Nat}:∀ (xs ys:List Int),gR (iY S (n+1)) (xs.map .int) (ys.map .int)=some (decide (xs=ys))
 | [],[]=>rfl
 | [],_::_=>rfl
 | _::_,[]=>rfl
 | x::xs,y::ys=>by
  show (iY S (n+1) (.int x) (.int y)).bind _=_;show Option.bind (some (x == y)) _=_;show Option.map _ (gR (iY S (n+1)) (xs.map .int) (ys.map .int))=_;rw [kc xs ys];show some (x == y && decide (xs=ys))=_;by_cases h1:x=y <;> by_cases h2:xs=ys <;> simp [h1,h2]
@[simp] theorem Ko {S:aA}{x y:Bool}:je false (.bl x) (.bl y) S=.ok (.bl (x == y)) S:=rfl
@[simp] theorem J2 {S:aA}{x y:Bool}:je true (.bl x) (.bl y) S=.ok (.bl (!(x == y))) S:=rfl
@[simp] theorem Kh {S:aA}{x y:Int}:je false (.int x) (.int y) S=.ok (.bl (x == y)) S:=rfl
@[simp] theorem JW {S:aA}{x y:Int}:je true (.int x) (.int y) S=.ok (.bl (!(x == y))) S:=rfl
@[simp] theorem yI {S:aA}:JG false .non .non S=.ok (.bl true) S:=rfl
@[simp] theorem zf {S:aA}{xs:List A}:JG false (.tup xs) .non S=.ok (.bl false) S:=rfl
@[simp] theorem yJ {S:aA}{n:Nat}:JG false (.ref n) .non S=.ok (.bl false) S:=rfl
@[simp] theorem vd {S:aA}:JG true .non .non S=.ok (.bl false) S:=rfl
@[simp] theorem vF {S:aA}{xs:List A}:JG true (.tup xs) .non S=.ok (.bl true) S:=rfl
@[simp] theorem u7 {S:aA}{n:Nat}:JG true (.ref n) .non S=.ok (.bl true) S:=rfl
@[simp] theorem yZ {S:aA}{x:A}{c:String}:pW x (.ty c) S=opt (x.kd S) λ k=>opt (oG k c) λ b=>.ok (.bl b) S:=rfl
@[simp] theorem JN {S:aA}{b:Bool}:A.kd (.bl b) S=some .bl:=rfl
@[simp] theorem Gm {S:aA}{b:Int}:A.kd (.int b) S=some .int:=rfl
@[simp] theorem Fd {S:aA}{b:List A}:A.kd (.tup b) S=some .tup:=rfl
@[simp] theorem DM {S:aA}:A.kd .non S=some .non:=rfl
@[simp] theorem DC {S:aA}{b:Str}:A.kd (.str b) S=some .str:=rfl
@[simp] theorem FN {S:aA}{n:Nat}:A.kd (.ref n) S=(aC S n).map λ _=>.lst:=rfl
@[simp] theorem Gu {S:aA}:newL [] S=.ok (.ref S.length) (S++[.lst []]):=bI (by simp)
@[simp] theorem Fg {S:aA}{x0:A}:newL [x0] S=.ok (.ref S.length) (S++[.lst [x0]]):=bI (by simp)
@[simp] theorem DS {S:aA}{x0 x1:A}:newL [x0,x1] S=.ok (.ref S.length) (S++[.lst [x0,x1]]):=bI (by simp)
@[simp] theorem Eh {S:aA}{x0 x1 x2:A}:newL [x0,x1,x2] S=.ok (.ref S.length) (S++[.lst [x0,x1,x2]]):=bI (by simp)
@[simp] theorem E3 {S:aA}{x0 x1 x2 x3:A}:newL [x0,x1,x2,x3] S=.ok (.ref S.length) (S++[.lst [x0,x1,x2,x3]]):=bI (by simp)
@[simp] theorem FP {S:aA}{x0 x1 x2 x3 x4:A}:newL [x0,x1,x2,x3,x4] S=.ok (.ref S.length) (S++[.lst [x0,x1,x2,x3,x4]]):=bI (by simp)
@[simp] theorem FW {S:aA}{x0 x1 x2 x3 x4 x5:A}:newL [x0,x1,x2,x3,x4,x5] S=.ok (.ref S.length) (S++[.lst [x0,x1,x2,x3,x4,x5]]):=bI (by simp)
@[simp] theorem Dr {S:aA}{x0 x1 x2 x3 x4 x5 x6:A}:newL [x0,x1,x2,x3,x4,x5,x6] S=.ok (.ref S.length) (S++[.lst [x0,x1,x2,x3,x4,x5,x6]]):=bI (by simp)
@[simp] theorem wN {S:aA}{x0 x1 x2 x3 x4 x5 x6 x7:A}:newL [x0,x1,x2,x3,x4,x5,x6,x7] S=.ok (.ref S.length) (S++[.lst [x0,x1,x2,x3,x4,x5,x6,x7]]):=bI (by simp)
@[simp] theorem Ed {S:aA}{x0 x1 x2 x3 x4 x5 x6 x7 x8:A}:newL [x0,x1,x2,x3,x4,x5,x6,x7,x8] S=.ok (.ref S.length) (S++[.lst [x0,x1,x2,x3,x4,x5,x6,x7,x8]]):=bI (by simp)
@[simp] theorem yO {S:aA}{x0 x1 x2 x3 x4 x5 x6 x7 x8 x9:A}:newL [x0,x1,x2,x3,x4,x5,x6,x7,x8,x9] S=.ok (.ref S.length) (S++[.lst [x0,x1,x2,x3,x4,x5,x6,x7,x8,x9]]):=bI (by simp)
theorem fT {α:Type}{n:Nat}{r:R α}(h:n<=16777216):gd (n<=sizeLine) r=r:=eV (by rw [sizeLine_eq];exact h)
theorem lK {α:Type}{n:Nat}{r:R α}(h:n < 16777216):gd (n < sizeLine) r=r:=eV (by rw [sizeLine_eq];exact h)
theorem Kv {x:A}{xs:List A}:(x::xs).getD 0 .unb=x:=rfl
theorem JB {x:A}{xs:List A}{n:Nat}:(x::xs).getD (n+1) .unb=xs.getD n .unb:=rfl
theorem Og {x y:A}{xs:List A}:(x::xs).set 0 y=y::xs:=rfl
theorem sets {x y:A}{xs:List A}{n:Nat}:(x::xs).set (n+1) y=x::xs.set n y:=rfl
theorem rep0 {x:A}:List.replicate 0 x=[]:=rfl
theorem reps {x:A}{n:Nat}:List.replicate (n+1) x=x::List.replicate n x:=rfl
theorem NB {x:A}{xs ys:List A}:(x::xs)++ys=x::(xs++ys):=rfl
theorem N3 {ys:List A}:[]++ys=ys:=rfl
theorem M7 {S:aA}{n m:Nat}{xs ys:List A}(h:aC S n=some xs)(h':aC S m=some ys)(hl:xs.length+ys.length<=16777216):cj (.ref n) (.ref m) S=.ok (.ref S.length) (S++[.lst (xs++ys)]):=by
 show opt (aC S n) _=_;rw [h,dm,h',dm];exact eV (by rw [sizeLine_eq];exact hl)
theorem bD:type_of% (anI @R.d8 (anI @R.zR (anI @R.dg (anI @RS.of_ok (anI @RS.JU (anI @dm (anI @yQ (anI @z0 (anI @zQ (anI @zG (anI @Ah (anI @Ga (anI @AQ (anI @zo (anI @z_ (anI @A7 (anI @yG (anI @Km (anI @zS (anI @G7 (anI @zA (anI @Kg (anI @Dv (anI @z7 (anI @Bc (anI @Gv (anI @yC (anI @zT (anI @Ax (anI @GI (anI @EJ (anI @zC (anI @Gx (anI @wG (anI @Ae (anI @EY (anI @Ao (anI @u9 (anI @Ay (anI @AY (anI @uK (anI @C5 (anI @EH (anI @JL (anI @Kw (anI @Ge (anI @uV (anI @Aj (anI @uR (anI @Dy (anI @yq (anI @lst?_ref (anI @RS.CK (anI @RS.Fv (anI @RS.Fj (anI @RS.GX (anI @RS.G6 (anI @zp (anI @zW (anI @sI (anI @vM (anI @wI (anI @zF (anI @wB (anI @Gw (anI @Ai (anI @G8 (anI @Hf (anI @C4 (anI @GO (anI @CG (anI @GB (anI @yM (anI @z9 (anI @v_ (anI @RS.Dk (anI @RS.D_ (anI @RS.CV (anI @DJ (anI @GW (anI @Gq (anI @J0 (anI @JH (anI @JO (anI @JQ (anI @J5 (anI @DB (anI @Dw (anI @Ff (anI @Fp (anI @DF (anI @EM (anI @AU (anI @yp (anI @Af (anI @zv (anI @rX (anI @JA (anI @Ke (anI @Kl (anI @EA (anI @FH (anI @AK (anI @Aq (anI @ze (anI @uL (anI @vN (anI @El (anI @F_ (anI @JP (anI @qz (anI @FA (anI @A_ (anI @aV (anI @Gb (anI @Dl (anI @uW (anI @Ko (anI @J2 (anI @Kh (anI @JW (anI @yI (anI @zf (anI @yJ (anI @vd (anI @vF (anI @u7 (anI @yZ (anI @JN (anI @Gm (anI @Fd (anI @DM (anI @DC (anI @FN (anI @Gu (anI @Fg (anI @DS (anI @Eh (anI @E3 (anI @FP (anI @FW (anI @Dr (anI @wN (anI @Ed (anI @yO (anI @Kv (anI @JB (anI @Og (anI @sets (anI @rep0 (anI @reps (anI @NB (anI @N3 (anI @oZ (anI @yD (anI @E5 (anI @F0 (anI @J_ (anI @JI (anI @Eo (anI @CJ (anI @rR (anI @vn (anI @GC (anI @yt (anI @G1 (anI @zB (anI @GH (anI @JF (anI @JD (anI @zZ (anI @zP (anI @FY (anI @vq (anI @yV (anI @EW (anI @Eb (anI @E9 (anI @C_ (@GS)))))))))))))))))))))))))))))))))))))))))))))))))))))))))))))))))))))))))))))))))))))))))))))))))))))))))))))))))))))))))))))))))))))))))))))))))))))))))))))))))))))))))))))))))))):=anI @R.d8 (anI @R.zR (anI @R.dg (anI @RS.of_ok (anI @RS.JU (anI @dm (anI @yQ (anI @z0 (anI @zQ (anI @zG (anI @Ah (anI @Ga (anI @AQ (anI @zo (anI @z_ (anI @A7 (anI @yG (anI @Km (anI @zS (anI @G7 (anI @zA (anI @Kg (anI @Dv (anI @z7 (anI @Bc (anI @Gv (anI @yC (anI @zT (anI @Ax (anI @GI (anI @EJ (anI @zC (anI @Gx (anI @wG (anI @Ae (anI @EY (anI @Ao (anI @u9 (anI @Ay (anI @AY (anI @uK (anI @C5 (anI @EH (anI @JL (anI @Kw (anI @Ge (anI @uV (anI @Aj (anI @uR (anI @Dy (anI @yq (anI @lst?_ref (anI @RS.CK (anI @RS.Fv (anI @RS.Fj (anI @RS.GX (anI @RS.G6 (anI @zp (anI @zW (anI @sI (anI @vM (anI @wI (anI @zF (anI @wB (anI @Gw (anI @Ai (anI @G8 (anI @Hf (anI @C4 (anI @GO (anI @CG (anI @GB (anI @yM (anI @z9 (anI @v_ (anI @RS.Dk (anI @RS.D_ (anI @RS.CV (anI @DJ (anI @GW (anI @Gq (anI @J0 (anI @JH (anI @JO (anI @JQ (anI @J5 (anI @DB (anI @Dw (anI @Ff (anI @Fp (anI @DF (anI @EM (anI @AU (anI @yp (anI @Af (anI @zv (anI @rX (anI @JA (anI @Ke (anI @Kl (anI @EA (anI @FH (anI @AK (anI @Aq (anI @ze (anI @uL (anI @vN (anI @El (anI @F_ (anI @JP (anI @qz (anI @FA (anI @A_ (anI @aV (anI @Gb (anI @Dl (anI @uW (anI @Ko (anI @J2 (anI @Kh (anI @JW (anI @yI (anI @zf (anI @yJ (anI @vd (anI @vF (anI @u7 (anI @yZ (anI @JN (anI @Gm (anI @Fd (anI @DM (anI @DC (anI @FN (anI @Gu (anI @Fg (anI @DS (anI @Eh (anI @E3 (anI @FP (anI @FW (anI @Dr (anI @wN (anI @Ed (anI @yO (anI @Kv (anI @JB (anI @Og (anI @sets (anI @rep0 (anI @reps (anI @NB (anI @N3 (anI @oZ (anI @yD (anI @E5 (anI @F0 (anI @J_ (anI @JI (anI @Eo (anI @CJ (anI @rR (anI @vn (anI @GC (anI @yt (anI @G1 (anI @zB (anI @GH (anI @JF (anI @JD (anI @zZ (anI @zP (anI @FY (anI @vq (anI @yV (anI @EW (anI @Eb (anI @E9 (anI @C_ (@GS)))))))))))))))))))))))))))))))))))))))))))))))))))))))))))))))))))))))))))))))))))))))))))))))))))))))))))))))))))))))))))))))))))))))))))))))))))))))))))))))))))))))))))))))))))
theorem bools:(∀ b:Bool,cond false b b=b)/\(∀ (α:Type) (x y:α),cond false x y=y)/\(∀ (α:Type) (x y:α),cond true x y=x):=⟨λ _=>rfl,λ _ _ _=>rfl,λ _ _ _=>rfl⟩
theorem dQ:(∀ (x:Str) (xs:List Str),(x::xs).length=xs.length+1)/\([]:List Str).length=0/\(∀ (x:A) (xs:List A),(x::xs).length=xs.length+1)/\([]:List A).length=0:=⟨λ _ _=>rfl,rfl,λ _ _=>rfl,rfl⟩
section
variable {τ:List A} {S:aA}
theorem Ag {f:List A->aA->R A}{d:g_}:Bw f d τ S=(d τ S).bind f:=rfl
noncomputable def Qx (c:Str):Unit->aA->RS:=λ _ S1=>.ex c S1
theorem DY {c:Str}{u:Unit}:Qx c u S=.ex c S:=rfl
theorem sP {c:Str}{ps:List (Str ⊕ Ex)}:xP c ps τ S=RS.of (GP ps τ S) (Qx c):=rfl
theorem zX:GP [] τ S=.ok () S:=rfl
theorem A3 {x:Str}{ps:List (Str ⊕ Ex)}:GP (.inl x::ps) τ S=GP ps τ S:=rfl
noncomputable def Qf (ps:List (Str ⊕ Ex))(τ:List A):A->aA->R Unit:=λ v S1=>match v with
 | .int i=>gd (i.natAbs.log2 < 64) (GP ps τ S1)
 | _=>.no
theorem Az {e:Ex}{ps:List (Str ⊕ Ex)}:GP (.inr e::ps) τ S=(e τ S).bind (Qf ps τ):=rfl
theorem Nt {n:Nat}{ps:List (Str ⊕ Ex)}(h:n < 18446744073709551616):Qf ps τ (.int (n:Int)) S=GP ps τ S:=by
 show gd ((n:Int).natAbs.log2 < 64) _=_;refine Oj ?_;rw [Int.natAbs_natCast];by_cases z:n=0
 ·subst z;decide
 ·exact (Nat.log2_lt z).mpr h
noncomputable def RS.try (i n:Nat)(cs:List Str)(d:Sm):RS->RS
 | .ex x S1=>if x∈cs then IK i (d ((List.replicate n .unb).set i (.exn x)) S1) else .no
 | r=>r
theorem Be {i n:Nat}{cs:List Str}{c d:Sm}:vJ i n cs c d τ S=RS.try i n cs d (c τ S):=by
 unfold vJ RS.try;cases c τ S <;> rfl
theorem FF {i n:Nat}{cs:List Str}{d:Sm}:RS.try i n cs d (.nx τ S)=.nx τ S:=rfl
theorem CY {i n:Nat}{cs:List Str}{d:Sm}{a:A}:RS.try i n cs d (.rt a S)=.rt a S:=rfl
theorem Gn {i n:Nat}{x:Str}{cs:List Str}{d:Sm}:RS.try i n (x::cs) d (.ex x S)=IK i (d ((List.replicate n .unb).set i (.exn x)) S):=if_pos (.head _)
theorem Eg {i:Nat}{a:A}:IK i (.rt a S)=.rt a S:=rfl
theorem CS {i:Nat}:IK i (.nx τ S)=.nx (τ.set i .unb) S:=rfl
noncomputable def Na (f:Str->Option Bool):A->aA->R A:=λ v S1=>match v with
 | .exn x=>opt (f x) λ b=>.ok (.bl b) S1
 | _=>.no
theorem A2 {f:Str->Option Bool}{c:Ex}:ni f c τ S=(c τ S).bind (Na f):=rfl
theorem CM {x:Str}{b:Bool}{tb:List (Str×Bool)}:Na (BN ((x,b)::tb)) (.exn x) S=.ok (.bl b) S:=by
 show opt (List.lookup x ((x,b)::tb)) _=_;rw [lookup_cons,beq_self_eq_true];rfl
noncomputable def R.Et {α β:Type}(r:R α)(f:α->aA->R β):R β:=match r with
 | .ok a S=>f a S
 | _=>.no
theorem wm {α β:Type}{a:α}{f:α->aA->R β}:R.Et (.ok a S) f=f a S:=rfl
theorem yw {f:List A->aA->R A}{d:g_}:NC f d τ S=R.Et (d τ S) f:=by unfold NC R.Et;cases d τ S <;> rfl
noncomputable def RS.PN {α:Type}(r:R α)(f:α->aA->RS):RS:=match r with
 | .ok a S=>f a S
 | _=>.no
theorem Gp {α:Type}{a:α}{f:α->aA->RS}:RS.PN (.ok a S) f=f a S:=rfl
theorem z8 {t:Te}{c d:Sm}:Od t c d τ S=RS.PN (t τ S) (OQ c d τ):=by
 unfold Od RS.PN
 cases t τ S with
 | ok b S1=>cases b <;> rfl
 | ex _ _=>rfl
 | no=>rfl
noncomputable def RS.Dn (i:Nat)(cs:List Str)(d:Sm)(τ:List A):RS->RS
 | .ex x S1=>if x∈cs then IK i (d (τ.set i (.exn x)) S1) else .no
 | r=>r
theorem wD {i:Nat}{cs:List Str}{c d:Sm}:JY i cs c d τ S=RS.Dn i cs d τ (c τ S):=by
 unfold JY RS.Dn;cases c τ S <;> rfl
theorem zb {i:Nat}{cs:List Str}{d:Sm}{τ':List A}:RS.Dn i cs d τ (.nx τ' S)=.nx τ' S:=rfl
theorem Au {i:Nat}{cs:List Str}{d:Sm}{a:A}:RS.Dn i cs d τ (.rt a S)=.rt a S:=rfl
theorem zI {i:Nat}{x:Str}{cs:List Str}{d:Sm}:RS.Dn i (x::cs) d τ (.ex x S)=IK i (d (τ.set i (.exn x)) S):=if_pos (.head _)
theorem uY:A.Hh []=some []:=rfl
theorem ko {b:Bool}{xs:List A}:A.Hh (.bl b::xs)=(A.Hh xs).map (b::·):=rfl
end
theorem qR:type_of% (anI @Ag (anI @sP (anI @DY (anI @zX (anI @A3 (anI @Az (anI @Be (anI @FF (anI @CY (anI @Gn (anI @Eg (anI @CS (anI @A2 (anI @CM (anI @uY (anI @ko (anI @wm (anI @yw (anI @Gp (anI @z8 (anI @wD (anI @zb (anI @Au (anI @zI (trivial))))))))))))))))))))))))):=anI @Ag (anI @sP (anI @DY (anI @zX (anI @A3 (anI @Az (anI @Be (anI @FF (anI @CY (anI @Gn (anI @Eg (anI @CS (anI @A2 (anI @CM (anI @uY (anI @ko (anI @wm (anI @yw (anI @Gp (anI @z8 (anI @wD (anI @zb (anI @Au (anI @zI (trivial))))))))))))))))))))))))
end Am
namespace L2
open PySem PySem.Spec PyProof.Rows
section
variable {P:Program} {w:World} {A:Around} {E:Value->Shared->Prop} {s:Shared} {it d:Addr} {i ep:Nat} {es:Array DictEntry} {o:Obj}
theorem MC {Q:Option Value->Shared->Prop}(hi:s.heap.IsKeyIter it d i es.size ep)(ho:s.heap.get? d=some o)(hd:o.data=.dict es ep)(lt:i < es.size)
  (q:∀ h',h'.IsKeyIter it d (i+1) es.size ep->Heap.SameBut it s.heap h'->Q (some es[i].key) { s with heap:=h' }):wpAny (model P w) A (pyNext (.ref it)) Q E s:=by
 have ty:=hi.typeIs;obtain ⟨oi,hoi,hci,hdi⟩:=id hi;have own:Builtin.Dict_items.ownsTuple "dict_keyiterator" = false:=by decide
 have nn:¬ ((Value.ref d == Value.none)=true):=Bool.false_ne_true;have n0:¬ ((i:Int) < 0):=by omega
 unfold pyNext;refine wpAny_bind (wpAny_attempt (wpAny_callSpecial?_slot (name:=Str.ofString "__next__") ty PySem.F.slot_dict_keyiterator_next (wpAny_call_entry PySem.F.slot_dict_keyiterator_next ty PySem.F.entry_dict_keyiterator_next ?_ (PySem.F.args_dict_keyiterator_next_1 _))));refine wpAny_bind (wpAny_pure (wpAny_bind (wpAny_bind ?_)))
 first
  | refine wpAny_bind (wpAny_typeNameOfWhole_keyiter ty (wpAny_pure (wpAny_bind (wpAny_fieldsOf hoi hdi ?_))))
  | refine wpAny_bind (wpAny_typeNameOf_keyiter ty (wpAny_pure (wpAny_bind (wpAny_fieldsOf hoi hdi ?_))))
 simp only [own,if_false,false_eq_true];show wpAny (model P w) _ (if (Value.ref d == Value.none)=true then _ else _) _ _ s;rw [if_neg nn];refine wpAny_bind (wpAny_pure (wpAny_bind (wpAny_dictEntries ho hd ?_)));rw [if_neg (show ¬ _ by simp)];refine wpAny_bind (wpAny_pure (wpAny_bind (wpAny_dictEpoch ho hd ?_)));rw [if_neg (show ¬ _ by simp)];refine wpAny_pure ?_;simp only [n0,if_false,toNat_natCast,Array.getElem?_eq_getElem lt];refine wpAny_bind ?_
 first
  | refine wpAny_bind (wpAny_typeNameOfWhole_keyiter ty (wpAny_pure (wpAny_bind (wpAny_isOneOf_keyiter ty ?_))))
  | refine wpAny_bind (wpAny_typeNameOf_keyiter ty (wpAny_pure (wpAny_bind (wpAny_isOneOf_keyiter ty ?_))))
 show wpAny (model P w) _ (setField (.ref it) 1 (rawInt ((i:Int)+1)) >>= _) _ _ s;refine wpAny_bind (wpAny_setField hoi hdi (show _ by simp) ?_);have hi':(s.heap.update it (Obj.mapFields λ fs=>fs.setIfInBounds 1 (rawInt ((i:Int)+1)))).IsKeyIter it d (i+1) es.size ep:=
  ⟨_,get?_update_self _ hoi (Obj.isFreed_of_fields (Obj.data_mapFields hdi _)),(Obj.cls_mapFields ..).trans hci,by
   rw [Obj.data_mapFields hdi];simp [rawInt]⟩
 have ty':Shared.TypeIs { s with heap:=s.heap.update it (Obj.mapFields λ fs=>fs.setIfInBounds 1 (rawInt ((i:Int)+1))) } (.ref it) "dict_keyiterator" := Heap.IsKeyIter.typeIs (s:={ s with heap:=_ }) hi';refine wpAny_bind (wpAny_holding (wpAny_bind (wpAny_isOneOf_keyiter ty' ?_)));show wpAny (model P w) _ (pure es[i].key) _ _ _;exact wpAny_pure (wpAny_pure ⟨_,rfl,wpAny_pure (q _ hi' (Heap.SameBut.update ..))⟩)
theorem Jb {Q:Option Value->Shared->Prop}(hh:A.handled=none)(hi:s.heap.IsKeyIter it d i es.size ep)(ho:s.heap.get? d=some o)(hd:o.data=.dict es ep)(ge:es.size<=i)
  (q:∀ h',Heap.ExtBut it s.heap h'->Q none { s with heap:=h' }):wpAny (model P w) A (pyNext (.ref it)) Q E s:=by
 have ty:=hi.typeIs;obtain ⟨oi,hoi,hci,hdi⟩:=id hi;have own:Builtin.Dict_items.ownsTuple "dict_keyiterator" = false:=by decide
 have nn:¬ ((Value.ref d == Value.none)=true):=Bool.false_ne_true;have n0:¬ ((i:Int) < 0):=by omega
 unfold pyNext;refine wpAny_bind (wpAny_attempt (wpAny_callSpecial?_slot (name:=Str.ofString "__next__") ty PySem.F.slot_dict_keyiterator_next (wpAny_call_entry PySem.F.slot_dict_keyiterator_next ty PySem.F.entry_dict_keyiterator_next ?_ (PySem.F.args_dict_keyiterator_next_1 _))));refine wpAny_bind (wpAny_pure (wpAny_bind (wpAny_bind ?_)))
 first
  | refine wpAny_bind (wpAny_typeNameOfWhole_keyiter ty (wpAny_pure (wpAny_bind (wpAny_fieldsOf hoi hdi ?_))))
  | refine wpAny_bind (wpAny_typeNameOf_keyiter ty (wpAny_pure (wpAny_bind (wpAny_fieldsOf hoi hdi ?_))))
 simp only [own,if_false,false_eq_true];show wpAny (model P w) _ (if (Value.ref d == Value.none)=true then _ else _) _ _ s;rw [if_neg nn];refine wpAny_bind (wpAny_pure (wpAny_bind (wpAny_dictEntries ho hd ?_)));rw [if_neg (show ¬ _ by simp)];refine wpAny_bind (wpAny_pure (wpAny_bind (wpAny_dictEpoch ho hd ?_)));rw [if_neg (show ¬ _ by simp)];refine wpAny_pure ?_;simp only [n0,if_false,toNat_natCast,Array.getElem?_eq_none ge];refine wpAny_bind ?_
 first
  | refine wpAny_bind (wpAny_typeNameOfWhole_keyiter ty (wpAny_pure ?_))
  | refine wpAny_bind (wpAny_typeNameOf_keyiter ty (wpAny_pure ?_))
 show wpAny (model P w) _ (setField (.ref it) 0 .none >>= _) _ _ s;refine wpAny_bind (wpAny_setField hoi hdi (show _ by simp) ?_);show wpAny (model P w) _ (newExc (.type "StopIteration") [] >>= _) _ _ _;refine wpAny_bind ?_;simp only [newExc,newTuple];refine wpAny_bind (wpAny_newObj_type (wpAny_bind (m:=firstArgMember _ _) (wpAny_of_eq (a:=Value.none) (by first | rfl | (simp only [firstArgMember];rfl)) (wpAny_newObj_type ?_ (by size_fits)))) (by size_fits));simp only [raiseNew];have hn:A.in1.handled=none:=hh;refine wpAny_bind (wpAny_handled (?_));rw [hn];refine wpAny_bind (wpAny_pure (wpAny_throw (?_)));refine wpAny_bind (wpAny_isInstance (b:=true) (T := "StopIteration") ⟨_,get?_push_size _ rfl,rfl⟩ isSubtype_stop (wpAny_pure (q _ (((Heap.SameBut.update ..).extBut.push _).push _))))
theorem yk {Q:Value->Shared->Prop}(ty:s.TypeIs (.ref d) "dict")(hs:(d == sysModules)=false)(ho:s.heap.get? d=some o)(hd:o.data=.dict es ep)
  (q:Q (.ref s.heap.objs.size) { s with heap:=s.heap.push { cls:=.type "dict_keyiterator",data:=.fields #[.ref d,.int 0 0,.int es.size 0,.int ep 0] } }):wpAny (model P w) A (pyIter (.ref d)) Q E s:=by
 refine wpAny_pyIter_slot ty PySem.F.slot_dict_iter (wpAny_call_entry PySem.F.slot_dict_iter ty PySem.F.entry_dict_iter ?_ (PySem.F.args_dict_iter_1 _));delta Builtin.«dict.__iter__»;refine wpAny_bind ?_;delta Builtin.Dict.dictSlotNone;refine wpAny_bind (wpAny_notOrdered_dict ty ?_);show wpAny (model P w) _ (pure (Value.ref d)) _ _ s;refine wpAny_pure ?_;show wpAny (model P w) _ (Builtin.Dict.showsAll d >>= _) _ _ s;delta Builtin.Dict.showsAll;have nd:¬ ((d == sysModules)=true):=by rw [hs];exact Bool.false_ne_true
 rw [if_neg nd];refine wpAny_bind (wpAny_pure (wpAny_bind (wpAny_dictEntries ho hd (wpAny_bind (wpAny_dictEpoch ho hd ?_)))));refine wpAny_bind (wpAny_newObj_type (wpAny_pure ⟨_,rfl, "dict_keyiterator",_,⟨_,get?_push_size _ rfl,rfl⟩,PySem.F.slot_dict_keyiterator_next.lookup,?_⟩));simpa [rawInt] using q
end
section
variable {P:Program} {w:World}
theorem Ci {A:Around}(hh:A.handled=none)(it d:Addr)(ne:d≠it){es:Array DictEntry}{ep:Nat}{o:Obj}(hd:o.data=.dict es ep) :
  Walks P w A it [it,d] [it] es.size (λ i v=>(es[i]?).map (λ e=>e.key)=some v) (λ i h=>h.IsKeyIter it d i es.size ep/\h.get? d=some o) where
 sub:=λ b hb=>by
  rw [mem_singleton.mp hb];exact mem_cons_self ..
 frame:=λ _ _ _ st hk=>⟨st.1.at λ x e=>hk it (mem_cons_self ..) x e,hk d (mem_cons_of_mem _ (mem_cons_self ..)) o st.2⟩
 item:=λ i s Q E lt st q=>MC st.1 st.2 hd lt λ h' k1 k2=>q _ h' s.toks (by rw [Array.getElem?_eq_getElem lt];rfl) ⟨k1,k2.extBut d o ne st.2⟩ λ b x nb e=>k2.extBut b x (λ z=>nb (mem_singleton.mpr z)) e
 done:=λ s Q E st q=>Jb hh st.1 st.2 hd (Nat.le_refl _) λ h' k=>q h' s.toks λ b x nb e=>k b x (λ z=>nb (mem_singleton.mpr z)) e
 self:=λ _ _ _ _ st q=>wpAny_pyIter_keyiter st.1 q
theorem HQ {d:Addr}{es:Array DictEntry}{ep:Nat}{o:Obj}(hs:(d == sysModules)=false)(hc:o.cls=.type "dict")(hd:o.data=.dict es ep) :
  PySem.W.KdlSrc P w "dict" d d es.size (λ i v=>(es[i]?).map (λ e=>e.key)=some v) (λ h=>h.get? d=some o) where
 type:=λ _ hm=>⟨o,hm,hc⟩
 there:=λ _ hm=>⟨lt_size hm,lt_size hm⟩
 keep:=λ _ _ hm hk=>hk d (.inl rfl) o hm
 notList:=by decide
 notTuple:=by decide
 hint:=λ _ _ _ _ hm hq=>PySem.W.kdl_hint_dict ⟨o,hm,hc⟩ hq
 iter:=λ _ s hh hm=>⟨_,_,(λ _ _ hq=>yk ⟨o,hm,hc⟩ hs hm hd hq),Ci hh _ d (ne_of_lt (lt_size hm)) hd,⟨⟨_,get?_push_size _ rfl,rfl,rfl⟩,get?_push_of_some _ hm⟩⟩
end
section
variable {X:Cx}
theorem KZ {pins:List (Addr×Obj)}{σ:St}{H:Hp}{s:Shared}{d:Addr}{kvs:List (List Key×V)}(I:Inv X pins σ H s)(ed:H d=some (.dT kvs)) :
  ∃ (ob:Obj) (es:Array DictEntry) (ep:Nat) (rs:List Addr),s.heap.get? d=some ob/\ob.cls=.type "dict" /\ ob.data=.dict es ep/\(d == sysModules)=false/\kvs.length<=sizeLine/\rs.length=kvs.length/\es.size=kvs.length /\
   (∀ i:Nat,(es[i]?).map (λ e:DictEntry=>e.key)=(rs[i]?).map Value.ref)/\∀ (i:Nat) r p,rs[i]?=some r->kvs[i]?=some p->H r=some (.tup (p.1.map kV)):=by
 obtain ⟨z,hd,xs,rel,dd⟩:=GA I.hok ed;obtain ⟨ob,es,ep,g1,g2,g3,g4,g5,g6⟩:=id dd;obtain ⟨kl,kt⟩:=kt_at rel;have hes:es.size=xs.length:=by have:=congrArg List.length g4;simpa using this
 refine ⟨ob,es,ep,xs.map λ y=>y.2.1,g1,g2.1,g3,hd,z,by rw [length_map,kl],by rw [hes,kl],λ i=>?_,λ i r p e1 e2=>?_⟩
 ·rw [<- getElem?_toList,g4,List.getElem?_map,List.getElem?_map,Option.map_map,Option.map_map]
  cases xs[i]? <;> rfl
 ·obtain ⟨y,h1,h2,h3,h4⟩:=kt i p e2;rw [List.getElem?_map,h1] at e1
  cases e1
  exact h3
theorem sY (hc:X.calm=true):bH X (.builtin "sorted") (λ xs H Q=>∃ (d:Addr) (kvs:List (List Key×V)) (kss:List (List Int)),xs=[.ref d]/\H d=some (.dT kvs)/\kvs.map (λ p=>p.1)=kss.map (λ ks=>ks.map Sum.inl)/\(∀ ks∈kss,ks≠[]) /\
  ∀ (rs:List Addr) l g,rs.length=kss.length->(∀ (i:Nat) (r:Addr) (ks:List Int),rs[i]?=some r->kss[i]?=some ks->H r=some (.tup (ks.map V.int)))->H l=none->Sx.Cl g 0 kss.length->Sx.So (Sx.FG kss) g 0 kss.length ->
   Q (.ref l) (upd H l (.lst (((List.range kss.length).map λ i=>rs.getD (g i) 0).map V.ref)))):=by
 intro pins s σ H xs us Q I r h;obtain ⟨d,kvs,kss,rfl,ed,ek,hne,q⟩:=h;obtain ⟨u,rfl,rx⟩:=vals1 r
 cases rx
 obtain ⟨ob,es,ep,rs,g1,g2,g3,g4,g5,g6,g7,g8,g9⟩:=KZ I ed;have kl:kvs.length=kss.length:=by have:=congrArg List.length ek;simpa using this
 have tp:∀ (i:Nat) (r:Addr) (ks:List Int),rs[i]?=some r->kss[i]?=some ks->H r=some (.tup (ks.map V.int)):=λ i r ks e1 e2=>by
  have lt:i < kvs.length:=by rw [kl];exact (List.getElem?_eq_some_iff.mp e2).1
  have h1:=g9 i r kvs[i] e1 (List.getElem?_eq_getElem lt);have h2:(kvs.map (λ p=>p.1))[i]?=(kss.map (λ ks=>ks.map Sum.inl))[i]?:=by rw [ek]
  rw [List.getElem?_map,List.getElem?_map,e2,List.getElem?_eq_getElem lt] at h2;have h3:kvs[i].1=ks.map Sum.inl:=Option.some.inj h2;rw [h3,List.map_map] at h1;exact h1
 refine Calls.call_function_entry kind_sorted plain_sorted entry_sorted (args_sorted1 _) ?_;unfold Builtin.«sorted»;refine wpAny_bind (m:=checkCount "sorted" 1 1 _) (wpAny_pure ?_);refine wpAny_bind (PySem.W.kdu_collect (HQ g4 g2 g3) (show X.A.in1.handled=none from I.ok.hd hc) g1 (by rw [g7];exact g5) λ h' tk acc hk hacc=>?_);have ea:acc.toList=rs.map Value.ref:=by
  refine List.ext_getElem? λ j=>?_;rw [getElem?_toList,List.getElem?_map,<- g8 j]
  cases e:acc[j]? with
  | some v=>exact (hacc.2 j v e).symm
  | none=>
   have:acc.size<=j:=Array.getElem?_eq_none_iff.mp e;rw [Array.getElem?_eq_none (by rw [<- hacc.1];exact this)];rfl
 rw [ea];exact BX (s:=s) (I.kept (t':=tk) hk) (by rw [g6,kl]) (by rw [g6];exact g5) (λ i r ks e1 e2=>⟨fF.of (tp i r ks e1 e2),hne ks (mem_of_getElem? e2)⟩) λ l g h1 h2 h3=>q rs l g (by rw [g6,kl]) tp h1 h2 h3
end
section
variable {P:Program} {w:World} {A:Around} {E:Value->Shared->Prop} {s:Shared}
theorem Bu:typeLookup (.type "list") "keys" = pure none:=am_miss_of_fast (by kernel_rfl)
theorem Cg {a:Addr}{o:Obj}{xs:Array Value}{k:Nat}{Q:Option Value->Shared->Prop}(hx:s.heap.get? a=some o)(hc:o.cls=.type "list")(hdat:o.data=.seq xs k)(hd:o.dict=none)(hA:A.handled=none)
  (h:∀ h' tk,(∀ b ob,s.heap.get? b=some ob->h'.get? b=some ob)->Q none { s with heap:=h',toks:=tk }):wpAny (model P w) A (getAttr? (.ref a) "keys") Q E s:=by
 obtain ⟨c,dct,dat,sl⟩:=o;simp only at hc hdat hd;subst hc hdat hd;obtain ⟨hp,g,d,tk,os⟩:=s;have hT:∀ tk',(⟨hp,g,d,tk',os⟩:Shared).TypeIs (.ref a) "list" := λ _=>⟨_,hx,rfl⟩;have f1:=sub_AttributeError;have f3:=F.slot_list_getattribute.lookup;have f4:=F.slot_list_getattribute.bind (.ref a);have f5:=am_list_getattr_none;unfold getAttr? getAttrBy? getAttrBy
 repeat (any_goals (first | assumption | exact hT _ | ((with_reducible show wpAny _ _ (call (Value.builtin "list.__getattribute__") _ _) _ _ _);refine call_meets F.slot_list_getattribute (hT _) am_entry_list_getattribute (F.args_list_getattribute_2 _ _) (meets_getattribute_miss_list a xs k sl "keys" _ Bu (by decide) (by size_fits)) ⟨hx,hA,λ h' tk' e hx'=>?_⟩) | wp_step))
 obtain ⟨t',u',he⟩:=hx'.there;show wpAny _ _ (getattributeRaised _ _ _ _ _ _ _) _ _ _;unfold getattributeRaised
 repeat (any_goals (first | assumption | wp_step))
 exact h _ _ hx'.keeps
theorem r9:entryFor table "dict.update.loop" = some Builtin.«dict.update.loop»:=entryFor_of_tree (by kernel_rfl)
theorem kJ:plainId "dict.update.loop" = true:=by decide +kernel
noncomputable def FL (h:Heap)(d I:Addr)(its:List Value)(ps:List (Int×Value)):Prop:=∀ (i:Nat) (v:Value),its[i]?=some v->∃ (b:Addr) (p:Int×Value) (t:Tok),v=.ref b/\b≠d/\b≠I/\ps[i]?=some p/\IsTup h b #[.int p.1 t,p.2]
theorem FL.mono {h h':Heap}{d I:Addr}{its:List Value}{ps:List (Int×Value)}(x:FL h d I its ps)(k:∀ b o,b≠d->b≠I->h.get? b=some o->h'.get? b=some o):FL h' d I its ps:=λ i v hv=>by
 obtain ⟨b,p,t,h1,h2,h3,h4,o,h5,h6⟩:=x i v hv;exact ⟨b,p,t,h1,h2,h3,h4,o,k b o h2 h3 h5,h6⟩
noncomputable def Mf (ps:List (Int×Value)):List (Key×Value):=ps.foldl (λ acc p=>stored acc (Sum.inl p.1) p.2) []
theorem EO (ps:List (Int×Value))(i:Nat)(p:Int×Value)(h:ps[i]?=some p):Mf (ps.take (i+1))=stored (Mf (ps.take i)) (Sum.inl p.1) p.2:=by
 unfold Mf;rw [take_add_one,h,foldl_append];rfl
theorem zx:∀ (ps:List (Int×Value)) (acc:List (Key×Value)),(ps.foldl (λ acc p=>stored acc (Sum.inl p.1) p.2) acc).length<=acc.length+ps.length
 | [],acc=>Nat.le_refl _
 | p::ps,acc=>by
  have:=zx ps (stored acc (Sum.inl p.1) p.2);have h:(stored acc (Sum.inl p.1) p.2).length<=acc.length+1:=by
   unfold stored;split
   ·rw [length_map];omega
   ·rw [length_append];exact Nat.le_refl _
  rw [foldl_cons,length_cons];omega
theorem GL {R:Result->Shared->Prop}{I l d:Addr}{St:Nat->Heap->Prop}{its:List Value}{ps:List (Int×Value)}(W:Walks P w A.in1 I [I,l] [I] its.length (λ i v=>its[i]?=some v) St)(hdI:d≠I)(hdl:d≠l)(hl:ps.length=its.length)(hz:ps.length<=sizeLine) :
  ∀ (k i:Nat) (s:Shared),its.length - i=k->i<=its.length->St i s.heap->s.heap.DictOf (bL P w) d (Mf (ps.take i))->FL s.heap d I its ps ->
   (∀ h' tk,h'.DictOf (bL P w) d (Mf ps)->(∀ b o,b≠d->b≠I->s.heap.get? b=some o->h'.get? b=some o)->R (.ok (.ret .none)) { s with heap:=h',toks:=tk }) ->
   codeAny (model P w) A (.builtin "dict.update.loop" ⟨[.ref d,.ref I,rawInt i,.none],[]⟩) R s:=by
 intro k
 induction k with
 | zero=>
  intro i s hk hi hst hD hP hR;have hin:i=its.length:=by omega
  subst hin;refine codeAny_builtin r9 ?_;rw [Around.under_plainId kJ _];show wpAny _ A.in1 (pyNext (.ref I) >>= _) _ _ s;refine wpAny_bind (W.done s _ _ hst λ h' tk hm=>?_);show wpAny _ A.in1 (Builtin.Dict.addKeywords d [] >>= _) _ _ _;refine wpAny_bind (wpAny_pure (wpAny_pure (hR h' tk ?_ λ b o _ h2 e=>hm b o (by simpa using h2) e)));rw [<- hl,take_length] at hD;obtain ⟨o,es,ep,ho,rest⟩:=hD;exact ⟨o,es,ep,hm d o (by simpa using hdI) ho,rest⟩
 | succ k ih=>
  intro i s hk hi hst hD hP hR;have hlt:i < its.length:=by omega
  refine codeAny_builtin r9 ?_;rw [Around.under_plainId kJ _];show wpAny _ A.in1 (pyNext (.ref I) >>= _) _ _ s;refine wpAny_bind (W.item i s _ _ hlt hst λ v h' tk hv hst' hm=>?_);have hP':FL h' d I its ps:=hP.mono λ b o h1 h2 e=>hm b o (by simpa using h2) e;obtain ⟨b,p,t,rfl,hbd,hbI,hp,o,ho,hc,n,hd⟩:=hP' i v hv;have hD':h'.DictOf (bL P w) d (Mf (ps.take i)):=by
   obtain ⟨o,es,ep,ho,rest⟩:=hD;exact ⟨o,es,ep,hm d o (by simpa using hdI) ho,rest⟩
  have hT:Shared.TypeIs { s with heap:=h',toks:=tk } (.ref b) "tuple" := ⟨o,ho,hc⟩;have hpair:∀ (A:Around) (E:Value->Shared->Prop) (Q:List Value->Shared->Prop),Q [.int p.1 t,p.2] { s with heap:=h',toks:=tk }->wpAny (model P w) A (Builtin.Dict.pairItems (.ref b)) Q E { s with heap:=h',toks:=tk }:=λ A E Q q=>by
   unfold Builtin.Dict.pairItems;refine wpAny_bind (wpAny_typeOf hT ?_);rw [if_pos (by decide)];refine wpAny_bind (wpAny_seqItems ho hd (wpAny_pure q))
  have hlen:(Mf (ps.take i)).length<=sizeLine:=by
   refine Nat.le_trans (zx (ps.take i) []) ?_;rw [length_take,length_nil];omega
  refine wpAny_bind (wpAny_holding (wpAny_bind (wpAny_tryCatch (hpair _ _ _ ?_))));show wpAny _ _ (holding [Value.int p.1 t,p.2] (dictSet d (.int p.1 t) p.2)) _ _ _;refine wpAny_holding (wpAny_dictSet_pairs (hsz:=hlen) (knd:=bL P w) (k:=Sum.inl p.1) (s:={ s with heap:=h',toks:=tk }) (show Value.isInt p.1 (.int p.1 t)=true by simp [Value.isInt]) hD' λ h2 hD2 hs=>?_);refine wpAny_pure ⟨plainId_quiet kJ _,?_⟩;have hsame:∀ b o,b≠d->b≠I->s.heap.get? b=some o->h2.get? b=some o:=λ b o h3 h4 e=>by rw [hs.2 b h3];exact hm b o (by simpa using h4) e
  refine ih (i+1) _ (by omega) hlt (W.frame _ _ _ hst' λ b hb o e=>?_) (by rw [EO ps i p hp];exact hD2) (hP.mono hsame) λ h3 tk3 hD3 hs3=>hR h3 tk3 hD3 λ b o h4 h5 e=>hs3 b o h4 h5 (hsame b o h4 h5 e);have hne:b≠d:=by
   intro z;subst z
   rcases mem_cons.mp hb with z | z
   ·exact hdI z
   ·exact hdl (by simpa using z)
  show h2.get? b=some o;rw [hs.2 b hne];exact e
theorem sj {pins:List (Addr×Obj)}{σ:L2.St}{H:Hp}{X:Cx}(I:Inv X pins σ H s):∀ (rs:List Addr) (ps:List (Int×V)),rs.length=ps.length->(∀ (i:Nat) (r:Addr) (q:Int×V),rs[i]?=some r->ps[i]?=some q->fF X.K H r [.int q.1,q.2]) ->
  ∃ qs:List (Int×Value),KV ps qs/\∀ (i:Nat) (r:Addr),rs[i]?=some r->∃ q t,qs[i]?=some q/\IsTup s.heap r #[.int q.1 t,q.2]
 | [],[],_,_=>⟨[],.nil,λ i r h=>by simp at h⟩
 | [],_::_,h,_=>nomatch h
 | _::_,[],h,_=>nomatch h
 | r::rs,p::ps,hl,hh=>by
  obtain ⟨qs,h1,h2⟩:=sj I rs ps (by simpa using hl) λ i r q e1 e2=>hh (i+1) r q (by simpa using e1) (by simpa using e2);obtain ⟨its,rv,tp,_⟩:=I.tuple (hh 0 r p rfl rfl);obtain ⟨u1,u2,rfl,r1,r2⟩:=vals2 rv;obtain ⟨t,rfl⟩:∃ t,u1=Value.int p.1 t:=r1;refine ⟨(p.1,u2)::qs,.cons ⟨rfl,r2⟩ h1,λ i r' e=>?_⟩
  cases i with
  | zero=>cases e;exact ⟨(p.1,u2),t,rfl,tp⟩
  | succ i=>exact h2 i r' (by simpa using e)
noncomputable def O2 (ps:List (Int×V)):List (Key×V):=ps.foldl (λ acc p=>putK acc (Sum.inl p.1) p.2) []
theorem Nq:∀ {ps:List (Int×V)} {qs:List (Int×Value)},KV ps qs->∀ {as:List (Key×V)} {bs:List (Key×Value)},KV as bs->KV (ps.foldl (λ acc p=>putK acc (Sum.inl p.1) p.2) as) (qs.foldl (λ acc p=>stored acc (Sum.inl p.1) p.2) bs):=by
 intro ps qs h;unfold KV at h
 induction h with
 | nil=>exact λ h=>h
 | @cons p q ps qs h t ih=>
  intro as bs h2;rw [foldl_cons,foldl_cons];obtain ⟨e,r⟩:=h;rw [e];exact ih (h2.put _ r)
theorem zV:∀ (ps:List (Int×V)) (acc:List (Key×V)),(ps.foldl (λ acc p=>putK acc (Sum.inl p.1) p.2) acc).length<=acc.length+ps.length
 | [],acc=>Nat.le_refl _
 | p::ps,acc=>by
  have:=zV ps (putK acc (Sum.inl p.1) p.2);have:=jU acc (Sum.inl p.1) p.2;rw [foldl_cons,length_cons];omega
end
section
variable {X:Cx}
theorem xU (hc:X.calm=true):bH X (.type "dict") (λ xs H Q=>∃ (p:Addr) (rs:List Addr) (ps:List (Int×V)),xs=[.ref p]/\gY X.K H p (rs.map V.ref)/\rs.length=ps.length /\
  (∀ (i:Nat) (r:Addr) (q:Int×V),rs[i]?=some r->ps[i]?=some q->fF X.K H r [.int q.1,q.2])/\∀ l,H l=none->Q (.ref l) (upd H l (.dK (O2 ps)))):=by
 intro pins s σ H xs us Q I r h;obtain ⟨p,rs,ps,rfl,hq,hlen,hT,q⟩:=h;obtain ⟨u,rfl,rx⟩:=vals1 r
 cases rx
 obtain ⟨its,rv,pl,hz⟩:=I.list hq;have ei:=r8 rv;subst ei;rw [length_map] at hz;obtain ⟨qs,kv,tp⟩:=sj I rs ps hlen hT;have ql:ps.length=qs.length:=kv.length;obtain ⟨o,n,ho,hcl,hdn,hd⟩:=pl;have lp:p < s.heap.objs.size:=lt_size ho;refine callType_codes (Q₁:=λ obj s₁=>obj=.ref s.heap.objs.size/\s₁={ s with heap:=s.heap.push { cls:=.type "dict",data:=.dict #[] } }) F.kt_called_dict (F.kt_typeCall_dict_1 _) F.entry_dict_init (kt_code_dict_new _ ⟨rfl,rfl⟩) ?_;rintro obj s₁ ⟨rfl,rfl⟩;have hnew:(s.heap.push { cls:=.type "dict",data:=.dict #[] }).DictOf (bL X.prog X.w) s.heap.objs.size []:=Heap.DictOf.new s.heap;have ho':(s.heap.push { cls:=.type "dict",data:=.dict #[] }).get? p=some o:=get?_push_of_some _ ho;have hTy:Shared.TypeIs { s with heap:=s.heap.push { cls:=.type "dict",data:=.dict #[] } } (.ref p) "list" := ⟨o,ho',hcl⟩;refine ⟨hnew.typeIs,F.args_dict_init_2 _ _,?_⟩;unfold Builtin.«dict.__init__»;refine wpAny_bind ?_;unfold Builtin.Dict.selfAndRest;refine wpAny_bind (wpAny_notOrdered_dict hnew.typeIs ?_);show wpAny _ _ (pure (s.heap.objs.size,[Value.ref p])) _ _ _;refine wpAny_pure ?_;show wpAny _ _ (Builtin.Dict.updateFrom "dict.__init__" s.heap.objs.size (.ref p) [] .none) _ _ _;unfold Builtin.Dict.updateFrom;refine wpAny_bind (wpAny_typeOf hTy ?_);rw [if_pos (by decide)];refine wpAny_bind (Cg ho' hcl hd hdn (show X.A.in1.in1.handled=none from I.ok.hd hc) λ h' tk hk=>?_);rw [if_pos (by rfl)];refine wpAny_bind (wpAny_rule ?_);have hl2:h'.IsList p (rs.map Value.ref).toArray:=⟨o,hk p o ho',hcl,n,hd⟩;refine wpAny_bind (wpAny_pyIter_list (s:={ s with heap:=h',toks:=tk }) hl2 ?_);refine wpAny_pure ⟨plainId_quiet kJ _,?_⟩;have sz:s.heap.objs.size < h'.objs.size:=lt_size (hk _ _ (get?_push_size _ rfl));have W:Walks X.prog X.w X.A.in1.in1 h'.objs.size [h'.objs.size,p] [h'.objs.size] (rs.map Value.ref).length (λ i v=>(rs.map Value.ref)[i]?=some v) (λ i h=>h.IsListIter h'.objs.size p i/\h.IsList p (rs.map Value.ref).toArray):=by
  have W:=Walks.list (prog:=X.prog) (w:=X.w) (A:=X.A.in1.in1) (I.ok.hd hc) h'.objs.size p (ne_of_lt (lt_size (hk p o ho'))) (rs.map Value.ref).toArray;rw [size_toArray] at W;simp only [getElem?_toArray] at W;exact W
 refine GL (d:=s.heap.objs.size) (its:=rs.map Value.ref) (ps:=qs) W (ne_of_lt sz) (Ne.symm (ne_of_lt lp)) (by rw [length_map];omega) (by omega) (rs.map Value.ref).length 0 _ (by omega) (zero_le _)
  ⟨⟨_,get?_push_size _ rfl,rfl,rfl⟩,hl2.push _⟩ ?_ (λ i v hv=>?_) λ h2 tk2 hD hs=>⟨rfl,.ref s.heap.objs.size,_,I.laid (t':=tk2) (o:=.dK (O2 ps)) (λ b ob eb=>?_) (Nat.le_refl _) ?_,rfl,q _ (I.hok.fresh (Nat.le_refl _))⟩
 ·obtain ⟨o,es,ep,e,rest⟩:=hnew;exact ⟨o,es,ep,get?_push_of_some _ (hk _ _ e),rest⟩
 ·rw [List.getElem?_map] at hv;obtain ⟨r,hr,rfl⟩:=map_eq_some_iff.mp hv;obtain ⟨q,t,h1,o2,h2,h3⟩:=tp i r hr;have lr:=lt_size h2;exact ⟨r,q,t,rfl,ne_of_lt lr,ne_of_lt (lt_trans lr sz),h1,o2,get?_push_of_some _ (hk _ _ (get?_push_of_some _ h2)),h3⟩
 ·have lb:=lt_size eb;exact hs b ob (ne_of_lt lb) (ne_of_lt (lt_trans lb sz)) (get?_push_of_some _ (hk _ _ (get?_push_of_some _ eb)))
 ·refine DW (Nat.le_trans (zV ps []) (by rw [length_nil];omega)) ?_ (Nq kv .nil) hD;exact beq_eq_false_iff_ne.mpr (Ne.symm (ne_of_lt I.big))
noncomputable def Hy (ns:List Int):Sx.Ord where
 lt i j:=decide (ns.getD i 0 < ns.getD j 0)
 Gz i:=decide_eq_false (by omega)
 tr i j k h1 h2:=decide_eq_true (by have:=of_decide_eq_true h1;have:=of_decide_eq_true h2;omega)
 neg i j k h:=by
  have:=of_decide_eq_true h;by_cases c:ns.getD i 0 < ns.getD j 0
  ·exact .inl (decide_eq_true c)
  ·exact .inr (decide_eq_true (by omega))
theorem oR:∀ {vs:List Value} {ns:List Int},IntsAre vs ns->vs.length=ns.length/\∀ i,i < vs.length->∃ t,vs.getD i .none=.int (ns.getD i 0) t
 | _,_,.nil=>⟨rfl,λ i h=>absurd h (not_lt_zero _)⟩
 | _,_,.cons n t h=>by
  obtain ⟨h1,h2⟩:=oR h;refine ⟨congrArg (·+1) h1,λ i hi=>?_⟩
  cases i with
  | zero=>exact ⟨t,rfl⟩
  | succ i=>exact h2 i (by simpa using hi)
theorem qi {f:Nat->Int}{h:Nat->Value}:∀ (l:List Nat),(∀ i∈l,∃ t,h i=.int (f i) t)->Vals (l.map λ i=>V.int (f i)) (l.map h)
 | [],_=>.nil
 | i::l,e=>.cons (e i (mem_cons_self ..)) (qi l λ j hj=>e j (mem_cons_of_mem _ hj))
theorem xg {pins:List (Addr×Obj)}{s:Shared}{σ:St}{H:Hp}{Q:VK}{h':Heap}{tk:Nat}{vs:List Value}{ns:List Int}(I1:Inv X pins σ H { s with heap:=h',toks:=tk })(hi:IntsAre vs ns)(hz:vs.length<=sizeLine)
  (q:∀ l g,H l=none->Sx.Cl g 0 ns.length->Sx.So (Hy ns) g 0 ns.length->Q (.ref l) (upd H l (.lst ((List.range ns.length).map λ i=>V.int (ns.getD (g i) 0))))) :
  wpAny (model X.prog X.w) X.A.in1 (do
   let l <- newList vs
   let _ <- holding [l] (call (Value.builtin "list.sort") [l] [])
   ret l) (λ fin s'=>∃ v,fin=Fin.done (Flow.ret v)/\EP X pins σ Q v s') X.xe { s with heap:=h',toks:=tk }:=by
 obtain ⟨hN,at_⟩:=oR hi;refine wpAny_bind (wpAny_newList ?_);have hoL:(h'.push (seqObj "list" vs.toArray 0)).get? h'.objs.size=some (seqObj "list" vs.toArray 0):=get?_push_size _ rfl;show wpAny _ _ _ _ _ { s with toks:=tk,heap:=h'.push (seqObj "list" vs.toArray 0) };refine wpAny_bind (wpAny_holding (wpAny_call_entry slot_list_sort ⟨_,hoL,rfl⟩ entry_list_sort (Sx.rG (o:=Hy ns) (kd:=oneType') hoL hz (λ h2 Q' q'=>?_) (λ h2 i j hi' hj E' Q' q'=>?_) λ g hc hs=>⟨_,rfl,?_⟩) (args_list_sort _)))
 ·obtain ⟨a,b,r,rfl⟩:∃ a b r,vs=a::b::r:=by
   cases vs with
   | nil=>simp at h2
   | cons a vs=>cases vs with
    | nil=>simp at h2
    | cons b r=>exact ⟨a,b,r,rfl⟩
  exact wpAny_of_eq (keyKind_ints hi) q'
 ·obtain ⟨t,e1⟩:=at_ i hi';obtain ⟨u,e2⟩:=at_ j hj;show wpAny _ _ (keyLt' oneType' (vs.getD i .none) (vs.getD j .none)) Q' E' _;rw [e1,e2,keyLt'_oneType];exact Sx.zy true q'
 ·rw [hN] at hc hs ⊢;obtain ⟨e,he⟩:=sortedHeap_at (out:=((List.range ns.length).map λ i=>vs.getD (g i) .none).toArray) hoL;have old:∀ b ob,h'.get? b=some ob->(sortedHeap (h'.push (seqObj "list" vs.toArray 0)) h'.objs.size vs ((List.range ns.length).map λ i=>vs.getD (g i) .none).toArray).get? b=some ob:=λ b ob eb=>by
   rw [sortedHeap_old (ne_of_lt (lt_size eb)) (by rw [size_push];exact lt_succ_of_lt (lt_size eb))];exact get?_push_of_some _ eb
  refine wpAny_pure ⟨_,rfl,.ref h'.objs.size,_,I1.laid (t':=tk) (o:=.lst ((List.range ns.length).map λ i=>V.int (ns.getD (g i) 0))) old (Nat.le_refl _) ?_,rfl,q _ g (I1.hok.fresh (Nat.le_refl _)) hc hs⟩;refine ⟨by rw [length_map,length_range];omega,(List.range ns.length).map λ i=>vs.getD (g i) .none,e,qi _ λ i hi=>at_ _ (by have:=(hc i (zero_le _) (mem_range.mp hi)).2;omega),he⟩
theorem Cm {P:Program}{w:World}{vs:List (Key×Value)}:∀ {acc:List Value} {ns:List Int},vs.map (·.1)=ns.map Sum.inl->acc.length=vs.length->(∀ (j:Nat) v,acc[j]?=some v->∃ k x,vs[j]?=some (k,x)/\(bL P w).is k v=true)->IntsAre acc ns:=by
 intro acc ns hk hl h
 induction acc generalizing vs ns with
 | nil=>cases vs with
  | nil=>cases ns with
   | nil=>exact .nil
   | cons=>cases hk
  | cons=>cases hl
 | cons a acc ih=>cases vs with
  | nil=>cases hl
  | cons v vs=>cases ns with
   | nil=>cases hk
   | cons n ns=>
    rw [map_cons,map_cons,List.cons.injEq] at hk;obtain ⟨k,x,e1,e2⟩:=h 0 a rfl
    cases e1
    obtain ⟨e3,e4⟩:=hk;have e3:k=Sum.inl n:=e3;subst e3;obtain ⟨t,rfl⟩:=Value.isInt_shape (k:=n) (v:=a) e2;exact .cons n t (ih e4 (by simpa using hl) λ j v e=>h (j+1) v (by simpa using e))
theorem sV (hc:X.calm=true):bH X (.builtin "sorted") (λ xs H Q=>∃ (d:Addr) (kvs:List (Key×V)) (ns:List Int),xs=[.ref d]/\H d=some (.dK kvs)/\kvs.map (λ p=>p.1)=ns.map Sum.inl /\
  ∀ l g,H l=none->Sx.Cl g 0 ns.length->Sx.So (Hy ns) g 0 ns.length->Q (.ref l) (upd H l (.lst ((List.range ns.length).map λ i=>V.int (ns.getD (g i) 0))))):=by
 intro pins s σ H xs us Q I r h;obtain ⟨d,kvs,ns,rfl,ed,ek,q⟩:=h;obtain ⟨u,rfl,rx⟩:=vals1 r
 cases rx
 obtain ⟨z,hd,vs,rel,dd⟩:=Kf I.hok ed;obtain ⟨ep,da⟩:=dd.dictAt;have kl:kvs.length=vs.length:=rel.length;have ke:vs.map (·.1)=kvs.map (·.1):=by
  clear ek z dd da kl ed;unfold KV at rel
  induction rel with
  | nil=>rfl
  | cons h _ ih=>rw [map_cons,map_cons,ih,h.1]
 refine Calls.call_function_entry kind_sorted plain_sorted entry_sorted (args_sorted1 _) ?_;unfold Builtin.«sorted»;refine wpAny_bind (m:=checkCount "sorted" 1 1 _) (wpAny_pure ?_);refine wpAny_bind (PySem.W.kdu_collect (PySem.W.kdl_dict hd) (show X.A.in1.handled=none from I.ok.hd hc) da (by omega) λ h' tk acc hk hacc=>?_);have al:acc.toList.length=vs.length:=by rw [length_toList];exact hacc.1
 exact xg (s:=s) (I.kept (t':=tk) hk) (Cm (P:=X.prog) (w:=X.w) (ke.trans ek) al λ j v e=>hacc.2 j v (by rw [getElem?_toList] at e;exact e)) (by omega) q
end
end L2
namespace Am
open PySem PySem.Spec PyProof.Rows L2
noncomputable def cg (S:aA)(n:Nat):Option (List (Int×A)):=match S[n]? with
 | some (.fK xs)=>some xs
 | _=>none
theorem gv {S:aA}{n:Nat}{xs:List (Int×A)}(h:cg S n=some xs):S[n]?=some (.fK xs):=by
 unfold cg at h;split at h
 ·rename_i e;cases h;exact e
 ·cases h
theorem tw {S:aA}{n:Nat}{xs:List (Int×A)}(h:S[n]?=some (.fK xs)):cg S n=some xs:=by
 unfold cg;rw [h]
noncomputable def dS (kvs:List (Int×A))(k:Int):Option A:=(kvs.find? λ kv=>decide (kv.1=k)).map (·.2)
noncomputable def nO (kvs:List (Int×A))(k:Int)(v:A):List (Int×A):=
 if (dS kvs k).isSome=true then kvs.map (λ kv=>if kv.1=k then (kv.1,v) else kv) else kvs++[(k,v)]
section
variable {K:PySem.W.Frag} {ρ ρ':List Addr} {H H':Hp}
theorem B4 {p:Int×A}{r:List (Int×A)}{k:Int}(e:p.1=k):dS (p::r) k=some p.2:=by simp [dS,find?_cons,e]
theorem BS {p:Int×A}{r:List (Int×A)}{k:Int}(e:¬ p.1=k):dS (p::r) k=dS r k:=by simp [dS,find?_cons,e]
theorem NY {a b:Int}(e:(Sum.inl a:Key)=Sum.inl b):a=b:=by injection e
theorem DI.look:∀ {kvs:List (Int×A)} {ks:List (Key×V)} (k:Int),DI K ρ H kvs ks->(dS kvs k).isSome=(gG ks (Sum.inl k:Key)).isSome/\∀ x,dS kvs k=some x->∃ v,gG ks (Sum.inl k:Key)=some v/\AV K ρ H x v
 | [],[],k,_=>⟨rfl,λ x h=>nomatch h⟩
 | p::r,q::r',k,⟨⟨e,a⟩,t⟩=>by
  by_cases c:p.1=k
  ·have c':q.1=(Sum.inl k:Key):=by rw [e,c]
   rw [B4 c,jW c'];exact ⟨rfl,λ x h=>by cases h;exact ⟨_,rfl,a⟩⟩
  ·have c':¬ q.1=(Sum.inl k:Key):=λ z=>c (NY (e.symm.trans z));rw [BS c,jV c'];exact DI.look k t
theorem DI.repl {x:A}{v:V}(h:AV K ρ H x v)(k:Int):∀ {kvs:List (Int×A)} {ks:List (Key×V)},DI K ρ H kvs ks->DI K ρ H (kvs.map λ kv=>if kv.1=k then (kv.1,x) else kv) (ks.map λ kv=>if kv.1=(Sum.inl k:Key) then (kv.1,v) else kv)
 | [],[],_=>trivial
 | p::r,q::r',⟨⟨e,a⟩,t⟩=>by
  refine ⟨?_,DI.repl h k t⟩;dsimp only;by_cases c:p.1=k
  ·rw [if_pos c,if_pos (by rw [e,c])];exact ⟨e,h⟩
  ·rw [if_neg c,if_neg (λ z=>c (NY (e.symm.trans z)))];exact ⟨e,a⟩
theorem DI.snoc {x:A}{v:V}(h:AV K ρ H x v)(k:Int):∀ {kvs:List (Int×A)} {ks:List (Key×V)},DI K ρ H kvs ks->DI K ρ H (kvs++[(k,x)]) (ks++[(Sum.inl k,v)])
 | [],[],_=>⟨⟨rfl,h⟩,trivial⟩
 | p::r,q::r',⟨a,t⟩=>⟨a,DI.snoc h k t⟩
theorem DI.put {x:A}{v:V}(h:AV K ρ H x v)(k:Int){kvs:List (Int×A)}{ks:List (Key×V)}(d:DI K ρ H kvs ks):DI K ρ H (nO kvs k x) (putK ks (Sum.inl k:Key) v):=by
 unfold nO putK;rw [mS,<- (d.look k).1];by_cases c:(dS kvs k).isSome=true
 ·rw [if_pos c,if_pos c];exact DI.repl h k d
 ·rw [if_neg c,if_neg c];exact DI.snoc h k d
theorem DI.length:∀ {kvs:List (Int×A)} {ks:List (Key×V)},DI K ρ H kvs ks->kvs.length=ks.length
 | [],[],_=>rfl
 | _::_,_::_,⟨_,t⟩=>congrArg (·+1) t.length
theorem DI.keys:∀ {kvs:List (Int×A)} {ks:List (Key×V)},DI K ρ H kvs ks->ks.map (·.1)=kvs.map λ kv=>(Sum.inl kv.1:Key)
 | [],[],_=>rfl
 | _::_,_::_,⟨⟨e,_⟩,t⟩=>by rw [map_cons,map_cons,e,DI.keys t]
theorem Rel.fK {S:aA}{n:Nat}{a:Addr}{xs:List (Int×A)}(R:Rel K ρ H S)(ha:ρ[n]?=some a)(hS:S[n]?=some (.fK xs)):∃ vs,H a=some (.dK vs)/\DI K ρ H xs vs:=R.at n a _ ha hS
theorem Rel.NP {S:aA}{p:Addr}{xs:List (Int×A)}{vs:List (Key×V)}(R:Rel K ρ H S)(hp:H p=none)(r:DI K ρ H xs vs):Ext ρ (ρ++[p]) H (upd H p (.dK vs))/\Rel K (ρ++[p]) (upd H p (.dK vs)) (S++[.fK xs])/\(ρ++[p])[S.length]?=some p:=by
 have ex:Ext ρ (ρ++[p]) H (upd H p (.dK vs)):=⟨⟨prefix_append _ _,λ a u _ h=>by rw [aL (a_ h hp)];exact h⟩,λ a u h _=>by rw [aL (a_ h hp)];exact h,λ a h=>by
  rcases mem_append.mp h with z | z
  ·exact .inl z
  ·have e:a=p:=by simpa using z
   rw [e];exact .inr hp⟩
 have np:p∉ρ:=R.Gs hp;have last:(ρ++[p])[S.length]?=some p:=by rw [<- R.len];simp
 refine ⟨ex,⟨by simp [R.len],?_,?_⟩,last⟩
 ·rw [nodup_append];refine ⟨R.nd,by simp,λ a ha b hb e=>?_⟩;have:b=p:=by simpa using hb
  exact np (by rw [<- this,<- e];exact ha)
 ·intro n a o h1 h2;by_cases hn:n < S.length
  ·rw [getElem?_append_left (by rw [R.len];exact hn)] at h1;rw [getElem?_append_left hn] at h2;have na:a≠p:=λ z=>np (by rw [<- z];exact mem_of_getElem? h1);have:=R.at n a o h1 h2
   cases o with
   | lst ys=>obtain ⟨ws,e,q⟩:=this;exact ⟨ws,by rw [aL na];exact e,q.ext ex⟩
   | dct _ | fK _=>obtain ⟨ws,e,q⟩:=this;exact ⟨ws,by rw [aL na];exact e,q.ext ex⟩
   | ins _ _=>obtain ⟨oo,uu,e⟩:=this;exact ⟨oo,uu,by rw [aL na];exact e⟩
  ·have e:n=S.length:=by
    have:=(List.getElem?_eq_some_iff.mp h2).1;simp at this;omega
   subst e;rw [last] at h1
   cases h1
   simp at h2;subst h2;exact ⟨vs,bM,r.ext ex⟩
theorem Rel.nO {S:aA}{n:Nat}{a:Addr}{xs ys:List (Int×A)}{ws:List (Key×V)}(R:Rel K ρ H S)(ha:ρ[n]?=some a)(hS:S[n]?=some (.fK xs))(r:DI K ρ H ys ws):Ext ρ ρ H (upd H a (.dK ws))/\Rel K ρ (upd H a (.dK ws)) (S.set n (.fK ys)):=by
 obtain ⟨vs,e,_⟩:=R.at n a _ ha hS;have ex:Ext ρ ρ H (upd H a (.dK ws)):=⟨⟨prefix_refl _,λ b u i h=>by
  have:b≠a:=by
   intro z;subst z;rw [e] at h;cases h;exact i
  rw [aL this];exact h⟩,λ b u h n=>by
  rw [aL (λ z=>n (by rw [z];exact mem_of_getElem? ha))];exact h,λ _ h=>.inl h⟩
 refine ⟨ex,by rw [length_set];exact R.len,R.nd,λ m b o h1 h2=>?_⟩;by_cases hm:m=n
 ·subst hm;rw [ha] at h1;cases h1;rw [getElem?_set_self (List.getElem?_eq_some_iff.mp hS).1] at h2
  cases h2
  exact ⟨ws,bM,r.ext ex⟩
 ·rw [getElem?_set_ne (Ne.symm hm)] at h2;have nb:b≠a:=λ z=>by
   subst z;obtain ⟨l1,e1⟩:=List.getElem?_eq_some_iff.mp ha;obtain ⟨l2,e2⟩:=List.getElem?_eq_some_iff.mp h1;exact hm ((getElem_inj R.nd).mp (e2.trans e1.symm))
  have:=R.at m b o h1 h2
  cases o with
  | lst ys=>obtain ⟨ws',e',q⟩:=this;exact ⟨ws',by rw [aL nb];exact e',q.ext ex⟩
  | dct _ | fK _=>obtain ⟨ws',e',q⟩:=this;exact ⟨ws',by rw [aL nb];exact e',q.ext ex⟩
  | ins _ _=>obtain ⟨oo,uu,e'⟩:=this;exact ⟨oo,uu,by rw [aL nb];exact e'⟩
end
section
variable {X:Cx} {pos:Pos} {a b:Expr}
noncomputable def nG (x y:A)(S:aA):R A:=match x,y with
 | .ref n,.int k=>opt (cg S n) λ kvs=>opt (dS kvs k) λ v=>.ok v S
 | _,_=>.no
theorem BR {x y:A}{S:aA}{P:A->aA->Prop}{E:Str->aA->Prop}(h:(nG x y S).post P E):∃ n k kvs v,x=.ref n/\y=.int k/\cg S n=some kvs/\dS kvs k=some v/\P v S:=by
 unfold nG at h;split at h
 ·obtain ⟨kvs,h1,h⟩:=aM h;obtain ⟨v,h2,h⟩:=aM h;exact ⟨_,_,kvs,v,rfl,rfl,h1,h2,h⟩
 ·exact h.elim
theorem N9 (hu:X.A.units+64 < cLine):JV X (r2 X nG):=λ value slice pins s σ H x y v u Q I rx ry ⟨ρ,S,a,b,R,va,vb,h⟩ hs=>by
 obtain ⟨n,k,kvs,z,ha,hb,hn,hz,hP⟩:=BR h;subst ha hb
 cases vb
 cases va with
 | @ref p _ hp=>
  obtain ⟨ks,e,d⟩:=R.fK hp (gv hn);obtain ⟨w,hw,aw⟩:=(d.look k).2 z hz;have g:nU H p (kV (Sum.inl k)) (gG ks (Sum.inl k)):=nU.k e;rw [hw] at g;exact Ad (by omega) value slice pins s σ H _ _ v u Q I rx ry ⟨p,w,rfl,g,hP _ _ _ .refl R aw⟩ hs
theorem t9 (hu:X.A.units+64 < cLine){ca cb:Ex}(ha:AE X a ca)(hb:AE X b cb)(hs:oK b:=by exact λ _ _=>rfl):AE X (.Subscript a b pos) (aJ nG ca cb):=PE.imp (DG (N9 hu) ha hb hs) λ σ H Q h=>ki h
noncomputable def rL (o i v:A)(S:aA):R Unit:=match o,i with
 | .ref n,.int k=>opt (cg S n) λ kvs=>gd (kvs.length < sizeLine) (.ok () (S.set n (.fK (nO kvs k v))))
 | _,_=>.no
theorem xE {x y v:A}{S:aA}{P:Unit->aA->Prop}{E:Str->aA->Prop}(h:(rL x y v S).post P E):∃ n k kvs,x=.ref n/\y=.int k/\cg S n=some kvs/\kvs.length < sizeLine/\P () (S.set n (.fK (nO kvs k v))):=by
 unfold rL at h;split at h
 ·obtain ⟨kvs,h1,h⟩:=aM h;obtain ⟨h2,h⟩:=bh h;exact ⟨_,_,kvs,rfl,rfl,h1,h2,h⟩
 ·exact h.elim
noncomputable def P6 (X:Cx):BA:=λ o i v H Q=>∃ ρ S ao ai av,Rel X.K ρ H S/\AV X.K ρ H ao o/\AV X.K ρ H ai i/\AV X.K ρ H av v/\(rL ao ai av S).post (λ _ S'=>∀ ρ' H',Ext ρ ρ' H H'->Rel X.K ρ' H' S'->Q H') (XE X ρ H)
theorem Io (hu:X.A.units+64 < cLine):BJ X (P6 X):=λ pins s σ H o i v ov iv u Q I ro ri rv h9=>by
 obtain ⟨ρ,S,ao,ai,av,R,h1,h2,h3,h⟩:=h9;obtain ⟨n,k,kvs,ha,hb,hn,hl,hP⟩:=xE h;subst ha hb
 cases h2
 cases h1 with
 | @ref p _ hp=>
  obtain ⟨ks,e,d⟩:=R.fK hp (gv hn);obtain ⟨ex,R'⟩:=R.nO hp (gv hn) (d.put h3 k);exact set_dict (by omega) pins s σ H _ _ v ov iv u Q I ro ri rv ⟨p,_,rfl,vh.k (k:=Sum.inl k) e (by rw [<- d.length];exact hl),hP _ _ ex R'⟩
noncomputable def uN (co ci:Ex):Tg:=λ a τ S=>(co τ S).bind λ o S1=>(ci τ S1).bind λ i S2=>(rL o i a S2).bind λ _ S3=>.ok τ S3
theorem oN (hu:X.A.units+64 < cLine){o i:Expr}{co ci:Ex}(ho:AE X o co)(hi:AE X i ci)
  (ha:∀ v,assign (.Subscript o i pos) X.env v=(do
   let ov <- holding [v] (eval o X.env)
   let iv <- holding [v,ov] (eval i X.env)
   standAt pos
   holding [v,ov,iv] (setItem ov iv v)
   release [v,ov,iv] []):=by intro _;rfl):AG X (.Subscript o i pos) (uN co ci):=PG.imp (ym ho hi (Io hu) ha) λ v σ H Q h9=>by
 obtain ⟨ρ,S,τ,a,R,r,va,h⟩:=h9;refine ⟨ρ,S,τ,R,r,aG (aI h) .refl λ o S1 h1 ρ1 H1 x e1 R1 v1=>⟨ρ1,S1,τ,R1,r.ext e1,aG (aI h1) e1 λ i S2 h2 ρ2 H2 y e2 R2 v2=>?_⟩⟩;refine ⟨ρ2,S2,o,i,a,R2,v1.ext e2,v2,va.ext (e1.trans e2),aG (aI h2) (e1.trans e2) λ _ S3 h3 ρ3 H3 e3 R3=>?_⟩;exact h3 ρ3 H3 σ ((e1.trans e2).trans e3) R3 (r.ext ((e1.trans e2).trans e3))
noncomputable def qO:Ex:=λ _ S=>.ok (.ref S.length) (S++[.fK []])
theorem pR:AE X (.Dict [] [] pos) qO:=PE.imp DH λ σ H Q ⟨ρ,S,τ,R,r,h⟩ p hp=>by
 obtain ⟨ex,R',hl⟩:=R.NP (xs:=[]) (vs:=[]) hp trivial;exact h _ _ _ ex R' (.ref hl)
noncomputable def dk? (a:A)(S:aA):Option Unit:=match a with
 | .ref n=>(cg S n).map λ _=>()
 | _=>none
noncomputable def u_ (f:A->List A->aA->R A)(co:Ex)(d:g_):Ex:=λ τ S=>(co τ S).bind λ x S1=>opt (dk? x S1) λ _=>(d τ S1).bind λ as S2=>f x as S2
theorem dk?_ty {K:PySem.W.Frag}{ρ:List Addr}{H:Hp}{S:aA}{x:A}{v:V}{u:Unit}(R:Rel K ρ H S)(a:AV K ρ H x v)(e:dk? x S=some u):Ov K "dict" v H:=by
 cases a with
 | @ref p n h=>
  obtain ⟨xs,hx,_⟩:=map_eq_some_iff.mp e;obtain ⟨vs,h1,_⟩:=R.fK h (gv hx);exact .inr (.inr (.inl ⟨rfl,.inl ⟨vs,h1⟩⟩))
 | _=>cases e
theorem tZ {o e:Expr}{es:List Expr}{name:Str}{id:String}{apos cpos:Pos}{f:A->List A->aA->R A}{co:Ex}{d:g_}(slot:Slot "dict" name id)(hty:typeOf (.builtin id)=pure (.type "method_descriptor"))(hm:Ky X id (rM X f))(ho:AE X o co)(ha:AL X (e::es) d)
  (hbase:attributeBase o name X.env (eval o X.env)=eval o X.env:=by rfl)
  (hfew:((backTo cpos (starEach (e::es) X.env)).all (λ x=>!x.1) && (backToKw cpos (keywordEach [] X.env)).all (λ x=>x.1.isSome)
   && decide ((e::es).length+([]:List Keyword).length+(if ([]:List Keyword).isEmpty then 0 else 1) < 30))=true:=by rfl)
  (hline:(apos.endLine == cpos.line)=true:=by rfl) (hs:starEach (e::es) X.env=(false,eval e X.env)::starEach es X.env:=by rfl) (hplain:(backTo cpos (starEach es X.env)).any (·.1)=false:=by rfl) :
  AE X (.Call (.Attribute o name apos) (e::es) [] cpos) (u_ f co d):=PE.imp (ET PySem.F.plainAttrs_dict slot hty hm ho ha hbase hfew hline hs hplain) λ σ H Q h9=>by
 obtain ⟨ρ,S,τ,R,r,h⟩:=h9;refine ⟨ρ,S,τ,R,r,aG (aI h) .refl λ x S1 h1 ρ1 H1 v e1 R1 v1=>?_⟩;obtain ⟨xs,hx,h1⟩:=aM h1;refine ⟨dk?_ty R1 v1 hx,ρ1,S1,τ,R1,r.ext e1,aG (aI h1) e1 λ as S2 h2 ρ2 H2 vs e2 R2 v2=>?_⟩;exact ⟨ρ2,S2,x,as,R2,v1.ext e2,v2,aG h2 (e1.trans e2) λ _ _ z=>z.ext (e1.trans e2)⟩
noncomputable def kR (o:A)(as:List A)(S:aA):R A:=match o,as with
 | .ref n,[.int k,y]=>opt (cg S n) λ kvs=>.ok ((dS kvs k).getD y) S
 | _,_=>.no
theorem yd {x:A}{as:List A}{S:aA}{P:A->aA->Prop}{E:Str->aA->Prop}(h:(kR x as S).post P E):∃ n k y kvs,x=.ref n/\as=[.int k,y]/\cg S n=some kvs/\P ((dS kvs k).getD y) S:=by
 unfold kR at h;split at h
 ·obtain ⟨kvs,h1,h⟩:=aM h;exact ⟨_,_,_,kvs,rfl,rfl,h1,h⟩
 ·exact h.elim
theorem uB (hu:X.A.units+64 < cLine):Ky X "dict.get" (rM X kR):=λ pins s σ H x vs v us Q I rx rv h9=>by
 obtain ⟨ρ,S,o,as,R,vo,va,h⟩:=h9;obtain ⟨n,k,y,kvs,ho,has,hn,hP⟩:=yd h;subst ho has;obtain ⟨w1,w2,rfl,hz,hy⟩:=LK va
 cases hz
 cases vo with
 | @ref p _ hp=>
  obtain ⟨ks,h1,dv⟩:=R.fK hp (gv hn)
  cases rx
  obtain ⟨u1,u2,rfl,r1,r2⟩:=vals2 rv;refine KR (by omega) I (nU.k (k:=Sum.inl k) h1) r1 r2 λ w' s' I' rw'=>⟨_,H,I',rw',hP _ _ _ .refl R ?_⟩;obtain ⟨l1,l2⟩:=dv.look k
  cases e1:dS kvs k with
  | none=>
   rw [e1] at l1
   cases e2:gG ks (Sum.inl k:Key) with
   | none=>exact hy
   | some _=>rw [e2] at l1;cases l1
  | some x1=>
   obtain ⟨v1,e2,a1⟩:=l2 x1 e1;rw [e2];exact a1
end
section
variable {X:Cx}
noncomputable def LJ (n:Nat)(S:aA):R A:=opt (bA S n) λ kvs=>match (kvs.map Prod.fst).all (λ ks=>!ks.isEmpty) with
 | true=>.ok (.ref S.length) (S++[.lst ((dX (kvs.map Prod.fst)).map λ ks=>.tup (ks.map .int))])
 | false=>.no
noncomputable def jP (x:A)(S:aA):R A:=match x with
 | .ref n=>LJ n S
 | _=>.no
theorem za {K:PySem.W.Frag}{ρ:List Addr}{H:Hp}:∀ {kvs:List (List Int×A)} {ks:List (List Key×V)},DV K ρ H kvs ks->ks.map (λ p=>p.1)=(kvs.map Prod.fst).map (λ ks=>ks.map Sum.inl)
 | [],[],_=>rfl
 | a::kvs,b::ks,⟨z,t⟩=>by
  have:=za t;show b.1::ks.map _=a.1.map Sum.inl::_;rw [this,z.1]
theorem uq (hc:X.calm=true):bH X (.builtin "sorted") (rN X (f1 jP)):=bH.imp (sY hc) λ vs H Q h0=>by
 obtain ⟨w,rfl,ρ,S,x,R,hv,h⟩:=JS h0;clear h0
 cases hv with
 | ref hp=>
  rename_i p n;obtain ⟨kvs,hn,h⟩:=aM h;obtain ⟨ks,g1,dv⟩:=R.dct hp (ff hn)
  cases hb:(kvs.map Prod.fst).all (λ ks=>!ks.isEmpty) with
  | false=>rw [hb] at h;exact h.elim
  | true=>
   rw [hb] at h;refine ⟨p,ks,kvs.map Prod.fst,rfl,g1,za dv,λ k hk z=>?_,λ rs l g hl hh hl' hc hs=>?_⟩
   ·have:=all_eq_true.mp hb k hk;rw [z] at this
    cases this
   have av:AVs X.K ρ H ((dX (kvs.map Prod.fst)).map λ ks=>.tup (ks.map .int)) (((List.range (kvs.map Prod.fst).length).map λ i=>rs.getD (g i) 0).map V.ref):=by
    rw [<- Ma hc hs,List.map_map,List.map_map];refine xD λ i hi=>?_;have lt:=(hc i (zero_le _) (mem_range.mp hi)).2;have e1:rs[g i]?=some (rs.getD (g i) 0):=by rw [getD_eq_getElem?_getD,List.getElem?_eq_getElem (by rw [hl];exact lt)];rfl
    have e2:(kvs.map Prod.fst)[g i]?=some ((kvs.map Prod.fst).getD (g i) []):=by rw [getD_eq_getElem?_getD,List.getElem?_eq_getElem lt];rfl
    exact .tup (hh _ _ _ e1 e2) (jT _)
   exact e_ R av .refl h l hl'
 | _=>exact h.elim
end
noncomputable def I0:List A->Option (List (Int×A))
 | []=>some []
 | .tup [.int k,x]::r=>(I0 r).map λ ps=>(k,x)::ps
 | _=>none
noncomputable def IC (ps:List (Int×A)):List (Int×A):=ps.foldl (λ acc p=>nO acc p.1 p.2) []
section
variable {K:PySem.W.Frag} {ρ:List Addr} {H:Hp}
theorem Hq {x y:A}{vs:List V}(r:AVs K ρ H [x,y] vs):∃ v w,vs=[v,w]/\AV K ρ H x v/\AV K ρ H y w:=by
 cases r with
 | cons h t=>cases t with
  | cons h' t'=>cases t';exact ⟨_,_,rfl,h,h'⟩
theorem Er {x:A}{xs:List A}{ps:List (Int×A)}(e:I0 (x::xs)=some ps):∃ k y ps',x=.tup [.int k,y]/\I0 xs=some ps'/\ps=(k,y)::ps':=by
 unfold I0 at e;split at e
 ·rename_i e2;cases e2
 ·rename_i k y r e2
  cases e2
  obtain ⟨ps',h1,h2⟩:=map_eq_some_iff.mp e;exact ⟨_,_,_,rfl,h1,h2.symm⟩
 ·cases e
theorem Ny:∀ {xs:List A} {vs:List V} {ps:List (Int×A)},AVs K ρ H xs vs->I0 xs=some ps ->
  ∃ (rs:List Addr) (qs:List (Int×V)),vs=rs.map V.ref/\rs.length=qs.length/\(∀ (i:Nat) (r:Addr) (q:Int×V),rs[i]?=some r->qs[i]?=some q->fF K H r [.int q.1,q.2]) /\
   ∀ as bs,DI K ρ H as bs->DI K ρ H (ps.foldl (λ acc p=>nO acc p.1 p.2) as) (qs.foldl (λ acc p=>putK acc (Sum.inl p.1) p.2) bs):=by
 intro xs
 induction xs with
 | nil=>intro vs ps r e;cases r;cases e;exact ⟨[],[],rfl,rfl,λ i r q h=>by simp at h,λ as bs h=>h⟩
 | cons x xs ih=>
  intro vs ps r e;obtain ⟨k,y,ps',rfl,e1,rfl⟩:=Er e
  cases r with
  | cons h t=>
   obtain ⟨rs,qs,rfl,hl,hh,hd⟩:=ih t e1
   cases h with
   | @tup a _ us h r=>
    obtain ⟨v,w,rfl,h1,h2⟩:=Hq r
    cases h1
    refine ⟨a::rs,(k,w)::qs,rfl,by rw [length_cons,length_cons,hl],λ i r q e1 e2=>?_,λ as bs d=>hd _ _ (d.put h2 k)⟩
    cases i with
    | zero=>cases e1;cases e2;exact fF.of h
    | succ i=>exact hh i r q (by simpa using e1) (by simpa using e2)
end
section
variable {X:Cx}
noncomputable def xF (x:A)(S:aA):R A:=match x with
 | .ref n=>opt (aC S n) λ xs=>opt (I0 xs) λ ps=>.ok (.ref S.length) (S++[.fK (IC ps)])
 | _=>.no
theorem HJ (hc:X.calm=true):bH X (.type "dict") (rN X (f1 xF)):=bH.imp (xU hc) λ vs H Q h0=>by
 obtain ⟨w,rfl,ρ,S,x,R,hv,h⟩:=JS h0;clear h0
 cases hv with
 | ref hp=>
  rename_i p n;obtain ⟨xs,hn,h⟩:=aM h;obtain ⟨ps,hb,h⟩:=aM h;obtain ⟨us,h1,r⟩:=R.lst hp (aS hn);obtain ⟨rs,qs,rfl,hl,hh,hd⟩:=Ny r hb;refine ⟨p,rs,qs,rfl,gY.of h1,hl,hh,λ l hl'=>?_⟩;obtain ⟨ex,R',hl⟩:=R.NP (xs:=IC ps) (vs:=O2 qs) hl' (hd [] [] trivial);exact h _ _ _ ex R' (.ref hl)
 | _=>exact h.elim
noncomputable def nk (x:A)(S:aA):R A:=match x with
 | .ref n=>opt (cg S n) λ kvs=>.ok (.ref S.length) (S++[.lst ((sortI (kvs.map Prod.fst)).map .int)])
 | _=>.no
theorem HF {ns:List Int}{g:Nat->Nat}(c:Sx.Cl g 0 ns.length)(so:Sx.So (Hy ns) g 0 ns.length):(List.range ns.length).map (λ i=>ns.getD (g i) 0)=sortI ns:=by
 refine IP ?_ ?_ (pV ns)
 ·refine List.Perm.trans ?_ (sortI_perm ns).symm;have p:=qM (N:=ns.length) (g:=g) (λ i hi=>(c i (zero_le _) hi).2) λ i j hij hj z=>by
   have:=so i j (zero_le _) hij hj;rw [z] at this;exact this.Gz
  have:=p.map λ i=>ns.getD i 0;rw [List.map_map,range_getD] at this;exact this
 ·rw [pairwise_iff_getElem];intro i j hi hj hij;rw [length_map,length_range] at hi hj;rw [getElem_map,getElem_map,getElem_range,getElem_range];have:=of_decide_eq_false (so i j (zero_le _) hij hj).ge;omega
theorem Bb (hc:X.calm=true):bH X (.builtin "sorted") (rN X (f1 nk)):=bH.imp (sV hc) λ vs H Q h0=>by
 obtain ⟨w,rfl,ρ,S,x,R,hv,h⟩:=JS h0;clear h0
 cases hv with
 | ref hp=>
  rename_i p n;obtain ⟨kvs,hn,h⟩:=aM h;obtain ⟨ks,g1,dv⟩:=R.fK hp (gv hn);refine ⟨p,ks,kvs.map Prod.fst,rfl,g1,by rw [dv.keys,List.map_map];rfl,λ l g hl' hc hs=>?_⟩;have av:AVs X.K ρ H ((sortI (kvs.map Prod.fst)).map .int) ((List.range (kvs.map Prod.fst).length).map λ i=>V.int ((kvs.map Prod.fst).getD (g i) 0)):=by
   rw [<- HF hc hs,List.map_map];exact xD λ i _=>.int _
  exact e_ R av .refl h l hl'
 | _=>exact h.elim
@[irreducible] noncomputable def big:Nat:=2 ^ 4096
theorem oQ:big=2 ^ 4096:=by unfold big;rfl
theorem vB {i:Int}(h:i.natAbs < big):Builtin.Int.intBits i<=2 ^ 20:=by
 rw [oQ] at h;exact Nat.le_trans (intBits_le h) (by decide)
noncomputable def vC (a b:A)(S:aA):R A:=match a,b with
 | .int i,.int j=>gd (i.natAbs < big/\j.natAbs < big) (.ok (.int (i * j)) S)
 | _,_=>.no
theorem CO:fX X (binaryOp .Mult) (r2 X vC):=λ pins s σ H x y v u Q I rx ry h9=>by
 obtain ⟨ρ,S,a,b,R,va,vb,h⟩:=h9
 cases va with
 | int i=>cases vb with
  | int j=>
   obtain ⟨⟨h1,h2⟩,h⟩:=bh h;obtain ⟨t,rfl⟩:∃ t,v=Value.int i t:=rx;obtain ⟨t',rfl⟩:∃ t,u=Value.int j t:=ry;exact mul_int ⟨.int _,H,I.tok _,⟨_,rfl⟩,h _ _ _ .refl R (.int _)⟩ (IntMulOk.of_bits (vB h1) (vB h2))
  | _=>exact h.elim
 | _=>exact h.elim
end
theorem Iu:bootBuiltins "dict" = some (.type "dict"):=by decide +kernel
noncomputable def kA (p:Int×Int):A:=.ktu [.int p.1,.int p.2]
noncomputable def GN (K:PySem.W.Frag):Value->Option (Int×Int)
 | .ref b=>match K.lookup b with
  | some ⟨.type "tuple",none,.seq its _,_⟩=>match its.toList with
   | [.int i _,.int j _]=>some (i,j)
   | _=>none
  | _=>none
 | _=>none
noncomputable def yi (K:PySem.W.Frag):List Value->Option (List (Int×Int))
 | []=>some []
 | v::vs=>(GN K v).bind λ p=>(yi K vs).map λ ps=>p::ps
noncomputable def MQ (K:PySem.W.Frag)(a:Addr):Option (List (Int×Int)):=match K.lookup a with
 | some ⟨.type "list",none,.seq its _,_⟩=>if its.size<=sizeLine then yi K its.toList else none
 | _=>none
theorem C8 {K:PySem.W.Frag}{v:Value}{p:Int×Int}(h:GN K v=some p):∃ b,v=.ref b/\Qt K b [.int p.1,.int p.2]:=by
 unfold GN at h;split at h
 ·rename_i b;refine ⟨b,rfl,?_⟩;split at h
  ·rename_i its n sl e;split at h
   ·rename_i i t j u e2
    cases h
    refine ⟨_,its,n,e,rfl,rfl,rfl,?_,?_⟩
    ·rw [<- length_toList,e2];show 2<=sizeLine;decide
    ·rw [e2];exact .cons ⟨t,rfl⟩ (.cons ⟨u,rfl⟩ .nil)
   ·cases h
  ·cases h
 ·cases h
theorem Bs {K:PySem.W.Frag}{ρ:List Addr}{H:Hp}:∀ {vs:List Value} {ps:List (Int×Int)},yi K vs=some ps->∃ us:List V,Vals us vs/\AVs K ρ H (ps.map kA) us:=by
 intro vs
 induction vs with
 | nil=>intro ps h;cases h;exact ⟨[],.nil,.nil⟩
 | cons v vs ih=>
  intro ps h;obtain ⟨p,h1,h⟩:=bind_eq_some_iff.mp h;obtain ⟨qs,h2,rfl⟩:=map_eq_some_iff.mp h;obtain ⟨us,h3,h4⟩:=ih h2;obtain ⟨b,rfl,h5⟩:=C8 h1;exact ⟨.ref b::us,.cons rfl h3,.cons (.ktu h5 (.cons (.int _) (.cons (.int _) .nil))) h4⟩
theorem K8 {K:PySem.W.Frag}{ρ:List Addr}{H:Hp}{a:Addr}{ps:List (Int×Int)}(h:MQ K a=some ps):AV K ρ H (.frz (ps.map kA)) (.ref a):=by
 unfold MQ at h;split at h
 ·rename_i its n sl e;split at h
  ·rename_i hz;obtain ⟨us,h1,h2⟩:=Bs (ρ:=ρ) (H:=H) h;exact .frz (.inr ⟨_,its,n,e,rfl,rfl,rfl,hz,h1⟩) h2
  ·cases h
 ·cases h
theorem Ez {X:Cx}{x:Str}{a:Addr}{ps:List (Int×Int)}{pos:Pos}(hm:X.mg x=some (.ref a))(hk:MQ X.K a=some ps)(hg:Gl X x:=by rfl)(hd:(x == ("__debug__" : Str))=false:=by decide):AE X (.Name x pos) (eC (.frz (ps.map kA))):=
 PE.imp (yE (v:=.ref a) hg hm rfl hd) λ σ H Q h9=>by
  obtain ⟨ρ,S,τ,R,r,h⟩:=h9;exact h ρ H _ .refl R (K8 hk)
end Am
namespace Bl
open L2
noncomputable def cnt:List Int->Int->Int
 | [],_=>0
 | x::l,j=>(if j<=x then 1 else 0)+cnt l j
noncomputable def Below (xs ys:List Int):Prop:=∀ (i:Nat) (j:Int),cnt (xs.take i) j<=cnt (ys.take i) j
theorem take_snoc {l:List Int}{i:Nat}(h:i < l.length):l.take (i+1)=l.take i++[l[i]]:=by
 rw [List.take_succ,List.getElem?_eq_getElem h];rfl
theorem Av {l:List Int}{p:Nat}(h:p < l.length)(v:Int)(i:Nat)(j:Int) :
  cnt ((l.set p v).take i) j=cnt (l.take i) j+(if p < i then (if j<=v then 1 else 0) - (if j<=l[p] then 1 else 0) else 0):=by
 induction l generalizing p i with
 | nil=>cases h
 | cons x l ih=>
  cases i with
  | zero=>simp [cnt]
  | succ i=>
   cases p with
   | zero=>
    show (if j<=v then 1 else 0)+cnt (l.take i) j=(if j<=x then 1 else 0)+cnt (l.take i) j+_;rw [if_pos (Nat.succ_pos _)];show _=(if j<=x then 1 else 0)+cnt (l.take i) j+((if j<=v then 1 else 0) - (if j<=x then 1 else 0));omega
   | succ p=>
    show (if j<=x then 1 else 0)+cnt ((l.set p v).take i) j=(if j<=x then 1 else 0)+cnt (l.take i) j+_;have hp:p < l.length:=Nat.lt_of_succ_lt_succ h;rw [ih hp];by_cases z:p < i
    ·rw [if_pos z,if_pos (Nat.succ_lt_succ z)];show _=(if j<=x then 1 else 0)+cnt (l.take i) j+((if j<=v then 1 else 0) - (if j<=l[p] then 1 else 0));omega
    ·rw [if_neg z,if_neg (λ y=>z (Nat.lt_of_succ_lt_succ y))];omega
theorem u5 {l:List Int}{p q:Nat}(hp:p < l.length)(hq:q < l.length)(hpq:p < q)(h:l[p] < l[q]):Below l ((l.set p l[q]).set q l[p]):=by
 intro i j;have hq':q < (l.set p l[q]).length:=by rw [length_set];exact hq
 rw [Av hq',Av hp];have e:(l.set p l[q])[q]=l[q]:=by rw [List.getElem_set_ne (ne_of_lt hpq)]
 rw [e]
 (repeat' split) <;> omega
noncomputable def Lm (a b:List Int):Prop:=a.length=b.length/\∀ (p:Nat) (h:p < a.length),b[(a[p] - 1).toNat]?=some ((p:Int)+1)
end Bl
namespace Am
open PySem L2 Bl
end Am
namespace Tb
noncomputable def fg (r:List Int)(x:Int):Nat:=r.findIdx λ y=>decide (x < y)
noncomputable def put:List (List Int)->Int->List (List Int)
 | [],x=>[[x]]
 | r::rs,x=>if fg r x=r.length then (r++[x])::rs else r.set (fg r x) x::put rs (r.getD (fg r x) 0)
noncomputable def row:List (List Int)->Int->Nat
 | [],_=>0
 | r::rs,x=>if fg r x=r.length then 0 else row rs (r.getD (fg r x) 0)+1
theorem Jg {r:List Int}{rs:List (List Int)}{x:Int}(h:fg r x=r.length):put (r::rs) x=(r++[x])::rs:=if_pos h
theorem KS {r:List Int}{rs:List (List Int)}{x:Int}(h:fg r x≠r.length):put (r::rs) x=r.set (fg r x) x::put rs (r.getD (fg r x) 0):=if_neg h
theorem yu {r:List Int}{rs:List (List Int)}{x:Int}(h:fg r x=r.length):row (r::rs) x=0:=if_pos h
theorem Dt {r:List Int}{rs:List (List Int)}{x:Int}(h:fg r x≠r.length):row (r::rs) x=row rs (r.getD (fg r x) 0)+1:=if_neg h
theorem Df:∀ (T:List (List Int)) (x:Int),row T x<=T.length
 | [],_=>Nat.le_refl _
 | r::rs,x=>by
  by_cases h:fg r x=r.length
  ·rw [yu h];exact zero_le _
  ·rw [Dt h,length_cons];exact Nat.succ_le_succ (Df rs _)
noncomputable def bump:List Nat->Nat->List Nat
 | [],_=>[1]
 | n::ns,0=>(n+1)::ns
 | n::ns,i+1=>n::bump ns i
theorem sN:∀ (T:List (List Int)) (x:Int),(put T x).map List.length=bump (T.map List.length) (row T x)
 | [],_=>rfl
 | r::rs,x=>by
  by_cases h:fg r x=r.length
  ·rw [Jg h,yu h,map_cons,map_cons,length_append];rfl
  ·rw [KS h,Dt h,map_cons,map_cons,length_set,sN rs];rfl
theorem uM:∀ (ns:List Nat) (i:Nat),i<=ns.length->(bump ns i).length=if i=ns.length then ns.length+1 else ns.length
 | [],i,h=>by
  have:i=0:=by simpa using h
  subst this;rfl
 | n::ns,0,_=>by rw [if_neg (by simp)];rfl
 | n::ns,i+1,h=>by
  have h':i<=ns.length:=Nat.le_of_succ_le_succ h;show (bump ns i).length+1=_;rw [uM ns i h'];by_cases e:i=ns.length
  ·rw [if_pos e,if_pos (by rw [length_cons,e])];rfl
  ·rw [if_neg e,if_neg (by rw [length_cons];omega)];rfl
theorem t6 (T:List (List Int))(x:Int):(put T x).length=if row T x=T.length then T.length+1 else T.length:=by
 have:=congrArg List.length (sN T x);rw [length_map,uM _ _ (by rw [length_map];exact Df T x),length_map] at this;exact this
noncomputable def add:List (List Int)->Nat->Int->List (List Int)
 | [],_,k=>[[k]]
 | q::qs,0,k=>(q++[k])::qs
 | q::qs,i+1,k=>q::add qs i k
noncomputable def gs (r:List Int)(x:Int):List Nat:=(List.range r.length).filter λ k=>decide (x < r.getD k 0)
end Tb
namespace Am
open PySem L2
noncomputable def Rows (S:aA):List Nat->List (List Int)->Prop
 | [],[]=>True
 | r::rs,x::T=>aC S r=some (x.map .int)/\Rows S rs T
 | _,_=>False
structure Tab (S:aA)(n:Nat)(rs:List Nat)(T:List (List Int)):Prop where
 top:aC S n=some (rs.map .ref)
 rows:Rows S rs T
 nd:(n::rs).Nodup
theorem vV {s:Src}{g:Tg}{e:Ex}{T:List A->Prop}(P:Nat->List A->aA->Prop)
  (step:∀ i acc τ S,i < s.k->T τ->P i acc S->∃ x τ1 S1 y S3,s.get i S=some x/\g x τ S=.ok τ1 S1/\T τ1/\e τ1 S1=.ok y S3/\P (i+1) (acc++[y]) S3) (hfin:∀ acc S,P s.k acc S->s.fin S=true) :
  ∀ k i acc τ S,k+i=s.k->T τ->P i acc S->∃ ys S',d_ s g mX e k i τ S=.ok ys S'/\P s.k (acc++ys) S'
 | 0,i,acc,τ,S,hk,hT,hP=>by
  have:i=s.k:=by omega
  subst this;exact ⟨[],S,by unfold d_;rw [if_pos (hfin acc S hP)],by rw [append_nil];exact hP⟩
 | k+1,i,acc,τ,S,hk,hT,hP=>by
  obtain ⟨x,τ1,S1,y,S3,hx,hg,hT1,he,hP3⟩:=step i acc τ S (by omega) hT hP;obtain ⟨ys,S',h1,h2⟩:=vV P step hfin k (i+1) (acc++[y]) τ1 S3 (by omega) hT1 hP3;refine ⟨y::ys,S',?_,by rw [List.append_assoc] at h2;exact h2⟩;unfold d_;rw [hx,dm,hg,R.dg];show (e τ1 S1).jG _=_;rw [he,R.dg,h1];rfl
theorem eq_nil {S:aA}{a b:Nat}{xs:List A}(h:aC S a=some xs)(h':aC S b=some []):iY S 12 (.ref a) (.ref b)=some xs.isEmpty:=by
 show (aC S a).bind (λ xs=>(aC S b).bind λ ys=>gR (iY S 11) xs ys)=_;rw [h,bind_some,h',bind_some]
 cases xs <;> rfl
theorem uD {S:aA}{a b:A}{k:Bool}(h:iY S 12 a b=some k):je false a b S=.ok (.bl k) S:=by unfold je;rw [h];rfl
theorem pM {S:aA}{a b:A}{k:Bool}(h:iY S 12 a b=some k):je true a b S=.ok (.bl (!k)) S:=by unfold je;rw [h];rfl
theorem vX {xs:List A}{n:Nat}{cap:List (Option Nat)}{src:Ic}{t:Te}{e:Ex}{τ:List A}{S:aA}(hs:src τ S=.ok (b_ n xs.length) S)(hx:aC S n=some xs)(p:A->Bool)(f:A->A)
  (ht:∀ x∈xs,t (x::dz cap τ) S=.ok (p x) S) (he:∀ x∈xs,p x=true->e (x::dz cap τ) S=.ok (f x) S) (hl:xs.length<=16777216) :
  cJ (none::cap) src (bQ 0) t e τ S=.ok (.ref S.length) (S++[.lst ((xs.filter p).map f)]):=by
 have hm:∀ i,i < xs.length->xs.getD i .unb∈xs:=λ i hi=>by
  rw [getD_eq_getElem?_getD,List.getElem?_eq_getElem hi];exact getElem_mem hi
 rw [rZ hs (λ i=>xs.getD i .unb) (λ i=>p (xs.getD i .unb)) (λ i=>f (xs.getD i .unb)) (λ i hi=>by
  have hi:i < xs.length:=hi;show (aC S n).bind _=_;rw [hx,bind_some,getD_eq_getElem?_getD,List.getElem?_eq_getElem hi];rfl) (by
   show (match aC S n with
    | some ys=>decide (ys.length<=xs.length)
    | none=>false)=true
   rw [hx];simp) (λ i hi=>ht _ (hm i hi)) (λ i hi=>he _ (hm i hi)) hl]
 have:=ja xs p f .unb;show R.ok _ (S++[O.lst (((List.range xs.length).filter _).map _)])=_;rw [this]
theorem getD_at {r:List Int}{k:Nat}(h:k < r.length):r[k]?=some (r.getD k 0):=by rw [getD_eq_getElem?_getD,List.getElem?_eq_getElem h];rfl
end Am
namespace Wd
open Bl L2
noncomputable def ex (l:List Int)(k:Nat):List Int:=(l.set (k - 1) (l.getD k 0)).set k (l.getD (k - 1) 0)
noncomputable def led (l:List Int)(w:List Nat):List Int:=w.foldl ex l
theorem kj {l:List Int}{k:Nat}(h:k < l.length):l.getD k 0=l[k]:=by rw [getD_eq_getElem?_getD,List.getElem?_eq_getElem h];rfl
theorem Jx {l:List Int}{k:Nat}(h0:1<=k)(h:k < l.length):ex l k=(l.set (k - 1) l[k]).set k (l[k - 1]'(by omega)):=by
 unfold ex;rw [kj h,kj (show k - 1 < l.length by omega)]
theorem tF (l:List Int)(k:Nat):(ex l k).length=l.length:=by unfold ex;rw [length_set,length_set]
theorem up {l:List Int}{k:Nat}(h0:1<=k)(h:k < l.length)(hr:l[k - 1]'(by omega) < l[k]):Below l (ex l k):=by
 rw [Jx h0 h];exact u5 (by omega) h (by omega) hr
noncomputable def sw (k:Nat)(x:Int):Int:=if x=k then (k:Int)+1 else if x=(k:Int)+1 then k else x
theorem lz {l:List Int}{k:Nat}(h0:1<=k)(h:k < l.length)(p:Nat):(ex l k)[p]?=if p=k then l[k - 1]? else if p=k - 1 then l[k]? else l[p]?:=by
 rw [Jx h0 h,List.getElem?_set];by_cases h1:k=p
 ·rw [if_pos h1,if_pos h1.symm,if_pos (by rw [length_set];omega),List.getElem?_eq_getElem]
 ·rw [if_neg h1,if_neg (λ z=>h1 z.symm),List.getElem?_set];by_cases h2:k - 1=p
  ·rw [if_pos h2,if_pos h2.symm,if_pos (by omega),List.getElem?_eq_getElem]
  ·rw [if_neg h2,if_neg (λ z=>h2 z.symm)]
end Wd
namespace Iv
open L2 Bl
noncomputable def inv:List Int->Nat
 | []=>0
 | x::l=>l.countP (λ y=>decide (y < x))+inv l
noncomputable def fh (a b:List Int):Nat:=(a.map λ x=>b.countP λ y=>decide (y < x)).sum
theorem lG (x:Int)(a b:List Int):fh (x::a) b=b.countP (λ y=>decide (y < x))+fh a b:=rfl
theorem cQ:∀ (a b:List Int),inv (a++b)=inv a+inv b+fh a b
 | [],b=>by show inv b=0+inv b+0;omega
 | x::a,b=>by
  show (a++b).countP _+inv (a++b)=(a.countP _+inv a)+inv b+fh (x::a) b;rw [List.countP_append,cQ a b,lG];omega
theorem mZ:∀ {a b:List Nat},a.Perm b->a.sum=b.sum
 | _,_,.nil=>rfl
 | _,_,.cons x h=>by rw [sum_cons,sum_cons,mZ h]
 | _,_,.swap x y l=>by rw [sum_cons,sum_cons,sum_cons,sum_cons];omega
 | _,_,.trans h k=>(mZ h).trans (mZ k)
theorem Jv {a a':List Int}(b:List Int)(h:a.Perm a'):fh a b=fh a' b:=mZ (h.map _)
theorem HS (a:List Int){b b':List Int}(h:b.Perm b'):fh a b=fh a b':=by
 unfold fh;congr 1;refine map_congr_left λ x _=>h.countP_eq _
theorem uf {M:List Int}{x y:Int}(h:∀ m∈M,m < x\/y < m)(hxy:x < y):M.countP (λ m=>decide (m < x))=M.countP (λ m=>decide (m < y)):=by
 refine List.countP_congr λ m hm=>?_;rw [decide_eq_true_iff,decide_eq_true_iff]
 rcases h m hm with z | z <;> omega
theorem oA:∀ {M:List Int} {x y:Int},(∀ m∈M,m < x\/y < m)->x < y->fh M [x]=fh M [y]
 | [],_,_,_,_=>rfl
 | m::M,x,y,h,hxy=>by
  rw [lG,lG,oA (λ m' hm=>h m' (mem_cons_of_mem _ hm)) hxy];congr 1;have:=h m (mem_cons_self ..);simp only [countP_cons,List.countP_nil];by_cases c:x < m
  ·rw [decide_eq_true c,decide_eq_true (show y < m by omega)]
  ·rw [decide_eq_false c,decide_eq_false (show ¬ y < m by omega)]
theorem mid {M:List Int}{x y:Int}(h:∀ m∈M,m < x\/y < m)(hxy:x < y):inv ([y]++M++[x])=inv ([x]++M++[y])+1:=by
 rw [cQ,cQ,cQ ([x]++M),cQ [x]];have e1:fh [y] M=fh [x] M:=by
  show M.countP _+0=M.countP _+0;rw [uf h hxy]
 have e2:fh ([y]++M) [x]=1+fh M [x]:=by
  show [x].countP _+fh M [x]=_;rw [countP_cons,decide_eq_true hxy];rfl
 have e3:fh ([x]++M) [y]=fh M [y]:=by
  show [y].countP _+fh M [y]=_;rw [countP_cons,decide_eq_false (by omega:¬ y < x)];simp
 rw [e1,e2,e3,oA h hxy];show 0+inv M+_+0+_=0+inv M+_+0+_+1;omega
theorem Ea (M:List Int)(x y:Int):([y]++M++[x]).Perm ([x]++M++[y]):=by
 refine (List.perm_append_comm (l₁:=[y]++M) (l₂:=[x])).trans ?_;show (x::(y::M)).Perm (x::(M++[y]));exact .cons x (List.perm_append_comm (l₁:=[y]) (l₂:=M))
theorem step {P M R:List Int}{x y:Int}(h:∀ m∈M,m < x\/y < m)(hxy:x < y):inv (P++([y]++M++[x])++R)=inv (P++([x]++M++[y])++R)+1:=by
 have p:=Ea M x y;rw [cQ,cQ P,cQ (P++([x]++M++[y])),cQ P,mid h hxy,HS P p,Jv R (p.append_left P)];omega
noncomputable def sw (a:List Int)(i j:Nat):List Int:=(a.set i (a.getD j 0)).set j (a.getD i 0)
theorem split {a:List Int}{i j:Nat}(hij:i < j)(hj:j < a.length):∃ P M R:List Int,a=P++([a.getD i 0]++M++[a.getD j 0])++R/\P=a.take i/\(∀ m∈M,∃ k,i < k/\k < j/\a[k]?=some m)/\sw a i j=P++([a.getD j 0]++M++[a.getD i 0])++R:=by
 have gi:a.getD i 0=a[i]:=by rw [getD_eq_getElem?_getD,List.getElem?_eq_getElem (by omega)];rfl
 have gj:a.getD j 0=a[j]:=by rw [getD_eq_getElem?_getD,List.getElem?_eq_getElem hj];rfl
 obtain ⟨M,hM⟩:∃ M,M=(a.drop (i+1)).take (j - i - 1):=⟨_,rfl⟩;have lM:M.length=j - i - 1:=by rw [hM,length_take,length_drop];omega
 have ea:a=a.take i++([a.getD i 0]++M++[a.getD j 0])++a.drop (j+1):=by
  have h1:a.drop i=a[i]::a.drop (i+1):=drop_eq_getElem_cons (by omega);have h2:a.drop (i+1)=M++a.drop j:=by
   rw [hM];have:=List.take_append_drop (j - i - 1) (a.drop (i+1));rw [List.drop_drop,show i+1+(j - i - 1)=j by omega] at this;exact this.symm
  have h3:a.drop j=a[j]::a.drop (j+1):=drop_eq_getElem_cons hj
  conv=>lhs;rw [<- List.take_append_drop i a,h1,h2,h3]
  rw [gi,gj];simp
 refine ⟨a.take i,M,a.drop (j+1),ea,rfl,λ m hm=>?_,?_⟩
 ·rw [hM] at hm;obtain ⟨k,hk⟩:=getElem?_of_mem hm;have hlt:k < j - i - 1:=by
   have:=(List.getElem?_eq_some_iff.mp hk).1;rw [length_take] at this;omega
  rw [List.getElem?_take_of_lt hlt,getElem?_drop] at hk;exact ⟨i+1+k,by omega,by omega,hk⟩
 ·have key:∀ (P R:List Int) (x y x' y':Int),P.length=i->((P++([x]++M++[y])++R).set i y').set j x'=P++([y']++M++[x'])++R:=λ P R x y x' y' lP=>by
   rw [List.append_assoc,set_append_right _ _ (by omega),lP,sub_self];show (P++(y'::((M++[y])++R))).set j x'=_;rw [set_append_right _ _ (by omega),lP,show j - i=(j - i - 1)+1 by omega,List.set_cons_succ,List.append_assoc,set_append_right _ _ (by omega),lM,sub_self];simp
  have:=key (a.take i) (a.drop (j+1)) (a.getD i 0) (a.getD j 0) (a.getD i 0) (a.getD j 0) (by rw [length_take];omega);rw [<- ea] at this;exact this
end Iv
namespace Fw
open PySem L2 Bl
open Wd (ex led)
noncomputable abbrev rg (n:Nat):List Int:=fD 1 ((n:Int)+1)
theorem Oi {l:List Int}{k:Nat}(h0:1<=k)(h:k < l.length):ex (ex l k) k=l:=by
 apply List.ext_getElem?;intro p;have h':k < (ex l k).length:=by rw [Wd.tF];exact h
 rw [Wd.lz h0 h',Wd.lz h0 h,Wd.lz h0 h,Wd.lz h0 h];by_cases c3:p=k
 ·rw [if_pos c3,if_neg (by omega),if_pos rfl,c3]
 ·rw [if_neg c3];by_cases c2:p=k - 1
  ·rw [if_pos c2,if_pos rfl,c2]
  ·rw [if_neg c2,if_neg c3,if_neg c2]
structure Two (n:Nat)(o u:List Int):Prop where
 po:o.Perm (rg n)
 pu:u.Perm (rg n)
 ou:Lm o u
end Fw
namespace Po
open Am
noncomputable abbrev Pl:=List (Int×Int)
noncomputable def val (d:Pl)(k:Int):Int:=((d.find? λ p=>decide (p.1=k)).map (·.2)).getD 0
noncomputable def has (d:Pl)(k:Int):Bool:=d.any λ p=>decide (p.1=k)
noncomputable def put (d:Pl)(k v:Int):Pl:=if has d k=true then d.map (λ p=>if p.1=k then (p.1,v) else p) else d++[(k,v)]
noncomputable def acc (d:Pl)(k v:Int):Pl:=put d k (val d k+v)
noncomputable def cf:Pl->Int->Int
 | [],_=>0
 | p::l,k=>(if p.1=k then p.2 else 0)+cf l k
theorem fS {p:Int×Int}{d:Pl}{k:Int}:val (p::d) k=if p.1=k then p.2 else val d k:=by
 unfold val;rw [find?_cons];by_cases h:p.1=k
 ·rw [decide_eq_true h,if_pos h];rfl
 ·rw [decide_eq_false h,if_neg h]
theorem qG {p:Int×Int}{d:Pl}{k:Int}:has (p::d) k=(decide (p.1=k) || has d k):=rfl
theorem mV {d:Pl}{k:Int}:has d k=true ↔ k∈d.map Prod.fst:=by
 unfold has;rw [any_eq_true,mem_map];constructor
 ·rintro ⟨p,h1,h2⟩;exact ⟨p,h1,of_decide_eq_true h2⟩
 ·rintro ⟨p,h1,h2⟩;exact ⟨p,h1,decide_eq_true h2⟩
theorem Gk {d:Pl}{k:Int}(h:has d k=false):val d k=0:=by
 induction d with
 | nil=>rfl
 | cons p d ih=>
  rw [qG,Bool.or_eq_false_iff] at h;rw [fS,if_neg (of_decide_eq_false h.1),ih h.2]
theorem Ho {d:Pl}{k v j:Int}(h:has d k=false):val (d++[(k,v)]) j=if j=k then v else val d j:=by
 induction d with
 | nil=>
  show val [(k,v)] j=_;rw [fS];by_cases c:k=j
  ·rw [if_pos c,if_pos c.symm]
  ·rw [if_neg c,if_neg (λ z=>c z.symm)]
 | cons p d ih=>
  rw [qG,Bool.or_eq_false_iff] at h;have:=of_decide_eq_false h.1;rw [List.cons_append,fS,fS,ih h.2];by_cases c:p.1=j
  ·rw [if_pos c,if_pos c,if_neg (λ z=>this (c.trans z))]
  ·rw [if_neg c,if_neg c]
theorem HP {d:Pl}{k v j:Int}:val (d.map λ p=>if p.1=k then (p.1,v) else p) j=if j=k/\has d k=true then v else val d j:=by
 induction d with
 | nil=>
  rw [if_neg (λ z=>by cases z.2)];rfl
 | cons p d ih=>
  rw [map_cons,fS,fS,ih,qG];by_cases c:p.1=k
  ·rw [if_pos c,decide_eq_true c,Bool.true_or];by_cases e:j=k
   ·rw [if_pos (show p.1=j by omega),if_pos ⟨e,rfl⟩]
   ·rw [if_neg (show ¬ p.1=j by omega),if_neg (λ z=>e z.1),if_neg (λ z=>e z.1),if_neg (show ¬ p.1=j by omega)]
  ·rw [if_neg c,decide_eq_false c,Bool.false_or];by_cases e:p.1=j
   ·rw [if_pos e,if_pos e,if_neg (λ z=>c (e.trans z.1))]
   ·rw [if_neg e,if_neg e]
theorem Ih {d:Pl}{k v j:Int}:val (put d k v) j=if j=k then v else val d j:=by
 unfold put
 cases h:has d k with
 | true=>
  rw [if_pos rfl,HP,h];by_cases c:j=k
  ·rw [if_pos ⟨c,rfl⟩,if_pos c]
  ·rw [if_neg (λ z=>c z.1),if_neg c]
 | false=>rw [if_neg (by simp),Ho h]
theorem Ji {d:Pl}{k v j:Int}:val (acc d k v) j=val d j+if k=j then v else 0:=by
 unfold acc;rw [Ih];by_cases c:j=k
 ·subst c;rw [if_pos rfl,if_pos rfl]
 ·rw [if_neg c,if_neg (λ z=>c z.symm),Int.add_zero]
theorem C9 {d:Pl}{k v:Int}:(put d k v).map Prod.fst=if has d k=true then d.map Prod.fst else d.map Prod.fst++[k]:=by
 unfold put;split
 ·rw [List.map_map];apply map_congr_left;intro p _;show (if p.1=k then (p.1,v) else p).1=p.1;split <;> rfl
 ·rw [map_append];rfl
theorem MG {d:Pl}{k v:Int}(h:(d.map Prod.fst).Nodup):((put d k v).map Prod.fst).Nodup:=by
 rw [C9];split
 ·exact h
 ·rename_i c;rw [nodup_append];refine ⟨h,pairwise_singleton _ _,λ a ha b hb z=>c ?_⟩;rw [mem_singleton] at hb;rw [mV,<- hb,<- z];exact ha
theorem Jd {d:Pl}{k v:Int}:(put d k v).length<=d.length+1:=by
 unfold put;split
 ·rw [length_map];omega
 ·rw [length_append];exact Nat.le_refl _
noncomputable def Bd (c:Nat)(d:Pl):Prop:=∀ p∈d,p.2.natAbs<=c
theorem Bd.val {c:Nat}{d:Pl}(h:Bd c d)(k:Int):(val d k).natAbs<=c:=by
 induction d with
 | nil=>exact zero_le _
 | cons p d ih=>
  rw [fS];split
  ·exact h p (mem_cons_self ..)
  ·exact ih λ q hq=>h q (mem_cons_of_mem _ hq)
noncomputable def gP (d ps:Pl):Pl:=ps.foldl (λ d p=>acc d p.1 p.2) d
theorem Dd (d:Pl):gP d []=d:=rfl
theorem qm (d ps qs:Pl):gP d (ps++qs)=gP (gP d ps) qs:=by unfold gP;rw [foldl_append]
theorem lY (ps:Pl):∀ (d:Pl) (k:Int),val (gP d ps) k=val d k+cf ps k:=by
 induction ps with
 | nil=>intro d k;rw [Dd];show _=_+0;rw [Int.add_zero]
 | cons p ps ih=>
  intro d k;show val (gP (acc d p.1 p.2) ps) k=_;rw [ih,Ji];show _=_+(_+_);rw [Int.add_assoc]
theorem mT (ps:Pl):∀ {d:Pl},(d.map Prod.fst).Nodup->((gP d ps).map Prod.fst).Nodup:=by
 induction ps with
 | nil=>intro d h;exact h
 | cons p ps ih=>intro d h;exact ih (MG h)
theorem eW (ps:Pl):∀ (d:Pl),(gP d ps).length<=d.length+ps.length:=by
 induction ps with
 | nil=>intro d;exact Nat.le_refl _
 | cons p ps ih=>
  intro d;have h1:=ih (acc d p.1 p.2);have h2:(acc d p.1 p.2).length<=d.length+1:=Jd;show (gP (acc d p.1 p.2) ps).length<=_;rw [length_cons];omega
structure Ok (l:Pl):Prop where
 up:l.Pairwise λ p q=>p.1 < q.1
 nz:∀ p∈l,p.2≠0
theorem Ok.tail {p:Int×Int}{l:Pl}(h:Ok (p::l)):Ok l:=⟨(pairwise_cons.mp h.up).2,λ q hq=>h.nz q (mem_cons_of_mem _ hq)⟩
theorem wF {l:Pl}{k:Int}(h:∀ p∈l,k < p.1):cf l k=0:=by
 induction l with
 | nil=>rfl
 | cons p l ih=>
  show (if p.1=k then p.2 else 0)+cf l k=0;have:=h p (mem_cons_self ..);rw [if_neg (by omega),ih λ q hq=>h q (mem_cons_of_mem _ hq)];rfl
theorem Ok.head {p:Int×Int}{l:Pl}(h:Ok (p::l)):cf (p::l) p.1=p.2:=by
 show (if p.1=p.1 then p.2 else 0)+cf l p.1=p.2;rw [if_pos rfl,wF (pairwise_cons.mp h.up).1,Int.add_zero]
theorem Ok.low {p:Int×Int}{l:Pl}(h:Ok (p::l)){k:Int}(hk:k < p.1):cf (p::l) k=0:=wF λ q hq=>by
 rcases mem_cons.mp hq with rfl | z
 ·exact hk
 ·have:=(pairwise_cons.mp h.up).1 q z;omega
theorem uniq:∀ {l m:Pl},Ok l->Ok m->(∀ k,cf l k=cf m k)->l=m
 | [],[],_,_,_=>rfl
 | [],q::m,_,h,e=>by
  have:=e q.1;rw [h.head] at this;exact absurd this.symm (h.nz q (mem_cons_self ..))
 | p::l,[],h,_,e=>by
  have:=e p.1;rw [h.head] at this;exact absurd this (h.nz p (mem_cons_self ..))
 | p::l,q::m,h,h',e=>by
  have n1:=h.nz p (mem_cons_self ..);have n2:=h'.nz q (mem_cons_self ..);have e1:p.1=q.1:=by
   rcases Int.lt_trichotomy p.1 q.1 with c | c | c
   ·have:=e p.1;rw [h.head,h'.low c] at this;exact absurd this n1
   ·exact c
   ·have:=e q.1;rw [h'.head,h.low c] at this;exact absurd this.symm n2
  have e2:p.2=q.2:=by
   have:=e p.1;rw [h.head,e1,h'.head] at this;exact this
  have e3:p=q:=Prod.ext e1 e2;subst e3;rw [uniq h.tail h'.tail λ k=>by
   have:(if p.1=k then p.2 else 0)+cf l k=(if p.1=k then p.2 else 0)+cf m k:=e k;omega]
noncomputable def xh (d:Pl):Pl:=((sortI (d.map Prod.fst)).filter λ k=>val d k != 0).map λ k=>(k,val d k)
theorem HH {ks:List Int}(h:ks.Nodup):(sortI ks).Pairwise (· < ·):=by
 have p:=pV ks;have n:(sortI ks).Nodup:=(sortI_perm ks).nodup_iff.mpr h;have:(sortI ks).Pairwise λ a b=>a<=b/\a≠b:=p.and n;exact this.imp λ ⟨a,b⟩=>by omega
theorem xq {d:Pl}(h:(d.map Prod.fst).Nodup):Ok (xh d):=by
 refine ⟨?_,λ p hp=>?_⟩
 ·unfold xh;rw [pairwise_map];exact (HH h).filter _
 ·obtain ⟨k,hk,rfl⟩:=mem_map.mp hp;have:=(mem_filter.mp hk).2;simpa using this
theorem E4 {d:Pl}{k:Int}:∀ {ks:List Int},ks.Nodup->cf (ks.map λ j=>(j,val d j)) k=if k∈ks then val d k else 0
 | [],_=>by rw [if_neg (by simp)];rfl
 | j::ks,h=>by
  obtain ⟨h1,h2⟩:=nodup_cons.mp h;show (if j=k then val d j else 0)+cf (ks.map λ j=>(j,val d j)) k=_;rw [E4 h2];by_cases c:j=k
  ·subst c;rw [if_pos rfl,if_neg h1,if_pos (mem_cons_self ..),Int.add_zero]
  ·rw [if_neg c,Int.zero_add];by_cases e:k∈ks
   ·rw [if_pos e,if_pos (mem_cons_of_mem _ e)]
   ·rw [if_neg e,if_neg λ z=>(mem_cons.mp z).elim (λ z=>c z.symm) e]
theorem tV {d:Pl}(h:(d.map Prod.fst).Nodup)(k:Int):cf (xh d) k=val d k:=by
 unfold xh;rw [E4 (((sortI_perm _).nodup_iff.mpr h).filter _)];split
 ·rfl
 ·rename_i c
  cases e:has d k with
  | false=>exact (Gk e).symm
  | true=>
   by_cases z:val d k=0
   ·exact z.symm
   ·exact absurd (mem_filter.mpr ⟨(sortI_perm _).mem_iff.mpr (mV.mp e),by simpa using z⟩) c
theorem MB {d e:Pl}(h:(d.map Prod.fst).Nodup)(h':(e.map Prod.fst).Nodup)(hv:∀ k,val d k=val e k):xh d=xh e:=
 uniq (xq h) (xq h') λ k=>by rw [tV h,tV h',hv]
theorem Ok.nd {l:Pl}(h:Ok l):(l.map Prod.fst).Nodup:=by
 unfold List.Nodup;rw [pairwise_map];exact h.up.imp λ a=>by omega
theorem GD {l:Pl}(h:(l.map Prod.fst).Nodup)(k:Int):val l k=cf l k:=by
 induction l with
 | nil=>rfl
 | cons p l ih=>
  obtain ⟨h1,h2⟩:=nodup_cons.mp h;rw [fS];show _=(if p.1=k then p.2 else 0)+cf l k;rw [<- ih h2];by_cases c:p.1=k
  ·have:has l k=false:=by
    cases e:has l k with
    | false=>rfl
    | true=>exact absurd (mV.mp e) (by rw [<- c];exact h1)
   rw [if_pos c,if_pos c,Gk this,Int.add_zero]
  ·rw [if_neg c,if_neg c,Int.zero_add]
noncomputable def Fb (d ps:Pl):Pl:=ps.foldl (λ d p=>put d p.1 p.2) d
theorem zu:∀ (ps d:Pl),((d++ps).map Prod.fst).Nodup->Fb d ps=d++ps
 | [],d,_=>by rw [append_nil];rfl
 | p::ps,d,h=>by
  have hn:has d p.1=false:=by
   cases e:has d p.1 with
   | false=>rfl
   | true=>
    rw [map_append,nodup_append] at h;exact absurd rfl (h.2.2 _ (mV.mp e) p.1 (List.mem_map_of_mem (mem_cons_self ..)))
  have e:put d p.1 p.2=d++[p]:=by unfold put;rw [hn];rfl
  show Fb (put d p.1 p.2) ps=_;rw [e,zu ps (d++[p]) (by rw [List.append_assoc];exact h),List.append_assoc];rfl
theorem IG {l:Pl}(h:Ok l):Fb [] l=l:=zu l [] h.nd
noncomputable def plus (a b:Pl):Pl:=xh (gP a b)
noncomputable def dO (a b:Pl):Pl:=xh (gP [] (a++b))
theorem HC {a b:Pl}(h:Ok a):plus a b=dO a b:=by
 refine MB (mT _ h.nd) (mT _ nodup_nil) λ k=>?_;rw [lY,lY,GD h.nd];have:∀ (a b:Pl),cf (a++b) k=cf a k+cf b k:=λ a b=>by
  induction a with
  | nil=>exact (Int.zero_add _).symm
  | cons p a ih=>
   show _+cf (a++b) k=_+_+_;rw [ih,Int.add_assoc]
 rw [this];show _=0+_;rw [Int.zero_add]
theorem we (a b:Pl):Ok (dO a b):=xq (mT _ nodup_nil)
noncomputable def xS (a b:Pl):Pl:=a.flatMap λ p=>b.map λ q=>(p.1+q.1,p.2 * q.2)
noncomputable def times (a b:Pl):Pl:=xh (gP [] (xS a b))
theorem CA (a:Pl)(p:Int×Int)(b:Pl):xS (a++[p]) b=xS a b++b.map λ q=>(p.1+q.1,p.2 * q.2):=by
 unfold xS;rw [List.flatMap_append,List.flatMap_cons,List.flatMap_nil,append_nil]
theorem oY (a b:Pl):(xS a b).length=a.length * b.length:=by
 induction a with
 | nil=>simp [xS]
 | cons p a ih=>
  show ((b.map _)++xS a b).length=_;rw [length_append,length_map,ih,length_cons,succ_mul];omega
theorem AZ (d:Pl):(xh d).length<=d.length:=by
 unfold Po.xh;rw [length_map];refine Nat.le_trans (length_filter_le _ _) ?_;rw [(sortI_perm _).length_eq,length_map];exact Nat.le_refl _
noncomputable def turn (a:Pl):Pl:=a.reverse.map λ p=>(-p.1,p.2)
noncomputable def iv (d:Pl):List (Int×A):=d.map λ p=>(p.1,.int p.2)
noncomputable def pA (p:Int×Int):A:=.tup [.int p.1,.int p.2]
noncomputable def pl (l:Pl):List A:=l.map pA
theorem ud (d:Pl)(k:Int):dS (iv d) k=(d.find? λ p=>decide (p.1=k)).map λ p=>.int p.2:=by
 unfold dS iv;rw [find?_map,Option.map_map];rfl
theorem Ej (d:Pl)(k:Int):(dS (iv d) k).getD (.int 0)=.int (val d k):=by
 rw [ud];unfold val
 cases d.find? λ p=>decide (p.1=k) <;> rfl
theorem vj {d:Pl}{k:Int}(h:k∈d.map Prod.fst):dS (iv d) k=some (.int (val d k)):=by
 have:=mV.mpr h;unfold has at this;rw [ud];unfold val
 cases e:d.find? λ p=>decide (p.1=k) with
 | some p=>rfl
 | none=>
  obtain ⟨p,hp,hd⟩:=any_eq_true.mp this;exact absurd hd (find?_eq_none.mp e p hp)
theorem wV (d:Pl)(k v:Int):nO (iv d) k (.int v)=iv (put d k v):=by
 have e:(dS (iv d) k).isSome=has d k:=by
  rw [ud,isSome_map];unfold has;rw [Bool.eq_iff_iff,find?_isSome,any_eq_true]
 unfold nO put;rw [e];unfold iv;split
 ·rw [List.map_map,List.map_map];apply map_congr_left;intro p _;show (if p.1=k then (p.1,A.int v) else (p.1,.int p.2))=_;show _=((if p.1=k then (p.1,v) else p).1,A.int (if p.1=k then (p.1,v) else p).2);split <;> rfl
 ·rw [map_append];rfl
theorem Jw (d:Pl):(iv d).map Prod.fst=d.map Prod.fst:=by
 unfold iv;rw [List.map_map];rfl
theorem JJ:∀ l:Pl,I0 (pl l)=some (iv l)
 | []=>rfl
 | p::l=>by
  show (I0 (pl l)).map _=_;rw [JJ l];rfl
theorem Jf (l:Pl):IC (iv l)=iv (Fb [] l):=by
 have:∀ (l d:Pl),(iv l).foldl (λ acc p=>nO acc p.1 p.2) (iv d)=iv (Fb d l):=by
  intro l
  induction l with
  | nil=>intro d;rfl
  | cons p l ih=>
   intro d;show (iv l).foldl _ (nO (iv d) p.1 (.int p.2))=_;rw [wV,ih];rfl
 exact this l []
end Po
namespace Am
open PySem L2 Po
noncomputable abbrev P_:Tg:=qT 2 (iN (bQ 0) (iN (bQ 1) qS))
theorem Nk {l:Pl}{i:Nat}(h:i < l.length):(pl l)[i]?=some (.tup [.int (l.getD i (0,0)).1,.int (l.getD i (0,0)).2]):=by
 unfold pl;rw [List.getElem?_map,List.getElem?_eq_getElem h,getD_eq_getElem?_getD,List.getElem?_eq_getElem h];rfl
theorem pG (l:Pl):(pl l).length=l.length:=length_map ..
theorem BH {xs:List A}{n:Nat}{cap:List (Option Nat)}{src:Ic}{t:Te}{e:Ex}{τ:List A}{S S1:aA}(hs:src τ S=.ok (b_ n xs.length) S1)(hx:aC S1 n=some xs)(p:A->Bool)(f:A->A)
  (ht:∀ x∈xs,t (x::dz cap τ) S1=.ok (p x) S1) (he:∀ x∈xs,p x=true->e (x::dz cap τ) S1=.ok (f x) S1) (hl:xs.length<=16777216) :
  cJ (none::cap) src (bQ 0) t e τ S=.ok (.ref S1.length) (S1++[.lst ((xs.filter p).map f)]):=by
 have:=vX (S:=S1) (src:=λ _ _=>.ok (b_ n xs.length) S1) (τ:=τ) rfl hx p f ht he hl;unfold cJ at this ⊢;rw [hs];exact this
theorem tN {S:aA}{d:List (Int×A)}:cg (S++[.fK d]) S.length=some d:=tw wX
theorem EK {S:aA}{o:O}{n:Nat}{d:List (Int×A)}(h:cg S n=some d):cg (S++[o]) n=some d:=by
 have h':=gv h;exact tw (by rw [getElem?_append_left (List.getElem?_eq_some_iff.mp h').1];exact h')
theorem JC {S:aA}{n:Nat}{d:List (Int×A)}(h:cg S n=some d):n < S.length:=(List.getElem?_eq_some_iff.mp (gv h)).1
theorem ES {S:aA}{n:Nat}{d:List (Int×A)}(h:n < S.length):cg (S.set n (.fK d)) n=some d:=tw (getElem?_set_self h)
theorem AX {S:aA}{n m:Nat}{d:List (Int×A)}{xs:List A}(h:cg S n=some d)(h':aC S m=some xs):n≠m:=λ z=>by
 subst z;have e1:=gv h;rw [aS h'] at e1
 cases e1
theorem zg {f:A->List A->aA->R A}{co:Ex}{d:g_}{τ:List A}{S:aA}:u_ f co d τ S=(co τ S).bind λ x S1=>opt (dk? x S1) λ _=>(d τ S1).bind λ as S2=>f x as S2:=rfl
theorem Fy {n:Nat}{S:aA}:dk? (.ref n) S=(cg S n).map λ _=>():=rfl
theorem vK {n:Nat}{k:Int}{y:A}{S:aA}:kR (.ref n) [.int k,y] S=opt (cg S n) λ kvs=>.ok ((dS kvs k).getD y) S:=rfl
theorem zl {co ci:Ex}{a:A}{τ:List A}{S:aA}:uN co ci a τ S=(co τ S).bind λ o S1=>(ci τ S1).bind λ i S2=>(rL o i a S2).bind λ _ S3=>.ok τ S3:=rfl
theorem ve {n:Nat}{k:Int}{v:A}{S:aA}:rL (.ref n) (.int k) v S=opt (cg S n) λ kvs=>gd (kvs.length < sizeLine) (.ok () (S.set n (.fK (nO kvs k v)))):=rfl
theorem zO {n:Nat}{k:Int}{S:aA}:nG (.ref n) (.int k) S=opt (cg S n) λ kvs=>opt (dS kvs k) λ v=>.ok v S:=rfl
theorem nW {τ:List A}{S:aA}:qO τ S=.ok (.ref S.length) (S++[.fK []]):=rfl
theorem BF {n:Nat}{S:aA}:nk (.ref n) S=opt (cg S n) λ kvs=>.ok (.ref S.length) (S++[.lst ((sortI (kvs.map Prod.fst)).map .int)]):=rfl
theorem Bo {n:Nat}{S:aA}:xF (.ref n) S=opt (aC S n) λ xs=>opt (I0 xs) λ ps=>.ok (.ref S.length) (S++[.fK (IC ps)]):=rfl
theorem PY {i j:Int}{S:aA}(h:i.natAbs < big)(h':j.natAbs < big):vC (.int i) (.int j) S=.ok (.int (i * j)) S:=eV ⟨h,h'⟩
theorem FZ (d:Pl):(iv d).length=d.length:=length_map ..
noncomputable abbrev ML:Sm:=bP (aJ cj (u_ kR (ak 2) (aj (ak 3) (aj (eC (.int 0)) (aK)))) (ak 4)) (uN (ak 2) (ak 3))
theorem acc_step {S:aA}{d:Nat}{D:Pl}{x0 x1:A}{k v:Int}(hd:cg S d=some (iv D))(hl:D.length < 16777216):ML [x0,x1,.ref d,.int k,.int v] S=.nx [x0,x1,.ref d,.int k,.int v] (S.set d (.fK (iv (acc D k v)))):=by
 unfold ML;simp only [bD,bools,zg,Fy,hd,map_some,vK,Ej,zl,ve,lK (show (iv D).length < 16777216 by rw [FZ];exact hl),wV];rfl
noncomputable abbrev KN:Tg:=qT 2 (iN (bQ 3) (iN (bQ 4) qS))
theorem AM {S S1:aA}{d n:Nat}{D l:Pl}{x0 x1 x3 x4:A}{src:Ic}(hs:src [x0,x1,.ref d,x3,x4] S=.ok (b_ n (pl l).length) S1)(hn:aC S1 n=some (pl l))(hd:cg S1 d=some (iv D))(hl:D.length+l.length < 16777216) :
  ∃ y3 y4 S',cI src KN ML [x0,x1,.ref d,x3,x4] S=.nx [x0,x1,.ref d,y3,y4] S'/\cg S' d=some (iv (gP D l))/\Kp (·=d) S1 S':=by
 have nd:=AX hd hn;refine kg (n:=n) (xs:=pl l) hs (λ i τ T=>(∃ y3 y4,τ=[x0,x1,.ref d,y3,y4])/\cg T d=some (iv (gP D (l.take i)))/\Kp (·=d) S1 T)
  (λ r=>∃ y3 y4 S',r=.nx [x0,x1,.ref d,y3,y4] S'/\cg S' d=some (iv (gP D l))/\Kp (·=d) S1 S') ⟨⟨_,_,rfl⟩,hd,Kp.refl⟩ (λ i τ T h=>h.2.2.lst _ _ (Ne.symm nd) hn) ?_ ?_
 ·rintro i z τ T hz ⟨⟨y3,y4,rfl⟩,hD,kp⟩;unfold pl at hz;rw [List.getElem?_map] at hz;obtain ⟨p,hp,rfl⟩:=map_eq_some_iff.mp hz;refine ⟨[x0,x1,.ref d,.int p.1,.int p.2],T,rfl,.inl ?_⟩;have hlen:=eW (l.take i) D;have hi:=(List.getElem?_eq_some_iff.mp hp).1;rw [length_take] at hlen;refine ⟨_,_,acc_step hD (by omega),⟨_,_,rfl⟩,?_,kp.tH (.inl rfl)⟩;rw [ES (JC hD),take_add_one,hp,qm];rfl
 ·rintro τ T ⟨⟨y3,y4,rfl⟩,hD,kp⟩;rw [pG,take_length] at hD;exact ⟨y3,y4,T,rfl,hD,kp⟩
noncomputable abbrev Ht:Sm:=bP (aJ cj (u_ kR (ak 2) (aj (aJ cj (ak 3) (ak 5)) (aj (eC (.int 0)) (aK)))) (aJ vC (ak 4) (ak 6))) (uN (ak 2) (aJ cj (ak 3) (ak 5)))
noncomputable abbrev Qg:Tg:=qT 2 (iN (bQ 5) (iN (bQ 6) qS))
theorem Ec {S:aA}{d:Nat}{D:Pl}{x0 x1:A}{k v j u:Int}(hd:cg S d=some (iv D))(hl:D.length < 16777216)(hv:v.natAbs < big)(hu:u.natAbs < big):Ht [x0,x1,.ref d,.int k,.int v,.int j,.int u] S=.nx [x0,x1,.ref d,.int k,.int v,.int j,.int u] (S.set d (.fK (iv (acc D (k+j) (v * u))))):=by
 unfold Ht;simp only [bD,bools,zg,Fy,hd,map_some,vK,Ej,PY hv hu,zl,ve,lK (show (iv D).length < 16777216 by rw [FZ];exact hl),wV];rfl
theorem Jm {S:aA}{d n:Nat}{D l:Pl}{x0 x5 x6:A}{k v:Int}(hn:aC S n=some (pl l))(hd:cg S d=some (iv D))(hl:D.length+l.length < 16777216)(hv:v.natAbs < big)(hu:∀ p∈l,p.2.natAbs < big) :
  ∃ y5 y6 S',cI (dJ (ak 1)) Qg Ht [x0,.ref n,.ref d,.int k,.int v,x5,x6] S=.nx [x0,.ref n,.ref d,.int k,.int v,y5,y6] S'/\cg S' d=some (iv (gP D (l.map λ q=>(k+q.1,v * q.2))))/\Kp (·=d) S S':=by
 have nd:=AX hd hn;refine kg (n:=n) (xs:=pl l) (S1:=S) (dR (by simp only [bD,bools]) hn) (λ i τ T=>(∃ y5 y6,τ=[x0,.ref n,.ref d,.int k,.int v,y5,y6])/\cg T d=some (iv (gP D ((l.take i).map λ q=>(k+q.1,v * q.2))))/\Kp (·=d) S T)
  (λ r=>∃ y5 y6 S',r=.nx [x0,.ref n,.ref d,.int k,.int v,y5,y6] S'/\cg S' d=some (iv (gP D (l.map λ q=>(k+q.1,v * q.2))))/\Kp (·=d) S S') ⟨⟨_,_,rfl⟩,hd,Kp.refl⟩ (λ i τ T h=>h.2.2.lst _ _ (Ne.symm nd) hn) ?_ ?_
 ·rintro i z τ T hz ⟨⟨y5,y6,rfl⟩,hD,kp⟩;unfold pl at hz;rw [List.getElem?_map] at hz;obtain ⟨p,hp,rfl⟩:=map_eq_some_iff.mp hz;refine ⟨[x0,.ref n,.ref d,.int k,.int v,.int p.1,.int p.2],T,rfl,.inl ?_⟩;have hlen:=eW ((l.take i).map λ q=>(k+q.1,v * q.2)) D;have hi:=(List.getElem?_eq_some_iff.mp hp).1;rw [length_map,length_take] at hlen;refine ⟨_,_,Ec hD (by omega) hv (hu p (mem_of_getElem? hp)),⟨_,_,rfl⟩,?_,kp.tH (.inl rfl)⟩;rw [ES (JC hD),take_add_one,hp,map_append,qm];rfl
 ·rintro τ T ⟨⟨y5,y6,rfl⟩,hD,kp⟩;rw [pG,take_length] at hD;exact ⟨y5,y6,T,rfl,hD,kp⟩
noncomputable abbrev CL:Sm:=cI (dJ (ak 1)) Qg Ht
theorem pN (f:Int×Int->A)(hf:∀ p τ S,KN (f p) τ S=KN (pA p) τ S){S:aA}{d n m:Nat}{a b:Pl}{x3 x4 x5 x6:A}(hn:aC S n=some (a.map f))(hm:aC S m=some (pl b))(hd:cg S d=some [])(hl:a.length * b.length < 16777216)(ha:∀ p∈a,p.2.natAbs < big)(hb:∀ p∈b,p.2.natAbs < big) :
  ∃ y3 y4 y5 y6 S',cI (dJ (ak 0)) KN CL [.ref n,.ref m,.ref d,x3,x4,x5,x6] S=.nx [.ref n,.ref m,.ref d,y3,y4,y5,y6] S'/\cg S' d=some (iv (gP [] (xS a b)))/\Kp (·=d) S S':=by
 have nd:=AX hd hn;have md:=AX hd hm;refine kg (n:=n) (xs:=a.map f) (S1:=S) (dR (by simp only [bD,bools]) hn) (λ i τ T=>(∃ y3 y4 y5 y6,τ=[.ref n,.ref m,.ref d,y3,y4,y5,y6])/\cg T d=some (iv (gP [] (xS (a.take i) b)))/\Kp (·=d) S T)
  (λ r=>∃ y3 y4 y5 y6 S',r=.nx [.ref n,.ref m,.ref d,y3,y4,y5,y6] S'/\cg S' d=some (iv (gP [] (xS a b)))/\Kp (·=d) S S') ⟨⟨_,_,_,_,rfl⟩,hd,Kp.refl⟩ (λ i τ T h=>h.2.2.lst _ _ (Ne.symm nd) hn) ?_ ?_
 ·rintro i z τ T hz ⟨⟨y3,y4,y5,y6,rfl⟩,hD,kp⟩;rw [List.getElem?_map] at hz;obtain ⟨p,hp,rfl⟩:=map_eq_some_iff.mp hz;refine ⟨[.ref n,.ref m,.ref d,.int p.1,.int p.2,y5,y6],T,hf _ _ _,.inl ?_⟩;have hlen:=eW (xS (a.take i) b) [];have hi:=(List.getElem?_eq_some_iff.mp hp).1;rw [oY,length_take,Nat.min_eq_left (le_of_lt hi),length_nil,Nat.zero_add] at hlen;have hmul:i * b.length+b.length<=a.length * b.length:=by rw [<- succ_mul];exact mul_le_mul_right _ hi
  obtain ⟨z5,z6,T',e,hD',kp'⟩:=Jm (x0:=.ref n) (x5:=y5) (x6:=y6) (k:=p.1) (v:=p.2) (kp.lst _ _ (Ne.symm md) hm) hD (by omega) (ha p (mem_of_getElem? hp)) hb;refine ⟨_,_,e,⟨_,_,_,_,rfl⟩,?_,kp.trans kp'⟩;rw [hD',take_add_one,hp,Option.toList_some,CA,qm]
 ·rintro τ T ⟨⟨y3,y4,y5,y6,rfl⟩,hD,kp⟩;rw [length_map,take_length] at hD;exact ⟨y3,y4,y5,y6,T,rfl,hD,kp⟩
theorem B3 {S:aA}{d n m:Nat}{a b:Pl}{x3 x4 x5 x6:A}(hn:aC S n=some (pl a))(hm:aC S m=some (pl b))(hd:cg S d=some [])(hl:a.length * b.length < 16777216)(ha:∀ p∈a,p.2.natAbs < big)(hb:∀ p∈b,p.2.natAbs < big) :
  ∃ y3 y4 y5 y6 S',cI (dJ (ak 0)) KN CL [.ref n,.ref m,.ref d,x3,x4,x5,x6] S=.nx [.ref n,.ref m,.ref d,y3,y4,y5,y6] S'/\cg S' d=some (iv (gP [] (xS a b)))/\Kp (·=d) S S':=pN pA (λ _ _ _=>rfl) hn hm hd hl ha hb
noncomputable abbrev P8:Ex:=cJ [none,some 0] (dJ (bf (f1 nk) (aj (ak 0) (aK)))) (bQ 0) (mw (aJ (je true) (aJ nG (ak 1) (ak 0)) (eC (.int 0)))) (fC (aj (ak 0) (aj (aJ nG (ak 1) (ak 0)) (aK))))
theorem EE {S:aA}{d:Nat}{D:Pl}(hd:cg S d=some (iv D))(hl:D.length<=16777216):∃ S',P8 [.ref d] S=.ok (.ref (S.length+1)) S'/\aC S' (S.length+1)=some (pl (xh D))/\eT S S':=by
 have hd1:cg (S++[.lst ((sortI (D.map Prod.fst)).map .int)]) d=some (iv D):=EK hd;have ls:(S++[O.lst ((sortI (D.map Prod.fst)).map A.int)]).length=S.length+1:=by simp
 have cc:=BH (n:=S.length) (xs:=(sortI (D.map Prod.fst)).map A.int) (cap:=[some 0]) (src:=dJ (bf (f1 nk) (aj (ak 0) (aK)))) (t:=mw (aJ (je true) (aJ nG (ak 1) (ak 0)) (eC (.int 0)))) (e:=fC (aj (ak 0) (aj (aJ nG (ak 1) (ak 0)) (aK)))) (τ:=[.ref d]) (S:=S) (S1:=S++[.lst ((sortI (D.map Prod.fst)).map .int)])
  (dR (by simp only [bD,bools,BF,hd,Jw]) aV) aV (λ x=>match x with | .int k=>val D k != 0 | _=>false) (λ x=>match x with | .int k=>pA (k,val D k) | _=>.non) (λ x hx=>by
   obtain ⟨k,hk,rfl⟩:=mem_map.mp hx;have hk:=(sortI_perm _).mem_iff.mp hk;simp only [bD,bools,zO,hd1,vj hk];rfl) (λ x hx _=>by
   obtain ⟨k,hk,rfl⟩:=mem_map.mp hx;have hk:=(sortI_perm _).mem_iff.mp hk;simp only [bD,bools,zO,hd1,vj hk];exact fT (show 2<=16777216 by decide)) (by rw [length_map,(sortI_perm _).length_eq,length_map];exact hl)
 refine ⟨_,cc.trans (by rw [ls]),?_,Kp.refl.lay.lay⟩;rw [<- ls,aV];congr 1;unfold pl xh;rw [List.map_map,filter_map,List.map_map];rfl
end Am
namespace Su
open Am Po PySem L2
noncomputable abbrev En:=List Int×Nat×Pl
noncomputable abbrev Es:=List En
noncomputable def ent (e:En):A:=.tup [.tup (e.1.map .int),.ref e.2.1]
noncomputable def kv (e:En):List Int×A:=(e.1,.ref e.2.1)
noncomputable def At (S:aA)(es:Es):Prop:=∀ e∈es,aC S e.2.1=some (pl e.2.2)
noncomputable abbrev Ps:=List (List Int×Pl)
noncomputable def sm (es:Es):Ps:=es.map λ e=>(e.1,e.2.2)
theorem jx (es:Es):(sm es).length=es.length:=length_map ..
theorem LX (a b:Es):sm (a++b)=sm a++sm b:=map_append
noncomputable def vS (D:Ps)(o:List Int):Pl:=((D.find? λ e=>decide (e.1=o)).map (·.2)).getD []
noncomputable def hS (D:Ps)(o:List Int):Bool:=D.any λ e=>decide (e.1=o)
noncomputable def qD (D:Ps)(o:List Int)(p:Pl):Ps:=if hS D o=true then D.map (λ e=>if e.1=o then (e.1,p) else e) else D++[(o,p)]
noncomputable def qf (D:Ps)(o:List Int)(p:Pl):Ps:=qD D o (dO (vS D o) p)
noncomputable def adds (D l:Ps):Ps:=l.foldl (λ D e=>qf D e.1 e.2) D
theorem CD (D a b:Ps):adds D (a++b)=adds (adds D a) b:=by unfold adds;rw [foldl_append]
noncomputable def toS (D:Ps):Ps:=((dX (D.map Prod.fst)).filter λ o=>!(vS D o).isEmpty).map λ o=>(o,vS D o)
noncomputable def fE (D:Es)(o:List Int):Option En:=D.find? λ e=>decide (e.1=o)
noncomputable def h_ (D:Es)(o:List Int)(r:Nat)(p:Pl):Es:=if (fE D o).isSome=true then D.map (λ e=>if e.1=o then (e.1,r,p) else e) else D++[(o,r,p)]
theorem Jh (D:Es)(o:List Int):(sm D).find? (λ e=>decide (e.1=o))=(fE D o).map λ e=>(e.1,e.2.2):=by
 unfold sm fE;rw [find?_map];rfl
theorem GU (D:Es)(o:List Int):vS (sm D) o=((fE D o).map λ e=>e.2.2).getD []:=by
 unfold vS;rw [Jh,Option.map_map];rfl
theorem PX (D:Es)(o:List Int):hS (sm D) o=(fE D o).isSome:=by
 unfold hS sm fE;rw [List.any_map,Bool.eq_iff_iff,find?_isSome,any_eq_true];rfl
theorem MI (D:Es)(o:List Int)(r:Nat)(p:Pl):sm (h_ D o r p)=qD (sm D) o p:=by
 unfold h_ qD;rw [PX];unfold sm;split
 ·rw [List.map_map,List.map_map];apply map_congr_left;intro e _;show ((if e.1=o then (e.1,r,p) else e).1,(if e.1=o then (e.1,r,p) else e).2.2)=if e.1=o then (e.1,p) else (e.1,e.2.2)
  split <;> rfl
 ·rw [map_append];rfl
theorem tQ (D:Es)(o:List Int):dM (D.map kv) o=(fE D o).map λ e=>.ref e.2.1:=by
 unfold dM fE;rw [find?_map,Option.map_map];rfl
theorem wU (D:Es)(o:List Int)(r:Nat)(p:Pl):putD (D.map kv) o (.ref r)=(h_ D o r p).map kv:=by
 unfold putD h_;rw [tQ,isSome_map];split
 ·rw [List.map_map,List.map_map];apply map_congr_left;intro e _;show (if e.1=o then (e.1,A.ref r) else (e.1,.ref e.2.1))=kv (if e.1=o then (e.1,r,p) else e);split <;> rfl
 ·rw [map_append];rfl
theorem iz {D:Es}{o:List Int}{r:Nat}{p:Pl}{e:En}(h:e∈h_ D o r p):e∈D\/e=(o,r,p):=by
 unfold h_ at h;split at h
 ·obtain ⟨e',h1,rfl⟩:=mem_map.mp h;split
  ·rename_i c;exact .inr (by rw [c])
  ·exact .inl h1
 ·rcases mem_append.mp h with z | z
  ·exact .inl z
  ·exact .inr (mem_singleton.mp z)
theorem t6 {D:Es}{o:List Int}{r:Nat}{p:Pl}:(h_ D o r p).length<=D.length+1:=by
 unfold h_;split
 ·rw [length_map];omega
 ·rw [length_append];exact Nat.le_refl _
theorem lC {D:Es}{o:List Int}{e:En}(h:fE D o=some e):e∈D/\e.1=o:=⟨List.mem_of_find?_eq_some h,by
 unfold fE at h;have:=List.find?_some h;simpa using this⟩
theorem At.put {S:aA}{D:Es}{o:List Int}{r:Nat}{p:Pl}(h:At S D)(hr:aC S r=some (pl p)):At S (h_ D o r p):=λ e he=>by
 rcases iz he with z | z
 ·exact h e z
 ·rw [z];exact hr
theorem At.kp {S S':aA}{D:Es}{b:Nat->Prop}(h:At S D)(k:Kp b S S')(hb:∀ e∈D,¬ b e.2.1):At S' D:=λ e he=>k.lst _ _ (hb e he) (h e he)
theorem At.pT {S S':aA}{D:Es}(h:At S D)(k:eT S S'):At S' D:=h.kp k λ _ _ z=>z
theorem At.app {S:aA}{a b:Es}(h:At S a)(h':At S b):At S (a++b):=λ e he=>(mem_append.mp he).elim (h e) (h' e)
theorem iA {S:aA}{n m:Nat}{d:List (List Int×A)}{xs:List A}(h:bA S n=some d)(h':aC S m=some xs):n≠m:=λ z=>by
 subst z;have e1:=ff h;rw [aS h'] at e1
 cases e1
theorem At.JE {S S':aA}{D:Es}{d:Nat}{kvs:List (List Int×A)}(h:At S D)(k:Kp (·=d) S S')(hd:bA S d=some kvs):At S' D:=h.kp k λ e he z=>iA hd (h e he) z.symm
noncomputable def Vl (k b:Nat)(D:Es):Prop:=∀ e∈D,Ok e.2.2/\e.2.2.length<=k/\b<=e.2.1
theorem Vl.mono {k k' b:Nat}{D:Es}(h:Vl k b D)(hk:k<=k'):Vl k' b D:=λ e he=>⟨(h e he).1,Nat.le_trans (h e he).2.1 hk,(h e he).2.2⟩
theorem Vl.v {k b:Nat}{D:Es}(h:Vl k b D)(o:List Int):Ok (vS (sm D) o)/\(vS (sm D) o).length<=k:=by
 rw [GU]
 cases e:fE D o with
 | none=>exact ⟨⟨List.Pairwise.nil,λ _ z=>nomatch z⟩,zero_le _⟩
 | some e'=>exact ⟨(h e' (lC e).1).1,(h e' (lC e).1).2.1⟩
theorem BL (a b:Pl):(dO a b).length<=a.length+b.length:=by
 refine Nat.le_trans (AZ _) (Nat.le_trans (eW _ _) ?_);rw [length_append,length_nil];omega
theorem nH (a b:Pl):(times a b).length<=a.length * b.length:=by
 refine Nat.le_trans (AZ _) (Nat.le_trans (eW _ _) ?_);rw [oY,length_nil];omega
theorem Vl.add {k b j r:Nat}{D:Es}{o:List Int}{p:Pl}(h:Vl k b D)(hp:p.length<=j)(hr:b<=r):Vl (k+j) b (h_ D o r (dO (vS (sm D) o) p)):=λ e he=>by
 rcases iz he with z | z
 ·exact (h.mono (Nat.le_add_right _ _)) e z
 ·rw [z];refine ⟨we _ _,?_,hr⟩;have:=BL (vS (sm D) o) p;have:=(h.v o).2;show (dO (vS (sm D) o) p).length<=_;omega
theorem iy {S:aA}{xs:List (List Int×A)}:bA (S++[.dct xs]) S.length=some xs:=mO wX
theorem Bh {S:aA}{o:O}{n:Nat}{xs:List (List Int×A)}(h:bA S n=some xs):bA (S++[o]) n=some xs:=by
 have h':=ff h;exact mO (by rw [getElem?_append_left (List.getElem?_eq_some_iff.mp h').1];exact h')
theorem wO {S:aA}{n:Nat}{xs:List (List Int×A)}(h:bA S n=some xs):n < S.length:=(List.getElem?_eq_some_iff.mp (ff h)).1
theorem uH {S:aA}{n:Nat}{ys:List (List Int×A)}(h:n < S.length):bA (S.set n (.dct ys)) n=some ys:=mO (getElem?_set_self h)
theorem Aw {f:A->List A->aA->R A}{co:Ex}{d:g_}{τ:List A}{S:aA}:IT f co d τ S=(co τ S).bind λ x S1=>opt (dct? x S1) λ _=>(d τ S1).bind λ as S2=>f x as S2:=rfl
theorem Bf {n:Nat}{S:aA}:dct? (.ref n) S=(bA S n).map λ _=>():=rfl
theorem jX {τ:List A}{S:aA}:rO τ S=.ok (.ref S.length) (S++[.dct []]):=rfl
theorem sX {co ci:Ex}{a:A}{τ:List A}{S:aA}:Gh co ci a τ S=(co τ S).bind λ o S1=>(ci τ S1).bind λ i S2=>(yy o i a S2).bind λ _ S3=>.ok τ S3:=rfl
theorem yY {n:Nat}{o:List Int}{y:A}{S:aA}:HU (.ref n) [.tup (o.map .int),y] S=opt (bA S n) λ kvs=>.ok ((dM kvs o).getD y) S:=by
 show opt (bA S n) (λ kvs=>opt (A.ints (o.map .int)) λ k=>.ok ((dM kvs k).getD y) S)=_;rw [ints_map];rfl
theorem qN {n:Nat}{o:List Int}{v:A}{S:aA}:yy (.ref n) (.tup (o.map .int)) v S=opt (bA S n) λ kvs=>gd (kvs.length < sizeLine) (.ok () (S.set n (.dct (putD kvs o v)))):=by
 show opt (bA S n) (λ kvs=>opt (A.ints (o.map .int)) λ ns=>gd (kvs.length < sizeLine) (.ok () (S.set n (.dct (putD kvs ns v)))))=_;rw [ints_map];rfl
theorem m9 {n:Nat}{o:List Int}{S:aA}:nP (.ref n) (.tup (o.map .int)) S=opt (bA S n) λ kvs=>opt (dM kvs o) λ v=>.ok v S:=by
 show opt (bA S n) (λ kvs=>opt (A.ints (o.map .int)) λ ns=>opt (dM kvs ns) λ v=>.ok v S)=_;rw [ints_map];rfl
theorem get_or {S:aA}{d:Nat}{D:Es}{o:List Int}(hd:bA S d=some (D.map kv))(hA:At S D):∃ x:Nat,(dM (D.map kv) o).getD (.ref S.length)=.ref x/\aC (S++[.lst []]) x=some (pl (vS (sm D) o)):=by
 rw [tQ,GU]
 cases e:fE D o with
 | none=>exact ⟨S.length,rfl,aV⟩
 | some e'=>exact ⟨e'.2.1,rfl,aY (hA e' (lC e).1)⟩
theorem Ia {α:Type}{xs:List α}(g:α->A){n:Nat}{cap:List (Option Nat)}{src:Ic}{t:Te}{e:Ex}{τ:List A}{S S1:aA}(hs:src τ S=.ok (b_ n (xs.map g).length) S1)(hx:aC S1 n=some (xs.map g))(d:α)(p:α->Bool)(f:α->A)
  (step:∀ x∈xs,∀ T,eT S1 T->∃ T1,t (g x::dz cap τ) T=.ok (p x) T1/\eT S1 T1/\(p x=true->∃ T2,e (g x::dz cap τ) T1=.ok (f x) T2/\eT S1 T2)) (hl:xs.length<=16777216) :
  ∃ S',cJ (none::cap) src (bQ 0) t e τ S=.ok (.ref S'.length) (S'++[.lst ((xs.filter p).map f)])/\eT S1 S':=by
 have hm:∀ i,i < xs.length->xs.getD i d∈xs:=λ i hi=>by
  rw [getD_eq_getElem?_getD,List.getElem?_eq_getElem hi];exact getElem_mem hi
 have hk:(xs.map g).length=xs.length:=length_map ..;obtain ⟨S',h1,h2⟩:=pe (s:=b_ n (xs.map g).length) (g:=bQ 0) (t:=t) (e:=e) (P:=λ T=>eT S1 T) (T:=λ τ'=>∃ y,τ'=y::dz cap τ) (λ i=>g (xs.getD i d)) (λ i=>p (xs.getD i d)) (λ i=>f (xs.getD i d)) (λ i T hi h=>by
   have hi:i < (xs.map g).length:=hi;show (aC T n).bind _=_;rw [h.lst _ _ (λ z=>z) hx,bind_some,List.getElem?_map,List.getElem?_eq_getElem (by omega),getD_eq_getElem?_getD,List.getElem?_eq_getElem (by omega)];rfl) (λ T h=>by
   show (match aC T n with
    | some ys=>decide (ys.length<=(xs.map g).length)
    | none=>false)=true
   rw [h.lst _ _ (λ z=>z) hx];simp)
  (λ i τ' T hi ⟨y,hy⟩ h=>by
   have hi:i < (xs.map g).length:=hi;subst hy;obtain ⟨T1,e1,k1,e2⟩:=step _ (hm i (by omega)) T h;exact ⟨g (xs.getD i d)::dz cap τ,T,T1,rfl,e1,⟨_,rfl⟩,λ _=>k1,e2⟩) (xs.map g).length 0 (dz (none::cap) τ) S1 rfl ⟨_,rfl⟩ Kp.refl
 refine ⟨S',?_,h2⟩;unfold cJ;rw [hs,R.d8];show (d_ (b_ n (xs.map g).length) (bQ 0) t e (xs.map g).length 0 (dz (none::cap) τ) S1).jG _=_;rw [h1,R.dg,<- List.range_eq_range',hk,ja xs p f d];refine bI ?_;rw [length_map];exact Nat.le_trans (length_filter_le _ _) hl
theorem GR {es:Es}{n:Nat}{cap:List (Option Nat)}{src:Ic}{ex:Ex}{τ:List A}{S:aA}(hs:src τ S=.ok (b_ n (es.map ent).length) S)(hx:aC S n=some (es.map ent))(F:Pl->Pl)
  (step:∀ e∈es,∀ T,eT S T->∃ (r:Nat) (T':aA),ex (.tup (e.1.map .int)::.ref e.2.1::dz cap τ) T=.ok (.tup [.tup (e.1.map .int),.ref r]) T'/\aC T' r=some (pl (F e.2.2))/\T.length<=r/\eT T T') (hl:es.length<=16777216) :
  ∃ (m:Nat) (S':aA) (fs:Es),cJ (none::none::cap) src P_ mX ex τ S=.ok (.ref m) S'/\aC S' m=some (fs.map ent)/\At S' fs/\sm fs=es.map (λ e=>(e.1,F e.2.2))/\(∀ e∈fs,S.length<=e.2.1/\e.2.1 < m)/\S.length<=m/\eT S S':=by
 have hk:(es.map ent).length=es.length:=length_map ..;obtain ⟨ys,S',h1,k1,fs,rfl,h2,h3,h4⟩:=vV (s:=b_ n (es.map ent).length) (g:=P_) (e:=ex) (T:=λ τ'=>∃ y z,τ'=y::z::dz cap τ) (λ i acc T=>eT S T/\∃ fs:Es,acc=fs.map ent/\At T fs/\sm fs=(es.take i).map (λ e=>(e.1,F e.2.2))/\∀ e∈fs,S.length<=e.2.1/\e.2.1 < T.length)
  (λ i acc τ' T hi ⟨y,z,hy⟩ hP=>by
   have hi:i < (es.map ent).length:=hi;obtain ⟨kT,fs,rfl,a1,a2,a3⟩:=hP;subst hy;have he:es[i]?=some es[i]:=List.getElem?_eq_getElem (by omega);obtain ⟨r,T',e1,e2,e3,e4⟩:=step es[i] (mem_of_getElem? he) T kT;have lr:=iD e2;refine ⟨ent es[i],.tup (es[i].1.map .int)::.ref es[i].2.1::dz cap τ,T,_,T',?_,rfl,⟨_,_,rfl⟩,e1,kT.trans e4,fs++[(es[i].1,r,F es[i].2.2)],by rw [map_append];rfl,?_,?_,?_⟩
   ·show (aC T n).bind _=_;rw [kT.lst _ _ (λ z=>z) hx,bind_some,List.getElem?_map,he];rfl
   ·refine (a1.pT e4).app λ e h=>?_;rw [mem_singleton.mp h];exact e2
   ·rw [LX,a2,take_add_one,he,map_append];rfl
   ·intro e h;have:=e4.len;have:=kT.len
    rcases mem_append.mp h with z | z
    ·have:=a3 e z;omega
    ·rw [mem_singleton.mp z];show S.length<=r/\r < _;omega) (λ acc T hP=>by
   show (match aC T n with
    | some ys=>decide (ys.length<=(es.map ent).length)
    | none=>false)=true
   rw [hP.1.lst _ _ (λ z=>z) hx];simp) (es.map ent).length 0 [] (dz (none::none::cap) τ) S rfl ⟨_,_,rfl⟩ ⟨Kp.refl,[],rfl,(λ _ h=>nomatch h),by rw [take_zero];rfl,λ _ h=>nomatch h⟩
 rw [show (b_ n (es.map ent).length).k=es.length from hk,take_length] at h3;have lf:fs.length=es.length:=by have:=congrArg List.length h3;rwa [jx,length_map] at this
 refine ⟨S'.length,S'++[.lst (fs.map ent)],fs,?_,aV,h2.pT Kp.refl.lay,h3,λ e he=>h4 e he,k1.len,k1.lay⟩;unfold cJ;rw [hs,R.d8];show (d_ (b_ n (es.map ent).length) P_ mX ex (es.map ent).length 0 (dz (none::none::cap) τ) S).jG _=_;rw [h1,R.dg];exact bI (by rw [length_map,lf];exact hl)
theorem An {D:Es}{o:List Int}(h:o∈D.map Prod.fst):∃ e,fE D o=some e:=by
 unfold fE
 cases e:D.find? λ e=>decide (e.1=o) with
 | some x=>exact ⟨x,rfl⟩
 | none=>
  obtain ⟨x,hx,rfl⟩:=mem_map.mp h;exact absurd (decide_eq_true rfl) (find?_eq_none.mp e x hx)
noncomputable def nT (k:List Int):A:=.tup (k.map .int)
theorem pP {S:aA}{d:Nat}{D:Es}(hd:bA S d=some (D.map kv))(hne:∀ e∈D,e.1≠[]):jP (.ref d) S=.ok (.ref S.length) (S++[.lst ((dX (D.map Prod.fst)).map nT)]):=by
 have ek:(D.map kv).map Prod.fst=D.map Prod.fst:=by rw [List.map_map];rfl
 show opt (bA S d) _=_;rw [hd,dm];have:((D.map kv).map Prod.fst).all (λ ks=>!ks.isEmpty)=true:=by
  rw [ek,all_map,all_eq_true];intro e he;have:=hne e he;show (!(e.1).isEmpty)=true
  cases h:e.1 with
  | nil=>exact absurd h this
  | cons=>rfl
 rw [ek] at this ⊢;rw [this];rfl
noncomputable def iI (D:Es)(p:Pl->Bool):Es:=((dX (D.map Prod.fst)).filter λ o=>p (vS (sm D) o)).map λ o=>(o,((fE D o).map λ e=>e.2.1).getD 0,vS (sm D) o)
theorem t_ (D:Es):sm (iI D λ p=>!p.isEmpty)=toS (sm D):=by
 unfold iI toS sm;rw [List.map_map,List.map_map];rfl
theorem kF {D:Es}{p:Pl->Bool}{e:En}(h:e∈iI D p):e∈D/\p e.2.2=true:=by
 obtain ⟨o,ho,rfl⟩:=mem_map.mp h;obtain ⟨h1,h2⟩:=mem_filter.mp ho;obtain ⟨e,he⟩:=An ((bF _).mem_iff.mp h1);rw [GU,he] at h2;rw [GU,he];obtain ⟨m,rfl⟩:=lC he;exact ⟨m,h2⟩
theorem pF {S:aA}{d:Nat}{D:Es}{cap:List (Option Nat)}{τ:List A}{src:Ic}{t:Te}{e:Ex}(hd:bA S d=some (D.map kv))(hA:At S D)(hs:src τ S=.ok (b_ S.length ((dX (D.map Prod.fst)).map nT).length) (S++[.lst ((dX (D.map Prod.fst)).map nT)]))(p:Pl->Bool)
  (ht:∀ (o:List Int) (r:Nat) (q:Pl) (T:aA),bA T d=some (D.map kv)->dM (D.map kv) o=some (.ref r)->aC T r=some (pl q)->∃ T1,t (nT o::dz cap τ) T=.ok (p q) T1/\eT T T1)
  (he:∀ (o:List Int) (r:Nat) (T:aA),bA T d=some (D.map kv)->dM (D.map kv) o=some (.ref r)->e (nT o::dz cap τ) T=.ok (.tup [nT o,.ref r]) T) (hl:D.length<=16777216) :
  ∃ (n:Nat) (S':aA),cJ (none::cap) src (bQ 0) t e τ S=.ok (.ref n) S'/\aC S' n=some ((iI D p).map ent)/\At S' (iI D p)/\S.length < n/\eT S S':=by
 have kx:eT S (S++[.lst ((dX (D.map Prod.fst)).map nT)]):=Kp.refl.lay;obtain ⟨S',e1,k1⟩:=Ia nT (t:=t) (e:=e) (cap:=cap) hs aV [] (λ o=>p (vS (sm D) o)) (λ o=>ent (o,((fE D o).map λ e=>e.2.1).getD 0,vS (sm D) o)) (λ o ho T kT=>by
  obtain ⟨e',he'⟩:=An ((bF _).mem_iff.mp ho);have lk:dM (D.map kv) o=some (.ref e'.2.1):=by rw [tQ,he'];rfl
  have kST:=kx.trans kT;have dT:=kST.dct _ _ (λ z=>z) hd;have lT:=kST.lst _ _ (λ z=>z) (hA e' (lC he').1);obtain ⟨T1,h1,h2⟩:=ht o e'.2.1 e'.2.2 T dT lk lT;rw [GU,he'];exact ⟨T1,h1,kT.trans h2,λ _=>⟨T1,he o e'.2.1 T1 (h2.dct _ _ (λ z=>z) dT) lk,kT.trans h2⟩⟩) (by
  rw [(bF _).length_eq,length_map];exact hl)
 have kS:=kx.trans k1;refine ⟨S'.length,_,e1,?_,(?_:At S' (iI D p)).pT Kp.refl.lay,?_,kS.lay⟩
 ·rw [aV];unfold iI;rw [List.map_map];rfl
 ·exact λ e h=>kS.lst _ _ (λ z=>z) (hA e (kF h).1)
 ·have:=k1.len;rw [length_append] at this;exact this
noncomputable def uI (F:List A->aA->R A):Prop:=∀ {S:aA} {d r:Nat} {D:Es} {o:List Int} {p:Pl} {k b:Nat},bA S d=some (D.map kv)->At S D->Vl k b D->aC S r=some (pl p)->D.length < 16777216->k+p.length < 16777216 ->
  ∃ (L:Nat) (S':aA),F [.ref d,.tup (o.map .int),.ref r] S=.ok .non S'/\bA S' d=some ((h_ D o L (dO (vS (sm D) o) p)).map kv)/\At S' (h_ D o L (dO (vS (sm D) o) p))/\S.length<=L/\Kp (·=d) S S'
noncomputable def Ap (D:Es):Prop:=D.Pairwise λ e f=>e.1≠f.1/\e.2.1≠f.2.1
theorem Ap.put {D:Es}{o:List Int}{r:Nat}{p:Pl}(h:Ap D)(hr:∀ e∈D,e.2.1≠r):Ap (h_ D o r p):=by
 unfold h_;split
 ·unfold Ap;rw [pairwise_map];refine List.Pairwise.imp_of_mem (λ {e f} he hf z=>?_) h;by_cases c1:e.1=o
  ·have c2:¬ f.1=o:=λ z2=>z.1 (c1.trans z2.symm);rw [if_pos c1,if_neg c2];exact ⟨z.1,λ y=>hr f hf y.symm⟩
  ·rw [if_neg c1];by_cases c2:f.1=o
   ·rw [if_pos c2];exact ⟨z.1,hr e he⟩
   ·rw [if_neg c2];exact z
 ·rename_i c;unfold Ap;rw [pairwise_append];refine ⟨h,pairwise_singleton _ _,λ e he f hf=>?_⟩;rw [mem_singleton.mp hf];refine ⟨λ z=>c ?_,hr e he⟩;unfold fE;rw [find?_isSome];exact ⟨e,he,decide_eq_true z⟩
theorem Ap.at {D:Es}(h:Ap D):∀ e∈D,∀ f∈D,e.1≠f.1->e.2.1≠f.2.1:=by
 unfold Ap at h
 induction h with
 | nil=>exact λ e he=>nomatch he
 | @cons a D ha _ ih=>
  intro e he f hf z
  rcases mem_cons.mp he with h1 | h1 <;> rcases mem_cons.mp hf with h2 | h2
  ·exact absurd (by rw [h1,h2]) z
  ·rw [h1];exact (ha f h2).2
  ·rw [h2];exact (ha e h1).2.symm
  ·exact ih e h1 f h2 z
theorem Ap.nd {D:Es}(h:Ap D):(D.map Prod.fst).Nodup:=by
 unfold List.Nodup;rw [pairwise_map];exact h.imp λ z=>z.1
theorem Ap.out {D:Es}(h:Ap D)(p:Pl->Bool):Ap (iI D p):=by
 unfold Ap iI;rw [pairwise_map];have n:(dX (D.map Prod.fst)).Pairwise (·≠·):=(bF _).nodup_iff.mpr h.nd;refine List.Pairwise.imp_of_mem (λ {a b} ha hb z=>?_) (n.filter _);obtain ⟨e,he⟩:=An ((bF _).mem_iff.mp (mem_filter.mp ha).1);obtain ⟨f,hf⟩:=An ((bF _).mem_iff.mp (mem_filter.mp hb).1);obtain ⟨m1,e1⟩:=lC he;obtain ⟨m2,e2⟩:=lC hf;refine ⟨z,?_⟩;rw [he,hf];exact h.at e m1 f m2 (by rw [e1,e2];exact z)
structure Fil (T:aA)(d b i j:Nat)(P:Ps)(D:Es):Prop where
 dd:bA T d=some (D.map kv)
 aa:At T D
 ss:sm D=P
 vv:Vl (i * j) b D
 kk:∀ e∈D,e.1≠[]
 ll:D.length<=i
 pw:Ap D
theorem Fil.mono {T:aA}{d b i i' j:Nat}{P:Ps}{D:Es}(h:Fil T d b i j P D)(hi:i<=i'):Fil T d b i' j P D:=⟨h.dd,h.aa,h.ss,h.vv.mono (mul_le_mul_right _ hi),h.kk,Nat.le_trans h.ll hi,h.pw⟩
theorem Fil.new {S:aA}{d b j:Nat}(hd:bA S d=some []):Fil S d b 0 j [] []:=⟨hd,(λ _ h=>nomatch h),rfl,(λ _ h=>nomatch h),(λ _ h=>nomatch h),Nat.le_refl _,List.Pairwise.nil⟩
theorem Fil.pT {S T:aA}{d b i j:Nat}{P:Ps}{D:Es}(h:Fil S d b i j P D)(k:eT S T):Fil T d b i j P D:=⟨k.dct _ _ (λ z=>z) h.dd,h.aa.pT k,h.ss,h.vv,h.kk,h.ll,h.pw⟩
theorem Fil.add {F:List A->aA->R A}(hF:uI F){T:aA}{d b i j r:Nat}{P:Ps}{D:Es}{o:List Int}{p:Pl}(h:Fil T d b i j P D)(hr:aC T r=some (pl p))(hp:p.length<=j)(ho:o≠[])(hb:b<=T.length)(hl:i * j+j < 16777216)(hi:i < 16777216) :
  ∃ (D':Es) (T':aA),F [.ref d,.tup (o.map .int),.ref r] T=.ok .non T'/\Fil T' d b (i+1) j (qf P o p) D'/\Kp (·=d) T T':=by
 have hl0:=h.ll;obtain ⟨L,T',e,h1,h2,h3,h4⟩:=hF (o:=o) h.dd h.aa h.vv hr (by omega) (by omega);refine ⟨_,T',e,⟨h1,h2,by rw [MI,h.ss];rfl,?_,λ e he=>?_,?_,h.pw.put λ e he z=>by have:=iD (h.aa e he);omega⟩,h4⟩
 ·have:=h.vv.add (o:=o) (p:=p) (j:=j) hp (show b<=L by omega);rw [succ_mul];exact this
 ·rcases iz he with z | z
  ·exact h.kk e z
  ·rw [z];exact ho
 ·have:=t6 (D:=D) (o:=o) (r:=L) (p:=dO (vS (sm D) o) p);omega
theorem BE (P:Ps)(es:Es):es.foldl (λ Q e=>qf Q e.1 e.2.2) P=adds P (sm es):=by
 unfold adds sm;rw [foldl_map]
theorem Bq (q:Pl)(P:Ps)(es:Es):es.foldl (λ Q e=>qf Q e.1 (times q e.2.2)) P=adds P ((sm es).map λ e=>(e.1,times q e.2)):=by
 unfold adds sm;rw [foldl_map,foldl_map]
theorem mh {S S1:aA}{d n j b i0 w:Nat}{P:Ps}{D0:Es}{es:Es}{src:Ic}{c:Sm}{g:Tg}(Fm:A->A->List A->List A)(Z:List A->Prop)(G:En->Ps->Ps)(hg:∀ (e:En) (y z:A) (xs:List A) (T:aA),g (ent e) (Fm y z xs) T=.ok (Fm (.tup (e.1.map .int)) (.ref e.2.1) xs) T)
  {x3 x4:A} {xs0:List A} (hz:Z xs0) (hs:src (Fm x3 x4 xs0) S=.ok (b_ n (es.map ent).length) S1) (hn:aC S1 n=some (es.map ent)) (hd:Fil S1 d b i0 j P D0)
  (step:∀ (i:Nat) (e:En) (T:aA) (Q:Ps) (D:Es) (xs:List A),i < es.length->e∈es->Z xs->Kp (·=d) S1 T->Fil T d b (i0+w * i) j Q D->∃ (D':Es) (T':aA) (xs':List A),Z xs'/\c (Fm (.tup (e.1.map .int)) (.ref e.2.1) xs) T=.nx (Fm (.tup (e.1.map .int)) (.ref e.2.1) xs') T'/\Fil T' d b (i0+w * (i+1)) j (G e Q) D'/\Kp (·=d) T T') :
  ∃ (y3 y4:A) (xs:List A) (D:Es) (S':aA),Z xs/\cI src g c (Fm x3 x4 xs0) S=.nx (Fm y3 y4 xs) S'/\Fil S' d b (i0+w * es.length) j (es.foldl (λ Q e=>G e Q) P) D/\Kp (·=d) S1 S':=by
 have hle:(es.map ent).length=es.length:=length_map ..;refine kg (n:=n) (xs:=es.map ent) (S1:=S1) hs (λ i τ T=>(∃ y3 y4 xs,τ=Fm y3 y4 xs/\Z xs)/\(∃ D,Fil T d b (i0+w * i) j ((es.take i).foldl (λ Q e=>G e Q) P) D)/\Kp (·=d) S1 T)
  (λ r=>∃ (y3 y4:A) (xs:List A) (D:Es) (S':aA),Z xs/\r=.nx (Fm y3 y4 xs) S'/\Fil S' d b (i0+w * es.length) j (es.foldl (λ Q e=>G e Q) P) D/\Kp (·=d) S1 S') ⟨⟨_,_,_,rfl,hz⟩,⟨D0,hd⟩,Kp.refl⟩ (λ i τ T h=>h.2.2.lst _ _ (Ne.symm (iA hd.dd hn)) hn) ?_ ?_
 ·rintro i z τ T hz ⟨⟨y3,y4,xs,rfl,hx⟩,⟨D,f⟩,kp⟩;rw [List.getElem?_map] at hz;obtain ⟨e,he,rfl⟩:=map_eq_some_iff.mp hz;refine ⟨Fm (.tup (e.1.map .int)) (.ref e.2.1) xs,T,hg _ _ _ _ _,.inl ?_⟩;obtain ⟨D',T',xs',hx',e1,f',k'⟩:=step i e T _ D xs (List.getElem?_eq_some_iff.mp he).1 (mem_of_getElem? he) hx kp f;refine ⟨_,T',e1,⟨_,_,_,rfl,hx'⟩,⟨D',?_⟩,kp.trans k'⟩;rw [take_add_one,he,foldl_append];exact f'
 ·rintro τ T ⟨⟨y3,y4,xs,rfl,hx⟩,⟨D,f⟩,kp⟩;rw [hle,take_length] at f;exact ⟨y3,y4,xs,D,T,hx,rfl,f,kp⟩
end Su
namespace Su
open Am Po PySem L2
noncomputable def cS (l:Ps)(o:List Int)(t:Int):Int:=match l with
 | []=>0
 | e::l=>(if e.1=o then cf e.2 t else 0)+cS l o t
theorem LA (a b:Ps)(o:List Int)(t:Int):cS (a++b) o t=cS a o t+cS b o t:=by
 induction a with
 | nil=>exact (Int.zero_add _).symm
 | cons e a ih=>
  show _+cS (a++b) o t=_+_+_;rw [ih,Int.add_assoc]
theorem EZ (a b:Pl)(k:Int):cf (a++b) k=cf a k+cf b k:=by
 induction a with
 | nil=>exact (Int.zero_add _).symm
 | cons p a ih=>
  show _+cf (a++b) k=_+_+_;rw [ih,Int.add_assoc]
theorem G_ (a b:Pl)(k:Int):cf (dO a b) k=cf a k+cf b k:=by
 unfold dO;rw [tV (mT _ (d:=[]) nodup_nil),lY,EZ];show 0+_=_;rw [Int.zero_add]
theorem G4 (a b:Pl)(k:Int):cf (times a b) k=cf (xS a b) k:=by
 unfold times;rw [tV (mT _ (d:=[]) nodup_nil),lY];show 0+_=_;rw [Int.zero_add]
theorem G3 (s:Int):∀ (b:Pl) (k c:Int),cf (b.map λ q=>(c+q.1,s * q.2)) k=s * cf b (k - c)
 | [],k,c=>(Int.mul_zero s).symm
 | q::b,k,c=>by
  show (if c+q.1=k then s * q.2 else 0)+cf (b.map λ q=>(c+q.1,s * q.2)) k=s * ((if q.1=k - c then q.2 else 0)+cf b (k - c));rw [G3 s b k c,Int.mul_add];by_cases h:c+q.1=k
  ·rw [if_pos h,if_pos (by omega)]
  ·rw [if_neg h,if_neg (by omega),Int.mul_zero]
noncomputable abbrev AF:Pl:=[((-1:Int),(1:Int)),((1:Int),(-1:Int))]
theorem EC (b:Pl)(k:Int):cf (times AF b) k=cf b (k+1) - cf b (k - 1):=by
 rw [G4];show cf ((b.map λ q=>((-1:Int)+q.1,(1:Int) * q.2))++((b.map λ q=>((1:Int)+q.1,(-1:Int) * q.2))++[])) k=_;rw [append_nil,EZ,G3,G3,Int.one_mul,show k - -1=k+1 by omega];omega
theorem LF {D:Ps}{o o':List Int}{p:Pl}:vS (qD D o p) o'=if o'=o then p else vS D o':=by
 have cons:∀ (e:List Int×Pl) (D:Ps) (x:List Int),vS (e::D) x=if e.1=x then e.2 else vS D x:=λ e D x=>by
  unfold vS;rw [find?_cons];by_cases h:e.1=x
  ·rw [decide_eq_true h,if_pos h];rfl
  ·rw [decide_eq_false h,if_neg h]
 unfold qD
 cases h:hS D o with
 | true=>
  rw [if_pos rfl]
  induction D with
  | nil=>cases h
  | cons e D ih=>
   rw [map_cons,cons,cons];have hc:hS (e::D) o=(decide (e.1=o) || hS D o):=rfl;rw [hc] at h;by_cases c:e.1=o
   ·rw [if_pos c];show (if e.1=o' then p else _)=_;by_cases c2:o'=o
    ·rw [if_pos (c.trans c2.symm),if_pos c2]
    ·rw [if_neg (λ z=>c2 (z.symm.trans c)),if_neg c2,if_neg (λ z=>c2 (z.symm.trans c))];clear ih h hc
     induction D with
     | nil=>rfl
     | cons f D ih2=>
      rw [map_cons,cons,cons,ih2];by_cases c3:f.1=o
      ·rw [if_pos c3];show (if f.1=o' then p else _)=_;rw [if_neg (λ z=>c2 (z.symm.trans c3)),if_neg (λ z=>c2 (z.symm.trans c3))]
      ·rw [if_neg c3]
   ·rw [if_neg c];rw [decide_eq_false c,Bool.false_or] at h;rw [ih h];by_cases c2:e.1=o'
    ·rw [if_pos c2,if_neg (λ z=>c (c2.trans z)),if_pos c2]
    ·rw [if_neg c2,if_neg c2]
 | false=>
  rw [if_neg (by simp)]
  induction D with
  | nil=>
   show vS [(o,p)] o'=_;rw [cons];by_cases c:o=o'
   ·rw [if_pos c,if_pos c.symm]
   ·rw [if_neg c,if_neg (λ z=>c z.symm)]
  | cons e D ih=>
   have hc:hS (e::D) o=(decide (e.1=o) || hS D o):=rfl;rw [hc,Bool.or_eq_false_iff] at h;rw [List.cons_append,cons,cons,ih h.2];have:=of_decide_eq_false h.1;by_cases c:e.1=o'
   ·rw [if_pos c,if_pos c,if_neg (λ z=>this (c.trans z))]
   ·rw [if_neg c,if_neg c]
theorem qb (l:Ps):∀ (D:Ps) (o:List Int) (t:Int),cf (vS (adds D l) o) t=cf (vS D o) t+cS l o t:=by
 induction l with
 | nil=>intro D o t;exact (Int.add_zero _).symm
 | cons e l ih=>
  intro D o t;show cf (vS (adds (qf D e.1 e.2) l) o) t=_+((if e.1=o then cf e.2 t else 0)+cS l o t);rw [ih];unfold qf;rw [LF];by_cases h:o=e.1
  ·rw [if_pos h,if_pos h.symm,G_,h,Int.add_assoc]
  ·rw [if_neg h,if_neg (λ z=>h z.symm),Int.zero_add]
structure Gd (D:Ps):Prop where
 nd:(D.map Prod.fst).Nodup
 ok:∀ e∈D,Ok e.2
theorem Mn {D:Ps}{o:List Int}:hS D o=true ↔ o∈D.map Prod.fst:=by
 unfold hS;rw [any_eq_true,mem_map];constructor
 ·rintro ⟨p,h1,h2⟩;exact ⟨p,h1,of_decide_eq_true h2⟩
 ·rintro ⟨p,h1,h2⟩;exact ⟨p,h1,decide_eq_true h2⟩
theorem BO {D:Ps}{o:List Int}{p:Pl}:(qD D o p).map Prod.fst=if hS D o=true then D.map Prod.fst else D.map Prod.fst++[o]:=by
 unfold qD;split
 ·rw [List.map_map];apply map_congr_left;intro e _;show (if e.1=o then (e.1,p) else e).1=e.1;split <;> rfl
 ·rw [map_append];rfl
theorem Gd.put {D:Ps}{o:List Int}{p:Pl}(h:Gd D)(hp:Ok p):Gd (qD D o p):=by
 refine ⟨?_,λ e he=>?_⟩
 ·rw [BO];split
  ·exact h.nd
  ·rename_i c;rw [nodup_append];refine ⟨h.nd,pairwise_singleton _ _,λ a ha b hb z=>c ?_⟩;rw [mem_singleton] at hb;rw [Mn,<- hb,<- z];exact ha
 ·unfold qD at he;split at he
  ·obtain ⟨f,hf,rfl⟩:=mem_map.mp he;split
   ·exact hp
   ·exact h.ok f hf
  ·rcases mem_append.mp he with z | z
   ·exact h.ok e z
   ·rw [mem_singleton.mp z];exact hp
theorem Gd.adds (l:Ps):∀ {D:Ps},Gd D->Gd (adds D l):=by
 induction l with
 | nil=>intro D h;exact h
 | cons e l ih=>intro D h;exact ih (h.put (we _ _))
theorem Gd.nil:Gd []:=⟨nodup_nil,λ _ h=>nomatch h⟩
theorem xC {D:Ps}{o:List Int}:(∃ e∈D,e.1=o/\vS D o=e.2)\/(o∉D.map Prod.fst/\vS D o=[]):=by
 unfold vS
 cases h:D.find? λ e=>decide (e.1=o) with
 | some e=>
  have h1:=List.find?_some h;exact .inl ⟨e,List.mem_of_find?_eq_some h,by simpa using h1,rfl⟩
 | none=>
  refine .inr ⟨λ z=>?_,rfl⟩;obtain ⟨e,he,ee⟩:=mem_map.mp z;exact find?_eq_none.mp h e he (decide_eq_true ee)
theorem Gd.v {D:Ps}(h:Gd D)(o:List Int):Ok (vS D o):=by
 rcases xC (D:=D) (o:=o) with ⟨e,h1,_,h2⟩ | ⟨_,h2⟩
 ·rw [h2];exact h.ok e h1
 ·rw [h2];exact ⟨List.Pairwise.nil,λ _ z=>nomatch z⟩
theorem vf.anti {a b:List Int}(h1:vf a b)(h2:vf b a):a=b:=(Sx.pq h1 h2).symm
theorem Il {D E:Ps}(h:Gd D)(h':Gd E)(hv:∀ o,vS D o=vS E o):toS D=toS E:=by
 have key:∀ (D:Ps),Gd D->∀ o,o∈(dX (D.map Prod.fst)).filter (λ o=>!(vS D o).isEmpty) ↔ (vS D o)≠[]:=λ D h o=>by
  rw [mem_filter,(bF _).mem_iff];constructor
  ·rintro ⟨_,h2⟩ z;rw [z] at h2;cases h2
  ·intro z;refine ⟨?_,by cases e:vS D o with | nil=>exact absurd e z | cons=>rfl⟩
   rcases xC (D:=D) (o:=o) with ⟨e,h1,h2,_⟩ | ⟨_,h2⟩
   ·exact mem_map.mpr ⟨e,h1,h2⟩
   ·exact absurd h2 z
 have pw:∀ (D:Ps),((dX (D.map Prod.fst)).filter (λ o=>!(vS D o).isEmpty)).Pairwise vf:=λ D=>(qp _).filter _;have nd:∀ (D:Ps),Gd D->((dX (D.map Prod.fst)).filter (λ o=>!(vS D o).isEmpty)).Nodup:=λ D h=>((bF _).nodup_iff.mpr h.nd).filter _;have e:(dX (D.map Prod.fst)).filter (λ o=>!(vS D o).isEmpty)=(dX (E.map Prod.fst)).filter (λ o=>!(vS E o).isEmpty):=by
  refine List.Perm.eq_of_pairwise (λ a b _ _ h1 h2=>vf.anti h1 h2) (pw D) (pw E) ((List.perm_ext_iff_of_nodup (nd D h) (nd E h')).mpr λ o=>?_);rw [key D h,key E h',hv]
 unfold toS;rw [e];apply map_congr_left;intro o _;rw [hv]
theorem Dz {D E:Ps}(h:Gd D)(h':Gd E)(hc:∀ o t,cf (vS D o) t=cf (vS E o) t):toS D=toS E:=Il h h' λ o=>uniq (h.v o) (h'.v o) (hc o)
theorem D6 {f:List Int->Pl}{o:List Int}{t:Int}:∀ {ks:List (List Int)},ks.Nodup->cS (ks.map λ k=>(k,f k)) o t=if o∈ks then cf (f o) t else 0
 | [],_=>by rw [if_neg (by simp)];rfl
 | j::ks,h=>by
  obtain ⟨h1,h2⟩:=nodup_cons.mp h;show (if j=o then cf (f j) t else 0)+cS (ks.map λ k=>(k,f k)) o t=_;rw [D6 h2];by_cases c:j=o
  ·subst c;rw [if_pos rfl,if_neg h1,if_pos (mem_cons_self ..),Int.add_zero]
  ·rw [if_neg c,Int.zero_add];by_cases e:o∈ks
   ·rw [if_pos e,if_pos (mem_cons_of_mem _ e)]
   ·rw [if_neg e,if_neg λ z=>(mem_cons.mp z).elim (λ z=>c z.symm) e]
theorem MN {D:Ps}(h:Gd D)(o:List Int)(t:Int):cS (toS D) o t=cf (vS D o) t:=by
 unfold toS;rw [D6 (((bF _).nodup_iff.mpr h.nd).filter _)];split
 ·rfl
 ·rename_i c
  rcases xC (D:=D) (o:=o) with ⟨e,h1,h2,h3⟩ | ⟨_,h2⟩
  ·by_cases z:vS D o=[]
   ·rw [z];rfl
   ·refine absurd (mem_filter.mpr ⟨(bF _).mem_iff.mpr (mem_map.mpr ⟨e,h1,h2⟩),?_⟩) c
    cases e:vS D o with | nil=>exact absurd e z | cons=>rfl
  ·rw [h2];rfl
noncomputable def qQ (o:List Int)(k:Nat):Bool:=decide (o.getD (k - 1) 0 > o.getD k 0)
noncomputable def Ak (k:Nat)(l:Ps):Ps:=l.flatMap λ e=>(Wd.ex e.1 k,e.2)::(if qQ e.1 k=true then [(e.1,times AF e.2)] else [])
noncomputable def bx (k:Nat)(l:Ps):Ps:=toS (adds [] (Ak k l))
noncomputable def Go (N k:Nat)(o:List Int):Prop:=o.length=N/\o.getD (k - 1) 0≠o.getD k 0
theorem ye {N k:Nat}{o:List Int}(h:o.length=N)(h1:1<=k)(h2:k < N):Wd.ex (Wd.ex o k) k=o:=Fw.Oi h1 (by omega)
theorem N1 {k:Nat}{o:List Int}(h1:1<=k)(h2:k < o.length):(Wd.ex o k).getD (k - 1) 0=o.getD k 0/\(Wd.ex o k).getD k 0=o.getD (k - 1) 0:=by
 constructor
 ·rw [getD_eq_getElem?_getD,Wd.lz h1 h2,if_neg (by omega),if_pos rfl,getD_eq_getElem?_getD]
 ·rw [getD_eq_getElem?_getD,Wd.lz h1 h2,if_pos rfl,getD_eq_getElem?_getD]
theorem Go.ex {N k:Nat}{o:List Int}(h:Go N k o)(h1:1<=k)(h2:k < N):Go N k (Wd.ex o k)/\qQ (Wd.ex o k) k=!qQ o k:=by
 obtain ⟨hl,hn⟩:=h;obtain ⟨e1,e2⟩:=N1 (o:=o) h1 (by omega);refine ⟨⟨by rw [Wd.tF];exact hl,by rw [e1,e2];exact λ z=>hn z.symm⟩,?_⟩;unfold qQ;rw [e1,e2];by_cases c:o.getD (k - 1) 0 > o.getD k 0
 ·rw [decide_eq_true c,decide_eq_false (by omega)];rfl
 ·rw [decide_eq_false c,decide_eq_true (by omega)];rfl
theorem pD {l:Ps}{o:List Int}{t:Int}(h:∀ e∈l,e.1≠o):cS l o t=0:=by
 induction l with
 | nil=>rfl
 | cons e l ih=>
  show (if e.1=o then _ else 0)+cS l o t=0;rw [if_neg (h e (mem_cons_self ..)),ih λ f hf=>h f (mem_cons_of_mem _ hf)];rfl
theorem vE {N k:Nat}(h1:1<=k)(h2:k < N):∀ {l:Ps},(∀ e∈l,Go N k e.1)->∀ {o:List Int} (t:Int),Go N k o->cS (Ak k l) o t=cS l (Wd.ex o k) t+(if qQ o k=true then cS l o (t+1) - cS l o (t - 1) else 0)
 | [],_,o,t,_=>by show (0:Int)=0+if _ then (0:Int) - 0 else 0;split <;> rfl
 | e::l,h,o,t,ho=>by
  have he:=h e (mem_cons_self ..);have ih:=vE h1 h2 (l:=l) (λ f hf=>h f (mem_cons_of_mem _ hf)) t ho;have hx:(Wd.ex e.1 k=o) ↔ (e.1=Wd.ex o k):=⟨λ z=>by rw [<- z,ye he.1 h1 h2],λ z=>by rw [z,ye ho.1 h1 h2]⟩;show cS (((Wd.ex e.1 k,e.2)::(if qQ e.1 k=true then [(e.1,times AF e.2)] else []))++Ak k l) o t=_;rw [LA,ih];show (if Wd.ex e.1 k=o then cf e.2 t else 0)+cS (if qQ e.1 k=true then [(e.1,times AF e.2)] else []) o t+_=((if e.1=Wd.ex o k then cf e.2 t else 0)+cS l (Wd.ex o k) t)+(if qQ o k=true then ((if e.1=o then cf e.2 (t+1) else 0)+cS l o (t+1)) - ((if e.1=o then cf e.2 (t - 1) else 0)+cS l o (t - 1)) else 0);have h3:cS (if qQ e.1 k=true then [(e.1,times AF e.2)] else []) o t=if qQ o k=true then ((if e.1=o then cf e.2 (t+1) else 0) - (if e.1=o then cf e.2 (t - 1) else 0)) else 0:=by
   by_cases c:e.1=o
   ·rw [c,if_pos rfl,if_pos rfl]
    cases qQ o k with
    | false=>rfl
    | true=>
     rw [if_pos rfl,if_pos rfl];show (if o=o then cf (times AF e.2) t else 0)+0=_;rw [if_pos rfl,EC,Int.add_zero]
   ·rw [if_neg c,if_neg c];have:cS (if qQ e.1 k=true then [(e.1,times AF e.2)] else []) o t=0:=pD λ f hf=>by
     split at hf
     ·rw [mem_singleton.mp hf];exact c
     ·cases hf
    rw [this];split <;> rfl
  rw [h3];by_cases c:Wd.ex e.1 k=o
  ·rw [if_pos c,if_pos (hx.mp c)];split <;> omega
  ·rw [if_neg c,if_neg (λ z=>c (hx.mpr z))];split <;> omega
theorem wY {N k:Nat}(h1:1<=k)(h2:k < N){l:Ps}(h:∀ e∈l,Go N k e.1):∀ e∈Ak k l,Go N k e.1:=λ e he=>by
 obtain ⟨f,hf,he⟩:=List.mem_flatMap.mp he
 rcases mem_cons.mp he with z | z
 ·rw [z];exact ((h f hf).ex h1 h2).1
 ·split at z
  ·rw [mem_singleton.mp z];exact h f hf
  ·cases z
theorem sE {P:List Int->Prop}(l:Ps):∀ {D:Ps},(∀ e∈D,P e.1)->(∀ e∈l,P e.1)->∀ e∈adds D l,P e.1:=by
 induction l with
 | nil=>intro D h _;exact h
 | cons f l ih=>
  intro D h h';refine ih (λ e he=>?_) λ e he=>h' e (mem_cons_of_mem _ he);have he:e∈qD D f.1 (dO (vS D f.1) f.2):=he;unfold qD at he;split at he
  ·obtain ⟨g,hg,rfl⟩:=mem_map.mp he;split
   ·exact h g hg
   ·exact h g hg
  ·rcases mem_append.mp he with z | z
   ·exact h e z
   ·rw [mem_singleton.mp z];exact h' f (mem_cons_self ..)
theorem wC {P:List Int->Prop}{D:Ps}(h:∀ e∈D,P e.1):∀ e∈toS D,P e.1:=λ e he=>by
 obtain ⟨o,ho,rfl⟩:=mem_map.mp he;obtain ⟨f,hf,e⟩:=mem_map.mp ((bF _).mem_iff.mp (mem_filter.mp ho).1);show P o;rw [<- e];exact h f hf
theorem M6 {N k:Nat}(h1:1<=k)(h2:k < N){l:Ps}(h:∀ e∈l,Go N k e.1):bx k (bx k l)=toS (adds (adds [] l) ((bx k l).map λ e=>(e.1,times AF e.2))):=by
 have g1:Gd (adds [] (Ak k l)):=Gd.nil.adds _;have kk:∀ e∈bx k l,Go N k e.1:=wC (sE _ (λ _ z=>nomatch z) (wY h1 h2 h));have c1:∀ o t,cS (bx k l) o t=cS (Ak k l) o t:=λ o t=>by
  unfold bx;rw [MN g1,qb];show 0+_=_;rw [Int.zero_add]
 refine Dz (Gd.nil.adds _) ((Gd.nil.adds _).adds _) λ o t=>?_;rw [qb,qb,qb];show 0+cS (Ak k (bx k l)) o t=0+cS l o t+cS ((bx k l).map λ e=>(e.1,times AF e.2)) o t;have cm:∀ (l:Ps),cS (l.map λ e=>(e.1,times AF e.2)) o t=cS l o (t+1) - cS l o (t - 1):=λ l=>by
  induction l with
  | nil=>rfl
  | cons e l ih=>
   show (if e.1=o then cf (times AF e.2) t else 0)+cS (l.map λ e=>(e.1,times AF e.2)) o t=((if e.1=o then cf e.2 (t+1) else 0)+cS l o (t+1)) - ((if e.1=o then cf e.2 (t - 1) else 0)+cS l o (t - 1));rw [ih];by_cases c:e.1=o
   ·rw [if_pos c,if_pos c,if_pos c,EC];omega
   ·rw [if_neg c,if_neg c,if_neg c];omega
 rw [cm,Int.zero_add,Int.zero_add];by_cases ho:Go N k o
 ·obtain ⟨hx,hf⟩:=ho.ex h1 h2;rw [vE h1 h2 kk t ho,c1,c1,c1,vE h1 h2 h t hx,vE h1 h2 h (t+1) ho,vE h1 h2 h (t - 1) ho,ye ho.1 h1 h2,hf]
  cases qQ o k with
  | true=>simp only [Bool.not_true,false_eq_true,if_false,if_true];omega
  | false=>simp only [Bool.not_false,false_eq_true,if_false,if_true];omega
 ·have z1:∀ t,cS (bx k l) o t=0:=λ t=>pD λ e he z=>ho (by rw [<- z];exact kk e he);have z2:cS l o t=0:=pD λ e he z=>ho (by rw [<- z];exact h e he);have z3:cS (Ak k (bx k l)) o t=0:=pD λ e he z=>ho (by rw [<- z];exact wY h1 h2 kk e he);rw [z1,z1,z2,z3];rfl
noncomputable def gX (k:Nat)(e:En)(Q:Ps):Ps:=if qQ e.1 k=true then qf (qf Q (Wd.ex e.1 k) e.2.2) e.1 (times AF e.2.2) else qf Q (Wd.ex e.1 k) e.2.2
theorem uv (k:Nat):∀ (es:Es) (P:Ps),es.foldl (λ Q e=>gX k e Q) P=adds P (Ak k (sm es))
 | [],P=>rfl
 | e::es,P=>by
  show es.foldl (λ Q e=>gX k e Q) (gX k e P)=adds P (((Wd.ex e.1 k,e.2.2)::(if qQ e.1 k=true then [(e.1,times AF e.2.2)] else []))++Ak k (sm es));rw [uv k es,CD];congr 1;unfold gX
  cases qQ e.1 k <;> rfl
theorem Em {p:Pl}{C:Nat}(h:Ok p)(hb:Bd C p)(t:Int):(cf p t).natAbs<=C:=by
 rw [<- GD h.nd];exact hb.val t
theorem Ok.Ms {l:Pl}(h:Ok l){p:Int×Int}(hp:p∈l):cf l p.1=p.2:=by
 induction l with
 | nil=>cases hp
 | cons q l ih=>
  rcases mem_cons.mp hp with z | z
  ·rw [z];exact h.head
  ·show (if q.1=p.1 then q.2 else 0)+cf l p.1=p.2;have:=(pairwise_cons.mp h.up).1 p z;rw [if_neg (by omega),ih h.tail z,Int.zero_add]
theorem J7 {C:Nat}{o:List Int}{t:Int}:∀ {l:Ps},(∀ e∈l,(cf e.2 t).natAbs<=C)->(cS l o t).natAbs<=l.length * C
 | [],_=>zero_le _
 | e::l,h=>by
  have h1:=h e (mem_cons_self ..);have h2:=J7 (o:=o) (λ f hf=>h f (mem_cons_of_mem _ hf));show ((if e.1=o then cf e.2 t else 0)+cS l o t).natAbs<=(l.length+1) * C;rw [succ_mul];split <;> omega
theorem IF (k:Nat)(l:Ps):(Ak k l).length<=2 * l.length:=by
 induction l with
 | nil=>exact Nat.le_refl _
 | cons e l ih=>
  show (((Wd.ex e.1 k,e.2)::(if qQ e.1 k=true then [(e.1,times AF e.2)] else []))++Ak k l).length<=_;rw [length_append,length_cons,length_cons];split
  ·rw [List.length_singleton];omega
  ·rw [length_nil];omega
theorem M3 {k C:Nat}{l:Ps}(h:∀ e∈l,Ok e.2/\Bd C e.2):∀ e∈bx k l,Ok e.2/\Bd (2 * l.length * (2 * C)) e.2:=λ e he=>by
 have g1:Gd (adds [] (Ak k l)):=Gd.nil.adds _;obtain ⟨o,ho,rfl⟩:=mem_map.mp he;refine ⟨g1.v o,λ p hp=>?_⟩;rw [<- Ok.Ms (g1.v o) hp,qb];show (0+cS (Ak k l) o p.1).natAbs<=_;rw [Int.zero_add];refine Nat.le_trans (J7 (C:=2 * C) λ f hf=>?_) (mul_le_mul_right _ (IF k l));obtain ⟨g,hg,hf⟩:=List.mem_flatMap.mp hf;obtain ⟨a1,a2⟩:=h g hg
 rcases mem_cons.mp hf with z | z
 ·rw [z];have:=Em a1 a2 p.1;show (cf g.2 p.1).natAbs<=_;omega
 ·split at z
  ·rw [mem_singleton.mp z];show (cf (times AF g.2) p.1).natAbs<=_;rw [EC];have:=Em a1 a2 (p.1+1);have:=Em a1 a2 (p.1 - 1);omega
  ·cases z
end Su
namespace K27
open PySem L2 Am
noncomputable def top (i:Nat):Stmt:=PySem.Challenge.pw_undercells_k27_by_exchange.main.body.getD i (.Pass ⟨0,0,0,0⟩)
noncomputable abbrev fH:Stmt:=top 11
noncomputable def pH:List Str:=["thing"]
noncomputable def ly:Sm:=
 ck (Ct (bf (f2 pW) (aj (ak 0) (aj (eC (.ty "int")) (aK)))) (LB (bf (f2 pW) (aj (ak 0) (aj (eC (.ty "bool")) (aK))))))
noncomputable def fu:List A->aA->R A:=cT pH ly
noncomputable abbrev cY:Stmt:=top 12
noncomputable def iL:List Str:=["n", "thing"]
noncomputable def fJ:Sm:=
 ck (Ct (eFn fu (aj (ak 1) (aK))) (HG MR Hs (eC (.int 1)) (ak 1) (ak 0)))
noncomputable def b7:List A->aA->R A:=cT iL fJ
noncomputable abbrev bV:Stmt:=top 13
noncomputable def gQ:List Str:=["order", "i", "j", "things"]
noncomputable def ef:Sm:=
 bw (bP (bf (f1 kQ) (aj (ak 0) (aK))) (bQ 3))
 (bw (bP (fC (aj (aJ gW (ak 3) (aJ aSub (ak 2) (eC (.int 1)))) (aj (aJ gW (ak 3) (aJ aSub (ak 1) (eC (.int 1)))) (aK)))) (qT 2 (iN (MS (ak 3) (aJ aSub (ak 1) (eC (.int 1)))) (iN (MS (ak 3) (aJ aSub (ak 2) (eC (.int 1)))) (qS)))))
 (ck (bf (f1 nK) (aj (ak 3) (aK)))))
noncomputable def bU:List A->aA->R A:=cT gQ ef
noncomputable abbrev eS:Stmt:=top 14
noncomputable def j8:List Str:=["order", "k"]
noncomputable def iu:Sm:=
 bw (qC (lQ (jJ (eFn b7 (aj (bf (f1 iZ) (aj (ak 0) (aK))) (aj (ak 1) (aK))))))
 (xP "NoWord" [.inl "no exchange of ",.inr (bf (f1 iZ) (aj (ak 0) (aK))),.inl " things"])
 (gZ))
 (ck (eFn bU (aj (ak 0) (aj (ak 1) (aj (aJ cj (ak 1) (eC (.int 1))) (aK))))))
noncomputable def cP:List A->aA->R A:=cT j8 iu
noncomputable abbrev kh:Stmt:=top 15
noncomputable def Bg:List Str:=["order"]
noncomputable def sZ:Sm:=
 ck (cJ [none,some 0] (oB (eC (.int 1)) (bf (f1 iZ) (aj (ak 0) (aK)))) (bQ 0) (mw (aJ Ku (aJ gW (ak 1) (aJ aSub (ak 0) (eC (.int 1)))) (aJ gW (ak 1) (ak 0)))) (ak 0))
noncomputable def kG:List A->aA->R A:=cT Bg sZ
noncomputable abbrev cC:Stmt:=top 17
noncomputable def jE:List Str:=["numbers"]
noncomputable def gb:Sm:=
 ck (cJ [none,some 0] (dJ (bf (f1 nk) (aj (ak 0) (aK)))) (bQ 0) (mw (aJ (je true) (aJ nG (ak 1) (ak 0)) (eC (.int 0)))) (fC (aj (ak 0) (aj (aJ nG (ak 1) (ak 0)) (aK)))))
noncomputable def bN:List A->aA->R A:=cT jE gb
noncomputable abbrev nV:Stmt:=top 18
noncomputable def EB:List Str:=["one", "other", "numbers", "power", "number"]
noncomputable def l_:Ic:=
 dJ (ak 1)
noncomputable def vI:Sm:=
 bP (aJ cj (u_ kR (ak 2) (aj (ak 3) (aj (eC (.int 0)) (aK)))) (ak 4)) (uN (ak 2) (ak 3))
noncomputable def xB:Sm:=
 bw (bP (bf (f1 xF) (aj (ak 0) (aK))) (bQ 2))
 (bw (cI (l_) (qT 2 (iN (bQ 3) (iN (bQ 4) (qS))))
 (vI))
 (ck (eFn bN (aj (ak 2) (aK)))))
noncomputable def nE:List A->aA->R A:=cT EB xB
noncomputable abbrev j_:Stmt:=top 19
noncomputable def zm:List Str:=["one", "other", "numbers", "power", "number", "high", "many"]
noncomputable def Br:Ic:=
 dJ (ak 1)
noncomputable def Bt:Sm:=
 bP (aJ cj (u_ kR (ak 2) (aj (aJ cj (ak 3) (ak 5)) (aj (eC (.int 0)) (aK)))) (aJ vC (ak 4) (ak 6))) (uN (ak 2) (aJ cj (ak 3) (ak 5)))
noncomputable def rP:Ic:=
 dJ (ak 0)
noncomputable def sd:Sm:=
 cI (Br) (qT 2 (iN (bQ 5) (iN (bQ 6) (qS))))
 (Bt)
noncomputable def uE:Sm:=
 bw (bP (qO) (bQ 2))
 (bw (cI (rP) (qT 2 (iN (bQ 3) (iN (bQ 4) (qS))))
 (sd))
 (ck (eFn bN (aj (ak 2) (aK)))))
noncomputable def kC:List A->aA->R A:=cT zm uE
noncomputable abbrev dG:Stmt:=top 22
noncomputable def mW:List Str:=["found", "order", "poly"]
noncomputable def jl:Sm:=
 bP (eFn nE (aj (IT HU (ak 0) (aj (ak 1) (aj (gE (aK)) (aK)))) (aj (ak 2) (aK)))) (Gh (ak 0) (ak 1))
noncomputable def cF:List A->aA->R A:=cT mW jl
noncomputable abbrev iV:Stmt:=top 23
noncomputable def uZ:List Str:=["found"]
noncomputable def qI:Sm:=
 ck (cJ [none,some 0] (dJ (bf (f1 jP) (aj (ak 0) (aK)))) (bQ 0) (jJ (aJ nP (ak 1) (ak 0))) (fC (aj (ak 0) (aj (aJ nP (ak 1) (ak 0)) (aK)))))
noncomputable def jb:List A->aA->R A:=cT uZ qI
noncomputable abbrev cV:Stmt:=top 24
noncomputable def iB:List Str:=["one", "k", "found", "order", "poly"]
noncomputable def cE:Ic:=
 dJ (ak 0)
noncomputable def bB:Sm:=
 bw (iP (eFn cF (aj (ak 2) (aj (Bw cP (aj (ak 3) (aj (ak 1) (aK)))) (aj (ak 4) (aK))))))
 (qC (mw (aJ (Pk false) (ak 1) (eFn kG (aj (ak 3) (aK)))))
 (iP (eFn cF (aj (ak 2) (aj (ak 3) (aj (eFn kC (aj (bf (f1 kQ) (aj (eC (.frz ([((-1:Int),(1:Int)),((1:Int),(-1:Int))].map kA))) (aK))) (aj (ak 4) (aK)))) (aK))))))
 (gZ))
noncomputable def fP:Sm:=
 bw (bP (rO) (bQ 2))
 (bw (cI (cE) (qT 2 (iN (bQ 3) (iN (bQ 4) (qS))))
 (bB))
 (ck (eFn jb (aj (ak 2) (aK)))))
noncomputable def bG:List A->aA->R A:=cT iB fP
noncomputable abbrev gA:Stmt:=top 26
noncomputable def rW:List Str:=["_law_script", "_law_at", "_law_cell", "_law_great"]
noncomputable def nq:Sm:=
 bw (bP (eC (.int 0)) (bQ 2))
 (bw (qC (mw (aJ Hs (ak 1) (bf (f1 iZ) (aj (ak 0) (aK)))))
 (bP (aJ gW (ak 0) (ak 1)) (bQ 2))
 (gZ))
 (bw (bP (eC (.int 0)) (bQ 3))
 (bw (qC (mw (aJ OU (ak 2) (aJ wR (eC (.int 10)) (eC (.int 18)))))
 (bP (ak 2) (bQ 3))
 (gZ))
 (ck (gE (aj (ak 3) (aj (aJ uF (aJ cj (aJ cj (ak 2) (aJ mj (eC (.int 7919)) (ak 1))) (eC (.int 13))) (eC (.int 2147483647))) (aK))))))))
noncomputable def gC:List A->aA->R A:=cT rW nq
noncomputable abbrev eF:Stmt:=top 27
noncomputable def j4:List Str:=["_law_bag_here", "_law_many", "_law_found"]
noncomputable def ie:Sm:=
 bw (qC (mw (aJ Ku (aJ gW (ak 0) (eC (.int 0))) (eC (.int 0))))
 (bw (bP (aJ uF (aJ gW (ak 0) (eC (.int 0))) (ak 1)) (bQ 2))
 (bw (bP (aJ yU (aJ gW (ak 0) (eC (.int 0))) (ak 1)) (MS (ak 0) (eC (.int 0))))
 (ck (ak 2))))
 (gZ))
 (bw (bP (aJ uF (aJ cj (aJ mj (aJ gW (ak 0) (eC (.int 1))) (eC (.int 48271))) (eC (.int 11))) (eC (.int 2147483647))) (MS (ak 0) (eC (.int 1))))
 (ck (aJ uF (aJ uF (aJ mj (aJ yU (aJ gW (ak 0) (eC (.int 1))) (eC (.int 8))) (eC (.int 69621))) (eC (.int 2147483629))) (ak 1))))
noncomputable def aP:List A->aA->R A:=cT j4 ie
noncomputable abbrev dI:Stmt:=top 28
noncomputable def lI:List Str:=["_law_bag_here", "_law_way", "_law_number", "_law_k"]
noncomputable def jL:Ic:=
 gI (aJ gW (gE (aj (eC (.int 0)) (aj (eC (.int 0)) (aj (eC (.int 1)) (aj (eC (.int 3)) (aK)))))) (ak 1))
noncomputable def jQ:Sm:=
 bP (aJ cj (aJ mj (ak 2) (aJ wR (eC (.int 10)) (eC (.int 9)))) (eFn aP (aj (ak 0) (aj (aJ wR (eC (.int 10)) (eC (.int 9))) (aK))))) (bQ 2)
noncomputable def jv:Sm:=
 bw (bP (eFn aP (aj (ak 0) (aj (eC (.int 4)) (aK)))) (bQ 1))
 (bw (bP (eFn aP (aj (ak 0) (aj (aJ gW (gE (aj (eC (.int 4)) (aj (eC (.int 4)) (aj (eC (.int 1000)) (aj (eC (.int 1000)) (aK)))))) (ak 1)) (aK)))) (bQ 2))
 (bw (cI (jL) (bQ 3)
 (jQ))
 (ck (aJ mj (ak 2) (aJ gW (gE (aj (eC (.int 1)) (aj (Hi rq (eC (.int 1))) (aK)))) (eFn aP (aj (ak 0) (aj (eC (.int 2)) (aK)))))))))
noncomputable def dD:List A->aA->R A:=cT lI jv
noncomputable abbrev fB:Stmt:=top 29
noncomputable def qe:List Str:=["_law_bag_here", "_law_most", "_law_far", "_law_found", "_law_power", "_law_k", "_law_number"]
noncomputable def jn:Ic:=
 gI (eFn aP (aj (ak 0) (aj (aJ cj (ak 1) (eC (.int 1))) (aK))))
noncomputable def jm:Sm:=
 bw (bP (eFn dD (aj (ak 0) (aK))) (bQ 6))
 (bw (qC (GJ (mw (aJ (je true) (ak 6) (eC (.int 0)))) (mw (aJ MR (ak 4) (ak 2))))
 (iP (Ln kH (ak 3) (aj (fC (aj (ak 4) (aj (ak 6) (aK)))) (aK))))
 (gZ))
 (bP (aJ cj (aJ cj (ak 4) (eC (.int 1))) (eFn aP (aj (ak 0) (aj (eC (.int 3)) (aK))))) (bQ 4)))
noncomputable def lB:Sm:=
 bw (bP (gE (aK)) (bQ 3))
 (bw (bP (aJ aSub (eFn aP (aj (ak 0) (aj (aJ cj (aJ mj (eC (.int 2)) (ak 2)) (eC (.int 1))) (aK)))) (ak 2)) (bQ 4))
 (bw (qC (mw (aJ Ku (ak 1) (eC (.int 20))))
 (bP (aJ aSub (eC (.int 0)) (ak 2)) (bQ 4))
 (gZ))
 (bw (cI (jn) (bQ 5)
 (jm))
 (ck (ak 3)))))
noncomputable def fG:List A->aA->R A:=cT qe lB
noncomputable abbrev cM:Stmt:=top 30
noncomputable def jM:List Str:=["_law_held"]
noncomputable def gJ:Sm:=
 ck (cJ [none,some 0] (dJ (bf (f1 nk) (aj (ak 0) (aK)))) (bQ 0) (mw (aJ (je true) (aJ nG (ak 1) (ak 0)) (eC (.int 0)))) (fC (aj (ak 0) (aj (aJ nG (ak 1) (ak 0)) (aK)))))
noncomputable def bX:List A->aA->R A:=cT jM gJ
noncomputable abbrev cN:Stmt:=top 31
noncomputable def jR:List Str:=["_law_one", "_law_other", "_law_held", "_law_power", "_law_number"]
noncomputable def dF:Ic:=
 dJ (aJ cj (ak 0) (ak 1))
noncomputable def iT:Sm:=
 bP (aJ cj (u_ kR (ak 2) (aj (ak 3) (aj (eC (.int 0)) (aK)))) (ak 4)) (uN (ak 2) (ak 3))
noncomputable def gU:Sm:=
 bw (bP (qO) (bQ 2))
 (bw (cI (dF) (qT 2 (iN (bQ 3) (iN (bQ 4) (qS))))
 (iT))
 (ck (eFn bX (aj (ak 2) (aK)))))
noncomputable def cL:List A->aA->R A:=cT jR gU
noncomputable abbrev cB:Stmt:=top 32
noncomputable def jA:List Str:=["_law_one", "_law_other", "_law_held", "_law_power", "_law_number", "_law_more", "_law_many"]
noncomputable def mL:Ic:=
 dJ (ak 1)
noncomputable def lJ:Sm:=
 bP (aJ cj (u_ kR (ak 2) (aj (aJ cj (ak 3) (ak 5)) (aj (eC (.int 0)) (aK)))) (aJ vC (ak 4) (ak 6))) (uN (ak 2) (aJ cj (ak 3) (ak 5)))
noncomputable def ir:Ic:=
 dJ (ak 0)
noncomputable def iw:Sm:=
 cI (mL) (qT 2 (iN (bQ 5) (iN (bQ 6) (qS))))
 (lJ)
noncomputable def fV:Sm:=
 bw (bP (qO) (bQ 2))
 (bw (cI (ir) (qT 2 (iN (bQ 3) (iN (bQ 4) (qS))))
 (iw))
 (ck (eFn bX (aj (ak 2) (aK)))))
noncomputable def bO:List A->aA->R A:=cT jA fV
noncomputable abbrev er:Stmt:=top 33
noncomputable def nY:List Str:=["_law_bag_here", "_law_n", "_law_left", "_law_made"]
noncomputable def iM:Te:=
 mw (aJ Ku (bf (f1 iZ) (aj (ak 2) (aK))) (eC (.int 0)))
noncomputable def iJ:Sm:=
 iP (Ln kH (ak 3) (aj (Ln w_ (ak 2) (aj (eFn aP (aj (ak 0) (aj (bf (f1 iZ) (aj (ak 2) (aK))) (aK)))) (aK))) (aK)))
noncomputable def j0:Sm:=
 bw (bP (bf (f1 kQ) (aj (bf (f2 uh) (aj (eC (.int 1)) (aj (aJ cj (ak 1) (eC (.int 1))) (aK)))) (aK))) (bQ 2))
 (bw (bP (gE (aK)) (bQ 3))
 (bw (eY (iM)
 (iJ) 1000000)
 (ck (bf (f1 nK) (aj (ak 3) (aK))))))
noncomputable def eo:List A->aA->R A:=cT nY j0
noncomputable abbrev gB:Stmt:=top 34
noncomputable def r6:List Str:=["_law_bag_here", "_law_n", "_law_most", "_law_size", "_law_held", "_law_k", "_law_one", "_law_own"]
noncomputable def nZ:Ic:=
 gI (eFn aP (aj (ak 0) (aj (aJ cj (ak 2) (eC (.int 1))) (aK))))
noncomputable def oh:Sm:=
 bw (bP (eFn eo (aj (ak 0) (aj (ak 1) (aK)))) (bQ 6))
 (bw (bP (eFn fG (aj (ak 0) (aj (ak 3) (aj (eC (.int 3)) (aK))))) (bQ 7))
 (qC (mw (aJ (je true) (ak 7) (gE (aK))))
 (bP (ak 7) (Gh (ak 4) (ak 6)))
 (gZ)))
noncomputable def nJ:Sm:=
 bw (bP (rO) (bQ 4))
 (bw (cI (nZ) (bQ 5)
 (oh))
 (ck (cJ [none,some 4] (dJ (bf (f1 jP) (aj (ak 4) (aK)))) (bQ 0) (mX) (fC (aj (ak 0) (aj (aJ nP (ak 1) (ak 0)) (aK)))))))
noncomputable def gD:List A->aA->R A:=cT r6 nJ
noncomputable abbrev cZ:Stmt:=top 35
noncomputable def kX:List Str:=["_law_found", "_law_one", "_law_number"]
noncomputable def jz:Ic:=
 dJ (ak 1)
noncomputable def jC:Sm:=
 qC (Hg (lQ (jJ (bf (f2 pW) (aj (ak 2) (aj (eC (.ty "int")) (aK)))))) (jJ (bf (f2 pW) (aj (ak 2) (aj (eC (.ty "bool")) (aK))))))
 (ck (eC (.bl false)))
 (gZ)
noncomputable def jF:Ic:=
 dJ (ak 0)
noncomputable def jB:Sm:=
 bw (qC (Hg (lQ (jJ (bf (f2 pW) (aj (ak 1) (aj (eC (.ty "tuple")) (aK)))))) (Hg (mw (aJ (je true) (bf (f1 iZ) (aj (ak 1) (aK))) (eC (.int 2)))) (mw (aJ (je false) (aJ gW (ak 1) (eC (.int 1))) (eC (.int 0))))))
 (ck (eC (.bl false)))
 (gZ))
 (cI (jz) (bQ 2)
 (jC))
noncomputable def iH:Sm:=
 bw (qC (lQ (jJ (bf (f2 pW) (aj (ak 0) (aj (eC (.ty "list")) (aK))))))
 (ck (eC (.bl false)))
 (gZ))
 (bw (cI (jF) (bQ 1)
 (jB))
 (ck (bf (f1 Dh) (aj (cJ [none,some 0] (gI (aJ aSub (bf (f1 iZ) (aj (ak 0) (aK))) (eC (.int 1)))) (bQ 0) (mX) (aJ Hs (aJ gW (aJ gW (ak 1) (ak 0)) (eC (.int 0))) (aJ gW (aJ gW (ak 1) (aJ cj (ak 0) (eC (.int 1)))) (eC (.int 0))))) (aK)))))
noncomputable def cX:List A->aA->R A:=cT kX iH
noncomputable abbrev dw:Stmt:=top 36
noncomputable def mE:List Str:=["_law_found", "_law_one"]
noncomputable def jY:Ic:=
 dJ (ak 0)
noncomputable def j5:Sm:=
 bw (qC (Hg (lQ (jJ (bf (f2 pW) (aj (ak 1) (aj (eC (.ty "tuple")) (aK)))))) (Hg (mw (aJ (je true) (bf (f1 iZ) (aj (ak 1) (aK))) (eC (.int 2)))) (lQ (jJ (bf (f2 pW) (aj (aJ gW (ak 1) (eC (.int 0))) (aj (eC (.ty "tuple")) (aK))))))))
 (ck (eC (.bl false)))
 (gZ))
 (qC (Hg (lQ (jJ (eFn cX (aj (aJ gW (ak 1) (eC (.int 1))) (aK))))) (mw (aJ (je false) (aJ gW (ak 1) (eC (.int 1))) (gE (aK)))))
 (ck (eC (.bl false)))
 (gZ))
noncomputable def jg:Sm:=
 bw (qC (lQ (jJ (bf (f2 pW) (aj (ak 0) (aj (eC (.ty "list")) (aK))))))
 (ck (eC (.bl false)))
 (gZ))
 (bw (cI (jY) (bQ 1)
 (j5))
 (ck (eC (.bl true))))
noncomputable def dH:List A->aA->R A:=cT mE jg
noncomputable abbrev fy:Stmt:=top 37
noncomputable def pK:List Str:=["_law_some"]
noncomputable def lA:Sm:=
 ck (cJ [none,none] (dJ (ak 0)) (qT 2 (iN (bQ 0) (iN (bQ 1) (qS)))) (mX) (fC (aj (ak 0) (aj (bf (f1 kQ) (aj (ak 1) (aK))) (aK)))))
noncomputable def eg:List A->aA->R A:=cT pK lA
noncomputable abbrev cD:Stmt:=top 38
noncomputable def jy:List Str:=["_law_held", "_law_one", "_law_own", "_law_made"]
noncomputable def fW:Sm:=
 bw (bP (eFn cL (aj (IT HU (ak 0) (aj (ak 1) (aj (gE (aK)) (aK)))) (aj (ak 2) (aK)))) (bQ 3))
 (bP (ak 3) (Gh (ak 0) (ak 1)))
noncomputable def bq:List A->aA->R A:=cT jy fW
noncomputable abbrev c_:Stmt:=top 39
noncomputable def lu:List Str:=["_law_held"]
noncomputable def iE:Sm:=
 ck (cJ [none,some 0] (dJ (bf (f1 jP) (aj (ak 0) (aK)))) (bQ 0) (mw (aJ (je true) (aJ nP (ak 1) (ak 0)) (gE (aK)))) (fC (aj (ak 0) (aj (aJ nP (ak 1) (ak 0)) (aK)))))
noncomputable def b6:List A->aA->R A:=cT lu iE
noncomputable abbrev bR:Stmt:=top 40
noncomputable def gT:List Str:=["_law_some", "_law_k", "_law_held", "_law_one", "_law_own", "_law_other"]
noncomputable def cH:Ic:=
 dJ (ak 0)
noncomputable def bY:Sm:=
 bw (bP (aJ cj (aJ cj (OC (ak 3) zY (A0 (aJ aSub (ak 1) (eC (.int 1))))) (fC (aj (aJ gW (ak 3) (ak 1)) (aj (aJ gW (ak 3) (aJ aSub (ak 1) (eC (.int 1)))) (aK))))) (OC (ak 3) (A0 (aJ cj (ak 1) (eC (.int 1)))) zY)) (bQ 5))
 (bw (iP (eFn bq (aj (ak 2) (aj (ak 5) (aj (ak 4) (aK))))))
 (qC (mw (aJ Ku (aJ gW (ak 3) (aJ aSub (ak 1) (eC (.int 1)))) (aJ gW (ak 3) (ak 1))))
 (iP (eFn bq (aj (ak 2) (aj (ak 3) (aj (eFn bO (aj (gE (aj (fC (aj (Hi rq (eC (.int 1))) (aj (eC (.int 1)) (aK)))) (aj (fC (aj (eC (.int 1)) (aj (Hi rq (eC (.int 1))) (aK)))) (aK)))) (aj (ak 4) (aK)))) (aK))))))
 (gZ)))
noncomputable def d9:Sm:=
 bw (bP (rO) (bQ 2))
 (bw (cI (cH) (qT 2 (iN (bQ 3) (iN (bQ 4) (qS))))
 (bY))
 (ck (eFn b6 (aj (ak 2) (aK)))))
noncomputable def bS:List A->aA->R A:=cT gT d9
noncomputable abbrev iW:Stmt:=top 41
noncomputable def vQ:List Str:=["_law_e", "_law_due", "_law_found", "_law_names"]
noncomputable def qc:Sm:=
 bw (bP (gE (aj (ni (BN [("NoWord",true)]) (ak 0)) (aj (ni (BN [("NoWord",false)]) (ak 0)) (aj (ni (BN [("NoWord",false)]) (ak 0)) (aj (ni (BN [("NoWord",false)]) (ak 0)) (aK)))))) (bQ 2))
 (bw (bP (aJ cj (ak 2) (gE (aj (ni (BN [("NoWord",false)]) (ak 0)) (aj (ni (BN [("NoWord",false)]) (ak 0)) (aj (ni (BN [("NoWord",false)]) (ak 0)) (aj (ni (BN [("NoWord",false)]) (ak 0)) (aK))))))) (bQ 2))
 (bw (bP (gE (aj (eC (.str (PySem.Str.ofString "word"))) (aj (eC (.str (PySem.Str.ofString "number"))) (aj (eC (.str (PySem.Str.ofString "pair"))) (aj (eC (.str (PySem.Str.ofString "many"))) (aj (eC (.str (PySem.Str.ofString "tables"))) (aj (eC (.str (PySem.Str.ofString "text"))) (aj (eC (.str (PySem.Str.ofString "row"))) (aj (eC (.str (PySem.Str.ofString "name"))) (aK)))))))))) (bQ 3))
 (ck (Ct (ni (BN [("NoWord",true)]) (ak 0)) (aJ (je false) (ak 2) (cJ [none,some 1] (sO (ak 3)) (bQ 0) (mX) (aJ (je false) (ak 0) (ak 1))))))))
noncomputable def iU:List A->aA->R A:=cT vQ qc
noncomputable abbrev dc:Stmt:=top 42
noncomputable def k_:List Str:=["_law_some", "_law_k", "_law_e"]
noncomputable def iK:Sm:=
 bw (vJ 2 3 ["NoWord"] (iP (Bw bG (aj (ak 0) (aj (ak 1) (aK)))))
 (ck (eFn iU (aj (ak 2) (aj (eC (.str (PySem.Str.ofString "word"))) (aK))))))
 (ck (eC (.bl false)))
noncomputable def cW:List A->aA->R A:=cT k_ iK
noncomputable abbrev eG:Stmt:=top 43
noncomputable def ow:List Str:=["_law_found", "_law_k"]
noncomputable def lg:Ic:=
 gI (bf (f1 iZ) (aj (ak 0) (aK)))
noncomputable def kW:Sm:=
 iP (Ln kH (aJ gW (aJ gW (ak 0) (ak 1)) (eC (.int 1))) (aj (fC (aj (aJ cj (eC (.int 100)) (ak 1)) (aj (eC (.int 1)) (aK)))) (aK)))
noncomputable def jN:Sm:=
 bw (cI (lg) (bQ 1)
 (kW))
 (ck (bf (f1 Dh) (aj (cJ [none,some 0] (gI (bf (f1 iZ) (aj (ak 0) (aK)))) (bQ 0) (mX) (aJ (je false) (aJ gW (aJ gW (aJ gW (ak 1) (ak 0)) (eC (.int 1))) (Hi rq (eC (.int 1)))) (fC (aj (aJ cj (eC (.int 100)) (ak 0)) (aj (eC (.int 1)) (aK)))))) (aK))))
noncomputable def eB:List A->aA->R A:=cT ow jN
noncomputable abbrev eE:Stmt:=top 44
noncomputable def n_:List Str:=["_law_some", "_law_k", "_law_due", "_law_handed", "_law_turn", "_law_found", "_law_held", "_law_one", "_law_own"]
noncomputable def kP:Ic:=
 gI (eC (.int 2))
noncomputable def kZ:Sm:=
 bw (bP (Bw bG (aj (ak 3) (aj (ak 1) (aK)))) (bQ 5))
 (bw (qC (Hg (lQ (jJ (eFn dH (aj (ak 5) (aK))))) (Hg (mw (aJ (je true) (ak 5) (ak 2))) (mw (aJ (je true) (ak 3) (ak 0)))))
 (ck (eC (.bl false)))
 (gZ))
 (bw (qC (lQ (jJ (eFn eB (aj (ak 5) (aK)))))
 (ck (eC (.bl false)))
 (gZ))
 (iP (Ln kH (ak 5) (aj (fC (aj (fC (aj (eC (.int 1)) (aK))) (aj (gE (aj (fC (aj (eC (.int 0)) (aj (eC (.int 1)) (aK)))) (aK))) (aK)))) (aK))))))
noncomputable def fQ:Ic:=
 dJ (ak 0)
noncomputable def fM:Sm:=
 iP (eFn bq (aj (ak 6) (aj (ak 7) (aj (ak 8) (aK)))))
noncomputable def fN:Ic:=
 dJ (ak 2)
noncomputable def fO:Sm:=
 iP (eFn bq (aj (ak 6) (aj (ak 7) (aj (eFn bO (aj (gE (aj (fC (aj (Hi rq (eC (.int 1))) (aj (eC (.int 1)) (aK)))) (aj (fC (aj (eC (.int 1)) (aj (Hi rq (eC (.int 1))) (aK)))) (aK)))) (aj (ak 8) (aK)))) (aK)))))
noncomputable def j6:Sm:=
 bw (bP (eFn bS (aj (ak 0) (aj (ak 1) (aK)))) (bQ 2))
 (bw (bP (eFn eg (aj (ak 0) (aK))) (bQ 3))
 (bw (cI (kP) (bQ 4)
 (kZ))
 (bw (bP (rO) (bQ 6))
 (bw (cI (fQ) (qT 2 (iN (bQ 7) (iN (bQ 8) (qS))))
 (fM))
 (bw (cI (fN) (qT 2 (iN (bQ 7) (iN (bQ 8) (qS))))
 (fO))
 (ck (aJ (je false) (Bw bG (aj (eFn eg (aj (ak 2) (aK))) (aj (ak 1) (aK)))) (eFn b6 (aj (ak 6) (aK))))))))))
noncomputable def eL:List A->aA->R A:=cT n_ j6
noncomputable abbrev lZ:Stmt:=top 45
noncomputable def Kc:List Str:=["_law_script", "_law_at", "_law_bag_here", "_law_n", "_law_some", "_law_k"]
noncomputable def Ar:Ic:=
 oB (eC (.int 1)) (eC (.int 5))
noncomputable def AJ:Sm:=
 qC (mw (aJ Hs (ak 5) (ak 3)))
 (qC (lQ (jJ (eFn eL (aj (ak 4) (aj (ak 5) (aK))))))
 (ck (eC (.bl false)))
 (gZ))
 (qC (GJ (mw (aJ (je true) (ak 4) (gE (aK)))) (lQ (jJ (eFn cW (aj (ak 4) (aj (ak 5) (aK)))))))
 (ck (eC (.bl false)))
 (gZ))
noncomputable def yR:Ic:=
 gI (bf (f2 FI) (aj (eC (.int 2)) (aj (bf (f2 DK) (aj (bf (f1 iZ) (aj (ak 0) (aK))) (aj (eC (.int 6)) (aK)))) (aK))))
noncomputable def A6:Sm:=
 bw (bP (eFn gC (aj (ak 0) (aj (ak 1) (aK)))) (bQ 2))
 (bw (bP (aJ cj (eC (.int 2)) (eFn aP (aj (ak 2) (aj (eC (.int 4)) (aK))))) (bQ 3))
 (bw (bP (eFn gD (aj (ak 2) (aj (ak 3) (aj (aJ gW (gE (aj (eC (.int 6)) (aj (eC (.int 40)) (aK)))) (bf (f1 yW) (aj (aJ (je false) (eFn aP (aj (ak 2) (aj (eC (.int 8)) (aK)))) (eC (.int 5))) (aK)))) (aj (eC (.int 3)) (aK)))))) (bQ 4))
 (cI (Ar) (bQ 5)
 (AJ))))
noncomputable def EF:Sm:=
 bw (cI (yR) (bQ 1)
 (A6))
 (ck (eC (.bl true)))
noncomputable def sH:List A->aA->R A:=cT Kc EF
section
variable {P:Program} {w:World} {K:PySem.W.Frag} {mg:Str->Option Value} {base:Heap}
theorem v9:FnScope ["thing"] ["thing"] (az fH):=⟨rfl,rfl,rfl,by decide +kernel,rfl,by decide +kernel,by decide +kernel⟩
theorem wJ {f:Addr}{fd:FuncData}(F:Fun K "is_whole" "is_whole" fH f fd)(QY:mg "isinstance" = none)(Q7:mg "bool" = none)(Q4:mg "int" = none):FnOk P w K mg base iS 1 f fd ["thing"] (jH K 1 fu):=m_ (m:=ly) F v9 λ cdv B outer s H E hr=>
 aH (aZ (w9 (aW lW QY bK (af (ah 0) (af (mQ Q4 xW) (au)))) (xQ (Lv (aW lW QY bK (af (ah 0) (af (mQ Q7 zj) (au))))))))
theorem qH:FnScope ["n", "thing"] ["n", "thing"] (az cY):=⟨rfl,rfl,rfl,by decide +kernel,rfl,by decide +kernel,by decide +kernel⟩
theorem pX {f:Addr}{fd:FuncData}(F:Fun K "is_exchange" "is_exchange" cY f fd)(Rh:d7 P w K mg base 1 "is_whole" ["thing"] fu):FnOk P w K mg base iS 2 f fd ["n", "thing"] (jH K 2 b7):=m_ (m:=fJ) F qH λ cdv B outer s H E hr=>
 aH (aZ (w9 (bC Rh (hr.mono (by decide)) (af (ah 1) (au)) (aq aN)) (xQ (NQ Ow (Jq hr.units) (aE) (ah 1) (ah 0)))))
theorem gr:FnScope ["order", "i", "j", "things"] ["order", "i", "j"] (az bV):=⟨rfl,rfl,rfl,by decide +kernel,rfl,by decide +kernel,by decide +kernel⟩
theorem kL {f:Addr}{fd:FuncData}(F:Fun K "exchanged_places" "exchanged_places" bV f fd)(Q0:mg "list" = none)(Q3:mg "tuple" = none):FnOk P w K mg base iS 1 f fd ["order", "i", "j"] (jH K 3 bU):=m_ (m:=ef) F gr λ cdv B outer s H E hr=>
 aF (br (i:=3) gr.nd (fm (tB rfl) Q0 ku (af (ah 0) (au))))
 (aF (iG (dh (af (b9 (ah 3) (aO j9 (ah 2) (aE))) (af (b9 (ah 3) (aO j9 (ah 1) (aE))) (au)))) (fY rfl (bz (tW (ah 3) (aO j9 (ah 1) (aE))) (bz (tW (ah 3) (aO j9 (ah 2) (aE))) (dY)))))
 (aH (aZ (fm (yx rfl) Q3 jK (af (ah 3) (au))))))
theorem tY:FnScope ["order", "k"] ["order", "k"] (az eS):=⟨rfl,rfl,rfl,by decide +kernel,rfl,by decide +kernel,by decide +kernel⟩
theorem tK {f:Addr}{fd:FuncData}(F:Fun K "exchanged" "exchanged" eS f fd){U:Addr}{C_NoWord:Addr}(QV:ExcK K U "NoWord" C_NoWord)(QX:mg "len" = none)(Ri:d7 P w K mg base 2 "is_exchange" ["n", "thing"] b7)(Rj:d7 P w K mg base 1 "exchanged_places" ["order", "i", "j"] bU):FnOk P w K mg base (Cu P w) 3 f fd ["order", "k"] (OF K 2 cP):=fnX (m:=iu) F tY λ cdv B outer s H E hr=>
 aF (eO (gc (eU (bC Ri (hr.mono (by decide)) (af (aW jD QX fZ (af (ah 0) (au))) (af (ah 1) (au))) (aq (aq aN)))))
 (aH (B_ (ps:=[.inl "no exchange of ",.inr (bf (f1 iZ) (aj (ak 0) (aK))),.inl " things"]) QV.n QV.q hr.hd (.txt (.val (aW jD QX fZ (af (ah 0) (au))) (.txt .nil)))))
 (b5))
 (aH (aZ (bC Rj (hr.mono (by decide)) (af (ah 0) (af (ah 1) (af (aO cK (ah 1) (aE)) (au)))) (aq (aq (aq aN))))))
theorem DZ:FnScope ["order"] ["order"] (az kh):=⟨rfl,rfl,rfl,by decide +kernel,rfl,by decide +kernel,by decide +kernel⟩
theorem DT {f:Addr}{fd:FuncData}(F:Fun K "falls" "falls" kh f fd)(QW:mg "range" = none)(QX:mg "len" = none):FnOk P w K mg base iS 1 f fd ["order"] (jH K 1 kG):=m_ (m:=sZ) F DZ λ cdv B outer s H E hr=>
 aH (aZ (gw (N:=["k", "order"]) (cap:=[none,some 0]) rfl (kY ["order"] rfl (by decide +kernel) (by decide +kernel) (by decide +kernel) (by decide +kernel) (by decide +kernel) (forall_mem_cons.mpr ⟨by first | exact Or.inl rfl | exact Or.inr rfl,(λ _ h=>nomatch h)⟩) ⟨rfl,by decide +kernel,trivial⟩) (sU QW (aE) (aW jD QX fZ (af (ah 0) (au)))) (λ _ _ _ _=>aR (i:=0) (show (["k", "order"]:List Str).Nodup by decide +kernel) rfl (Or.inl rfl) (.inr rfl)) (λ _ _ _ _=>mG (cA (CF hr.units) (b9 (ah 1) (aO j9 (ah 0) (aE))) (b9 (ah 1) (ah 0)))) (λ _ _ _ _=>ah 0)))
theorem nN:FnScope ["numbers"] ["numbers"] (az cC):=⟨rfl,rfl,rfl,by decide +kernel,rfl,by decide +kernel,by decide +kernel⟩
theorem nc {f:Addr}{fd:FuncData}(F:Fun K "as_polynomial" "as_polynomial" cC f fd)(Q2:mg "sorted" = none):FnOk P w K mg base iS 1 f fd ["numbers"] (jH K 1 bN):=m_ (m:=gb) F nN λ cdv B outer s H E hr=>
 aH (aZ (gw (N:=["power", "numbers"]) (cap:=[none,some 0]) rfl (kY ["numbers"] rfl (by decide +kernel) (by decide +kernel) (by decide +kernel) (by decide +kernel) (by decide +kernel) (forall_mem_cons.mpr ⟨by first | exact Or.inl rfl | exact Or.inr rfl,(λ _ h=>nomatch h)⟩) ⟨rfl,by decide +kernel,trivial⟩) (cU (aW (Bb rfl) Q2 jc (af (ah 0) (au)))) (λ _ _ _ _=>aR (i:=0) (show (["power", "numbers"]:List Str).Nodup by decide +kernel) rfl (Or.inl rfl) (.inr rfl)) (λ _ _ _ _=>mG (cA (rD hr.units) (t9 hr.units (ah 1) (ah 0)) (aE))) (λ _ _ _ _=>dh (af (ah 0) (af (t9 hr.units (ah 1) (ah 0)) (au))))))
theorem oU:FnScope ["one", "other", "numbers", "power", "number"] ["one", "other"] (az nV):=⟨rfl,rfl,rfl,by decide +kernel,rfl,by decide +kernel,by decide +kernel⟩
theorem Jc {f:Addr}{fd:FuncData}(F:Fun K "plus" "plus" nV f fd)(Rk:mg "dict" = none)(Q8:d7 P w K mg base 1 "as_polynomial" ["numbers"] bN):FnOk P w K mg base iS 2 f fd ["one", "other"] (jH K 2 nE):=m_ (m:=xB) F oU λ cdv B outer s H E hr=>
 aF (br (i:=2) oU.nd (fm (HJ rfl) Rk Iu (af (ah 0) (au))))
 (aF (cO PassesOwn.never rfl (cU (ah 1)) (fY rfl (bz (aR (i:=3) oU.nd) (bz (aR (i:=4) oU.nd) (dY))))
 (aH (iG (aO cK (tZ PySem.F.slot_dict_get PySem.F.type_dict_get (uB hr.units) (ah 2) (af (ah 3) (af (aE) (au)))) (ah 4)) (oN hr.units (ah 2) (ah 3)))))
 (aH (aZ (bC Q8 (hr.mono (by decide)) (af (ah 2) (au)) (aq aN)))))
theorem iQ:FnScope ["one", "other", "numbers", "power", "number", "high", "many"] ["one", "other"] (az j_):=⟨rfl,rfl,rfl,by decide +kernel,rfl,by decide +kernel,by decide +kernel⟩
theorem GF {f:Addr}{fd:FuncData}(F:Fun K "times" "times" j_ f fd)(Q8:d7 P w K mg base 1 "as_polynomial" ["numbers"] bN):FnOk P w K mg base iS 2 f fd ["one", "other"] (jH K 2 kC):=m_ (m:=uE) F iQ λ cdv B outer s H E hr=>
 aF (br (i:=2) iQ.nd (pR))
 (aF (cO PassesOwn.never rfl (cU (ah 0)) (fY rfl (bz (aR (i:=3) iQ.nd) (bz (aR (i:=4) iQ.nd) (dY))))
 (aH (cO PassesOwn.never rfl (cU (ah 1)) (fY rfl (bz (aR (i:=5) iQ.nd) (bz (aR (i:=6) iQ.nd) (dY))))
 (aH (iG (aO cK (tZ PySem.F.slot_dict_get PySem.F.type_dict_get (uB hr.units) (ah 2) (af (aO cK (ah 3) (ah 5)) (af (aE) (au)))) (aO CO (ah 4) (ah 6))) (oN hr.units (ah 2) (aO cK (ah 3) (ah 5))))))))
 (aH (aZ (bC Q8 (hr.mono (by decide)) (af (ah 2) (au)) (aq aN)))))
theorem qY:FnScope ["found", "order", "poly"] ["found", "order", "poly"] (az dG):=⟨rfl,rfl,rfl,by decide +kernel,rfl,by decide +kernel,by decide +kernel⟩
theorem rz {f:Addr}{fd:FuncData}(F:Fun K "put_before" "put_before" dG f fd)(Rl:d7 P w K mg base 2 "plus" ["one", "other"] nE):FnOk P w K mg base iS 3 f fd ["found", "order", "poly"] (jH K 3 cF):=m_ (m:=jl) F qY λ cdv B outer s H E hr=>
 aH (iG (bC Rl (hr.mono (by decide)) (af (DA PySem.F.slot_dict_get PySem.F.type_dict_get (Ks hr.units) (ah 0) (af (ah 1) (af (cR (au)) (au)))) (af (ah 2) (au))) (aq (aq aN))) (s_ hr.units (ah 0) (ah 1)))
theorem B6:FnScope ["found"] ["found"] (az iV):=⟨rfl,rfl,rfl,by decide +kernel,rfl,by decide +kernel,by decide +kernel⟩
theorem Ck {f:Addr}{fd:FuncData}(F:Fun K "as_sum" "as_sum" iV f fd)(Q2:mg "sorted" = none):FnOk P w K mg base iS 1 f fd ["found"] (jH K 1 jb):=m_ (m:=qI) F B6 λ cdv B outer s H E hr=>
 aH (aZ (gw (N:=["order", "found"]) (cap:=[none,some 0]) rfl (kY ["found"] rfl (by decide +kernel) (by decide +kernel) (by decide +kernel) (by decide +kernel) (by decide +kernel) (forall_mem_cons.mpr ⟨by first | exact Or.inl rfl | exact Or.inr rfl,(λ _ h=>nomatch h)⟩) ⟨rfl,by decide +kernel,trivial⟩) (cU (aW (uq rfl) Q2 jc (af (ah 0) (au)))) (λ _ _ _ _=>aR (i:=0) (show (["order", "found"]:List Str).Nodup by decide +kernel) rfl (Or.inl rfl) (.inr rfl)) (λ _ _ _ _=>mG (eU (p8 hr.units (ah 1) (ah 0)))) (λ _ _ _ _=>dh (af (ah 0) (af (p8 hr.units (ah 1) (ah 0)) (au))))))
theorem eX:FnScope ["one", "k", "found", "order", "poly"] ["one", "k"] (az cV):=⟨rfl,rfl,rfl,by decide +kernel,rfl,by decide +kernel,by decide +kernel⟩
theorem qF {f:Addr}{fd:FuncData}(F:Fun K "by_exchange" "by_exchange" cV f fd)(Q0:mg "list" = none)(h_AT_A_FALL:∃ a,mg "AT_A_FALL" = some (.ref a)/\MQ K a=some [((-1:Int),(1:Int)),((1:Int),(-1:Int))])(Rf:d7 P w K mg base 3 "put_before" ["found", "order", "poly"] cF)(Rm:MT P w K mg base 3 "exchanged" ["order", "k"] cP)(Ro:d7 P w K mg base 1 "falls" ["order"] kG)(Rp:d7 P w K mg base 2 "times" ["one", "other"] kC)(Rq:d7 P w K mg base 1 "as_sum" ["found"] jb):FnOk P w K mg base (Cu P w) 4 f fd ["one", "k"] (OF K 2 bG):=fnX (m:=fP) F eX λ cdv B outer s H E hr=>
 aF (br (i:=2) eX.nd (oM))
 (aF (cO PassesOwn.leaving rfl (cU (ah 0)) (fY rfl (bz (aR (i:=3) eX.nd) (bz (aR (i:=4) eX.nd) (dY))))
 (aF (fj (bC Rf (hr.mono (by decide)) (af (ah 2) (af (uc Rm (hr.mono (by decide)) (af (ah 3) (af (ah 1) (au))) (aq (aq aN))) (af (ah 4) (au)))) (aq (aq (aq aN)))))
 (aH (eO (cA (PD hr.units) (ah 1) (bC Ro (hr.mono (by decide)) (af (ah 3) (au)) (aq aN)))
 (aH (fj (bC Rf (hr.mono (by decide)) (af (ah 2) (af (ah 3) (af (bC Rp (hr.mono (by decide)) (af (fm (tB rfl) Q0 ku (af (Ez h_AT_A_FALL.choose_spec.1 h_AT_A_FALL.choose_spec.2) (au))) (af (ah 4) (au))) (aq (aq aN))) (au)))) (aq (aq (aq aN))))))
 (b5)))))
 (aH (aZ (bC Rq (hr.mono (by decide)) (af (ah 2) (au)) (aq aN)))))
theorem gH:FnScope ["_law_script", "_law_at", "_law_cell", "_law_great"] ["_law_script", "_law_at"] (az gA):=⟨rfl,rfl,rfl,by decide +kernel,rfl,by decide +kernel,by decide +kernel⟩
theorem xO {f:Addr}{fd:FuncData}(F:Fun K "_law_bag" "_law_bag" gA f fd)(QX:mg "len" = none):FnOk P w K mg base iS 1 f fd ["_law_script", "_law_at"] (jH K 2 gC):=m_ (m:=nq) F gH λ cdv B outer s H E hr=>
 aF (br (i:=2) gH.nd (aE))
 (aF (eO (cA (Jq hr.units) (ah 1) (aW jD QX fZ (af (ah 0) (au))))
 (aH (br (i:=2) gH.nd (b9 (ah 0) (ah 1))))
 (b5))
 (aF (br (i:=3) gH.nd (aE))
 (aF (eO (cA PU (ah 2) (aO E6 (aE) (aE)))
 (aH (br (i:=3) gH.nd (ah 2)))
 (b5))
 (aH (aZ (cR (af (ah 3) (af (aO vZ (aO cK (aO cK (ah 2) (aO sR (aE) (ah 1))) (aE)) (aE)) (au)))))))))
theorem lO:FnScope ["_law_bag_here", "_law_many", "_law_found"] ["_law_bag_here", "_law_many"] (az eF):=⟨rfl,rfl,rfl,by decide +kernel,rfl,by decide +kernel,by decide +kernel⟩
theorem ue {f:Addr}{fd:FuncData}(F:Fun K "_law_digit" "_law_digit" eF f fd):FnOk P w K mg base iS 1 f fd ["_law_bag_here", "_law_many"] (jH K 2 aP):=m_ (m:=ie) F lO λ cdv B outer s H E hr=>
 aF (eO (cA (CF hr.units) (b9 (ah 0) (aE)) (aE))
 (aF (br (i:=2) lO.nd (aO vZ (b9 (ah 0) (aE)) (ah 1)))
 (aF (iG (aO DP (b9 (ah 0) (aE)) (ah 1)) (tW (ah 0) (aE)))
 (aH (aZ (ah 2)))))
 (b5))
 (aF (iG (aO vZ (aO cK (aO sR (b9 (ah 0) (aE)) (aE)) (aE)) (aE)) (tW (ah 0) (aE)))
 (aH (aZ (aO vZ (aO vZ (aO sR (aO DP (b9 (ah 0) (aE)) (aE)) (aE)) (aE)) (ah 1)))))
theorem dW:FnScope ["_law_bag_here", "_law_way", "_law_number", "_law_k"] ["_law_bag_here"] (az dI):=⟨rfl,rfl,rfl,by decide +kernel,rfl,by decide +kernel,by decide +kernel⟩
theorem rm {f:Addr}{fd:FuncData}(F:Fun K "_law_signed" "_law_signed" dI f fd)(QW:mg "range" = none)(QZ:d7 P w K mg base 1 "_law_digit" ["_law_bag_here", "_law_many"] aP):FnOk P w K mg base iS 2 f fd ["_law_bag_here"] (jH K 1 dD):=m_ (m:=jv) F dW λ cdv B outer s H E hr=>
 aF (br (i:=1) dW.nd (bC QZ (hr.mono (by decide)) (af (ah 0) (af (aE) (au))) (aq (aq aN))))
 (aF (br (i:=2) dW.nd (bC QZ (hr.mono (by decide)) (af (ah 0) (af (b9 (cR (af (aE) (af (aE) (af (aE) (af (aE) (au)))))) (ah 1)) (au))) (aq (aq aN))))
 (aF (cO PassesOwn.never rfl (eN QW (b9 (cR (af (aE) (af (aE) (af (aE) (af (aE) (au)))))) (ah 1))) (aR (i:=3) dW.nd)
 (aH (br (i:=2) dW.nd (aO cK (aO sR (ah 2) (aO E6 (aE) (aE))) (bC QZ (hr.mono (by decide)) (af (ah 0) (af (aO E6 (aE) (aE)) (au))) (aq (aq aN)))))))
 (aH (aZ (aO sR (ah 2) (b9 (cR (af (aE) (af (nI (aE)) (au)))) (bC QZ (hr.mono (by decide)) (af (ah 0) (af (aE) (au))) (aq (aq aN)))))))))
theorem dj:FnScope ["_law_bag_here", "_law_most", "_law_far", "_law_found", "_law_power", "_law_k", "_law_number"] ["_law_bag_here", "_law_most", "_law_far"] (az fB):=⟨rfl,rfl,rfl,by decide +kernel,rfl,by decide +kernel,by decide +kernel⟩
theorem wo {f:Addr}{fd:FuncData}(F:Fun K "_law_poly" "_law_poly" fB f fd)(QW:mg "range" = none)(QZ:d7 P w K mg base 1 "_law_digit" ["_law_bag_here", "_law_many"] aP)(Rr:d7 P w K mg base 2 "_law_signed" ["_law_bag_here"] dD):FnOk P w K mg base iS 3 f fd ["_law_bag_here", "_law_most", "_law_far"] (jH K 3 fG):=m_ (m:=lB) F dj λ cdv B outer s H E hr=>
 aF (br (i:=3) dj.nd (cR (au)))
 (aF (br (i:=4) dj.nd (aO j9 (bC QZ (hr.mono (by decide)) (af (ah 0) (af (aO cK (aO sR (aE) (ah 2)) (aE)) (au))) (aq (aq aN))) (ah 2)))
 (aF (eO (cA (CF hr.units) (ah 1) (aE))
 (aH (br (i:=4) dj.nd (aO j9 (aE) (ah 2))))
 (b5))
 (aF (cO PassesOwn.never rfl (eN QW (bC QZ (hr.mono (by decide)) (af (ah 0) (af (aO cK (ah 1) (aE)) (au))) (aq (aq aN)))) (aR (i:=5) dj.nd)
 (aF (br (i:=6) dj.nd (bC Rr (hr.mono (by decide)) (af (ah 0) (au)) (aq aN)))
 (aF (eO (AW.at (C1 (cA (rD hr.units) (ah 6) (aE)) (zk (cA Ow (ah 4) (ah 2)))))
 (aH (fj (uO PySem.F.slot_list_append PySem.F.type_list_append mF (ah 3) (af (dh (af (ah 4) (af (ah 6) (au)))) (au)))))
 (b5))
 (aH (br (i:=4) dj.nd (aO cK (aO cK (ah 4) (aE)) (bC QZ (hr.mono (by decide)) (af (ah 0) (af (aE) (au))) (aq (aq aN)))))))))
 (aH (aZ (ah 3))))))
theorem oF:FnScope ["_law_held"] ["_law_held"] (az cM):=⟨rfl,rfl,rfl,by decide +kernel,rfl,by decide +kernel,by decide +kernel⟩
theorem oE {f:Addr}{fd:FuncData}(F:Fun K "_law_own_poly" "_law_own_poly" cM f fd)(Q2:mg "sorted" = none):FnOk P w K mg base iS 1 f fd ["_law_held"] (jH K 1 bX):=m_ (m:=gJ) F oF λ cdv B outer s H E hr=>
 aH (aZ (gw (N:=["_law_power", "_law_held"]) (cap:=[none,some 0]) rfl (kY ["_law_held"] rfl (by decide +kernel) (by decide +kernel) (by decide +kernel) (by decide +kernel) (by decide +kernel) (forall_mem_cons.mpr ⟨by first | exact Or.inl rfl | exact Or.inr rfl,(λ _ h=>nomatch h)⟩) ⟨rfl,by decide +kernel,trivial⟩) (cU (aW (Bb rfl) Q2 jc (af (ah 0) (au)))) (λ _ _ _ _=>aR (i:=0) (show (["_law_power", "_law_held"]:List Str).Nodup by decide +kernel) rfl (Or.inl rfl) (.inr rfl)) (λ _ _ _ _=>mG (cA (rD hr.units) (t9 hr.units (ah 1) (ah 0)) (aE))) (λ _ _ _ _=>dh (af (ah 0) (af (t9 hr.units (ah 1) (ah 0)) (au))))))
theorem dZ:FnScope ["_law_one", "_law_other", "_law_held", "_law_power", "_law_number"] ["_law_one", "_law_other"] (az cN):=⟨rfl,rfl,rfl,by decide +kernel,rfl,by decide +kernel,by decide +kernel⟩
theorem oH {f:Addr}{fd:FuncData}(F:Fun K "_law_own_plus" "_law_own_plus" cN f fd)(Q9:d7 P w K mg base 1 "_law_own_poly" ["_law_held"] bX):FnOk P w K mg base iS 2 f fd ["_law_one", "_law_other"] (jH K 2 cL):=m_ (m:=gU) F dZ λ cdv B outer s H E hr=>
 aF (br (i:=2) dZ.nd (pR))
 (aF (cO PassesOwn.never rfl (cU (aO cK (ah 0) (ah 1))) (fY rfl (bz (aR (i:=3) dZ.nd) (bz (aR (i:=4) dZ.nd) (dY))))
 (aH (iG (aO cK (tZ PySem.F.slot_dict_get PySem.F.type_dict_get (uB hr.units) (ah 2) (af (ah 3) (af (aE) (au)))) (ah 4)) (oN hr.units (ah 2) (ah 3)))))
 (aH (aZ (bC Q9 (hr.mono (by decide)) (af (ah 2) (au)) (aq aN)))))
theorem b8:FnScope ["_law_one", "_law_other", "_law_held", "_law_power", "_law_number", "_law_more", "_law_many"] ["_law_one", "_law_other"] (az cB):=⟨rfl,rfl,rfl,by decide +kernel,rfl,by decide +kernel,by decide +kernel⟩
theorem nB {f:Addr}{fd:FuncData}(F:Fun K "_law_own_times" "_law_own_times" cB f fd)(Q9:d7 P w K mg base 1 "_law_own_poly" ["_law_held"] bX):FnOk P w K mg base iS 2 f fd ["_law_one", "_law_other"] (jH K 2 bO):=m_ (m:=fV) F b8 λ cdv B outer s H E hr=>
 aF (br (i:=2) b8.nd (pR))
 (aF (cO PassesOwn.never rfl (cU (ah 0)) (fY rfl (bz (aR (i:=3) b8.nd) (bz (aR (i:=4) b8.nd) (dY))))
 (aH (cO PassesOwn.never rfl (cU (ah 1)) (fY rfl (bz (aR (i:=5) b8.nd) (bz (aR (i:=6) b8.nd) (dY))))
 (aH (iG (aO cK (tZ PySem.F.slot_dict_get PySem.F.type_dict_get (uB hr.units) (ah 2) (af (aO cK (ah 3) (ah 5)) (af (aE) (au)))) (aO CO (ah 4) (ah 6))) (oN hr.units (ah 2) (aO cK (ah 3) (ah 5))))))))
 (aH (aZ (bC Q9 (hr.mono (by decide)) (af (ah 2) (au)) (aq aN)))))
theorem jj:FnScope ["_law_bag_here", "_law_n", "_law_left", "_law_made"] ["_law_bag_here", "_law_n"] (az er):=⟨rfl,rfl,rfl,by decide +kernel,rfl,by decide +kernel,by decide +kernel⟩
theorem um {f:Addr}{fd:FuncData}(F:Fun K "_law_order" "_law_order" er f fd)(Q0:mg "list" = none)(QW:mg "range" = none)(QX:mg "len" = none)(Q3:mg "tuple" = none)(QZ:d7 P w K mg base 1 "_law_digit" ["_law_bag_here", "_law_many"] aP):FnOk P w K mg base iS 2 f fd ["_law_bag_here", "_law_n"] (jH K 2 eo):=m_ (m:=j0) F jj λ cdv B outer s H E hr=>
 aF (br (i:=2) jj.nd (fm (tB rfl) Q0 ku (af (fm Fq QW CT (af (aE) (af (aO cK (ah 1) (aE)) (au)))) (au))))
 (aF (br (i:=3) jj.nd (cR (au)))
 (aF (D9 1000000 PassesOwn.never (cA (CF hr.units) (aW jD QX fZ (af (ah 2) (au))) (aE))
 (aH (fj (uO PySem.F.slot_list_append PySem.F.type_list_append mF (ah 3) (af (uO PySem.F.slot_list_pop PySem.F.type_list_pop HB (ah 2) (af (bC QZ (hr.mono (by decide)) (af (ah 0) (af (aW jD QX fZ (af (ah 2) (au))) (au))) (aq (aq aN))) (au))) (au))))))
 (aH (aZ (fm (yx rfl) Q3 jK (af (ah 3) (au)))))))
theorem gK:FnScope ["_law_bag_here", "_law_n", "_law_most", "_law_size", "_law_held", "_law_k", "_law_one", "_law_own"] ["_law_bag_here", "_law_n", "_law_most", "_law_size"] (az gB):=⟨rfl,rfl,rfl,by decide +kernel,rfl,by decide +kernel,by decide +kernel⟩
theorem yg {f:Addr}{fd:FuncData}(F:Fun K "_law_sum" "_law_sum" gB f fd)(QW:mg "range" = none)(Q2:mg "sorted" = none)(QZ:d7 P w K mg base 1 "_law_digit" ["_law_bag_here", "_law_many"] aP)(Rt:d7 P w K mg base 2 "_law_order" ["_law_bag_here", "_law_n"] eo)(Ru:d7 P w K mg base 3 "_law_poly" ["_law_bag_here", "_law_most", "_law_far"] fG):FnOk P w K mg base iS 4 f fd ["_law_bag_here", "_law_n", "_law_most", "_law_size"] (jH K 4 gD):=m_ (m:=nJ) F gK λ cdv B outer s H E hr=>
 aF (br (i:=4) gK.nd (oM))
 (aF (cO PassesOwn.never rfl (eN QW (bC QZ (hr.mono (by decide)) (af (ah 0) (af (aO cK (ah 2) (aE)) (au))) (aq (aq aN)))) (aR (i:=5) gK.nd)
 (aF (br (i:=6) gK.nd (bC Rt (hr.mono (by decide)) (af (ah 0) (af (ah 1) (au))) (aq (aq aN))))
 (aF (br (i:=7) gK.nd (bC Ru (hr.mono (by decide)) (af (ah 0) (af (ah 3) (af (aE) (au)))) (aq (aq (aq aN)))))
 (aH (eO (cA (rD hr.units) (ah 7) (cR (au)))
 (aH (iG (ah 7) (s_ hr.units (ah 4) (ah 6))))
 (b5))))))
 (aH (aZ (gw (N:=["_law_one", "_law_held"]) (cap:=[none,some 4]) rfl (kY ["_law_held"] rfl (by decide +kernel) (by decide +kernel) (by decide +kernel) (by decide +kernel) (by decide +kernel) (forall_mem_cons.mpr ⟨by first | exact Or.inl rfl | exact Or.inr rfl,(λ _ h=>nomatch h)⟩) ⟨rfl,by decide +kernel,trivial⟩) (cU (aW (uq rfl) Q2 jc (af (ah 4) (au)))) (λ _ _ _ _=>aR (i:=0) (show (["_law_one", "_law_held"]:List Str).Nodup by decide +kernel) rfl (Or.inl rfl) (.inr rfl)) (λ _ _ _ _=>m7) (λ _ _ _ _=>dh (af (ah 0) (af (p8 hr.units (ah 1) (ah 0)) (au))))))))
theorem gS:FnScope ["_law_found", "_law_one", "_law_number"] ["_law_found"] (az cZ):=⟨rfl,rfl,rfl,by decide +kernel,rfl,by decide +kernel,by decide +kernel⟩
theorem qg {f:Addr}{fd:FuncData}(F:Fun K "_law_is_poly" "_law_is_poly" cZ f fd)(QY:mg "isinstance" = none)(Q0:mg "list" = none)(QX:mg "len" = none)(Q3:mg "tuple" = none)(Q7:mg "bool" = none)(Q4:mg "int" = none)(Q_:mg "all" = none)(QW:mg "range" = none):FnOk P w K mg base iS 1 f fd ["_law_found"] (jH K 1 cX):=m_ (m:=iH) F gS λ cdv B outer s H E hr=>
 aF (eO (gc (eU (aW lW QY bK (af (ah 0) (af (mQ Q0 ku) (au))))))
 (aH (aZ (iO)))
 (b5))
 (aF (cO PassesOwn.never rfl (cU (ah 0)) (aR (i:=1) gS.nd)
 (aF (eO (AW.at (n8 (gc (eU (aW lW QY bK (af (ah 1) (af (mQ Q3 jK) (au)))))) (n8 (cA (rD hr.units) (aW jD QX fZ (af (ah 1) (au))) (aE)) (pI (cA (xw hr.units) (b9 (ah 1) (aE)) (aE))))))
 (aH (aZ (iO)))
 (b5))
 (aH (cO PassesOwn.never rfl (cU (ah 1)) (aR (i:=2) gS.nd)
 (aH (eO (AW.at (n8 (gc (eU (aW lW QY bK (af (ah 2) (af (mQ Q4 xW) (au)))))) (pI (eU (aW lW QY bK (af (ah 2) (af (mQ Q7 zj) (au))))))))
 (aH (aZ (iO)))
 (b5)))))))
 (aH (aZ (aW (JX rfl) Q_ D7 (af (gw (N:=["_law_k", "_law_found"]) (cap:=[none,some 0]) rfl (kY ["_law_found"] rfl (by decide +kernel) (by decide +kernel) (by decide +kernel) (by decide +kernel) (by decide +kernel) (forall_mem_cons.mpr ⟨by first | exact Or.inl rfl | exact Or.inr rfl,(λ _ h=>nomatch h)⟩) ⟨rfl,by decide +kernel,trivial⟩) (eN QW (aO j9 (aW jD QX fZ (af (ah 0) (au))) (aE))) (λ _ _ _ _=>aR (i:=0) (show (["_law_k", "_law_found"]:List Str).Nodup by decide +kernel) rfl (Or.inl rfl) (.inr rfl)) (λ _ _ _ _=>m7) (λ _ _ _ _=>nQ (Jq hr.units) (b9 (b9 (ah 1) (ah 0)) (aE)) (b9 (b9 (ah 1) (aO cK (ah 0) (aE))) (aE)))) (au))))))
theorem lq:FnScope ["_law_found", "_law_one"] ["_law_found"] (az dw):=⟨rfl,rfl,rfl,by decide +kernel,rfl,by decide +kernel,by decide +kernel⟩
theorem qV {f:Addr}{fd:FuncData}(F:Fun K "_law_is_sum" "_law_is_sum" dw f fd)(QY:mg "isinstance" = none)(Q0:mg "list" = none)(Q3:mg "tuple" = none)(QX:mg "len" = none)(Rv:d7 P w K mg base 1 "_law_is_poly" ["_law_found"] cX):FnOk P w K mg base iS 2 f fd ["_law_found"] (jH K 1 dH):=m_ (m:=jg) F lq λ cdv B outer s H E hr=>
 aF (eO (gc (eU (aW lW QY bK (af (ah 0) (af (mQ Q0 ku) (au))))))
 (aH (aZ (iO)))
 (b5))
 (aF (cO PassesOwn.never rfl (cU (ah 0)) (aR (i:=1) lq.nd)
 (aF (eO (AW.at (n8 (gc (eU (aW lW QY bK (af (ah 1) (af (mQ Q3 jK) (au)))))) (n8 (cA (rD hr.units) (aW jD QX fZ (af (ah 1) (au))) (aE)) (pI (gc (eU (aW lW QY bK (af (b9 (ah 1) (aE)) (af (mQ Q3 jK) (au))))))))))
 (aH (aZ (iO)))
 (b5))
 (aH (eO (AW.at (n8 (gc (eU (bC Rv (hr.mono (by decide)) (af (b9 (ah 1) (aE)) (au)) (aq aN)))) (pI (cA (xw hr.units) (b9 (ah 1) (aE)) (cR (au))))))
 (aH (aZ (iO)))
 (b5)))))
 (aH (aZ (iO))))
theorem vL:FnScope ["_law_some"] ["_law_some"] (az fy):=⟨rfl,rfl,rfl,by decide +kernel,rfl,by decide +kernel,by decide +kernel⟩
theorem vH {f:Addr}{fd:FuncData}(F:Fun K "_law_copy" "_law_copy" fy f fd)(Q0:mg "list" = none):FnOk P w K mg base iS 1 f fd ["_law_some"] (jH K 1 eg):=m_ (m:=lA) F vL λ cdv B outer s H E hr=>
 aH (aZ (gw (N:=["_law_one", "_law_own"]) (cap:=[none,none]) rfl (kY [] rfl (by decide +kernel) (by decide +kernel) (by decide +kernel) (by decide +kernel) (by decide +kernel) (λ _ h=>nomatch h) trivial) (cU (ah 0)) (λ _ _ _ _=>fY rfl (bz (aR (i:=0) (show (["_law_one", "_law_own"]:List Str).Nodup by decide +kernel) rfl (Or.inl rfl) (.inr rfl)) (bz (aR (i:=1) (show (["_law_one", "_law_own"]:List Str).Nodup by decide +kernel) rfl (Or.inl rfl) (.inr rfl)) (dY)))) (λ _ _ _ _=>m7) (λ _ _ _ _=>dh (af (ah 0) (af (fm (tB rfl) Q0 ku (af (ah 1) (au))) (au))))))
theorem i_:FnScope ["_law_held", "_law_one", "_law_own", "_law_made"] ["_law_held", "_law_one", "_law_own"] (az cD):=⟨rfl,rfl,rfl,by decide +kernel,rfl,by decide +kernel,by decide +kernel⟩
theorem nS {f:Addr}{fd:FuncData}(F:Fun K "_law_own_added" "_law_own_added" cD f fd)(Rw:d7 P w K mg base 2 "_law_own_plus" ["_law_one", "_law_other"] cL):FnOk P w K mg base iS 3 f fd ["_law_held", "_law_one", "_law_own"] (jH K 3 bq):=m_ (m:=fW) F i_ λ cdv B outer s H E hr=>
 aF (br (i:=3) i_.nd (bC Rw (hr.mono (by decide)) (af (DA PySem.F.slot_dict_get PySem.F.type_dict_get (Ks hr.units) (ah 0) (af (ah 1) (af (cR (au)) (au)))) (af (ah 2) (au))) (aq (aq aN))))
 (aH (iG (ah 3) (s_ hr.units (ah 0) (ah 1))))
theorem qB:FnScope ["_law_held"] ["_law_held"] (az c_):=⟨rfl,rfl,rfl,by decide +kernel,rfl,by decide +kernel,by decide +kernel⟩
theorem pS {f:Addr}{fd:FuncData}(F:Fun K "_law_own_sum" "_law_own_sum" c_ f fd)(Q2:mg "sorted" = none):FnOk P w K mg base iS 1 f fd ["_law_held"] (jH K 1 b6):=m_ (m:=iE) F qB λ cdv B outer s H E hr=>
 aH (aZ (gw (N:=["_law_one", "_law_held"]) (cap:=[none,some 0]) rfl (kY ["_law_held"] rfl (by decide +kernel) (by decide +kernel) (by decide +kernel) (by decide +kernel) (by decide +kernel) (forall_mem_cons.mpr ⟨by first | exact Or.inl rfl | exact Or.inr rfl,(λ _ h=>nomatch h)⟩) ⟨rfl,by decide +kernel,trivial⟩) (cU (aW (uq rfl) Q2 jc (af (ah 0) (au)))) (λ _ _ _ _=>aR (i:=0) (show (["_law_one", "_law_held"]:List Str).Nodup by decide +kernel) rfl (Or.inl rfl) (.inr rfl)) (λ _ _ _ _=>mG (cA (rD hr.units) (p8 hr.units (ah 1) (ah 0)) (cR (au)))) (λ _ _ _ _=>dh (af (ah 0) (af (p8 hr.units (ah 1) (ah 0)) (au))))))
theorem bZ:FnScope ["_law_some", "_law_k", "_law_held", "_law_one", "_law_own", "_law_other"] ["_law_some", "_law_k"] (az bR):=⟨rfl,rfl,rfl,by decide +kernel,rfl,by decide +kernel,by decide +kernel⟩
theorem kM {f:Addr}{fd:FuncData}(F:Fun K "_law_own_exchange" "_law_own_exchange" bR f fd)(Q5:d7 P w K mg base 3 "_law_own_added" ["_law_held", "_law_one", "_law_own"] bq)(Rb:d7 P w K mg base 2 "_law_own_times" ["_law_one", "_law_other"] bO)(Rc:d7 P w K mg base 1 "_law_own_sum" ["_law_held"] b6):FnOk P w K mg base iS 4 f fd ["_law_some", "_law_k"] (jH K 2 bS):=m_ (m:=d9) F bZ λ cdv B outer s H E hr=>
 aF (br (i:=2) bZ.nd (oM))
 (aF (cO PassesOwn.never rfl (cU (ah 0)) (fY rfl (bz (aR (i:=3) bZ.nd) (bz (aR (i:=4) bZ.nd) (dY))))
 (aF (br (i:=5) bZ.nd (aO cK (aO cK (J6 (ah 3) AN (yK (aO j9 (ah 1) (aE)))) (dh (af (b9 (ah 3) (ah 1)) (af (b9 (ah 3) (aO j9 (ah 1) (aE))) (au))))) (J6 (ah 3) (yK (aO cK (ah 1) (aE))) AN)))
 (aF (fj (bC Q5 (hr.mono (by decide)) (af (ah 2) (af (ah 5) (af (ah 4) (au)))) (aq (aq (aq aN)))))
 (aH (eO (cA (CF hr.units) (b9 (ah 3) (aO j9 (ah 1) (aE))) (b9 (ah 3) (ah 1)))
 (aH (fj (bC Q5 (hr.mono (by decide)) (af (ah 2) (af (ah 3) (af (bC Rb (hr.mono (by decide)) (af (cR (af (dh (af (nI (aE)) (af (aE) (au)))) (af (dh (af (aE) (af (nI (aE)) (au)))) (au)))) (af (ah 4) (au))) (aq (aq aN))) (au)))) (aq (aq (aq aN))))))
 (b5))))))
 (aH (aZ (bC Rc (hr.mono (by decide)) (af (ah 2) (au)) (aq aN)))))
theorem kB:FnScope ["_law_e", "_law_due", "_law_found", "_law_names"] ["_law_e", "_law_due"] (az iW):=⟨rfl,rfl,rfl,by decide +kernel,rfl,by decide +kernel,by decide +kernel⟩
theorem Bx {f:Addr}{fd:FuncData}(F:Fun K "_law_is" "_law_is" iW f fd){U:Addr}{C_NoWord:Addr}{C_TooMany:Addr}{C_NoPair:Addr}{C_NoNumber:Addr}{C_NoName:Addr}{C_NoRow:Addr}{C_NoText:Addr}{C_NoTables:Addr}(QV:ExcK K U "NoWord" C_NoWord)(Rx:mg "TooMany" = some (.ref C_TooMany))(Ry:mg "NoPair" = some (.ref C_NoPair))(Rz:mg "NoNumber" = some (.ref C_NoNumber))(RA:mg "NoWord" = some (.ref C_NoWord))(RB:mg "NoName" = some (.ref C_NoName))(RC:mg "NoRow" = some (.ref C_NoRow))(RE:mg "NoText" = some (.ref C_NoText))(RG:mg "NoTables" = some (.ref C_NoTables))(k_NoWord_TooMany:PySem.W.kitOne K (.ref C_NoWord) (.ref C_TooMany)=some false)(k_NoWord_NoPair:PySem.W.kitOne K (.ref C_NoWord) (.ref C_NoPair)=some false)(k_NoWord_NoNumber:PySem.W.kitOne K (.ref C_NoWord) (.ref C_NoNumber)=some false)(k_NoWord_NoWord:PySem.W.kitOne K (.ref C_NoWord) (.ref C_NoWord)=some true)(k_NoWord_NoName:PySem.W.kitOne K (.ref C_NoWord) (.ref C_NoName)=some false)(k_NoWord_NoRow:PySem.W.kitOne K (.ref C_NoWord) (.ref C_NoRow)=some false)(k_NoWord_NoText:PySem.W.kitOne K (.ref C_NoWord) (.ref C_NoText)=some false)(k_NoWord_NoTables:PySem.W.kitOne K (.ref C_NoWord) (.ref C_NoTables)=some false)(QY:mg "isinstance" = none)(RH:mg "ValueError" = none):FnOkH P w K mg base 1 f fd ["_law_e", "_law_due"] (jH K 2 iU):=QS (m:=qc) F kB λ cdv B outer s H e oe C hr hh h0 xo=>
 aF (br (i:=2) kB.nd (cR (af (jO RA (tb:=[("NoWord",true)]) (forall_mem_cons.mpr ⟨⟨_,QV.n,QV.x,QV.cl,k_NoWord_NoWord⟩,(λ _ h=>nomatch h)⟩) (ah 0) QY) (af (jO Rz (tb:=[("NoWord",false)]) (forall_mem_cons.mpr ⟨⟨_,QV.n,QV.x,QV.cl,k_NoWord_NoNumber⟩,(λ _ h=>nomatch h)⟩) (ah 0) QY) (af (jO Ry (tb:=[("NoWord",false)]) (forall_mem_cons.mpr ⟨⟨_,QV.n,QV.x,QV.cl,k_NoWord_NoPair⟩,(λ _ h=>nomatch h)⟩) (ah 0) QY) (af (jO Rx (tb:=[("NoWord",false)]) (forall_mem_cons.mpr ⟨⟨_,QV.n,QV.x,QV.cl,k_NoWord_TooMany⟩,(λ _ h=>nomatch h)⟩) (ah 0) QY) (au)))))))
 (aF (br (i:=2) kB.nd (aO cK (ah 2) (cR (af (jO RG (tb:=[("NoWord",false)]) (forall_mem_cons.mpr ⟨⟨_,QV.n,QV.x,QV.cl,k_NoWord_NoTables⟩,(λ _ h=>nomatch h)⟩) (ah 0) QY) (af (jO RE (tb:=[("NoWord",false)]) (forall_mem_cons.mpr ⟨⟨_,QV.n,QV.x,QV.cl,k_NoWord_NoText⟩,(λ _ h=>nomatch h)⟩) (ah 0) QY) (af (jO RC (tb:=[("NoWord",false)]) (forall_mem_cons.mpr ⟨⟨_,QV.n,QV.x,QV.cl,k_NoWord_NoRow⟩,(λ _ h=>nomatch h)⟩) (ah 0) QY) (af (jO RB (tb:=[("NoWord",false)]) (forall_mem_cons.mpr ⟨⟨_,QV.n,QV.x,QV.cl,k_NoWord_NoName⟩,(λ _ h=>nomatch h)⟩) (ah 0) QY) (au))))))))
 (aF (br (i:=3) kB.nd (cR (af (jk) (af (jk) (af (jk) (af (jk) (af (jk) (af (jk) (af (jk) (af (jk) (au)))))))))))
 (aH (aZ (w9 (L_ RH (tb:=[("NoWord",true)]) (forall_mem_cons.mpr ⟨⟨_,QV.n,QV.x,QV.cl,QV.v⟩,(λ _ h=>nomatch h)⟩) (ah 0) QY) (xQ (nQ (xw hr.units) (ah 2) (CU (N:=["_law_name", "_law_due"]) (cap:=[none,some 1]) hh h0 xo (kY ["_law_due"] rfl (by decide +kernel) (by decide +kernel) (by decide +kernel) (by decide +kernel) (by decide +kernel) (forall_mem_cons.mpr ⟨by first | exact Or.inl rfl | exact Or.inr rfl,(λ _ h=>nomatch h)⟩) ⟨rfl,by decide +kernel,trivial⟩) (ah 3) (λ _ _ _ _=>aR (i:=0) (show (["_law_name", "_law_due"]:List Str).Nodup by decide +kernel) rfl (Or.inl rfl) (.inr rfl)) (λ _ _ _ _=>m7) (λ _ _ _ _=>nQ (xw hr.units) (ah 0) (ah 1))))))))))
theorem jZ:FnScope ["_law_some", "_law_k", "_law_e"] ["_law_some", "_law_k"] (az dc):=⟨rfl,rfl,rfl,by decide +kernel,rfl,by decide +kernel,by decide +kernel⟩
theorem qq {f:Addr}{fd:FuncData}(F:Fun K "_law_refused" "_law_refused" dc f fd){U:Addr}{C_NoWord:Addr}(hU:xH K "UnderError" U)(mU:L2.mroIn K U=some IA)(QV:ExcK K U "NoWord" C_NoWord)(Q6:MT P w K mg base 4 "by_exchange" ["one", "k"] bG)(RI:KL P w K mg base 1 "_law_is" ["_law_e", "_law_due"] iU):FnOk P w K mg base iS 5 f fd ["_law_some", "_law_k"] (jH K 2 cW):=m_ (m:=iK) F jZ λ cdv B outer s H E hr=>
 aF (by (refine KJ (i:=2) (cs:=["NoWord"]) ?hb ?hh jZ.nd hU mU (forall_mem_cons.mpr ⟨⟨_,QV.n,QV.r⟩,(λ _ h=>nomatch h)⟩);(case hb=>exact (λ _ _=>aH (fj (uc Q6 (hr.mono (by decide)) (af (ah 0) (af (ah 1) (au))) (aq (aq aN))))));(case hh=>exact (λ _ _ _ _ xo=>aH (aZ (Lk RI (BP hr (by decide)) rfl bM xo (af (ah 2) (af (jk) (au))) (aq (aq aN))))))))
 (aH (aZ (iO)))
theorem mK:FnScope ["_law_found", "_law_k"] ["_law_found"] (az eG):=⟨rfl,rfl,rfl,by decide +kernel,rfl,by decide +kernel,by decide +kernel⟩
theorem uC {f:Addr}{fd:FuncData}(F:Fun K "_law_apart" "_law_apart" eG f fd)(QW:mg "range" = none)(QX:mg "len" = none)(Q_:mg "all" = none):FnOk P w K mg base iS 1 f fd ["_law_found"] (jH K 1 eB):=m_ (m:=jN) F mK λ cdv B outer s H E hr=>
 aF (cO PassesOwn.never rfl (eN QW (aW jD QX fZ (af (ah 0) (au)))) (aR (i:=1) mK.nd)
 (aH (fj (uO PySem.F.slot_list_append PySem.F.type_list_append mF (b9 (b9 (ah 0) (ah 1)) (aE)) (af (dh (af (aO cK (aE) (ah 1)) (af (aE) (au)))) (au))))))
 (aH (aZ (aW (JX rfl) Q_ D7 (af (gw (N:=["_law_k", "_law_found"]) (cap:=[none,some 0]) rfl (kY ["_law_found"] rfl (by decide +kernel) (by decide +kernel) (by decide +kernel) (by decide +kernel) (by decide +kernel) (forall_mem_cons.mpr ⟨by first | exact Or.inl rfl | exact Or.inr rfl,(λ _ h=>nomatch h)⟩) ⟨rfl,by decide +kernel,trivial⟩) (eN QW (aW jD QX fZ (af (ah 0) (au)))) (λ _ _ _ _=>aR (i:=0) (show (["_law_k", "_law_found"]:List Str).Nodup by decide +kernel) rfl (Or.inl rfl) (.inr rfl)) (λ _ _ _ _=>m7) (λ _ _ _ _=>nQ (xw hr.units) (b9 (b9 (b9 (ah 1) (ah 0)) (aE)) (nI (aE))) (dh (af (aO cK (aE) (ah 0)) (af (aE) (au)))))) (au)))))
theorem bW:FnScope ["_law_some", "_law_k", "_law_due", "_law_handed", "_law_turn", "_law_found", "_law_held", "_law_one", "_law_own"] ["_law_some", "_law_k"] (az eE):=⟨rfl,rfl,rfl,by decide +kernel,rfl,by decide +kernel,by decide +kernel⟩
theorem tu {f:Addr}{fd:FuncData}(F:Fun K "_law_right" "_law_right" eE f fd)(QW:mg "range" = none)(RJ:d7 P w K mg base 4 "_law_own_exchange" ["_law_some", "_law_k"] bS)(Rg:d7 P w K mg base 1 "_law_copy" ["_law_some"] eg)(Q6:MT P w K mg base 4 "by_exchange" ["one", "k"] bG)(RK:d7 P w K mg base 2 "_law_is_sum" ["_law_found"] dH)(RL:d7 P w K mg base 1 "_law_apart" ["_law_found"] eB)(Q5:d7 P w K mg base 3 "_law_own_added" ["_law_held", "_law_one", "_law_own"] bq)(Rb:d7 P w K mg base 2 "_law_own_times" ["_law_one", "_law_other"] bO)(Rc:d7 P w K mg base 1 "_law_own_sum" ["_law_held"] b6):FnOk P w K mg base iS 5 f fd ["_law_some", "_law_k"] (jH K 2 eL):=m_ (m:=j6) F bW λ cdv B outer s H E hr=>
 aF (br (i:=2) bW.nd (bC RJ (hr.mono (by decide)) (af (ah 0) (af (ah 1) (au))) (aq (aq aN))))
 (aF (br (i:=3) bW.nd (bC Rg (hr.mono (by decide)) (af (ah 0) (au)) (aq aN)))
 (aF (cO PassesOwn.never rfl (eN QW (aE)) (aR (i:=4) bW.nd)
 (aF (br (i:=5) bW.nd (uc Q6 (hr.mono (by decide)) (af (ah 3) (af (ah 1) (au))) (aq (aq aN))))
 (aF (eO (AW.at (n8 (gc (eU (bC RK (hr.mono (by decide)) (af (ah 5) (au)) (aq aN)))) (n8 (cA (rD hr.units) (ah 5) (ah 2)) (pI (cA (rD hr.units) (ah 3) (ah 0))))))
 (aH (aZ (iO)))
 (b5))
 (aF (eO (gc (eU (bC RL (hr.mono (by decide)) (af (ah 5) (au)) (aq aN))))
 (aH (aZ (iO)))
 (b5))
 (aH (fj (uO PySem.F.slot_list_append PySem.F.type_list_append mF (ah 5) (af (dh (af (dh (af (aE) (au))) (af (cR (af (dh (af (aE) (af (aE) (au)))) (au))) (au)))) (au)))))))))
 (aF (br (i:=6) bW.nd (oM))
 (aF (cO PassesOwn.never rfl (cU (ah 0)) (fY rfl (bz (aR (i:=7) bW.nd) (bz (aR (i:=8) bW.nd) (dY))))
 (aH (fj (bC Q5 (hr.mono (by decide)) (af (ah 6) (af (ah 7) (af (ah 8) (au)))) (aq (aq (aq aN)))))))
 (aF (cO PassesOwn.never rfl (cU (ah 2)) (fY rfl (bz (aR (i:=7) bW.nd) (bz (aR (i:=8) bW.nd) (dY))))
 (aH (fj (bC Q5 (hr.mono (by decide)) (af (ah 6) (af (ah 7) (af (bC Rb (hr.mono (by decide)) (af (cR (af (dh (af (nI (aE)) (af (aE) (au)))) (af (dh (af (aE) (af (nI (aE)) (au)))) (au)))) (af (ah 8) (au))) (aq (aq aN))) (au)))) (aq (aq (aq aN)))))))
 (aH (aZ (nQ (xw hr.units) (uc Q6 (hr.mono (by decide)) (af (bC Rg (hr.mono (by decide)) (af (ah 2) (au)) (aq aN)) (af (ah 1) (au))) (aq (aq aN))) (bC Rc (hr.mono (by decide)) (af (ah 6) (au)) (aq aN))))))))))
theorem nA:FnScope ["_law_script", "_law_at", "_law_bag_here", "_law_n", "_law_some", "_law_k"] ["_law_script"] (az lZ):=⟨rfl,rfl,rfl,by decide +kernel,rfl,by decide +kernel,by decide +kernel⟩
theorem Mx {f:Addr}{fd:FuncData}(F:Fun K "law" "law" lZ f fd)(QW:mg "range" = none)(RM:mg "max" = none)(RN:mg "min" = none)(QX:mg "len" = none)(Q4:mg "int" = none)(RO:d7 P w K mg base 1 "_law_bag" ["_law_script", "_law_at"] gC)(QZ:d7 P w K mg base 1 "_law_digit" ["_law_bag_here", "_law_many"] aP)(RP:d7 P w K mg base 4 "_law_sum" ["_law_bag_here", "_law_n", "_law_most", "_law_size"] gD)(RQ:d7 P w K mg base 5 "_law_right" ["_law_some", "_law_k"] eL)(RU:d7 P w K mg base 5 "_law_refused" ["_law_some", "_law_k"] cW):FnOk P w K mg base iS 6 f fd ["_law_script"] (jH K 1 sH):=m_ (m:=EF) F nA λ cdv B outer s H E hr=>
 aF (cO PassesOwn.never rfl (eN QW (aW (LU rfl) RM Li (af (aE) (af (aW (LO rfl) RN Lp (af (aW jD QX fZ (af (ah 0) (au))) (af (aE) (au)))) (au))))) (aR (i:=1) nA.nd)
 (aF (br (i:=2) nA.nd (bC RO (hr.mono (by decide)) (af (ah 0) (af (ah 1) (au))) (aq (aq aN))))
 (aF (br (i:=3) nA.nd (aO cK (aE) (bC QZ (hr.mono (by decide)) (af (ah 2) (af (aE) (au))) (aq (aq aN)))))
 (aF (br (i:=4) nA.nd (bC RP (hr.mono (by decide)) (af (ah 2) (af (ah 3) (af (b9 (cR (af (aE) (af (aE) (au)))) (fm Mi Q4 xW (af (nQ (xw hr.units) (bC QZ (hr.mono (by decide)) (af (ah 2) (af (aE) (au))) (aq (aq aN))) (aE)) (au)))) (af (aE) (au))))) (aq (aq (aq (aq aN))))))
 (aH (cO PassesOwn.never rfl (sU QW (aE) (aE)) (aR (i:=5) nA.nd)
 (aH (eO (cA (Jq hr.units) (ah 5) (ah 3))
 (aH (eO (gc (eU (bC RQ (hr.mono (by decide)) (af (ah 4) (af (ah 5) (au))) (aq (aq aN)))))
 (aH (aZ (iO)))
 (b5)))
 (aH (eO (AW.at (C1 (cA (rD hr.units) (ah 4) (cR (au))) (zk (gc (eU (bC RU (hr.mono (by decide)) (af (ah 4) (af (ah 5) (au))) (aq (aq aN))))))))
 (aH (aZ (iO)))
 (b5)))))))))))
 (aH (aZ (iO)))
end
end K27
namespace K27
open PySem L2 Am
noncomputable def lH (S:aA)(b:Nat):Prop:=∃ g st:Int,aC S b=some [.int g,.int st]/\0<=g/\0<=st/\st < 4294967296
theorem lH.kp {S S':aA}{b:Nat}{c:Nat->Prop}(h:lH S b)(k:Kp c S S')(hb:¬ c b):lH S' b:=by
 obtain ⟨g,st,e,q⟩:=h;exact ⟨g,st,k.lst b _ hb e,q⟩
theorem lH.lt {S:aA}{b:Nat}(h:lH S b):b < S.length:=by obtain ⟨_,_,e,_⟩:=h;exact iD e
theorem Ig {S:aA}{ns:List Int}{k:Int}(h0:0<=k)(h1:k<=100):∃ S',gC [.frz (ns.map .int),.int k] S=.ok (.ref S.length) S'/\lH S' S.length/\eT S S':=by
 have e3:wR (.int 10) (.int 18)=λ S=>R.ok (.int 1000000000000000000) S:=by
  funext S;exact eV ⟨by decide,by decide,by decide⟩
 have m1:∀ x:Int,uF (.int x) (.int 2147483647)=λ S=>R.ok (.int (x % 2147483647)) S:=λ x=>by funext S;exact vG (by decide)
 have m3:∀ x:Int,mj (.int 7919) (.int x)=λ S=>R.ok (.int (7919 * x)) S:=λ x=>by funext S;exact zD (by decide) (by decide)
 have s0:∀ x:Int,0<=x % 2147483647:=λ x=>emod_nonneg _ (by decide);have s1:∀ x:Int,x % 2147483647 < 4294967296:=λ x=>by have:=emod_lt_of_pos x (show (0:Int) < 2147483647 by decide);omega
 have go:∀ cell:Int,∃ S',((RS.seq (.nx [A.frz (ns.map .int),.int k,.int cell,.unb] S) (bw (bP (eC (.int 0)) (bQ 3))
  (bw (qC (mw (aJ OU (ak 2) (aJ wR (eC (.int 10)) (eC (.int 18))))) (bP (ak 2) (bQ 3)) (gZ))
  (ck (gE (aj (ak 3) (aj (aJ uF (aJ cj (aJ cj (ak 2) (aJ mj (eC (.int 7919)) (ak 1))) (eC (.int 13))) (eC (.int 2147483647))) (aK)))))))).end=.ok (.ref S.length) S')/\lH S' S.length/\eT S S':=by
  intro cell;by_cases hc:1000000000000000000<=cell
  ·simp only [bD,bools,e3,m1,m3,decide_eq_true hc];exact ⟨_,rfl,⟨_,_,aV,by omega,s0 _,s1 _⟩,Kp.refl.lay⟩
  ·simp only [bD,bools,e3,m1,m3,decide_eq_false hc];exact ⟨_,rfl,⟨_,_,aV,Int.le_refl 0,s0 _,s1 _⟩,Kp.refl.lay⟩
 unfold gC nq rW;simp only [bD,bools,dQ,Nat.reduceAdd,Nat.reduceSub,length_map];by_cases hk:k < (ns.length:Int)
 ·have hn:k.toNat < ns.length:=by omega
  have ha:gF (ns.map A.int) k=some (.int ns[k.toNat]):=Ac (k:=k.toNat) (by omega) (List.getElem?_eq_getElem hn);rw [decide_eq_true hk];simp only [bD,bools,ha];have:=go ns[k.toNat];simpa only [bD,bools] using this
 ·rw [decide_eq_false hk];simp only [bD,bools];have:=go 0;simpa only [bD,bools] using this
theorem digit {S:aA}{b:Nat}{m:Int}(h:lH S b)(h1:1<=m)(h2:m < 1073741824):∃ d S',aP [.ref b,.int m] S=.ok (.int d) S'/\0<=d/\d < m/\lH S' b/\Kp (·=b) S S':=by
 obtain ⟨g,st,hl,hg,hs,hs2⟩:=h;have hb:=iD hl;have i0:rF 2 0=some 0:=uA rfl (by decide);have i1:rF 2 1=some 1:=uA rfl (by decide);have fin:∀ d g' st':Int,0<=d->d < m->0<=g'->0<=st'->st' < 4294967296->aP [.ref b,.int m] S=.ok (.int d) (S.set b (.lst [.int g',.int st']))->∃ d S',aP [.ref b,.int m] S=.ok (.int d) S'/\0<=d/\d < m/\lH S' b/\Kp (·=b) S S':=
  λ d g' st' a1 a2 a3 a4 a5 e=>⟨d,_,e,a1,a2,⟨g',st',gz hb,a3,a4,a5⟩,Kp.refl.set (.inl rfl)⟩
 by_cases hg0:0 < g
 ·refine fin (g % m) (g / m) st (emod_nonneg _ (by omega)) (emod_lt_of_pos _ (by omega)) (Int.ediv_nonneg hg (by omega)) hs hs2 ?_;unfold aP ie j4;rw [oZ];simp [hl,zL,y_,hg0,vG (show 0 < m by omega),Dj (show 0 < m by omega) h2,i0]
 ·have e1:0<=(st * 48271+11) % 2147483647:=emod_nonneg _ (by decide);have e2:(st * 48271+11) % 2147483647 < 2147483647:=emod_lt_of_pos _ (by decide);have e3:0<=(st * 48271+11) % 2147483647 / 8:=by omega
  refine fin ((st * 48271+11) % 2147483647 / 8 * 69621 % 2147483629 % m) g ((st * 48271+11) % 2147483647) (emod_nonneg _ (by omega)) (emod_lt_of_pos _ (by omega)) hg e1 (by omega) ?_;unfold aP ie j4;rw [oZ];simp [hl,zL,y_,hg0,i1,zD (show -18446744073709551616 < st by omega) (by omega),vG (show (0:Int) < 2147483647 by decide),gz hb,Dj (show (0:Int) < 8 by decide) (by decide),zD (show -18446744073709551616 < (st * 48271+11) % 2147483647 / 8 by omega) (by omega),vG (show (0:Int) < 2147483629 by decide),vG (show 0 < m by omega)]
theorem P1:wR (.int 10) (.int 9)=λ S=>R.ok (.int 1000000000) S:=by funext S;exact eV ⟨by decide,by decide,by decide⟩
open Po (Pl Ok Bd)
theorem FD {S:aA}{d:Nat}{D:Pl}(hd:cg S d=some (Po.iv D))(hl:D.length<=16777216):∃ S',bN [.ref d] S=.ok (.ref (S.length+1)) S'/\aC S' (S.length+1)=some (Po.pl (Po.xh D))/\eT S S':=by
 obtain ⟨S',e,h1,h2⟩:=EE hd hl;refine ⟨S',?_,h1,h2⟩;unfold bN gb jE;simp only [bD,bools,dQ,Nat.reduceAdd,Nat.reduceSub];rw [show cJ [none,some 0] _ _ _ _ _ _=_ from e];rfl
theorem HE {S:aA}{n m:Nat}{a b:Pl}(hn:aC S n=some (Po.pl a))(hm:aC S m=some (Po.pl b))(ha:Ok a)(hl:a.length+b.length < 16777216) :
  ∃ (L:Nat) (S':aA),nE [.ref n,.ref m] S=.ok (.ref L) S'/\aC S' L=some (Po.pl (Po.dO a b))/\S.length<=L/\eT S S':=by
 have hd:cg (S++[.fK (Po.iv a)]) S.length=some (Po.iv a):=tN;obtain ⟨y3,y4,T,e,hD,kp⟩:=AM (S:=S++[.fK (Po.iv a)]) (S1:=S++[.fK (Po.iv a)]) (x0:=.ref n) (x1:=.ref m) (x3:=.unb) (x4:=.unb) (src:=l_) (l:=b) (show l_ _ _=_ from dR (by simp only [bD,bools]) (aY hm)) (aY hm) hd hl;have ln:=Po.eW b a;obtain ⟨S',e2,h1,h2⟩:=FD hD (by omega);have k1:eT S T:=(Kp.refl.lay (o:=.fK (Po.iv a))).old kp λ q hq _ z=>by omega
 refine ⟨T.length+1,S',?_,by rw [h1,<- Po.HC ha];rfl,by have:=k1.len;omega,k1.trans h2⟩;unfold nE xB EB;simp only [bD,bools,dQ,Nat.reduceAdd,Nat.reduceSub,Bo,hn,Po.JJ,Po.Jf,Po.IG ha];rw [show cI l_ _ vI _ _=_ from e];simp only [bD,bools,e2]
theorem Cn (f:Int×Int->A)(hf:∀ p τ S,KN (f p) τ S=KN (Po.pA p) τ S){S:aA}{n m:Nat}{a b:Pl}(hn:aC S n=some (a.map f))(hm:aC S m=some (Po.pl b))(hl:a.length * b.length < 16777216)(ha:∀ p∈a,p.2.natAbs < big)(hb:∀ p∈b,p.2.natAbs < big) :
  ∃ (L:Nat) (S':aA),kC [.ref n,.ref m] S=.ok (.ref L) S'/\aC S' L=some (Po.pl (Po.times a b))/\S.length<=L/\eT S S':=by
 have hd:cg (S++[.fK []]) S.length=some []:=tN;obtain ⟨y3,y4,y5,y6,T,e,hD,kp⟩:=pN f hf (S:=S++[.fK []]) (x3:=.unb) (x4:=.unb) (x5:=.unb) (x6:=.unb) (aY hn) (aY hm) hd hl ha hb;have ln:=Po.eW (Po.xS a b) [];rw [Po.oY,length_nil,Nat.zero_add] at ln;obtain ⟨S',e2,h1,h2⟩:=FD hD (by omega);have k1:eT S T:=(Kp.refl.lay (o:=.fK [])).old kp λ q hq _ z=>by omega
 refine ⟨T.length+1,S',?_,h1,by have:=k1.len;omega,k1.trans h2⟩;unfold kC uE zm;simp only [bD,bools,dQ,Nat.reduceAdd,Nat.reduceSub,nW];rw [show cI rP _ sd _ _=_ from e];simp only [bD,bools,e2]
theorem AA {S:aA}{d:Nat}{D:Pl}(hd:cg S d=some (Po.iv D))(hl:D.length<=16777216):∃ S',bX [.ref d] S=.ok (.ref (S.length+1)) S'/\aC S' (S.length+1)=some (Po.pl (Po.xh D))/\eT S S':=by
 obtain ⟨S',e,h1,h2⟩:=EE hd hl;refine ⟨S',?_,h1,h2⟩;unfold bX gJ jM;simp only [bD,bools,dQ,Nat.reduceAdd,Nat.reduceSub];rw [show cJ [none,some 0] _ _ _ _ _ _=_ from e];rfl
theorem C3 {S:aA}{n m:Nat}{a b:Pl}(hn:aC S n=some (Po.pl a))(hm:aC S m=some (Po.pl b))(hl:a.length+b.length < 16777216) :
  ∃ (L:Nat) (S':aA),cL [.ref n,.ref m] S=.ok (.ref L) S'/\aC S' L=some (Po.pl (Po.dO a b))/\S.length<=L/\eT S S':=by
 have hd:cg (S++[.fK []]++[.lst (Po.pl (a++b))]) S.length=some (Po.iv []):=EK tN;have ad:cj (.ref n) (.ref m) (S++[.fK []])=.ok (.ref (S++[O.fK []]).length) (S++[.fK []]++[.lst (Po.pl (a++b))]):=by
  show opt (aC (S++[.fK []]) n) _=_;rw [aY hn,dm,aY hm,dm];unfold Po.pl;rw [map_append];exact fT (show (a.map Po.pA).length+(b.map Po.pA).length<=16777216 by rw [length_map,length_map];omega)
 obtain ⟨y3,y4,T,e,hD,kp⟩:=AM (S:=S++[.fK []]) (S1:=S++[.fK []]++[.lst (Po.pl (a++b))]) (x0:=.ref n) (x1:=.ref m) (x3:=.unb) (x4:=.unb) (src:=dF) (l:=a++b) (show dF _ _=_ from dR (by simp only [bD,bools,ad]) aV) aV hd (by rw [length_append];simpa using hl);have ln:=Po.eW (a++b) [];rw [length_append,length_nil,Nat.zero_add] at ln;obtain ⟨S',e2,h1,h2⟩:=AA hD (by omega);have k1:eT S T:=((Kp.refl.lay (o:=.fK [])).lay (o:=.lst (Po.pl (a++b)))).old kp λ q hq _ z=>by omega
 refine ⟨T.length+1,S',?_,h1,by have:=k1.len;omega,k1.trans h2⟩;unfold cL gU jR;simp only [bD,bools,dQ,Nat.reduceAdd,Nat.reduceSub,nW];rw [show cI dF _ iT _ _=_ from e];simp only [bD,bools,e2]
theorem sD {S:aA}{n m:Nat}{a b:Pl}(hn:aC S n=some (Po.pl a))(hm:aC S m=some (Po.pl b))(hl:a.length * b.length < 16777216)(ha:∀ p∈a,p.2.natAbs < big)(hb:∀ p∈b,p.2.natAbs < big) :
  ∃ (L:Nat) (S':aA),bO [.ref n,.ref m] S=.ok (.ref L) S'/\aC S' L=some (Po.pl (Po.times a b))/\S.length<=L/\eT S S':=by
 have hd:cg (S++[.fK []]) S.length=some []:=tN;obtain ⟨y3,y4,y5,y6,T,e,hD,kp⟩:=B3 (S:=S++[.fK []]) (x3:=.unb) (x4:=.unb) (x5:=.unb) (x6:=.unb) (aY hn) (aY hm) hd hl ha hb;have ln:=Po.eW (Po.xS a b) [];rw [Po.oY,length_nil,Nat.zero_add] at ln;obtain ⟨S',e2,h1,h2⟩:=AA hD (by omega);have k1:eT S T:=(Kp.refl.lay (o:=.fK [])).old kp λ q hq _ z=>by omega
 refine ⟨T.length+1,S',?_,h1,by have:=k1.len;omega,k1.trans h2⟩;unfold bO fV jA;simp only [bD,bools,dQ,Nat.reduceAdd,Nat.reduceSub,nW];rw [show cI ir _ iw _ _=_ from e];simp only [bD,bools,e2]
open Po (Pl Ok Bd)
theorem Cb {S:aA}{b:Nat}(h:lH S b):∃ (x:Int) (S':aA),dD [.ref b] S=.ok (.int x) S'/\x.natAbs<=10 ^ 31/\lH S' b/\Kp (·=b) S S':=by
 obtain ⟨w,S1,e1,w0,w1,b1,k1⟩:=digit (m:=4) h (by decide) (by decide);obtain ⟨mx,tr,h4,h5,h6,h7,h8⟩:∃ mx tr:Int,gF ([.int 4,.int 4,.int 1000,.int 1000]:List A) w=some (.int mx)/\gF ([.int 0,.int 0,.int 1,.int 3]:List A) w=some (.int tr)/\1<=mx/\mx<=1000/\(0<=tr/\tr<=3):=by
  rcases (by omega:w=0\/w=1\/w=2\/w=3) with z | z | z | z <;> subst z
  ·exact ⟨4,0,rfl,rfl,by decide,by decide,by decide⟩
  ·exact ⟨4,0,rfl,rfl,by decide,by decide,by decide⟩
  ·exact ⟨1000,1,rfl,rfl,by decide,by decide,by decide⟩
  ·exact ⟨1000,3,rfl,rfl,by decide,by decide,by decide⟩
 have hb:=h.lt;have n4:∀ S:aA,newL [.int 4,.int 4,.int 1000,.int 1000] S=.ok (.ref S.length) (S++[.lst [.int 4,.int 4,.int 1000,.int 1000]]):=λ S=>bI (show 4<=16777216 by decide);have n5:∀ S:aA,newL [.int 0,.int 0,.int 1,.int 3] S=.ok (.ref S.length) (S++[.lst [.int 0,.int 0,.int 1,.int 3]]):=λ S=>bI (show 4<=16777216 by decide);obtain ⟨x0,S2,e2,x1,x2,b2,k2⟩:=digit (m:=mx) (b1.kp (c:=λ _=>False) (Kp.refl.lay (o:=.lst [.int 4,.int 4,.int 1000,.int 1000])) λ z=>z) h6 (by omega);unfold dD jv lI;simp only [bD,bools,dQ,Nat.reduceAdd,Nat.reduceSub,e1,n4,h4,e2];have NR:Kp (·=b) S S2:=(k1.lay).trans k2;refine ji (lo:=0) (hi:=tr) (S1:=S2++[.lst [.int 0,.int 0,.int 1,.int 3]]) (show jL _ _=_ from fR (by simp only [bD,bools,n5,h5]) (gf (by omega) (by omega)))
  (λ i τ T=>∃ (x:Int) (a3:A),τ=[.ref b,.int w,.int x,a3]/\0<=x/\x < 1000 * 1000000000 ^ i/\lH T b/\Kp (·=b) S T)
  (λ r=>∃ (x:Int) (S':aA),RS.end (RS.seq r _)=.ok (.int x) S'/\x.natAbs<=10 ^ 31/\lH S' b/\Kp (·=b) S S')
  ⟨x0,_,rfl,x1,by show x0 < 1000 * 1;omega,b2.kp (c:=λ _=>False) (Kp.refl.lay) λ z=>z,NR.lay⟩ ?_ ?_
 ·rintro i τ T hi ⟨x,a3,rfl,y0,y1,bT,kT⟩;left;obtain ⟨d,T1,e3,d0,d1,b3,k3⟩:=digit (m:=1000000000) bT (by decide) (by decide);have ml:mj (.int x) (.int 1000000000)=λ S=>R.ok (.int (x * 1000000000)) S:=by funext S;exact mul_r (by decide) (by decide)
  unfold jQ;simp only [bD,bools,P1,ml,e3];refine ⟨_,_,rfl,_,_,rfl,by omega,?_,b3,kT.trans k3⟩;rw [Int.pow_succ];generalize (1000000000:Int) ^ i=q at *
  omega
 ·rintro τ T ⟨x,a3,rfl,y0,y1,bT,kT⟩;have n6:∀ S:aA,newL [.int 1,.int (-1)] S=.ok (.ref S.length) (S++[.lst [.int 1,.int (-1)]]):=λ S=>bI (show 2<=16777216 by decide);obtain ⟨d,T1,e3,d0,d1,b3,k3⟩:=digit (m:=2) (bT.kp (c:=λ _=>False) (Kp.refl.lay (o:=.lst [.int 1,.int (-1)])) λ z=>z) (by decide) (by decide);have hL:aC T1 T.length=some [.int 1,.int (-1)]:=k3.lst _ _ (by have:=bT.lt;omega) aV;obtain ⟨s,hs,s1⟩:∃ s:Int,gF ([.int 1,.int (-1)]:List A) d=some (.int s)/\(s=1\/s=-1):=by
   rcases (by omega:d=0\/d=1) with z | z <;> subst z
   ·exact ⟨1,rfl,.inl rfl⟩
   ·exact ⟨-1,rfl,.inr rfl⟩
  have ml:mj (.int x) (.int s)=λ S=>R.ok (.int (x * s)) S:=by funext S;exact mul_r (by omega) (by omega)
  simp only [bD,bools,n6,e3,hL,hs,ml];refine ⟨_,_,rfl,?_,b3,(kT.lay).trans k3⟩;have lt:x < 1000 * 1000000000 ^ 3:=by
   rcases (by omega:(tr - 0).toNat=0\/(tr - 0).toNat=1\/(tr - 0).toNat=2\/(tr - 0).toNat=3) with z | z | z | z <;> rw [z] at y1 <;> omega
  rcases s1 with z | z <;> subst z <;> omega
theorem Dp {S:aA}{b:Nat}{most far:Int}(h:lH S b)(h0:0<=most)(h1:most<=1000)(f0:0<=far)(f1:far<=1000) :
  ∃ (l:Pl) (L:Nat) (S':aA),fG [.ref b,.int most,.int far] S=.ok (.ref L) S'/\aC S' L=some (Po.pl l)/\Ok l/\Bd (10 ^ 31) l/\(l.length:Int)<=most/\lH S' b/\Kp (·=b) S S'/\S.length<=L:=by
 have nb:S.length≠b:=by have:=h.lt;omega
 obtain ⟨d,S1,e1,d0,d1,b1,k1⟩:=digit (S:=S++[.lst []]) (m:=2 * far+1) (h.kp (c:=λ _=>False) Kp.refl.lay λ z=>z) (by omega) (by omega);have m2:mj (.int 2) (.int far)=λ S=>R.ok (.int (2 * far)) S:=by funext S;exact zD (by decide) (by decide)
 have hL1:aC S1 S.length=some []:=k1.lst _ _ nb aV;have OM:Kp (·=b) S S1:=(Kp.refl.lay).trans k1;obtain ⟨c,S2,e2,c0,c1,b2,k2⟩:=digit (S:=S1) (m:=most+1) b1 (by omega) (by omega);have go:∀ p0:Int,∃ (l:Pl) (L:Nat) (S':aA),RS.end (RS.seq (cI jn (bQ 5) jm [.ref b,.int most,.int far,.ref S.length,.int p0,.unb,.unb] S1) (ck (ak 3)))=.ok (.ref L) S'/\aC S' L=some (Po.pl l)/\Ok l/\Bd (10 ^ 31) l/\(l.length:Int)<=most/\lH S' b/\Kp (·=b) S S'/\S.length<=L:=by
  intro p0;refine ji (lo:=0) (hi:=c) (S1:=S2) (show jn _ _=_ from fR (by simp only [bD,bools,e2]) (gf (by omega) (by omega)))
   (λ i τ T=>∃ (l:Pl) (p:Int) (a5 a6:A),τ=[.ref b,.int most,.int far,.ref S.length,.int p,a5,a6]/\aC T S.length=some (Po.pl l)/\Ok l/\(∀ q∈l,q.1 < p)/\Bd (10 ^ 31) l/\l.length<=i/\lH T b/\Kp (·=b) S T)
   (λ r=>∃ (l:Pl) (L:Nat) (S':aA),RS.end (RS.seq r _)=.ok (.ref L) S'/\aC S' L=some (Po.pl l)/\Ok l/\Bd (10 ^ 31) l/\(l.length:Int)<=most/\lH S' b/\Kp (·=b) S S'/\S.length<=L)
   ⟨[],p0,_,_,rfl,k2.lst _ _ nb hL1,⟨List.Pairwise.nil,λ _ h=>nomatch h⟩,(λ _ h=>nomatch h),(λ _ h=>nomatch h),Nat.le_refl _,b2,OM.trans k2⟩ ?_ ?_
  ·rintro i τ T hi ⟨l,p,a5,a6,rfl,hL,ok,lt,bd,len,bT,kT⟩;left;obtain ⟨x,T1,e3,x1,b3,k3⟩:=Cb bT;have hL3:=k3.lst _ _ nb hL;unfold jm;simp only [bD,bools,e3];have tail:∀ (l':Pl) (T2:aA),lH T2 b->Kp (·=b) S T2->aC T2 S.length=some (Po.pl l')->Ok l'->(∀ q∈l',q.1 < p+1)->Bd (10 ^ 31) l'->l'.length<=i+1 ->
     ∃ τ' S',RS.seq (.nx [.ref b,.int most,.int far,.ref S.length,.int p,.int (0+(i:Int)),.int x] T2) (bP (aJ cj (aJ cj (ak 4) (eC (.int 1))) (eFn aP (aj (ak 0) (aj (eC (.int 3)) (aK))))) (bQ 4))=.nx τ' S' /\
     ∃ (l:Pl) (p:Int) (a5 a6:A),τ'=[.ref b,.int most,.int far,.ref S.length,.int p,a5,a6]/\aC S' S.length=some (Po.pl l)/\Ok l/\(∀ q∈l,q.1 < p)/\Bd (10 ^ 31) l/\l.length<=i+1/\lH S' b/\Kp (·=b) S S':=by
    intro l' T2 bb kk hh oo ll dd ee;obtain ⟨y,T4,e4,y0,y1,b4,k4⟩:=digit (S:=T2) (m:=3) bb (by decide) (by decide);simp only [bD,bools,e4];exact ⟨_,_,rfl,l',_,_,_,rfl,k4.lst _ _ nb hh,oo,λ q hq=>by have:=ll q hq;omega,dd,ee,b4,kk.trans k4⟩
   have stay:=tail l T1 b3 (kT.trans k3) hL3 ok (λ q hq=>by have:=lt q hq;omega) bd (by omega);by_cases hx:x=0
   ·subst hx;simp only [bD,bools,beq_self_eq_true] at stay ⊢;exact stay
   ·have hx':(x == 0)=false:=by simpa using hx
    by_cases hp:p<=far
    ·have gl:gd ((Po.pl l).length < sizeLine)=λ r:Am.R A=>r:=by funext r;exact lK (show (Po.pl l).length < 16777216 by rw [pG];omega)
     have lL:=iD hL3;have ap:=tail (l++[(p,x)]) (T1.set S.length (.lst (Po.pl (l++[(p,x)])))) (by
       obtain ⟨g,st,e,q⟩:=b3;exact ⟨g,st,by rw [di nb];exact e,q⟩) ((kT.trans k3).set (.inr (Nat.le_refl _))) (gz lL)
      ⟨by
       rw [pairwise_append];exact ⟨ok.up,pairwise_singleton _ _,λ a ha c hc=>by rw [mem_singleton.mp hc];exact lt a ha⟩,λ q hq=>by
       rcases mem_append.mp hq with z | z
       ·exact ok.nz q z
       ·rw [mem_singleton.mp z];exact hx⟩
      (λ q hq=>by
       rcases mem_append.mp hq with z | z
       ·have:=lt q z;omega
       ·rw [mem_singleton.mp z];show p < p+1;omega)
      (λ q hq=>by
       rcases mem_append.mp hq with z | z
       ·exact bd q z
       ·rw [mem_singleton.mp z];exact x1) (by rw [length_append];show l.length+1<=_;omega)
     have et:Po.pl l++[A.tup [.int p,.int x]]=Po.pl (l++[(p,x)]):=by unfold Po.pl;rw [map_append];rfl
     simp only [bD,bools,hx',Bool.not_false,decide_eq_true hp,fT (show ([A.int p,.int x]:List A).length<=16777216 by simp),hL3,gl,et] at ap ⊢;exact ap
    ·simp only [bD,bools,hx',Bool.not_false,decide_eq_false hp] at stay ⊢;exact stay
  ·rintro τ T ⟨l,p,a5,a6,rfl,hL,ok,lt,bd,len,bT,kT⟩;simp only [bD,bools];exact ⟨l,S.length,T,rfl,hL,ok,bd,by omega,bT,kT,Nat.le_refl _⟩
 unfold fG lB qe;simp only [bD,bools,dQ,Nat.reduceAdd,Nat.reduceSub,m2,e1];by_cases hm:20 < most
 ·rw [decide_eq_true (show most > 20 from hm)];simp only [bD,bools];exact go _
 ·rw [decide_eq_false (show ¬ most > 20 from hm)];simp only [bD,bools];exact go _
open Po (Pl Ok Bd)
theorem Dg {S:aA}{L:Nat}{l:Pl}(hL:aC S L=some (Po.pl l))(ok:Ok l)(hl:l.length<=1000000):∃ S',cX [.ref L] S=.ok (.bl true) S'/\eT S S':=by
 unfold cX iH kX;simp only [bD,bools,dQ,Nat.reduceAdd,Nat.reduceSub,hL,map_some,show oG .lst "list" = some true from rfl,Bool.not_true];refine kg (n:=L) (xs:=Po.pl l) (S1:=S) (show jF _ _=_ from dR (by simp only [bD,bools]) hL)
  (λ i τ T=>(∃ a1 a2:A,τ=[.ref L,a1,a2])/\T=S) (λ r=>∃ S',RS.end (RS.seq r _)=.ok (.bl true) S'/\eT S S') ⟨⟨_,_,rfl⟩,rfl⟩ (λ i τ T h=>by rw [h.2];exact hL) ?_ ?_
 ·rintro i z τ T hz ⟨⟨a1,a2,rfl⟩,rfl⟩;unfold Po.pl at hz;rw [List.getElem?_map] at hz;obtain ⟨p,hp,rfl⟩:=map_eq_some_iff.mp hz;have nz:(p.2 == 0)=false:=by simpa using ok.nz p (mem_of_getElem? hp)
  refine ⟨[.ref L,.tup [.int p.1,.int p.2],a2],T,rfl,.inl ?_⟩;unfold jB;simp only [bD,bools,show oG .tup "tuple" = some true from rfl,Bool.not_true,length_cons,length_nil,Nat.zero_add,Nat.reduceAdd,show (((2:Nat):Int) == 2)=true from rfl,y_,nz];refine zz (xs:=[.int p.1,.int p.2]) (S1:=T) (show jz _ _=_ from K_ (by simp only [bD,bools]))
   (λ j τ T'=>(∃ a2:A,τ=[.ref L,.tup [.int p.1,.int p.2],a2])/\T'=T) (λ r=>∃ τ' S',r=.nx τ' S'/\(∃ a1 a2:A,τ'=[.ref L,a1,a2])/\S'=T) ⟨⟨_,rfl⟩,rfl⟩ ?_ ?_
  ·rintro j y τ T' hy ⟨⟨a2,rfl⟩,rfl⟩;obtain ⟨q,rfl⟩:∃ q:Int,y=.int q:=by
    have:=mem_of_getElem? hy;simp at this
    rcases this with z | z
    ·exact ⟨_,z⟩
    ·exact ⟨_,z⟩
   refine ⟨[.ref L,.tup [.int p.1,.int p.2],.int q],T',rfl,.inl ?_⟩;unfold jC;simp only [bD,bools,show oG .int "int" = some true from rfl,show oG .int "bool" = some false from rfl,Bool.not_true];exact ⟨_,_,rfl,⟨_,rfl⟩,rfl⟩
  ·rintro τ T' ⟨⟨a2,rfl⟩,rfl⟩;exact ⟨_,_,rfl,⟨_,_,rfl⟩,rfl⟩
 ·rintro τ T ⟨⟨a1,a2,rfl⟩,rfl⟩;have ix:∀ j:Int,0<=j->j < (l.length:Int)->gF (Po.pl l) j=some (.tup [.int (l.getD j.toNat (0,0)).1,.int (l.getD j.toNat (0,0)).2]):=λ j h0 h1=>pL (k:=j.toNat) (by omega) (Nk (by omega));have cc:=pQ (lo:=0) (hi:=(l.length:Int) - 1) (cap:=[some 0]) (src:=gI (aJ aSub (bf (f1 iZ) (aj (ak 0) (aK))) (eC (.int 1)))) (t:=mX) (e:=aJ Hs (aJ gW (aJ gW (ak 1) (ak 0)) (eC (.int 0))) (aJ gW (aJ gW (ak 1) (aJ cj (ak 0) (eC (.int 1)))) (eC (.int 0)))) (τ:=[.ref L,a1,a2]) (S:=T) (S1:=T)
   (fR (by simp only [bD,bools,hL,pG]) (gf (by omega) (by omega))) (λ _=>true) (λ _=>.bl true) (λ _ _ _=>rfl) (λ j h0 h1 _=>by
    have lt:(l.getD j.toNat (0,0)).1 < (l.getD (j+1).toNat (0,0)).1:=by
     have e1:(j+1).toNat=j.toNat+1:=by omega
     rw [e1,getD_eq_getElem?_getD,getD_eq_getElem?_getD,List.getElem?_eq_getElem (show j.toNat < l.length by omega),List.getElem?_eq_getElem (show j.toNat+1 < l.length by omega)];exact pairwise_iff_getElem.mp ok.up _ _ _ _ (by omega)
    simp only [bD,bools,hL,ix j h0 (by omega),ix (j+1) (by omega) (by omega),zL,decide_eq_true lt]) (by omega)
  have al:∀ (xs:List Int) (S:aA) (n:Nat),aC S n=some (xs.map λ _=>.bl true)->Dh (.ref n) S=.ok (.bl true) S:=λ xs S n h=>by
   show opt (aC S n) _=_;rw [h];show opt (A.Hh _) _=_;have b1:∀ xs:List Int,A.Hh (xs.map λ _=>A.bl true)=some (xs.map λ _=>true):=λ xs=>by
    induction xs with
    | nil=>rfl
    | cons x xs ih=>rw [map_cons,ko,ih];rfl
   rw [b1];have b2:∀ xs:List Int,((xs.map λ _=>true).all λ b=>b)=true:=λ xs=>by
    induction xs with
    | nil=>rfl
    | cons x xs ih=>exact ih
   show Am.R.ok (A.bl _) S=_;rw [b2]
  simp only [bD,bools,cc,al _ _ _ aV];exact ⟨_,rfl,Kp.refl.lay⟩
end K27
namespace K27
open PySem L2 Am
open Po (Pl Ok Bd)
open Su (Es At Vl)
theorem Ml {S:aA}{d r:Nat}{D:Es}{o:List Int}{p:Pl}{k b:Nat}(hd:bA S d=some (D.map Su.kv))(hA:At S D)(hv:Vl k b D)(hr:aC S r=some (Po.pl p))(hl:D.length < 16777216)(hk:k+p.length < 16777216) :
  ∃ (L:Nat) (S':aA),cF [.ref d,.tup (o.map .int),.ref r] S=.ok .non S'/\bA S' d=some ((Su.h_ D o L (Po.dO (Su.vS (Su.sm D) o) p)).map Su.kv)/\At S' (Su.h_ D o L (Po.dO (Su.vS (Su.sm D) o) p))/\S.length<=L/\Kp (·=d) S S':=by
 obtain ⟨x,ex,hx⟩:=Su.get_or (o:=o) hd hA;have vo:=hv.v o;obtain ⟨L,S2,e2,h1,h2,k2⟩:=HE hx (aY (o:=.lst []) hr) vo.1 (by omega);have kS:eT S S2:=(Kp.refl.lay).trans k2;have hd2:=kS.dct _ _ (λ z=>z) hd;have hd1:bA (S++[.lst []]) d=some (D.map Su.kv):=Su.Bh hd;refine ⟨L,S2.set d (.dct ((Su.h_ D o L (Po.dO (Su.vS (Su.sm D) o) p)).map Su.kv)),?_,Su.uH (Su.wO hd2),?_,by simp at h2;omega,kS.of0.tH (.inl rfl)⟩
 ·unfold cF jl mW;have n0:newL [] S=.ok (.ref S.length) (S++[.lst []]):=bI (show 0<=16777216 by decide);simp only [bD,bools,dQ,Nat.reduceAdd,Nat.reduceSub,Su.Aw,Su.Bf,hd,map_some,n0,Su.yY,hd1,ex,e2,Su.sX,Su.qN,hd2,lK (show (D.map Su.kv).length < 16777216 by rw [length_map];exact hl),Su.wU (p:=Po.dO (Su.vS (Su.sm D) o) p)]
 ·refine (Su.At.put (hA.pT kS) h1).kp (Kp.refl.tH (.inl rfl)) λ e he z=>?_
  rcases Su.iz he with y | y
  ·exact Su.iA hd (hA e y) z
  ·rw [y] at z;exact Su.iA hd2 h1 z
theorem KD {S:aA}{d:Nat}{D:Es}(hd:bA S d=some (D.map Su.kv))(hA:At S D)(hne:∀ e∈D,e.1≠[])(hl:D.length<=16777216) :
  ∃ (n:Nat) (S':aA),jb [.ref d] S=.ok (.ref n) S'/\aC S' n=some ((Su.iI D λ p=>!p.isEmpty).map Su.ent)/\At S' (Su.iI D λ p=>!p.isEmpty)/\S.length < n/\eT S S':=by
 have n0:=Su.pP hd hne;obtain ⟨n,S',e,h1,h2,h3,h4⟩:=Su.pF (cap:=[some 0]) (τ:=[.ref d]) (src:=dJ (bf (f1 jP) (aj (ak 0) (aK)))) (t:=jJ (aJ nP (ak 1) (ak 0))) (e:=fC (aj (ak 0) (aj (aJ nP (ak 1) (ak 0)) (aK)))) hd hA (dR (by simp only [bD,bools,n0]) aV) (λ p=>!p.isEmpty)
  (λ o r q T hT hk hr=>⟨T,by
   have tr:A.MU (.ref r) T=some (!q.isEmpty):=by
    show (aC T r).map _=_;rw [hr]
    cases q <;> rfl
   simp only [bD,bools,Su.nT,Su.m9,hT,hk,tr],Kp.refl⟩)
  (λ o r T hT hk=>by
   simp only [bD,bools,Su.nT,Su.m9,hT,hk];exact fT (show 2<=16777216 by decide)) hl
 refine ⟨n,S',?_,h1,h2,h3,h4⟩;unfold jb qI uZ;simp only [bD,bools,dQ,Nat.reduceAdd,Nat.reduceSub,e]
theorem uP:Su.uI cF:=λ h1 h2 h3 h4 h5 h6=>Ml h1 h2 h3 h4 h5 h6
theorem LW {l:List Int}{k:Nat}{i:Int}(h:i=k)(hk:k < l.length):gF (l.map A.int) i=some (.int (l.getD k 0)):=Ac h (by rw [getD_eq_getElem?_getD,List.getElem?_eq_getElem hk];rfl)
theorem IE {l:List Int}{k:Nat}:((l.map A.int).set (k - 1) (.int (l.getD k 0))).set k (.int (l.getD (k - 1) 0))=(Wd.ex l k).map A.int:=by
 unfold Wd.ex;rw [map_set,map_set]
theorem M_ {f g:A->A->aA->R A}{ca cb cc:Ex}{τ:List A}{S:aA}{a b c:A}(h1:ca τ S=.ok a S)(h2:cb τ S=.ok b S)(h3:f a b S=.ok (.bl true) S)(h4:cc τ S=.ok c S):HG f g ca cb cc τ S=g b c S:=by
 unfold HG;rw [h1,R.d8,h2,R.d8,h3,R.d8];unfold Qq;show (cc τ S).bind _=_;rw [h4];rfl
theorem O0 {f g:A->A->aA->R A}{ca cb cc:Ex}{τ:List A}{S:aA}{a b:A}(h1:ca τ S=.ok a S)(h2:cb τ S=.ok b S)(h3:f a b S=.ok (.bl false) S):HG f g ca cb cc τ S=.ok (.bl false) S:=by
 unfold HG;rw [h1,R.d8,h2,R.d8,h3,R.d8];rfl
theorem Gi {S:aA}{i:Int}:fu [.int i] S=.ok (.bl true) S:=by
 unfold fu ly pH;simp only [bD,bools,dQ,Nat.reduceAdd,Nat.reduceSub,show oG .int "int" = some true from rfl,show oG .int "bool" = some false from rfl,Bool.not_false]
noncomputable def NL (S:aA)(n:Int)(v:A):Prop:=v.gq=false/\b7 [.int n,v] S=.ok (.bl false) S
theorem FQ {S:aA}{n i:Int}(h:i < 1\/n<=i):NL S n (.int i):=by
 refine ⟨rfl,?_⟩;unfold b7 fJ iL;have c:HG MR Hs (eC (.int 1)) (ak 1) (ak 0) [.int n,.int i] S=.ok (.bl false) S:=by
  by_cases h1:(1:Int)<=i
  ·rw [M_ (a:=.int 1) (b:=.int i) (c:=.int n) rfl rfl (by simp only [bD,decide_eq_true h1]) rfl];simp only [bD,decide_eq_false (show ¬ i < n by omega)]
  ·exact O0 (a:=.int 1) (b:=.int i) rfl rfl (by simp only [bD,decide_eq_false h1])
 simp only [bD,bools,dQ,Nat.reduceAdd,Nat.reduceSub,Gi,c]
theorem Pa {S:aA}{n k:Int}(h1:1<=k)(h2:k < n):b7 [.int n,.int k] S=.ok (.bl true) S:=by
 unfold b7 fJ iL;have c:HG MR Hs (eC (.int 1)) (ak 1) (ak 0) [.int n,.int k] S=.ok (.bl true) S:=by
  rw [M_ (a:=.int 1) (b:=.int k) (c:=.int n) rfl rfl (by simp only [bD,decide_eq_true h1]) rfl];simp only [bD,decide_eq_true h2]
 simp only [bD,bools,dQ,Nat.reduceAdd,Nat.reduceSub,Gi,c]
theorem Ik {S:aA}{xs:List Int}{v:A}(h:NL S xs.length v)(hl:xs.length<=1000):cP [.tup (xs.map .int),v] S=.ex "NoWord" S:=by
 unfold cP iu j8;simp only [bD,qR,bools,dQ,Nat.reduceAdd,Nat.reduceSub,h.1,length_map,h.2,Bool.not_false,Nt (show xs.length < 18446744073709551616 by omega)]
theorem IB {S:aA}{xs:List Int}{k:Nat}(h1:1<=k)(h2:k < xs.length)(hl:xs.length<=1000):∃ S',cP [.tup (xs.map .int),.int k] S=.ok (.tup ((Wd.ex xs k).map .int)) S'/\eT S S':=by
 have e1:=Pa (S:=S) (n:=(xs.length:Int)) (k:=(k:Int)) (by omega) (by omega);have a1:gF (xs.map A.int) (k:Int)=some (.int (xs.getD k 0)):=LW rfl (by omega);have a2:gF (xs.map A.int) ((k:Int) - 1)=some (.int (xs.getD (k - 1) 0)):=LW (k:=k - 1) (by omega) (by omega);have x1:rF xs.length ((k:Int) - 1)=some (k - 1):=uA (by omega) (by omega);have x2:rF xs.length (k:Int)=some k:=uA rfl (by omega);have hL:aC (S++[O.lst (xs.map .int)]) S.length=some (xs.map .int):=aV;have lS:∀ ys,aC ((S++[O.lst (xs.map .int)]).set S.length (.lst ys)) S.length=some ys:=λ ys=>gz (by simp);have e2:bU [.tup (xs.map .int),.int k,.int ((k:Int)+1)] S=.ok (.tup ((Wd.ex xs k).map .int)) (((S++[O.lst (xs.map .int)]).set S.length (.lst ((xs.map A.int).set (k - 1) (.int (xs.getD k 0))))).set S.length (.lst ((Wd.ex xs k).map .int))):=by
  unfold bU ef gQ;simp only [bD,bools,dQ,Nat.reduceAdd,Nat.reduceSub,hL,show (k:Int)+1 - 1=k by omega,a1,a2,eV (show 2<=sizeLine by decide),eV (show 2=2 from rfl),length_map,x1,lS,length_set,x2,IE];rw [gz (by simp)];simp only [bD,bools]
 unfold cP iu j8;simp only [bD,qR,bools,dQ,Nat.reduceAdd,Nat.reduceSub,length_map,e1,Bool.not_true,e2];exact ⟨_,rfl,((Kp.refl.lay).set (.inr (Nat.le_refl _))).set (.inr (Nat.le_refl _))⟩
theorem QB {xs:List Int}{i:Int}(h1:0<=i)(h2:i < xs.length):gF (xs.map A.int) i=some (.int (xs.getD i.toNat 0)):=LW (k:=i.toNat) (by omega) (by omega)
noncomputable def fl (xs:List Int)(n:Nat):List Int:=(fD 1 (n:Int)).filter λ k=>decide (xs.getD (k - 1).toNat 0 > xs.getD k.toNat 0)
theorem Ei {S:aA}{n:Nat}{xs:List Int}(hlen:xs.length=n)(h2:n<=20):kG [.tup (xs.map .int)] S=.ok (.ref S.length) (S++[.lst ((fl xs n).map .int)]):=by
 have ec:=pQ (lo:=1) (hi:=(n:Int)) (cap:=[some 0]) (src:=oB (eC (.int 1)) (bf (f1 iZ) (aj (ak 0) (aK)))) (t:=mw (aJ Ku (aJ gW (ak 1) (aJ aSub (ak 0) (eC (.int 1)))) (aJ gW (ak 1) (ak 0)))) (e:=ak 0) (τ:=[.tup (xs.map .int)]) (S:=S) (S1:=S)
  (wH (S1:=S) (by simp only [bD,bools]) (by simp only [bD,bools,length_map,hlen]) (gf (by omega) (by omega)) (gf (by omega) (by omega)))
  (λ k=>decide (xs.getD (k - 1).toNat 0 > xs.getD k.toNat 0)) (λ k=>.int k) (λ k h1 h2=>by
   have x1:gF (xs.map A.int) (k - 1)=some (.int (xs.getD (k - 1).toNat 0)):=QB (by omega) (by omega);have x2:gF (xs.map A.int) k=some (.int (xs.getD k.toNat 0)):=QB (by omega) (by omega);simp only [bD,bools,x1,x2]) (λ k _ _ _=>by simp only [bD,bools]) (by omega)
 unfold kG sZ Bg;simp only [bD,bools,dQ,Nat.reduceAdd,Nat.reduceSub,ec];rfl
theorem AH {S:aA}{t:Int}:∀ (p:List Int),NI S (.int t) (p.map .int)=some (decide (t∈p))
 | []=>rfl
 | x::p=>by
  show (iY S 12 (.int x) (.int t)).bind (λ a=>(NI S (.int t) (p.map .int)).map λ b=>a || b)=_;rw [AH p];show some ((x == t) || decide (t∈p))=_;by_cases c:x=t
  ·subst c;rw [beq_self_eq_true,decide_eq_true (show x∈x::p from mem_cons_self ..)];rfl
  ·rw [beq_eq_false_iff_ne.mpr c];congr 1;rw [Bool.false_or,decide_eq_decide];constructor
   ·exact λ z=>mem_cons_of_mem _ z
   ·intro z
    rcases mem_cons.mp z with z | z
    ·exact absurd z.symm c
    ·exact z
open Po (Pl Ok Bd)
open Su (Es At Vl AF)
structure Sm (S:aA)(n:Nat)(es:Es):Prop where
 l:aC S n=some (es.map Su.ent)
 a:At S es
theorem Sm.kp {S S':aA}{n:Nat}{es:Es}(h:Sm S n es)(k:eT S S'):Sm S' n es:=⟨k.lst _ _ (λ z=>z) h.l,h.a.pT k⟩
noncomputable def Fi (n k:Nat)(es:Es):Prop:=∀ e∈es,e.1.length=n/\Ok e.2.2/\e.2.2≠[]/\e.2.2.length<=k/\Bd (10 ^ 31) e.2.2
theorem HW {o:List Int}{N k:Nat}(hl:o.length=N)(h1:1<=k)(h2:k < N):decide ((k:Int)∈fl o N)=Su.qQ o k:=by
 unfold fl Su.qQ;rw [decide_eq_decide,mem_filter,G5,decide_eq_true_eq,show ((k:Int) - 1).toNat=k - 1 by omega,toNat_natCast];constructor
 ·exact λ h=>h.2
 ·exact λ h=>⟨⟨by omega,by omega⟩,h⟩
theorem yr {S:aA}{n N k j:Nat}{es:Es}(h:Sm S n es)(h1:∀ e∈es,e.1.length=N/\2 * e.2.2.length<=j/\∀ p∈e.2.2,p.2.natAbs < big)(k1:1<=k)(k2:k < N)(hN:N<=20)(hl:(2 * es.length+2) * j < 16777216)(hl':es.length<=100000) :
  ∃ (L:Nat) (S':aA) (rs:Es),bG [.ref n,.int k] S=.ok (.ref L) S'/\Sm S' L rs/\Su.sm rs=Su.bx k (Su.sm es)/\(∀ e∈rs,Ok e.2.2/\e.2.2≠[]/\e.2.2.length<=2 * es.length * j/\S.length<=e.2.1/\e.2.1 < L)/\Su.Ap rs/\rs.length<=2 * es.length/\S.length<=L/\eT S S':=by
 have k0:eT S (S++[.dct []]):=Kp.refl.lay;obtain ⟨y3,y4,xs,D,T,hz,e1,f,kp⟩:=Su.mh (w:=2) (j:=j) (b:=S.length) (i0:=0) (S:=S++[.dct []]) (S1:=S++[.dct []]) (d:=S.length) (n:=n) (es:=es) (src:=cE) (c:=bB) (g:=qT 2 (iN (bQ 3) (iN (bQ 4) (qS)))) (λ y z _=>[.ref n,.int k,.ref S.length,y,z]) (λ _=>True) (Su.gX k) (λ _ _ _ _ _=>rfl) (x3:=.unb) (x4:=.unb) (xs0:=[]) trivial
  (show cE _ _=_ from dR (by simp only [bD,bools]) (aY h.l)) (aY h.l) (Su.Fil.new Su.iy) λ i e T Q D xs hi he _ kT f=>by
   obtain ⟨b1,b2,b3⟩:=h1 e he;have tl:=kT.len;have hm:2 * i+2<=2 * es.length:=by omega
   have hm2:(2 * i+2) * j<=(2 * es.length) * j:=mul_le_mul_right _ hm;have hm3:(2 * es.length+2) * j=2 * es.length * j+2 * j:=by rw [Nat.add_mul]
   have hm4:(2 * i+2) * j=(2 * i+1) * j+j:=succ_mul _ _;have hm5:(2 * i+1) * j=2 * i * j+j:=succ_mul _ _;rw [length_append] at tl;obtain ⟨T0,e0,kq⟩:=IB (S:=T) (xs:=e.1) (k:=k) k1 (by omega) (by omega);have aT:=((h.a.pT k0).JE kT Su.iy).pT kq;have f0:=f.pT kq;have qtl:=kq.len;rw [Nat.zero_add] at f0;have ne1:Wd.ex e.1 k≠[]:=λ z=>by have:=Wd.tF e.1 k;rw [z] at this;simp at this;omega
   obtain ⟨D1,T1,e1,f1,k1'⟩:=f0.add uP (o:=Wd.ex e.1 k) (aT e he) (by omega) ne1 (by omega) (by omega) (by omega);have k1l:=k1'.len;have fo:=Ei (S:=T1) (xs:=e.1) (n:=N) b1 hN;have in1:Pk false (.int k) (.ref T1.length) (T1++[.lst ((fl e.1 N).map .int)])=.ok (.bl (Su.qQ e.1 k)) (T1++[.lst ((fl e.1 N).map .int)]):=by
    show opt (aC _ _) _=_;rw [aV,dm,AH,HW b1 k1 k2];rfl
   have kE:eT T1 (T1++[.lst ((fl e.1 N).map .int)]):=Kp.refl.lay;obtain ⟨U,hU⟩:∃ U,U=T1++[O.lst ((fl e.1 N).map .int)]:=⟨_,rfl⟩;rw [<- hU] at in1 kE fo;have fU:=f1.pT kE;have kTU:Kp (·=S.length) T U:=(kq.of0.trans k1').trans kE.of0
   cases hf:Su.qQ e.1 k with
   | false=>
    refine ⟨D1,U,[],trivial,?_,?_,kTU⟩
    ·rw [hf] at in1;unfold bB;simp only [bD,qR,bools,e0,e1,fo,in1]
    ·rw [Nat.zero_add];unfold Su.gX;rw [hf,if_neg (by simp)];exact fU.mono (by omega)
   | true=>
    have aU:=(aT.JE k1' f0.dd).pT kE;have n0:aC (U++[.lst (AF.map kA)]) U.length=some (AF.map kA):=aV;obtain ⟨L,T2,e2,l1,l2,k2'⟩:=Cn kA (λ _ _ _=>rfl) n0 (aY (o:=.lst (AF.map kA)) (aU e he)) (show 2 * e.2.2.length < 16777216 by omega) (λ p hp=>by
     rw [oQ]
     rcases mem_cons.mp hp with z | z
     ·rw [z];exact show 1 < 2 ^ 4096 by decide +kernel
     ·rw [mem_singleton.mp z];exact show 1 < 2 ^ 4096 by decide +kernel) b3
    have kU2:eT U T2:=(Kp.refl.lay).trans k2';have tl2:=kU2.len;have tle:=kE.len;obtain ⟨D2,T3,e3,f3,k3'⟩:=(fU.pT kU2).add uP (o:=e.1) l1 (Nat.le_trans (Su.nH _ _) (show 2 * e.2.2.length<=j from b2)) (λ z=>by rw [z] at b1;simp at b1;omega) (by omega) (by omega) (by omega);refine ⟨D2,T3,[],trivial,?_,?_,(kTU.trans kU2.of0).trans k3'⟩
    ·rw [hf] at in1;unfold bB;simp only [bD,qR,bools,e0,e1,fo,in1];rw [show [((-1:Int),(1:Int)),((1:Int),(-1:Int))].map kA=AF.map kA from rfl];simp only [bD,qR,bools,e2,e3]
    ·rw [Nat.zero_add];unfold Su.gX;rw [hf,if_pos rfl];exact f3
 have kT:eT S T:=k0.old kp λ q hq _ z=>by omega
 have fl:=f.ll;rw [Nat.zero_add] at fl;obtain ⟨L,S',e2,r1,r2,r3,r4⟩:=KD f.dd f.aa f.kk (by omega);have tl:=kT.len;have fs:=f.ss;rw [Su.uv] at fs;refine ⟨L,S',_,?_,⟨r1,r2⟩,by rw [Su.t_,fs];rfl,λ e he=>?_,f.pw.out _,?_,by omega,kT.trans r4⟩
 ·unfold bG fP iB;simp only [bD,qR,bools,dQ,Nat.reduceAdd,Nat.reduceSub,Su.jX];rw [show cI cE _ bB _ _=_ from e1];simp only [bD,qR,bools,e2]
 ·obtain ⟨m1,m2⟩:=Su.kF he;obtain ⟨v1,v2,v3⟩:=f.vv e m1;have lt:=iD (f.aa e m1);rw [Nat.zero_add] at v2;exact ⟨v1,λ z=>(by rw [z] at m2;cases m2),v2,v3,by omega⟩
 ·unfold Su.iI;rw [length_map];refine Nat.le_trans (length_filter_le _ _) ?_;rw [(bF _).length_eq,length_map];exact fl
end K27
namespace K27
open PySem L2 Am
open Po (Pl Ok Bd)
theorem Aa {S:aA}{k:Nat}:∀ l:Pl,gR (iY S (k+2)) (Po.pl l) (Po.pl l)=some true
 | []=>rfl
 | p::l=>by
  have e:iY S (k+2) (Po.pA p) (Po.pA p)=some true:=by
   show gR (iY S (k+1)) (([p.1,p.2]:List Int).map .int) (([p.1,p.2]:List Int).map .int)=_;rw [kc,decide_eq_true rfl]
  show (iY S (k+2) (Po.pA p) (Po.pA p)).bind _=_;rw [e];show Option.map _ (gR (iY S (k+2)) (Po.pl l) (Po.pl l))=_;rw [Aa l];rfl
open Po (Pl Ok Bd)
open Su (Es At Vl)
theorem Ja {S:aA}{d r:Nat}{D:Es}{o:List Int}{p:Pl}{k b:Nat}(hd:bA S d=some (D.map Su.kv))(hA:At S D)(hv:Vl k b D)(hr:aC S r=some (Po.pl p))(hl:D.length < 16777216)(hk:k+p.length < 16777216) :
  ∃ (L:Nat) (S':aA),bq [.ref d,.tup (o.map .int),.ref r] S=.ok .non S'/\bA S' d=some ((Su.h_ D o L (Po.dO (Su.vS (Su.sm D) o) p)).map Su.kv)/\At S' (Su.h_ D o L (Po.dO (Su.vS (Su.sm D) o) p))/\S.length<=L/\Kp (·=d) S S':=by
 obtain ⟨x,ex,hx⟩:=Su.get_or (o:=o) hd hA;have vo:=hv.v o;obtain ⟨L,S2,e2,h1,h2,k2⟩:=C3 hx (aY (o:=.lst []) hr) (by omega);have kS:eT S S2:=(Kp.refl.lay).trans k2;have hd2:=kS.dct _ _ (λ z=>z) hd;have hd1:bA (S++[.lst []]) d=some (D.map Su.kv):=Su.Bh hd;refine ⟨L,S2.set d (.dct ((Su.h_ D o L (Po.dO (Su.vS (Su.sm D) o) p)).map Su.kv)),?_,Su.uH (Su.wO hd2),?_,by simp at h2;omega,kS.of0.tH (.inl rfl)⟩
 ·unfold bq fW jy;have n0:newL [] S=.ok (.ref S.length) (S++[.lst []]):=bI (show 0<=16777216 by decide);simp only [bD,bools,dQ,Nat.reduceAdd,Nat.reduceSub,Su.Aw,Su.Bf,hd,map_some,n0,Su.yY,hd1,ex,e2,Su.sX,Su.qN,hd2,lK (show (D.map Su.kv).length < 16777216 by rw [length_map];exact hl),Su.wU (p:=Po.dO (Su.vS (Su.sm D) o) p)]
 ·refine (Su.At.put (hA.pT kS) h1).kp (Kp.refl.tH (.inl rfl)) λ e he z=>?_
  rcases Su.iz he with y | y
  ·exact Su.iA hd (hA e y) z
  ·rw [y] at z;exact Su.iA hd2 h1 z
theorem kD:Su.uI bq:=λ h1 h2 h3 h4 h5 h6=>Ja h1 h2 h3 h4 h5 h6
theorem xj {S:aA}{a b:Nat}{q:Pl}(h:aC S a=some (Po.pl q))(h':aC S b=some []):iY S 12 (.ref a) (.ref b)=some q.isEmpty:=by
 show (aC S a).bind (λ xs=>(aC S b).bind λ ys=>gR (iY S 11) xs ys)=_;rw [h,h']
 cases q <;> rfl
theorem AB {S:aA}{d:Nat}{D:Es}(hd:bA S d=some (D.map Su.kv))(hA:At S D)(hne:∀ e∈D,e.1≠[])(hl:D.length<=16777216) :
  ∃ (n:Nat) (S':aA),b6 [.ref d] S=.ok (.ref n) S'/\aC S' n=some ((Su.iI D λ p=>!p.isEmpty).map Su.ent)/\At S' (Su.iI D λ p=>!p.isEmpty)/\S.length < n/\eT S S':=by
 have n0:=Su.pP hd hne;obtain ⟨n,S',e,h1,h2,h3,h4⟩:=Su.pF (cap:=[some 0]) (τ:=[.ref d]) (src:=dJ (bf (f1 jP) (aj (ak 0) (aK)))) (t:=mw (aJ (je true) (aJ nP (ak 1) (ak 0)) (gE (aK)))) (e:=fC (aj (ak 0) (aj (aJ nP (ak 1) (ak 0)) (aK)))) hd hA (dR (by simp only [bD,bools,n0]) aV) (λ p=>!p.isEmpty)
  (λ o r q T hT hk hr=>⟨T++[.lst []],by
   have nl:newL [] T=.ok (.ref T.length) (T++[.lst []]):=bI (show 0<=16777216 by decide);have q1:je true (.ref r) (.ref T.length) (T++[.lst []])=.ok (.bl (!q.isEmpty)) (T++[.lst []]):=pM (xj (aY hr) aV);simp only [bD,bools,Su.nT,Su.m9,hT,hk,nl,q1],Kp.refl.lay⟩)
  (λ o r T hT hk=>by
   simp only [bD,bools,Su.nT,Su.m9,hT,hk];exact fT (show 2<=16777216 by decide)) hl
 refine ⟨n,S',?_,h1,h2,h3,h4⟩;unfold b6 iE lu;simp only [bD,bools,dQ,Nat.reduceAdd,Nat.reduceSub,e]
theorem AD {S:aA}{n:Nat}{es:Es}(h:Sm S n es)(hl:es.length<=16777216):∃ (m:Nat) (S':aA) (fs:Es),eg [.ref n] S=.ok (.ref m) S'/\Sm S' m fs/\Su.sm fs=Su.sm es/\(∀ e∈fs,S.length<=e.2.1/\e.2.1 < m)/\S.length<=m/\eT S S':=by
 obtain ⟨m,S',fs,e,h1,h2,h3,h4,h5,h6⟩:=Su.GR (es:=es) (n:=n) (cap:=[]) (src:=dJ (ak 0)) (ex:=fC (aj (ak 0) (aj (bf (f1 kQ) (aj (ak 1) (aK))) (aK)))) (τ:=[.ref n]) (dR (by simp only [bD,bools]) h.l) h.l (λ p=>p)
  (λ e he T kT=>⟨T.length,T++[.lst (Po.pl e.2.2)],by
   simp only [bD,bools,(h.a.pT kT) e he];exact fT (show 2<=16777216 by decide),aV,Nat.le_refl _,Kp.refl.lay⟩) hl
 refine ⟨m,S',fs,?_,⟨h1,h2⟩,h3,h4,h5,h6⟩;unfold eg lA pK;simp only [bD,bools,dQ,Nat.reduceAdd,Nat.reduceSub];rw [show cJ [none,none] _ _ _ _ _ _=_ from e];rfl
theorem D3 {S:aA}{n:Nat}{es:Es}(h:Sm S n es)(hv:∀ e∈es,Ok e.2.2/\e.2.2≠[]/\e.2.2.length<=1000000):∃ S',dH [.ref n] S=.ok (.bl true) S'/\eT S S':=by
 unfold dH jg mE;simp only [bD,bools,dQ,Nat.reduceAdd,Nat.reduceSub,h.l,map_some,show oG .lst "list" = some true from rfl,Bool.not_true];refine kg (n:=n) (xs:=es.map Su.ent) (S1:=S) (show jY _ _=_ from dR (by simp only [bD,bools]) h.l)
  (λ i τ T=>(∃ a1:A,τ=[.ref n,a1])/\eT S T) (λ r=>∃ S',RS.end (RS.seq r _)=.ok (.bl true) S'/\eT S S') ⟨⟨_,rfl⟩,Kp.refl⟩ (λ i τ T k=>k.2.lst _ _ (λ z=>z) h.l) ?_ ?_
 ·rintro i z τ T hz ⟨⟨a1,rfl⟩,kT⟩;rw [List.getElem?_map] at hz;obtain ⟨e,he,rfl⟩:=map_eq_some_iff.mp hz;have hm:=mem_of_getElem? he;obtain ⟨v1,v2,v3⟩:=hv e hm;have hr:=(h.a.pT kT) e hm;obtain ⟨T1,e1,k1⟩:=Dg hr v1 v3;have nl:newL [] T1=.ok (.ref T1.length) (T1++[.lst []]):=bI (show 0<=16777216 by decide);have q1:je false (.ref e.2.1) (.ref T1.length) (T1++[.lst []])=.ok (.bl false) (T1++[.lst []]):=by
   rw [uD (xj (aY (k1.lst _ _ (λ z=>z) hr)) aV)]
   cases hq:e.2.2 with
   | nil=>exact absurd hq v2
   | cons=>rfl
  refine ⟨[.ref n,Su.ent e],T,rfl,.inl ?_⟩;unfold j5;simp only [bD,bools,Su.ent,show oG .tup "tuple" = some true from rfl,Bool.not_true,length_cons,length_nil,Nat.zero_add,Nat.reduceAdd,show (((2:Nat):Int) == 2)=true from rfl,zL,y_,e1,nl,q1];exact ⟨_,_,rfl,⟨_,rfl⟩,(kT.trans k1).lay⟩
 ·rintro τ T ⟨⟨a1,rfl⟩,kT⟩;simp only [bD,bools];exact ⟨_,rfl,kT⟩
theorem vD {S:aA}{k:Nat}:∀ {es fs:Es},At S es->At S fs->Su.sm es=Su.sm fs->gR (iY S (k+4)) (es.map Su.ent) (fs.map Su.ent)=some true
 | [],[],_,_,_=>rfl
 | [],f::fs,_,_,h=>nomatch h
 | e::es,[],_,_,h=>nomatch h
 | e::es,f::fs,h1,h2,h3=>by
  obtain ⟨h4,h5⟩:=List.cons.inj h3;have h4:(e.1,e.2.2)=(f.1,f.2.2):=h4;obtain ⟨e1,e2⟩:=Prod.mk.inj h4;have a1:=h1 e (mem_cons_self ..);have a2:=h2 f (mem_cons_self ..);rw [<- e2] at a2;have q1:iY S (k+3) (.tup (e.1.map .int)) (.tup (f.1.map .int))=some true:=by
   rw [<- e1];show gR (iY S (k+2)) _ _=_;rw [kc,decide_eq_true rfl]
  have q2:iY S (k+3) (.ref e.2.1) (.ref f.2.1)=some true:=by
   show (aC S e.2.1).bind (λ xs=>(aC S f.2.1).bind λ ys=>gR (iY S (k+2)) xs ys)=_;rw [a1,a2];exact Aa (k:=k) _
  have q:iY S (k+4) (Su.ent e) (Su.ent f)=some true:=by
   show gR (iY S (k+3)) [.tup (e.1.map .int),.ref e.2.1] [.tup (f.1.map .int),.ref f.2.1]=_;show (iY S (k+3) _ _).bind (λ p=>((iY S (k+3) _ _).bind λ q=>(gR (iY S (k+3)) [] []).map λ r=>q && r).map λ q=>p && q)=_;rw [q1,q2];rfl
  show (iY S (k+4) (Su.ent e) (Su.ent f)).bind _=_;rw [q];show Option.map _ (gR (iY S (k+4)) (es.map Su.ent) (fs.map Su.ent))=_;rw [vD (λ x hx=>h1 x (mem_cons_of_mem _ hx)) (λ x hx=>h2 x (mem_cons_of_mem _ hx)) h5];rfl
theorem wQ {S:aA}{n m:Nat}{es fs:Es}(h:Sm S n es)(h':Sm S m fs)(e:Su.sm es=Su.sm fs):iY S 12 (.ref n) (.ref m)=some true:=by
 show (aC S n).bind (λ xs=>(aC S m).bind λ ys=>gR (iY S 11) xs ys)=_;rw [h.l,h'.l];exact vD (k:=7) h.a h'.a e
theorem PJ (xs:List A)(j:Nat)(h:j<=xs.length):qh xs none (some (j:Int))=xs.take j:=by
 unfold qh;rw [HT.o9,HT.vA,List.drop_zero,Nat.min_eq_left (by omega),Nat.sub_zero]
theorem QG {S:aA}{us:List Int}{t:Nat}(h:t < us.length):DO (.tup (us.map .int)) none (some (t:Int)) S=.ok (.tup ((us.take t).map .int)) S:=by
 have hg:¬ (HT.eK (us.map A.int).length 0 none=0/\HT.eK (us.map A.int).length (us.map A.int).length (some (t:Int))=(us.map A.int).length):=by
  rw [HT.o9,length_map];omega
 have hs:DO (.tup (us.map .int)) none (some (t:Int)) S=.ok (.tup (qh (us.map .int) none (some (t:Int)))) S:=eV hg;rw [hs,PJ _ t (by rw [length_map];omega),map_take]
theorem QE {S:aA}{us:List Int}{t:Nat}(h0:1<=t)(h:t<=us.length):DO (.tup (us.map .int)) (some (t:Int)) none S=.ok (.tup ((us.drop t).map .int)) S:=by
 have hg:¬ (HT.eK (us.map A.int).length 0 (some (t:Int))=0/\HT.eK (us.map A.int).length (us.map A.int).length none=(us.map A.int).length):=by
  rw [HT.o9,length_map];omega
 have hs:DO (.tup (us.map .int)) (some (t:Int)) none S=.ok (.tup (qh (us.map .int) (some (t:Int)) none)) S:=eV hg;rw [hs];congr 2;unfold qh;rw [HT.o9,HT.vA,length_map,Nat.min_eq_left (by omega),List.take_of_length_le (by simp),map_drop]
open Po (Pl Ok Bd)
open Su (Es At Vl AF)
theorem My {o:List Int}{k:Nat}(h1:1<=k)(h2:k < o.length):o.take (k - 1)++[o.getD k 0,o.getD (k - 1) 0]++o.drop (k+1)=Wd.ex o k:=by
 apply List.ext_getElem?;intro p;rw [Wd.lz h1 h2];have l1:(o.take (k - 1)).length=k - 1:=by rw [length_take];omega
 rw [List.append_assoc];by_cases c1:p < k - 1
 ·rw [getElem?_append_left (by omega),if_neg (by omega),if_neg (by omega),List.getElem?_take,if_pos c1]
 ·rw [getElem?_append_right (by omega),l1];by_cases c2:p=k - 1
  ·subst c2;rw [if_neg (by omega),if_pos rfl,sub_self];show some (o.getD k 0)=_;rw [Wd.kj h2,List.getElem?_eq_getElem h2]
  ·by_cases c3:p=k
   ·subst c3;rw [if_pos rfl,show p - (p - 1)=1 by omega];show some (o.getD (p - 1) 0)=_;rw [Wd.kj (by omega),List.getElem?_eq_getElem (by omega)]
   ·rw [if_neg c3,if_neg c2,getElem?_append_right (by show 2<=_;omega),getElem?_drop];congr 1;show k+1+(p - (k - 1) - 2)=p;omega
theorem E7 {S:aA}{xs ys:List Int}(h:xs.length+ys.length<=16777216):cj (.tup (xs.map .int)) (.tup (ys.map .int)) S=.ok (.tup ((xs++ys).map .int)) S:=by
 show gd ((xs.map A.int).length+(ys.map A.int).length<=sizeLine) _=_;rw [map_append];exact Oj (by rw [length_map,length_map];exact h)
theorem FE:∀ p∈AF,p.2.natAbs < big:=λ p hp=>by
 rw [oQ]
 rcases mem_cons.mp hp with z | z
 ·rw [z];exact show 1 < 2 ^ 4096 by decide +kernel
 ·rw [mem_singleton.mp z];exact show 1 < 2 ^ 4096 by decide +kernel
theorem Ly {S:aA}{n N k j:Nat}{es:Es}(h:Sm S n es)(h1:∀ e∈es,e.1.length=N/\2 * e.2.2.length<=j/\∀ p∈e.2.2,p.2.natAbs < big)(k1:1<=k)(k2:k < N)(hN:N<=20)(hl:(2 * es.length+2) * j < 16777216)(hl':es.length<=100000) :
  ∃ (L:Nat) (S':aA) (rs:Es),bS [.ref n,.int k] S=.ok (.ref L) S'/\Sm S' L rs/\Su.sm rs=Su.bx k (Su.sm es)/\(∀ e∈rs,Ok e.2.2/\e.2.2.length<=2 * es.length * j)/\rs.length<=2 * es.length/\S.length<=L/\eT S S':=by
 have k0:eT S (S++[.dct []]):=Kp.refl.lay;have g2:∀ x y:A,gd (([x,y]:List A).length<=sizeLine)=λ r:Am.R A=>r:=λ x y=>by funext r;exact fT (show 2<=16777216 by decide)
 obtain ⟨y3,y4,xs,D,T,hz,e1,f,kp⟩:=Su.mh (w:=2) (j:=j) (b:=S.length) (i0:=0) (S:=S++[.dct []]) (S1:=S++[.dct []]) (d:=S.length) (n:=n) (es:=es) (src:=cH) (c:=bY) (g:=qT 2 (iN (bQ 3) (iN (bQ 4) (qS)))) (λ y z xs=>.ref n::.int k::.ref S.length::y::z::xs) (λ xs=>∃ a,xs=[a]) (Su.gX k) (λ _ _ _ _ _=>rfl) (x3:=.unb) (x4:=.unb) (xs0:=[.unb]) ⟨_,rfl⟩
  (show cH _ _=_ from dR (by simp only [bD,bools]) (aY h.l)) (aY h.l) (Su.Fil.new Su.iy) λ i e T Q D xs hi he hx kT f=>by
   obtain ⟨a5,rfl⟩:=hx;obtain ⟨b1,b2,b3⟩:=h1 e he;have tl:=kT.len;have hm:2 * i+2<=2 * es.length:=by omega
   have hm2:(2 * i+2) * j<=(2 * es.length) * j:=mul_le_mul_right _ hm;have hm3:(2 * es.length+2) * j=2 * es.length * j+2 * j:=by rw [Nat.add_mul]
   have hm4:(2 * i+2) * j=(2 * i+1) * j+j:=succ_mul _ _;have hm5:(2 * i+1) * j=2 * i * j+j:=succ_mul _ _;rw [length_append] at tl;have aT:=(h.a.pT k0).JE kT Su.iy;rw [Nat.zero_add] at f;have ne1:Wd.ex e.1 k≠[]:=λ z=>by have:=Wd.tF e.1 k;rw [z] at this;simp at this;omega
   obtain ⟨D1,T1,e1,f1,k1'⟩:=f.add kD (o:=Wd.ex e.1 k) (aT e he) (by omega) ne1 (by omega) (by omega) (by omega);have k1l:=k1'.len;have a1:gF (e.1.map A.int) (k:Int)=some (.int (e.1.getD k 0)):=LW rfl (by omega);have a2:gF (e.1.map A.int) ((k:Int) - 1)=some (.int (e.1.getD (k - 1) 0)):=LW (k:=k - 1) (by omega) (by omega);have s1:DO (.tup (e.1.map .int)) none (some ((k:Int) - 1)) T=.ok (.tup ((e.1.take (k - 1)).map .int)) T:=by
    rw [show (k:Int) - 1=((k - 1:Nat):Int) by omega];exact QG (by omega)
   have s2:DO (.tup (e.1.map .int)) (some ((k:Int)+1)) none T=.ok (.tup ((e.1.drop (k+1)).map .int)) T:=by
    rw [show (k:Int)+1=((k+1:Nat):Int) by omega];exact QE (by omega) (by omega)
   have x1:gF (e.1.map A.int) (k:Int)=some (.int (e.1.getD k 0)):=LW rfl (by omega);have x2:gF (e.1.map A.int) ((k:Int) - 1)=some (.int (e.1.getD (k - 1) 0)):=LW (k:=k - 1) (by omega) (by omega);have d1:cj (.tup ((e.1.take (k - 1)).map .int)) (.tup [.int (e.1.getD k 0),.int (e.1.getD (k - 1) 0)]) T=.ok (.tup ((e.1.take (k - 1)++[e.1.getD k 0,e.1.getD (k - 1) 0]).map .int)) T:=
    E7 (ys:=[e.1.getD k 0,e.1.getD (k - 1) 0]) (by rw [length_take];show _+2<=_;omega)
   have d2:cj (.tup ((e.1.take (k - 1)++[e.1.getD k 0,e.1.getD (k - 1) 0]).map .int)) (.tup ((e.1.drop (k+1)).map .int)) T=.ok (.tup ((Wd.ex e.1 k).map .int)) T:=by
    rw [E7 (by rw [length_append,length_take,length_drop];show _+2+_<=_;omega),My k1 (by omega)]
   cases hf:Su.qQ e.1 k with
   | false=>
    refine ⟨D1,T1,[.tup ((Wd.ex e.1 k).map .int)],⟨_,rfl⟩,?_,?_,k1'⟩
    ·unfold bY;have hd:decide (e.1.getD (k - 1) 0 > e.1.getD k 0)=false:=hf;simp only [bD,qR,bools,s1,a1,a2,g2,d1,s2,d2,e1,hd]
    ·rw [Nat.zero_add];unfold Su.gX;rw [hf,if_neg (by simp)];exact f1.mono (by omega)
   | true=>
    have aU:=aT.JE k1' f.dd;have n0:aC (T1++[.lst (Po.pl AF)]) T1.length=some (Po.pl AF):=aV;obtain ⟨L,T2,e2,l1,l2,k2'⟩:=sD n0 (aY (o:=.lst (Po.pl AF)) (aU e he)) (show 2 * e.2.2.length < 16777216 by omega) FE b3;have kU2:eT T1 T2:=(Kp.refl.lay).trans k2';have tl2:=kU2.len;obtain ⟨D2,T3,e3,f3,k3'⟩:=(f1.pT kU2).add kD (o:=e.1) l1 (Nat.le_trans (Su.nH _ _) (show 2 * e.2.2.length<=j from b2)) (λ z=>by rw [z] at b1;simp at b1;omega) (by omega) (by omega) (by omega);refine ⟨D2,T3,[.tup ((Wd.ex e.1 k).map .int)],⟨_,rfl⟩,?_,?_,(k1'.trans kU2.of0).trans k3'⟩
    ·unfold bY;have hd:decide (e.1.getD (k - 1) 0 > e.1.getD k 0)=true:=hf;rw [show Po.pl AF=[A.tup [.int (-1),.int 1],.tup [.int 1,.int (-1)]] from rfl] at e2;simp only [bD,qR,bools,s1,a1,a2,g2,d1,s2,d2,e1,hd,e2,e3]
    ·rw [Nat.zero_add];unfold Su.gX;rw [hf,if_pos rfl];exact f3
 have kT:eT S T:=k0.old kp λ q hq _ z=>by omega
 have fl:=f.ll;rw [Nat.zero_add] at fl;obtain ⟨L,S',e2,r1,r2,r3,r4⟩:=AB f.dd f.aa f.kk (by omega);have tl:=kT.len;have fs:=f.ss;rw [Su.uv] at fs;refine ⟨L,S',_,?_,⟨r1,r2⟩,by rw [Su.t_,fs];rfl,λ e he=>?_,?_,by omega,kT.trans r4⟩
 ·obtain ⟨a5,rfl⟩:=hz;unfold bS d9 gT;simp only [bD,qR,bools,dQ,Nat.reduceAdd,Nat.reduceSub,Su.jX];rw [show cI cH _ bY _ _=_ from e1];simp only [bD,qR,bools,e2]
 ·obtain ⟨m1,m2⟩:=Su.kF he;obtain ⟨v1,v2,v3⟩:=f.vv e m1;rw [Nat.zero_add] at v2;exact ⟨v1,v2⟩
 ·unfold Su.iI;rw [length_map];refine Nat.le_trans (length_filter_le _ _) ?_;rw [(bF _).length_eq,length_map];exact fl
end K27
namespace K27
open PySem L2 Am
theorem IM {c:Ex}{τ:List A}{S S1:aA}{n:Nat}{xs:List A}(h:c τ S=.ok (.ref n) S1)(hl:aC S1 n=some xs):sO c τ S=.ok (b_ n xs.length) S1:=by
 unfold sO;rw [h,R.d8];show opt (aC S1 n) _=_;rw [hl,dm]
theorem BQ (S:aA):∃ S',iU [.exn (PySem.Str.ofString "NoWord"),.str (PySem.Str.ofString "word")] S=.ok (.bl true) S'/\eT S S':=by
 obtain ⟨S1,h1⟩:∃ S1,S1=S++[O.lst [.bl true,.bl false,.bl false,.bl false]]:=⟨_,rfl⟩;obtain ⟨S2,h2⟩:∃ S2,S2=S1++[O.lst [.bl false,.bl false,.bl false,.bl false]]:=⟨_,rfl⟩;obtain ⟨S3,h3⟩:∃ S3,S3=S2++[O.lst [.bl true,.bl false,.bl false,.bl false,.bl false,.bl false,.bl false,.bl false]]:=⟨_,rfl⟩;obtain ⟨ns,hns⟩:∃ ns:List Str,ns=[PySem.Str.ofString "word",PySem.Str.ofString "number",PySem.Str.ofString "pair",PySem.Str.ofString "many",PySem.Str.ofString "tables",PySem.Str.ofString "text",PySem.Str.ofString "row",PySem.Str.ofString "name"]:=⟨_,rfl⟩;obtain ⟨S4,h4⟩:∃ S4,S4=S3++[O.lst (ns.map A.str)]:=⟨_,rfl⟩;have a1:aC S2 S.length=some [.bl true,.bl false,.bl false,.bl false]:=by rw [h2,h1];exact aY aV
 have a2:aC S2 S1.length=some [.bl false,.bl false,.bl false,.bl false]:=by rw [h2];exact aV
 have ec:=M7 a1 a2 (by decide);have a3:aC S4 S2.length=some [.bl true,.bl false,.bl false,.bl false,.bl false,.bl false,.bl false,.bl false]:=by rw [h4,h3];exact aY aV
 have a4:aC S4 S3.length=some (ns.map A.str):=by rw [h4];exact aV
 have hc:=vX (cap:=[some 1]) (src:=sO (ak 3)) (t:=mX) (e:=aJ (je false) (ak 0) (ak 1)) (τ:=[.exn (PySem.Str.ofString "NoWord"),.str (PySem.Str.ofString "word"),.ref S2.length,.ref S3.length]) (IM (by simp only [bD,bools]) a4) a4 (λ _=>true)
  (λ x=>match x with | .str s=>.bl (s == PySem.Str.ofString "word") | _=>.non) (λ x _=>rfl) (λ x hx _=>by
   obtain ⟨s,_,rfl⟩:=mem_map.mp hx;simp only [bD,bools];rfl) (by rw [hns];decide)
 have en:((ns.map A.str).filter λ _=>true).map (λ x=>match x with | .str s=>A.bl (s == PySem.Str.ofString "word") | _=>.non)=[.bl true,.bl false,.bl false,.bl false,.bl false,.bl false,.bl false,.bl false]:=by
  rw [List.filter_eq_self.mpr λ _ _=>rfl,List.map_map,hns];show [A.bl (PySem.Str.ofString "word" == PySem.Str.ofString "word"),A.bl (PySem.Str.ofString "number" == PySem.Str.ofString "word"),A.bl (PySem.Str.ofString "pair" == PySem.Str.ofString "word"),A.bl (PySem.Str.ofString "many" == PySem.Str.ofString "word"),A.bl (PySem.Str.ofString "tables" == PySem.Str.ofString "word"),A.bl (PySem.Str.ofString "text" == PySem.Str.ofString "word"),A.bl (PySem.Str.ofString "row" == PySem.Str.ofString "word"),A.bl (PySem.Str.ofString "name" == PySem.Str.ofString "word")]=_;rw [show (PySem.Str.ofString "word" == PySem.Str.ofString "word")=true by decide +kernel,show (PySem.Str.ofString "number" == PySem.Str.ofString "word")=false by decide +kernel,show (PySem.Str.ofString "pair" == PySem.Str.ofString "word")=false by decide +kernel,show (PySem.Str.ofString "many" == PySem.Str.ofString "word")=false by decide +kernel,show (PySem.Str.ofString "tables" == PySem.Str.ofString "word")=false by decide +kernel,show (PySem.Str.ofString "text" == PySem.Str.ofString "word")=false by decide +kernel,show (PySem.Str.ofString "row" == PySem.Str.ofString "word")=false by decide +kernel,show (PySem.Str.ofString "name" == PySem.Str.ofString "word")=false by decide +kernel]
 rw [en] at hc;have ee:=uD (S:=S4++[O.lst [.bl true,.bl false,.bl false,.bl false,.bl false,.bl false,.bl false,.bl false]]) (a:=.ref S2.length) (b:=.ref S4.length) (k:=true) (by
  show (aC _ _).bind _=_;rw [aY a3,bind_some,aV,bind_some];rfl)
 have ec:cj (.ref S.length) (.ref S1.length) S2=.ok (.ref S2.length) S3:=by rw [ec,h3];rfl
 have e4:newL [A.str (PySem.Str.ofString "word"),.str (PySem.Str.ofString "number"),.str (PySem.Str.ofString "pair"),.str (PySem.Str.ofString "many"),.str (PySem.Str.ofString "tables"),.str (PySem.Str.ofString "text"),.str (PySem.Str.ofString "row"),.str (PySem.Str.ofString "name")] S3=.ok (.ref S3.length) S4:=by
  rw [wN,h4,hns];rfl
 refine ⟨S4++[O.lst [.bl true,.bl false,.bl false,.bl false,.bl false,.bl false,.bl false,.bl false]],?_,?_⟩
 ·unfold iU qc vQ;simp only [bD,qR,bools,dQ,Nat.reduceAdd,Nat.reduceSub,<- h1,<- h2,ec,e4,hc,ee]
 ·rw [h4,h3,h2,h1];exact Kp.refl.lay.lay.lay.lay.lay
open Po (Pl Ok Bd)
open Su (Es At Vl AF)
theorem Fe {es:Es}{m:Nat}(h:m < es.length):gF (es.map Su.ent) (m:Int)=some (.tup [.tup (es[m].1.map .int),.ref es[m].2.1]):=pL rfl (by rw [List.getElem?_map,List.getElem?_eq_getElem h];rfl)
theorem uX {xs:List A}{x:A}:gF (xs++[x]) (-1)=some x:=by
 have e:rF (xs++[x]).length (-1)=some xs.length:=by
  unfold rF;rw [length_append,List.length_singleton];rw [if_neg (by omega),if_pos (by omega)];congr 1;omega
 unfold gF;rw [e,bind_some,getElem?_append_right (Nat.le_refl _),sub_self];rfl
theorem Fl {S:aA}{n b:Nat}{es:Es}(h:Sm S n es)(hb:∀ e∈es,b<=e.2.1/\e.2.1 < n/\e.2.2.length<=100000)(ap:Su.Ap es)(hl:es.length<=100000):∃ S',eB [.ref n] S=.ok (.bl true) S'/\aC S' n=some (es.map Su.ent)/\Kp (λ q=>b<=q) S S':=by
 have g2:∀ x y:A,gd (([x,y]:List A).length<=sizeLine)=λ r:Am.R A=>r:=λ x y=>by funext r;exact fT (show 2<=16777216 by decide)
 have a1:∀ x y:A,gF ([x,y]:List A) 1=some y:=λ _ _=>rfl;have ne:∀ i j (hi:i < es.length) (hj:j < es.length),i≠j->es[i].2.1≠es[j].2.1:=λ i j hi hj z=>by
  have pw:=pairwise_iff_getElem.mp ap
  rcases Nat.lt_or_gt_of_ne z with c | c
  ·exact (pw i j hi hj c).2
  ·exact λ y=>(pw j i hj hi c).2 y.symm
 unfold eB jN ow;simp only [bD,bools,dQ,Nat.reduceAdd,Nat.reduceSub];refine ji (lo:=0) (hi:=(es.length:Int)) (S1:=S) (show lg _ _=_ from fR (by simp only [bD,bools,h.l,length_map]) (gf (by omega) (by omega)))
  (λ i τ T=>(∃ a1:A,τ=[.ref n,a1])/\aC T n=some (es.map Su.ent)/\(∀ m (hm:m < es.length),aC T es[m].2.1=some (if m < i then Po.pl es[m].2.2++[.tup [.int (100+(m:Int)),.int 1]] else Po.pl es[m].2.2))/\Kp (λ q=>b<=q) S T)
  (λ r=>∃ S',RS.end (RS.seq r _)=.ok (.bl true) S'/\aC S' n=some (es.map Su.ent)/\Kp (λ q=>b<=q) S S') ⟨⟨_,rfl⟩,h.l,λ m hm=>by rw [if_neg (by omega)];exact h.a _ (getElem_mem hm),Kp.refl⟩ ?_ ?_
 ·rintro i τ T hi ⟨⟨x1,rfl⟩,hT,hx,kT⟩;left;have hi':i < es.length:=by omega
  have hr:=hx i hi';rw [if_neg (by omega)] at hr;obtain ⟨y1,y2,y3⟩:=hb _ (getElem_mem hi');have ea:=Fe hi';rw [show (i:Int)=0+(i:Int) by omega] at ea;unfold kW;simp only [bD,bools,hT,ea,a1,g2,hr,lK (show (Po.pl es[i].2.2).length < 16777216 by rw [pG];omega)];refine ⟨_,_,rfl,⟨_,rfl⟩,by rw [di (by omega)];exact hT,λ m hm=>?_,kT.set (.inl y1)⟩;by_cases c:m=i
  ·subst c;rw [gz (iD hr),if_pos (by omega),show (100:Int)+(0+(m:Int))=100+(m:Int) by omega]
  ·rw [di (ne i m hi' hm (λ z=>c z.symm)),hx m hm];by_cases c2:m < i
   ·rw [if_pos c2,if_pos (by omega)]
   ·rw [if_neg c2,if_neg (by omega)]
 ·rintro τ T ⟨⟨x1,rfl⟩,hT,hx,kT⟩;have cc:=pQ (lo:=0) (hi:=(es.length:Int)) (cap:=[some 0]) (src:=gI (bf (f1 iZ) (aj (ak 0) (aK)))) (t:=mX) (e:=aJ (je false) (aJ gW (aJ gW (aJ gW (ak 1) (ak 0)) (eC (.int 1))) (Hi rq (eC (.int 1)))) (fC (aj (aJ cj (eC (.int 100)) (ak 0)) (aj (eC (.int 1)) (aK))))) (τ:=[.ref n,x1]) (S:=T) (S1:=T)
   (fR (by simp only [bD,bools,hT,length_map]) (gf (by omega) (by omega))) (λ _=>true) (λ _=>.bl true) (λ _ _ _=>rfl) (λ j h0 h1 _=>by
    obtain ⟨m,rfl⟩:∃ m:Nat,j=m:=⟨j.toNat,by omega⟩;have hm:m < es.length:=by omega
    have hr:=hx m hm;rw [if_pos (by omega)] at hr;have q1:je false (.tup [.int (100+(m:Int)),.int 1]) (.tup [.int (100+(m:Int)),.int 1]) T=.ok (.bl true) T:=uD (by
     show gR (iY T 11) (([100+(m:Int),1]:List Int).map .int) (([100+(m:Int),1]:List Int).map .int)=_;rw [kc,decide_eq_true rfl])
    simp only [bD,bools,hT,Fe hm,a1,hr,uX,g2,q1]) (by omega)
  have al:∀ (xs:List Int) (S:aA) (n:Nat),aC S n=some (xs.map λ _=>.bl true)->Dh (.ref n) S=.ok (.bl true) S:=λ xs S n h=>by
   show opt (aC S n) _=_;rw [h];show opt (A.Hh _) _=_;have b1:∀ xs:List Int,A.Hh (xs.map λ _=>A.bl true)=some (xs.map λ _=>true):=λ xs=>by
    induction xs with
    | nil=>rfl
    | cons x xs ih=>rw [map_cons,ko,ih];rfl
   rw [b1];have b2:∀ xs:List Int,((xs.map λ _=>true).all λ b=>b)=true:=λ xs=>by
    induction xs with
    | nil=>rfl
    | cons x xs ih=>exact ih
   show Am.R.ok (A.bl _) S=_;rw [b2]
  simp only [bD,bools,cc,al _ _ _ aV];exact ⟨_,rfl,aY hT,kT.lay⟩
theorem xV {S:aA}{n N k:Nat}{es:Es}(h:Sm S n es)(h1:∀ e∈es,e.1.length=N)(hN:N<=20)(hk:N<=k)(e0:es≠[]):∃ S',cW [.ref n,.int k] S=.ok (.bl true) S'/\eT S S':=by
 have ex:bG [.ref n,.int k] S=.ex "NoWord" (S++[.dct []]):=by
  cases es with
  | nil=>exact absurd rfl e0
  | cons e es=>
   have l1:=h1 e (mem_cons_self ..);have x1:=Ik (S:=S++[.dct []]) (xs:=e.1) (v:=.int (k:Int)) (FQ (.inr (by omega))) (by omega);have hl:=aY (o:=.dct []) h.l;have src:cE [.ref n,.int k,.ref S.length,.unb,.unb] (S++[.dct []])=.ok (b_ n ((e::es).map Su.ent).length) (S++[.dct []]):=dR (by simp only [bD,bools]) hl;have lp:cI cE (qT 2 (iN (bQ 3) (iN (bQ 4) (qS)))) bB [.ref n,.int k,.ref S.length,.unb,.unb] (S++[.dct []])=.ex "NoWord" (S++[.dct []]):=by
    unfold cI;rw [src];show gp (b_ n ((e::es).map Su.ent).length) _ bB (es.map Su.ent).length.succ 0 _ _=_;unfold gp;have g0:(b_ n ((e::es).map Su.ent).length).get 0 (S++[.dct []])=some (Su.ent e):=by
     show (aC _ n).bind _=_;rw [hl];rfl
    rw [g0];have bd:bB [.ref n,.int k,.ref S.length,.tup (e.1.map .int),.ref e.2.1] (S++[.dct []])=.ex "NoWord" (S++[.dct []]):=by
     unfold bB;simp only [bD,qR,bools,x1]
    show (match bB [.ref n,.int k,.ref S.length,.tup (e.1.map .int),.ref e.2.1] (S++[.dct []]) with
     | .nx τ' S'=>_
     | .ct τ' S'=>_
     | .bk τ' S'=>_
     | r=>r)=_
    rw [bd]
   unfold bG fP iB;simp only [bD,qR,bools,dQ,Nat.reduceAdd,Nat.reduceSub,Su.jX,lp]
 obtain ⟨S',e1,k1⟩:=BQ (S++[.dct []]);refine ⟨S',?_,(Kp.refl.lay).trans k1⟩;unfold cW iK k_;simp only [bD,qR,bools,dQ,Nat.reduceAdd,Nat.reduceSub,ex,e1]
end K27
namespace K27
open PySem L2 Am
open Po (Pl Ok Bd)
open Su (Es At Vl AF)
theorem jx {es fs:Es}(e:Su.sm fs=Su.sm es):fs.length=es.length:=by have:=congrArg List.length e;rwa [Su.jx,Su.jx] at this
theorem KA {P:List Int->Pl->Prop}{fs:Es}{l:Su.Ps}(e:Su.sm fs=l)(h:∀ x∈l,P x.1 x.2):∀ f∈fs,P f.1 f.2.2:=λ f hf=>by
 have:(f.1,f.2.2)∈l:=by rw [<- e];exact mem_map.mpr ⟨f,hf,rfl⟩
 exact h _ this
theorem CP {S:aA}{n N k:Nat}{es:Es}(h:Sm S n es)(h1:Fi N 4 es)(hp:∀ e∈es,e.1.Perm (fD 1 ((N:Int)+1)))(k1:1<=k)(k2:k < N)(hN:N<=20)(hl:es.length<=40):∃ S',eL [.ref n,.int k] S=.ok (.bl true) S'/\eT S S':=by
 have bgC:∀ (l:Pl) (c:Nat),Bd c l->c < 2 ^ 4096->∀ p∈l,p.2.natAbs < big:=λ l c b hc p hp=>by
  rw [oQ];exact Nat.lt_of_le_of_lt (b p hp) hc
 have go:∀ e∈Su.sm es,Su.Go N k e.1:=λ e he=>by
  obtain ⟨f,hf,rfl⟩:=mem_map.mp he;have hl1:=(h1 f hf).1;have nd:f.1.Nodup:=(hp f hf).nodup_iff.mpr (xM _ _);refine ⟨hl1,λ z=>?_⟩;have z:f.1.getD (k - 1) 0=f.1.getD k 0:=z;rw [Wd.kj (by omega),Wd.kj (by omega)] at z;have:=(getElem_inj nd).mp z;omega
 have hin:∀ {fs:Es},Su.sm fs=Su.sm es->∀ e∈fs,e.1.length=N/\2 * e.2.2.length<=8/\∀ p∈e.2.2,p.2.natAbs < big:=λ e=>KA (P:=λ o q=>o.length=N/\2 * q.length<=8/\∀ p∈q,p.2.natAbs < big) e λ x hx=>by
  obtain ⟨f,hf,rfl⟩:=mem_map.mp hx;obtain ⟨c1,c2,c3,c4,c5⟩:=h1 f hf;exact ⟨c1,(by show 2 * f.2.2.length<=8;omega),bgC _ _ c5 (by decide +kernel)⟩
 obtain ⟨L,S1,ds,e1,s1,q1,v1,r1,g1,kp1⟩:=Ly h (hin rfl) k1 k2 hN (j:=8) (by omega) (by omega);have dk:∀ e∈Su.bx k (Su.sm es),Su.Go N k e.1:=Su.wC (Su.sE _ (λ _ z=>nomatch z) (Su.wY k1 k2 go));have db:∀ e∈Su.bx k (Su.sm es),Ok e.2/\Bd (2 * (Su.sm es).length * (2 * 10 ^ 31)) e.2:=Su.M3 λ x hx=>by
  obtain ⟨f,hf,rfl⟩:=mem_map.mp hx;exact ⟨(h1 f hf).2.1,(h1 f hf).2.2.2.2⟩
 have bb:2 * (Su.sm es).length * (2 * 10 ^ 31) < 2 ^ 4096:=by
  have:2 * (Su.sm es).length * (2 * 10 ^ 31)<=80 * (2 * 10 ^ 31):=mul_le_mul_right _ (by rw [Su.jx];omega);exact Nat.lt_of_le_of_lt this (by decide +kernel)
 have dl:∀ e∈ds,e.2.2.length<=640:=λ e he=>by
  have a:=(v1 e he).2;have b:2 * es.length * 8<=640:=by omega
  omega
 have dsm:∀ x∈Su.sm ds,x.2.length<=640:=λ x hx=>by
  obtain ⟨f,hf,rfl⟩:=mem_map.mp hx;exact dl f hf
 have hin2:∀ {fs:Es},Su.sm fs=Su.sm ds->∀ e∈fs,e.1.length=N/\2 * e.2.2.length<=2000/\∀ p∈e.2.2,p.2.natAbs < big:=λ e=>KA (P:=λ o q=>o.length=N/\2 * q.length<=2000/\∀ p∈q,p.2.natAbs < big) e λ x hx=>by
  have a:=dsm x hx;rw [q1] at hx;exact ⟨(dk x hx).1,by omega,bgC _ _ (db x hx).2 bb⟩
 obtain ⟨c1,S2,cs,e2,s2,q2,_,_,kp2⟩:=AD (h.kp kp1) (by omega);have s1':=s1.kp kp2;have h':=(h.kp kp1).kp kp2;unfold eL j6 n_;simp only [bD,qR,bools,dQ,Nat.reduceAdd,Nat.reduceSub,e1,e2];refine ji (lo:=0) (hi:=2) (S1:=S2) (show kP _ _=_ from fR (by simp only [bD,bools]) (gf (by decide) (by decide)))
  (λ i τ U=>(∃ a4 a5:A,τ=[.ref n,.int k,.ref L,.ref c1,a4,a5,.unb,.unb,.unb])/\eT S2 U)
  (λ r=>∃ S',RS.end (RS.seq r _)=.ok (.bl true) S'/\eT S S') ⟨⟨_,_,rfl⟩,Kp.refl⟩ ?_ ?_
 ·rintro i τ U hi ⟨⟨a4,a5,rfl⟩,kU⟩;left;obtain ⟨R,U1,rs,e5,s5,q5,v5,p5,r5,g5,k5⟩:=yr (j:=8) (s2.kp kU) (hin q2) k1 k2 hN (by rw [jx q2];omega) (by rw [jx q2];omega);have cl:=jx q2;have q5':Su.sm rs=Su.sm ds:=by rw [q5,q2,q1]
  have v5':∀ e∈rs,Ok e.2.2/\e.2.2≠[]/\e.2.2.length<=640/\U.length<=e.2.1/\e.2.1 < R:=λ e he=>by
   obtain ⟨w1,w2,w3,w4,w5⟩:=v5 e he;rw [cl] at w3;have b:2 * es.length * 8<=640:=by omega
   exact ⟨w1,w2,by omega,w4,w5⟩
  obtain ⟨U2,e6,k6⟩:=D3 s5 λ e he=>⟨(v5' e he).1,(v5' e he).2.1,by have:=(v5' e he).2.2.1;omega⟩;have kk:=(kU.trans k5).trans k6;have w1:je true (.ref R) (.ref L) U2=.ok (.bl false) U2:=pM (wQ (s5.kp k6) (s1'.kp kk) q5');have w2:je true (.ref c1) (.ref n) U2=.ok (.bl false) U2:=pM (wQ (s2.kp kk) (h'.kp kk) q2);obtain ⟨U3,e7,l7,k7⟩:=Fl (b:=U.length) (s5.kp k6) (λ e he=>⟨(v5' e he).2.2.2.1,(v5' e he).2.2.2.2,by have:=(v5' e he).2.2.1;omega⟩) p5 (by omega);have n1:newL [.tup [.int 0,.int 1]] U3=.ok (.ref U3.length) (U3++[.lst [.tup [.int 0,.int 1]]]):=bI (show 1<=16777216 by decide);have g1':∀ x:A,gd (([x]:List A).length<=sizeLine)=λ r:Am.R A=>r:=λ x=>by funext r;exact fT (show 1<=16777216 by decide)
  have g2:∀ x y:A,gd (([x,y]:List A).length<=sizeLine)=λ r:Am.R A=>r:=λ x y=>by funext r;exact fT (show 2<=16777216 by decide)
  unfold kZ;simp only [bD,qR,bools,e5,e6,Bool.not_true,w1,w2,e7,l7,g1',g2,n1,aY (o:=.lst [.tup [.int 0,.int 1]]) l7,length_map,lK (show rs.length < 16777216 by omega)];have k73:Kp (λ q=>U.length<=q) U2 ((U3++[O.lst [.tup [.int 0,.int 1]]]).set R (.lst (rs.map Su.ent++[.tup [.tup [.int 1],.ref U3.length]]))):=(k7.lay).set (.inl g5);exact ⟨_,_,rfl,⟨_,_,rfl⟩,kk.old k73 λ q hq _ z=>by have:=kU.len;omega⟩
 ·rintro τ U ⟨⟨a4,a5,rfl⟩,kU⟩;have hU:=h'.kp kU;have dU:=s1'.kp kU;have k0:eT U (U++[.dct []]):=Kp.refl.lay;obtain ⟨y3,y4,_,D1,T1,_,e5,f5,k5⟩:=Su.mh (w:=1) (j:=2000) (b:=U.length) (i0:=0) (S:=U++[.dct []]) (S1:=U++[.dct []]) (d:=U.length) (n:=n) (es:=es) (src:=fQ) (c:=fM) (g:=qT 2 (iN (bQ 7) (iN (bQ 8) (qS)))) (λ y z _=>[.ref n,.int k,.ref L,.ref c1,a4,a5,.ref U.length,y,z]) (λ _=>True) (λ e Q=>Su.qf Q e.1 e.2.2) (λ _ _ _ _ _=>rfl) (x3:=.unb) (x4:=.unb) (xs0:=[]) trivial
   (show fQ _ _=_ from dR (by simp only [bD,bools]) (aY hU.l)) (aY hU.l) (Su.Fil.new Su.iy) λ i e T Q D xs hi he _ kT f=>by
    obtain ⟨b1,b2,b3⟩:=hin rfl e he;have tl:=kT.len;rw [length_append] at tl;rw [Nat.zero_add,Nat.one_mul] at f;rw [Nat.zero_add,Nat.one_mul];obtain ⟨D',T',x1,f',k'⟩:=f.add kD (o:=e.1) (((hU.a.pT k0).JE kT Su.iy) e he) (by omega) (λ z=>by rw [z] at b1;simp at b1;omega) (by omega) (by omega) (by omega);exact ⟨D',T',[],trivial,by unfold fM;simp only [bD,qR,bools,x1],f',k'⟩
  have hd1:bA (U++[.dct []]) U.length=some []:=Su.iy;have dT1:Sm T1 L ds:=⟨k5.lst _ _ (λ z=>Su.iA hd1 (aY (o:=.dct []) dU.l) z.symm) (aY dU.l),(dU.a.pT k0).JE k5 hd1⟩;rw [Nat.zero_add,Nat.one_mul,Su.BE] at f5;obtain ⟨z3,z4,_,D2,T2,_,e6,f6,k6⟩:=Su.mh (w:=1) (j:=2000) (b:=U.length) (i0:=es.length) (S:=T1) (S1:=T1) (d:=U.length) (n:=L) (es:=ds) (src:=fN) (c:=fO) (g:=qT 2 (iN (bQ 7) (iN (bQ 8) (qS)))) (λ y z _=>[.ref n,.int k,.ref L,.ref c1,a4,a5,.ref U.length,y,z]) (λ _=>True) (λ e Q=>Su.qf Q e.1 (Po.times AF e.2.2)) (λ _ _ _ _ _=>rfl) (x3:=y3) (x4:=y4) (xs0:=[]) trivial
   (show fN _ _=_ from dR (by simp only [bD,bools]) dT1.l) dT1.l f5 λ i e T Q D xs hi he _ kT f=>by
    obtain ⟨b1,b2,b3⟩:=hin2 rfl e he;have tl:=kT.len;have tl5:=k5.len;rw [length_append] at tl5;rw [Nat.one_mul] at f;rw [Nat.one_mul];have aU:=dT1.a.JE kT f5.dd;have n0:aC (T++[.lst (Po.pl AF)]) T.length=some (Po.pl AF):=aV;obtain ⟨W,T3,x2,l1,l2,k2'⟩:=sD n0 (aY (o:=.lst (Po.pl AF)) (aU e he)) (show 2 * e.2.2.length < 16777216 by omega) FE b3;have kU2:eT T T3:=(Kp.refl.lay).trans k2';have tl2:=kU2.len;obtain ⟨D',T',x1,f',k'⟩:=(f.pT kU2).add kD (o:=e.1) l1 (Nat.le_trans (Su.nH _ _) (show 2 * e.2.2.length<=2000 from b2)) (λ z=>by rw [z] at b1;simp at b1;omega) (by omega) (by omega) (by omega);refine ⟨D',T',[],trivial,?_,f',kU2.of0.trans k'⟩;rw [show Po.pl AF=[A.tup [.int (-1),.int 1],.tup [.int 1,.int (-1)]] from rfl] at x2;have g2:∀ x y:A,gd (([x,y]:List A).length<=sizeLine)=λ r:Am.R A=>r:=λ x y=>by funext r;exact fT (show 2<=16777216 by decide)
    unfold fO;simp only [bD,qR,bools,g2,x2,x1]
  have dT2:Sm T2 L ds:=⟨k6.lst _ _ (λ z=>Su.iA f5.dd dT1.l z.symm) dT1.l,dT1.a.JE k6 f5.dd⟩;rw [Nat.one_mul,Su.Bq] at f6;obtain ⟨c2,S5,cs2,e7,s7,q7,_,_,k7⟩:=AD dT2 (by omega);have cl2:=jx q7;obtain ⟨R,S6,rs,e8,s8,q8,v8,_,_,_,k8⟩:=yr (j:=2000) s7 (hin2 q7) k1 k2 hN (by rw [cl2];omega) (by omega);have f8:=(f6.pT k7).pT k8;have f8l:=f8.ll;obtain ⟨M,S7,e9,m1,m2,m3,m4⟩:=AB f8.dd f8.aa f8.kk (by omega);have eqs:Su.sm rs=Su.sm (Su.iI D2 λ p=>!p.isEmpty):=by
   rw [q8,q7,Su.t_,f8.ss,q1];exact Su.M6 k1 k2 go
  have w1:je false (.ref R) (.ref M) S7=.ok (.bl true) S7:=uD (wQ (s8.kp m4) ⟨m1,m2⟩ eqs);have kUT:eT U T2:=(k0.old k5 λ q hq _ z=>by omega).old k6 λ q hq _ z=>by omega
  simp only [bD,qR,bools,Su.jX];rw [show cI fQ _ fM _ _=_ from e5];simp only [bD,qR,bools];rw [show cI fN _ fO _ _=_ from e6];simp only [bD,qR,bools,e7,e8,e9,w1];exact ⟨_,rfl,((((kp1.trans kp2).trans kU).trans kUT).trans (k7.trans k8)).trans m4⟩
end K27
namespace K27
open PySem L2 Am
theorem qJ:∀ (l:List Int) (j:Nat) (h:j < l.length),(l[j]::l.eraseIdx j).Perm l
 | x::l,0,_=>List.Perm.refl _
 | x::l,j+1,h=>(List.Perm.swap x _ _).trans (List.Perm.cons x (qJ l j (Nat.lt_of_succ_lt_succ h)))
theorem B0 {ls fs:List Int}{j:Nat}(h:j < ls.length):((fs++[ls[j]])++ls.eraseIdx j).Perm (fs++ls):=by
 rw [List.append_assoc];refine List.Perm.append_left fs ?_;show (ls[j]::ls.eraseIdx j).Perm ls;exact qJ ls j h
theorem GY {d:Int}{n:Nat}(h0:0<=d)(h:d.toNat < n):seqIndex? d n=some d.toNat:=by
 unfold seqIndex?;simp;omega
theorem ny {α β:Type}(f:α->β):∀ (l:List α) (k:Nat),(l.map f).eraseIdx k=(l.eraseIdx k).map f
 | [],_=>rfl
 | _::_,0=>rfl
 | x::l,k+1=>congrArg (f x::·) (ny f l k)
theorem Ef {S:aA}{b:Nat}{n:Int}(h:lH S b)(h1:1<=n)(h2:n<=20):∃ (xs:List Int) (S':aA),eo [.ref b,.int n] S=.ok (.tup (xs.map .int)) S'/\xs.Perm (fD 1 (n+1))/\lH S' b/\Kp (·=b) S S':=by
 have hbS:b < S.length:=by obtain ⟨_,_,e,_⟩:=h;exact iD e
 unfold eo j0 nY;simp only [bD,bools,dQ,Nat.reduceAdd,Nat.reduceSub,BZ (FO (show (-1000000:Int)<=1 by decide) (by decide) (show -1000000<=n+1 by omega) (by omega) (by omega)),length_append];have key:=pJ (t:=iM) (c:=iJ)
  (λ τ S1=>∃ (ls fs:List Int),τ=[.ref b,.int n,.ref S.length,.ref (S.length+1)]/\aC S1 S.length=some (ls.map .int)/\aC S1 (S.length+1)=some (fs.map .int)/\(fs++ls).Perm (fD 1 (n+1))/\lH S1 b/\Kp (·=b) S S1)
  (λ τ S1=>((aC S1 S.length).getD []).length)
  (λ r=>∃ (xs:List Int) (S':aA),RS.end (RS.seq r (ck (bf (f1 nK) (aj (ak 3) aK))))=.ok (.tup (xs.map .int)) S'/\xs.Perm (fD 1 (n+1))/\lH S' b/\Kp (·=b) S S') ?_ 1000000
 ·refine key _ _ ⟨fD 1 (n+1),[],rfl,aY aV,?_,List.Perm.refl _,h.kp (c:=λ _=>False) (Kp.refl.lay.lay) (λ z=>z),Kp.refl.lay.lay⟩ ?_
  ·have:aC (S++[.lst ((fD 1 (n+1)).map .int)]++[.lst []]) (S++[O.lst ((fD 1 (n+1)).map .int)]).length=some []:=aV;simpa using this
  ·rw [aY aV,getD_some,length_map,jS];omega
 ·rintro τ S1 ⟨ls,fs,rfl,hL,hF,hp,hb,hk⟩;have hlen:fs.length+ls.length<=20:=by
   have:=hp.length_eq;rw [length_append,jS] at this;omega
  unfold iM iJ;simp only [bD,bools,hL,length_map];by_cases h0:ls=[]
  ·subst h0;left;exact ⟨S1,rfl,fs,S1,by simp only [bD,bools,hF],by simpa using hp,hb,hk⟩
  ·right;have hpos:0 < ls.length:=List.length_pos_iff.mpr h0;refine ⟨S1,by rw [decide_eq_true (show (0:Int) < (ls.length:Int) by omega)],.inl ?_⟩;obtain ⟨d,S2,e2,d0,d1,hb2,hk2⟩:=digit (m:=(ls.length:Int)) hb (by omega) (by omega);have hL2:=hk2.lst S.length _ (by omega) hL;have hF2:=hk2.lst (S.length+1) _ (by omega) hF;have hd:d.toNat < ls.length:=by omega
   have lF:=iD hF2;have lL:=iD hL2;have hsq:seqIndex? d ls.length=some d.toNat:=GY d0 hd;have hF3:aC (S2.set S.length (.lst ((ls.map A.int).eraseIdx d.toNat))) (S.length+1)=some (fs.map .int):=by rw [di (by omega)];exact hF2
   simp only [bD,bools,hL,hF,length_map,e2,hL2,w_,eV (show -(2 ^ 63:Int)<=d/\d < 2 ^ 63 by omega),hsq,List.getElem?_map,List.getElem?_eq_getElem hd,map_some,hF3,lK (show fs.length < 16777216 by omega)];refine ⟨_,_,rfl,⟨ls.eraseIdx d.toNat,fs++[ls[d.toNat]],rfl,?_,?_,(B0 hd).trans hp,?_,?_⟩,?_⟩
   ·rw [di (by omega),gz lL,ny]
   ·rw [gz (by rw [length_set];exact lF),map_append];rfl
   ·obtain ⟨g,st,e,q⟩:=hb2;exact ⟨g,st,by rw [di (by omega),di (by omega)];exact e,q⟩
   ·exact ((hk.trans hk2).set (.inr (Nat.le_refl _))).set (.inr (by omega))
   ·rw [di (by omega),gz lL,getD_some,getD_some,ny,length_map,length_map,List.length_eraseIdx_of_lt hd];omega
open Po (Pl Ok Bd)
open Su (Es At Vl)
theorem Js {S:aA}{b N:Nat}{most size:Int}(h:lH S b)(hN:1<=N)(hN':N<=20)(h0:0<=most)(h1:most<=100)(s0:0<=size)(s1:size<=4) :
  ∃ (n:Nat) (S':aA) (es:Es),gD [.ref b,.int N,.int most,.int size] S=.ok (.ref n) S'/\Sm S' n es/\Fi N 4 es/\(∀ e∈es,e.1.Perm (fD 1 ((N:Int)+1)))/\(es.length:Int)<=most/\(∀ e∈es,S.length<=e.2.1)/\S.length<=n/\lH S' b/\Kp (·=b) S S':=by
 have hbS:=h.lt;have k0:eT S (S++[.dct []]):=Kp.refl.lay;obtain ⟨c,S1,e1,c0,c1,b1,k1⟩:=digit (S:=S++[.dct []]) (m:=most+1) (h.kp k0 λ z=>z) (by omega) (by omega);have d1:bA S1 S.length=some []:=k1.dct _ _ (by omega) Su.iy;unfold gD nJ r6;simp only [bD,bools,dQ,Nat.reduceAdd,Nat.reduceSub,Su.jX];refine ji (lo:=0) (hi:=c) (S1:=S1) (show nZ _ _=_ from fR (by simp only [bD,bools,e1]) (gf (by omega) (by omega)))
  (λ i τ T=>∃ (D:Es) (a5 a6 a7:A),τ=[.ref b,.int N,.int most,.int size,.ref S.length,a5,a6,a7]/\bA T S.length=some (D.map Su.kv)/\At T D/\Fi N 4 D/\(∀ e∈D,e.1.Perm (fD 1 ((N:Int)+1))/\S.length<=e.2.1)/\D.length<=i/\lH T b/\Kp (·=b) S T)
  (λ r=>∃ (n:Nat) (S':aA) (es:Es),RS.end (RS.seq r _)=.ok (.ref n) S'/\Sm S' n es/\Fi N 4 es/\(∀ e∈es,e.1.Perm (fD 1 ((N:Int)+1)))/\(es.length:Int)<=most/\(∀ e∈es,S.length<=e.2.1)/\S.length<=n/\lH S' b/\Kp (·=b) S S')
  ⟨[],_,_,_,rfl,d1,(λ _ h=>nomatch h),(λ _ h=>nomatch h),(λ _ h=>nomatch h),Nat.le_refl _,b1,k0.of0.trans k1⟩ ?_ ?_
 ·rintro i τ T hi ⟨D,a5,a6,a7,rfl,hd,hA,hF,hP,hl,bT,kT⟩;left;obtain ⟨o,T1,e2,po,b2,k2⟩:=Ef (n:=(N:Int)) bT (by omega) (by omega);obtain ⟨l,L,T2,e3,l1,ok,bd,ll,b3,k3,lL⟩:=Dp (far:=3) b2 s0 (by omega) (by decide) (by decide);have nl:newL [] T2=.ok (.ref T2.length) (T2++[.lst []]):=bI (show 0<=16777216 by decide);have q1:je true (.ref L) (.ref T2.length) (T2++[.lst []])=.ok (.bl (!l.isEmpty)) (T2++[.lst []]):=pM (xj (aY l1) aV);have k12:=k2.trans k3;have kE:eT T2 (T2++[.lst []]):=Kp.refl.lay;have kTE:Kp (·=b) T (T2++[.lst []]):=k12.trans kE.of0;have dT:bA (T2++[.lst []]) S.length=some (D.map Su.kv):=kTE.dct _ _ (by omega) hd;have aT:At (T2++[.lst []]) D:=hA.kp kTE λ e he z=>by have:=(hP e he).2;omega
  have bE:lH (T2++[.lst []]) b:=b3.kp kE λ z=>z;have tl:=kT.len;have tl1:=k2.len;unfold oh;simp only [bD,bools,e2,e3,nl,q1]
  cases l with
  | nil=>
   simp only [bD,bools,List.isEmpty_nil,Bool.not_true];exact ⟨_,_,rfl,D,_,_,_,rfl,dT,aT,hF,hP,by omega,bE,kT.trans kTE⟩
  | cons p l=>
   have hlr:aC (T2++[O.lst []]) L=some (Po.pl (p::l)):=aY l1;have neL:=Su.iA dT hlr;simp only [bD,bools,List.isEmpty_cons,Bool.not_false,Su.sX,Su.qN,dT,lK (show (D.map Su.kv).length < 16777216 by rw [length_map];omega),Su.wU (p:=p::l)];have kS:Kp (·=S.length) (T2++[O.lst []]) ((T2++[O.lst []]).set S.length (.dct ((Su.h_ D o L (p::l)).map Su.kv))):=Kp.refl.tH (.inl rfl);refine ⟨_,_,rfl,Su.h_ D o L (p::l),_,_,_,rfl,Su.uH (Su.wO dT),(Su.At.put aT hlr).kp kS λ e he z=>?_,λ e he=>?_,λ e he=>?_,?_,bE.kp kS (by omega),(kT.trans kTE).tH (.inr (Nat.le_refl _))⟩
   ·rcases Su.iz he with y | y
    ·exact Su.iA dT (aT e y) z.symm
    ·rw [y] at z;exact neL z.symm
   ·rcases Su.iz he with y | y
    ·exact hF e y
    ·rw [y];have:o.length=N:=by have:=po.length_eq;rw [jS] at this;omega
     exact ⟨this,ok,(λ z=>nomatch z),by show (p::l).length<=4;omega,bd⟩
   ·rcases Su.iz he with y | y
    ·exact hP e y
    ·rw [y];exact ⟨po,by show S.length<=L;omega⟩
   ·have:=Su.t6 (D:=D) (o:=o) (r:=L) (p:=p::l);omega
 ·rintro τ T ⟨D,a5,a6,a7,rfl,hd,hA,hF,hP,hl,bT,kT⟩;have hne:∀ e∈D,e.1≠[]:=λ e he z=>by have:=(hF e he).1;rw [z] at this;simp at this;omega
  have n0:=Su.pP hd hne;obtain ⟨n,S',e,h1,h2,h3,h4⟩:=Su.pF (cap:=[some 4]) (τ:=[.ref b,.int N,.int most,.int size,.ref S.length,a5,a6,a7]) (src:=dJ (bf (f1 jP) (aj (ak 4) (aK)))) (t:=mX) (e:=fC (aj (ak 0) (aj (aJ nP (ak 1) (ak 0)) (aK)))) hd hA (dR (by simp only [bD,bools,n0]) aV) (λ _=>true)
   (λ o r q T hT hk hr=>⟨T,rfl,Kp.refl⟩)
   (λ o r T hT hk=>by
    simp only [bD,bools,Su.nT,Su.m9,hT,hk];exact fT (show 2<=16777216 by decide)) (by omega)
  have tl:=kT.len;simp only [bD,bools,e];refine ⟨n,S',Su.iI D λ _=>true,rfl,⟨h1,h2⟩,λ e he=>hF e (Su.kF he).1,λ e he=>(hP e (Su.kF he).1).1,?_,λ e he=>(hP e (Su.kF he).1).2,by omega,bT.kp h4 λ z=>z,kT.trans h4.of0⟩;unfold Su.iI;rw [length_map];have:=length_filter_le (λ o=>(λ _=>true) (Su.vS (Su.sm D) o)) (dX (D.map Prod.fst));rw [(bF _).length_eq,length_map] at this;have:((D.length:Nat):Int)<=c:=by omega
  omega
open Po (Pl Ok Bd)
open Su (Es At Vl AF)
theorem Ls (ns:List Int)(hl:ns.length<=63):∃ S',sH [.frz (ns.map .int)] []=.ok (.bl true) S':=by
 unfold sH EF Kc;simp only [bD,bools,dQ,Nat.reduceAdd,Nat.reduceSub];refine ji (lo:=0) (hi:=if (if 6 < (ns.length:Int) then 6 else (ns.length:Int)) > 2 then (if 6 < (ns.length:Int) then 6 else (ns.length:Int)) else 2) (S1:=[]) (show yR _ _=_ from fR (by simp only [bD,bools,length_map]) (gf (by split <;> split <;> omega) (by split <;> split <;> omega)))
  (λ _ τ _=>∃ a1 a2 a3 a4 a5:A,τ=[.frz (ns.map .int),a1,a2,a3,a4,a5]) (λ r=>∃ S',RS.end (RS.seq r _)=.ok (.bl true) S') ⟨_,_,_,_,_,rfl⟩ ?_ ?_
 ·rintro i τ S hi ⟨a1,a2,a3,a4,a5,rfl⟩;left;have hi6:(i:Int) < 6:=by split at hi <;> split at hi <;> omega
  obtain ⟨S1,e1,b1,kp1⟩:=Ig (S:=S) (ns:=ns) (k:=0+(i:Int)) (by omega) (by omega);obtain ⟨d,S2,e2,d0,d1,b2,kp2⟩:=digit (S:=S1) (m:=4) b1 (by decide) (by decide);obtain ⟨N,hN⟩:∃ N:Nat,(N:Int)=2+d:=⟨(2+d).toNat,by omega⟩;have n0:newL [.int 6,.int 40] S2=.ok (.ref S2.length) (S2++[.lst [.int 6,.int 40]]):=bI (show 2<=16777216 by decide);obtain ⟨c,S3,e3,c0,c1,b3,kp3⟩:=digit (S:=S2++[.lst [.int 6,.int 40]]) (m:=8) (b2.kp (c:=λ _=>False) Kp.refl.lay λ z=>z) (by decide) (by decide);have lb2:=b2.lt;have hL:aC S3 S2.length=some [.int 6,.int 40]:=kp3.lst _ _ (by omega) aV;obtain ⟨most,hmost,m0,m1⟩:∃ most:Int,gF ([.int 6,.int 40]:List A) (if (c == 5)=true then 1 else 0)=some (.int most)/\0<=most/\most<=40:=by
   cases c == 5
   ·exact ⟨6,rfl,by decide,by decide⟩
   ·exact ⟨40,rfl,by decide,by decide⟩
  have lb3:=b3.lt;obtain ⟨n,S4,es,e4,s4,f4,p4,l4,r4,n4,b4,k4⟩:=Js (N:=N) (size:=3) b3 (by omega) (by omega) m0 (by omega) (by decide) (by decide);unfold A6;simp only [bD,bools,e1,e2,<- hN,n0,e3,hL,hmost,e4];refine ji (lo:=1) (hi:=5) (S1:=S4) (show Ar _ _=_ from wH (S1:=S4) (by simp only [bD,bools]) (by simp only [bD,bools]) (gf (by decide) (by decide)) (gf (by decide) (by decide)))
   (λ j τ T=>(∃ a5:A,τ=[.frz (ns.map .int),.int (0+(i:Int)),.ref S.length,.int N,.ref n,a5])/\eT S4 T) (λ r=>∃ τ' S',r=.nx τ' S'/\∃ a1 a2 a3 a4 a5:A,τ'=[.frz (ns.map .int),a1,a2,a3,a4,a5]) ⟨⟨_,rfl⟩,Kp.refl⟩ ?_ ?_
  ·rintro j τ T hj ⟨⟨a5,rfl⟩,kT⟩;left;obtain ⟨k,hk⟩:∃ k:Nat,(k:Int)=1+(j:Int):=⟨1+j,by omega⟩;have sT:=s4.kp kT;unfold AJ;rw [<- hk];by_cases c1:k < N
   ·obtain ⟨T1,x1,kx⟩:=CP sT f4 p4 (k:=k) (by omega) c1 (by omega) (by omega);simp only [bD,bools,decide_eq_true (show (k:Int) < (N:Int) by omega),x1,Bool.not_true];exact ⟨_,_,rfl,⟨_,rfl⟩,kT.trans kx⟩
   ·have nl:newL [] T=.ok (.ref T.length) (T++[.lst []]):=bI (show 0<=16777216 by decide);have q1':je true (.ref n) (.ref T.length) (T++[.lst []])=.ok (.bl (!(es.map Su.ent).isEmpty)) (T++[.lst []]):=pM (eq_nil (aY sT.l) aV);by_cases c2:es=[]
    ·subst c2;simp only [bD,bools,decide_eq_false (show ¬ (k:Int) < (N:Int) by omega),nl,q1',map_nil,List.isEmpty_nil,Bool.not_true];exact ⟨_,_,rfl,⟨_,rfl⟩,kT.lay⟩
    ·have z1:(es.map Su.ent).isEmpty=false:=by cases es with | nil=>exact absurd rfl c2 | cons=>rfl
     have kE:eT T (T++[.lst []]):=Kp.refl.lay;obtain ⟨T1,x1,kx⟩:=xV (sT.kp kE) (λ e he=>(f4 e he).1) (by omega) (show N<=k by omega) c2;simp only [bD,bools,decide_eq_false (show ¬ (k:Int) < (N:Int) by omega),nl,q1',z1,Bool.not_false,x1,Bool.not_true];exact ⟨_,_,rfl,⟨_,rfl⟩,(kT.trans kE).trans kx⟩
  ·rintro τ T ⟨⟨a5,rfl⟩,kT⟩;exact ⟨_,_,rfl,_,_,_,_,_,rfl⟩
 ·rintro τ S ⟨a1,a2,a3,a4,a5,rfl⟩;simp only [bD,bools];exact ⟨_,rfl⟩
end K27
namespace K27
open PySem L2 Am
theorem all_mk {l:PySem.W.OpenLaw}{w:World}{K:PySem.W.Frag}{h:Heap}{mg:Str->Option Value}{fa f1 f2 f3 f4 f5 f6 f7 f8 f9 f10 f11 f12 f13 f14 f15 f16 f17 f18 f19 f20 f21 f22 f23 f24 f25 f26 f27 f28 f29 f30 f31:Addr}(X:K.In h)(G:h.Ns mainGlobals mg)(hfa:mg "law" = some (.ref fa))
  {od1 an1 od2 an2 od3 an3 od4 an4 od5 an5 od6 an6 od7 an7 od8 an8 od9 an9 od10 an10 od11 an11 od12 an12 od13 an13 od14 an14 od15 an15 od16 an16 od17 an17 od18 an18 od19 an19 od20 an20 od21 an21 od22 an22 od23 an23 od24 an24 od25 an25 od26 an26 od27 an27 od28 an28 od29 an29 od30 an30 od31 an31:Option Addr} {sl1 sl2 sl3 sl4 sl5 sl6 sl7 sl8 sl9 sl10 sl11 sl12 sl13 sl14 sl15 sl16 sl17 sl18 sl19 sl20 sl21 sl22 sl23 sl24 sl25 sl26 sl27 sl28 sl29 sl30 sl31:Array (Option Value)} {oc1 kV1 dc1 pm1 cd1 ct1 oc2 kV2 dc2 pm2 cd2 ct2 oc3 kV3 dc3 pm3 cd3 ct3 oc4 kV4 dc4 pm4 cd4 ct4 oc5 kV5 dc5 pm5 cd5 ct5 oc6 kV6 dc6 pm6 cd6 ct6 oc7 kV7 dc7 pm7 cd7 ct7 oc8 kV8 dc8 pm8 cd8 ct8 oc9 kV9 dc9 pm9 cd9 ct9 oc10 kV10 dc10 pm10 cd10 ct10 oc11 kV11 dc11 pm11 cd11 ct11 oc12 kV12 dc12 pm12 cd12 ct12 oc13 kV13 dc13 pm13 cd13 ct13 oc14 kV14 dc14 pm14 cd14 ct14 oc15 kV15 dc15 pm15 cd15 ct15 oc16 kV16 dc16 pm16 cd16 ct16 oc17 kV17 dc17 pm17 cd17 ct17 oc18 kV18 dc18 pm18 cd18 ct18 oc19 kV19 dc19 pm19 cd19 ct19 oc20 kV20 dc20 pm20 cd20 ct20 oc21 kV21 dc21 pm21 cd21 ct21 oc22 kV22 dc22 pm22 cd22 ct22 oc23 kV23 dc23 pm23 cd23 ct23 oc24 kV24 dc24 pm24 cd24 ct24 oc25 kV25 dc25 pm25 cd25 ct25 oc26 kV26 dc26 pm26 cd26 ct26 oc27 kV27 dc27 pm27 cd27 ct27 oc28 kV28 dc28 pm28 cd28 ct28 oc29 kV29 dc29 pm29 cd29 ct29 oc30 kV30 dc30 pm30 cd30 ct30 oc31 kV31 dc31 pm31 cd31 ct31:Value}
  (a1:PySem.W.nsIn K mainGlobals "is_whole" = some (some (.ref f1))) (l1:K.lookup f1=some ⟨oc1,od1,.func (PySem.W.fnOf "is_whole" "is_whole" (aX fH) (aQ fH) (az fH) .none kV1 dc1 pm1 an1 cd1 ct1),sl1⟩) (c1:PySem.W.codeIn K cd1 "is_whole" = true) (k1:PySem.W.keepIn K (.ref f1)=true)
  (a2:PySem.W.nsIn K mainGlobals "is_exchange" = some (some (.ref f2))) (l2:K.lookup f2=some ⟨oc2,od2,.func (PySem.W.fnOf "is_exchange" "is_exchange" (aX cY) (aQ cY) (az cY) .none kV2 dc2 pm2 an2 cd2 ct2),sl2⟩) (c2:PySem.W.codeIn K cd2 "is_exchange" = true) (k2:PySem.W.keepIn K (.ref f2)=true)
  (a3:PySem.W.nsIn K mainGlobals "exchanged_places" = some (some (.ref f3))) (l3:K.lookup f3=some ⟨oc3,od3,.func (PySem.W.fnOf "exchanged_places" "exchanged_places" (aX bV) (aQ bV) (az bV) .none kV3 dc3 pm3 an3 cd3 ct3),sl3⟩) (c3:PySem.W.codeIn K cd3 "exchanged_places" = true) (k3:PySem.W.keepIn K (.ref f3)=true)
  (a4:PySem.W.nsIn K mainGlobals "exchanged" = some (some (.ref f4))) (l4:K.lookup f4=some ⟨oc4,od4,.func (PySem.W.fnOf "exchanged" "exchanged" (aX eS) (aQ eS) (az eS) .none kV4 dc4 pm4 an4 cd4 ct4),sl4⟩) (c4:PySem.W.codeIn K cd4 "exchanged" = true) (k4:PySem.W.keepIn K (.ref f4)=true)
  (a5:PySem.W.nsIn K mainGlobals "falls" = some (some (.ref f5))) (l5:K.lookup f5=some ⟨oc5,od5,.func (PySem.W.fnOf "falls" "falls" (aX kh) (aQ kh) (az kh) .none kV5 dc5 pm5 an5 cd5 ct5),sl5⟩) (c5:PySem.W.codeIn K cd5 "falls" = true) (k5:PySem.W.keepIn K (.ref f5)=true)
  (a6:PySem.W.nsIn K mainGlobals "as_polynomial" = some (some (.ref f6))) (l6:K.lookup f6=some ⟨oc6,od6,.func (PySem.W.fnOf "as_polynomial" "as_polynomial" (aX cC) (aQ cC) (az cC) .none kV6 dc6 pm6 an6 cd6 ct6),sl6⟩) (c6:PySem.W.codeIn K cd6 "as_polynomial" = true) (k6:PySem.W.keepIn K (.ref f6)=true)
  (a7:PySem.W.nsIn K mainGlobals "plus" = some (some (.ref f7))) (l7:K.lookup f7=some ⟨oc7,od7,.func (PySem.W.fnOf "plus" "plus" (aX nV) (aQ nV) (az nV) .none kV7 dc7 pm7 an7 cd7 ct7),sl7⟩) (c7:PySem.W.codeIn K cd7 "plus" = true) (k7:PySem.W.keepIn K (.ref f7)=true)
  (a8:PySem.W.nsIn K mainGlobals "times" = some (some (.ref f8))) (l8:K.lookup f8=some ⟨oc8,od8,.func (PySem.W.fnOf "times" "times" (aX j_) (aQ j_) (az j_) .none kV8 dc8 pm8 an8 cd8 ct8),sl8⟩) (c8:PySem.W.codeIn K cd8 "times" = true) (k8:PySem.W.keepIn K (.ref f8)=true)
  (a9:PySem.W.nsIn K mainGlobals "put_before" = some (some (.ref f9))) (l9:K.lookup f9=some ⟨oc9,od9,.func (PySem.W.fnOf "put_before" "put_before" (aX dG) (aQ dG) (az dG) .none kV9 dc9 pm9 an9 cd9 ct9),sl9⟩) (c9:PySem.W.codeIn K cd9 "put_before" = true) (k9:PySem.W.keepIn K (.ref f9)=true)
  (a10:PySem.W.nsIn K mainGlobals "as_sum" = some (some (.ref f10))) (l10:K.lookup f10=some ⟨oc10,od10,.func (PySem.W.fnOf "as_sum" "as_sum" (aX iV) (aQ iV) (az iV) .none kV10 dc10 pm10 an10 cd10 ct10),sl10⟩) (c10:PySem.W.codeIn K cd10 "as_sum" = true) (k10:PySem.W.keepIn K (.ref f10)=true)
  (a11:PySem.W.nsIn K mainGlobals "by_exchange" = some (some (.ref f11))) (l11:K.lookup f11=some ⟨oc11,od11,.func (PySem.W.fnOf "by_exchange" "by_exchange" (aX cV) (aQ cV) (az cV) .none kV11 dc11 pm11 an11 cd11 ct11),sl11⟩) (c11:PySem.W.codeIn K cd11 "by_exchange" = true) (k11:PySem.W.keepIn K (.ref f11)=true)
  (a12:PySem.W.nsIn K mainGlobals "_law_bag" = some (some (.ref f12))) (l12:K.lookup f12=some ⟨oc12,od12,.func (PySem.W.fnOf "_law_bag" "_law_bag" (aX gA) (aQ gA) (az gA) .none kV12 dc12 pm12 an12 cd12 ct12),sl12⟩) (c12:PySem.W.codeIn K cd12 "_law_bag" = true) (k12:PySem.W.keepIn K (.ref f12)=true)
  (a13:PySem.W.nsIn K mainGlobals "_law_digit" = some (some (.ref f13))) (l13:K.lookup f13=some ⟨oc13,od13,.func (PySem.W.fnOf "_law_digit" "_law_digit" (aX eF) (aQ eF) (az eF) .none kV13 dc13 pm13 an13 cd13 ct13),sl13⟩) (c13:PySem.W.codeIn K cd13 "_law_digit" = true) (k13:PySem.W.keepIn K (.ref f13)=true)
  (a14:PySem.W.nsIn K mainGlobals "_law_signed" = some (some (.ref f14))) (l14:K.lookup f14=some ⟨oc14,od14,.func (PySem.W.fnOf "_law_signed" "_law_signed" (aX dI) (aQ dI) (az dI) .none kV14 dc14 pm14 an14 cd14 ct14),sl14⟩) (c14:PySem.W.codeIn K cd14 "_law_signed" = true) (k14:PySem.W.keepIn K (.ref f14)=true)
  (a15:PySem.W.nsIn K mainGlobals "_law_poly" = some (some (.ref f15))) (l15:K.lookup f15=some ⟨oc15,od15,.func (PySem.W.fnOf "_law_poly" "_law_poly" (aX fB) (aQ fB) (az fB) .none kV15 dc15 pm15 an15 cd15 ct15),sl15⟩) (c15:PySem.W.codeIn K cd15 "_law_poly" = true) (k15:PySem.W.keepIn K (.ref f15)=true)
  (a16:PySem.W.nsIn K mainGlobals "_law_own_poly" = some (some (.ref f16))) (l16:K.lookup f16=some ⟨oc16,od16,.func (PySem.W.fnOf "_law_own_poly" "_law_own_poly" (aX cM) (aQ cM) (az cM) .none kV16 dc16 pm16 an16 cd16 ct16),sl16⟩) (c16:PySem.W.codeIn K cd16 "_law_own_poly" = true) (k16:PySem.W.keepIn K (.ref f16)=true)
  (a17:PySem.W.nsIn K mainGlobals "_law_own_plus" = some (some (.ref f17))) (l17:K.lookup f17=some ⟨oc17,od17,.func (PySem.W.fnOf "_law_own_plus" "_law_own_plus" (aX cN) (aQ cN) (az cN) .none kV17 dc17 pm17 an17 cd17 ct17),sl17⟩) (c17:PySem.W.codeIn K cd17 "_law_own_plus" = true) (k17:PySem.W.keepIn K (.ref f17)=true)
  (a18:PySem.W.nsIn K mainGlobals "_law_own_times" = some (some (.ref f18))) (l18:K.lookup f18=some ⟨oc18,od18,.func (PySem.W.fnOf "_law_own_times" "_law_own_times" (aX cB) (aQ cB) (az cB) .none kV18 dc18 pm18 an18 cd18 ct18),sl18⟩) (c18:PySem.W.codeIn K cd18 "_law_own_times" = true) (k18:PySem.W.keepIn K (.ref f18)=true)
  (a19:PySem.W.nsIn K mainGlobals "_law_order" = some (some (.ref f19))) (l19:K.lookup f19=some ⟨oc19,od19,.func (PySem.W.fnOf "_law_order" "_law_order" (aX er) (aQ er) (az er) .none kV19 dc19 pm19 an19 cd19 ct19),sl19⟩) (c19:PySem.W.codeIn K cd19 "_law_order" = true) (k19:PySem.W.keepIn K (.ref f19)=true)
  (a20:PySem.W.nsIn K mainGlobals "_law_sum" = some (some (.ref f20))) (l20:K.lookup f20=some ⟨oc20,od20,.func (PySem.W.fnOf "_law_sum" "_law_sum" (aX gB) (aQ gB) (az gB) .none kV20 dc20 pm20 an20 cd20 ct20),sl20⟩) (c20:PySem.W.codeIn K cd20 "_law_sum" = true) (k20:PySem.W.keepIn K (.ref f20)=true)
  (a21:PySem.W.nsIn K mainGlobals "_law_is_poly" = some (some (.ref f21))) (l21:K.lookup f21=some ⟨oc21,od21,.func (PySem.W.fnOf "_law_is_poly" "_law_is_poly" (aX cZ) (aQ cZ) (az cZ) .none kV21 dc21 pm21 an21 cd21 ct21),sl21⟩) (c21:PySem.W.codeIn K cd21 "_law_is_poly" = true) (k21:PySem.W.keepIn K (.ref f21)=true)
  (a22:PySem.W.nsIn K mainGlobals "_law_is_sum" = some (some (.ref f22))) (l22:K.lookup f22=some ⟨oc22,od22,.func (PySem.W.fnOf "_law_is_sum" "_law_is_sum" (aX dw) (aQ dw) (az dw) .none kV22 dc22 pm22 an22 cd22 ct22),sl22⟩) (c22:PySem.W.codeIn K cd22 "_law_is_sum" = true) (k22:PySem.W.keepIn K (.ref f22)=true)
  (a23:PySem.W.nsIn K mainGlobals "_law_copy" = some (some (.ref f23))) (l23:K.lookup f23=some ⟨oc23,od23,.func (PySem.W.fnOf "_law_copy" "_law_copy" (aX fy) (aQ fy) (az fy) .none kV23 dc23 pm23 an23 cd23 ct23),sl23⟩) (c23:PySem.W.codeIn K cd23 "_law_copy" = true) (k23:PySem.W.keepIn K (.ref f23)=true)
  (a24:PySem.W.nsIn K mainGlobals "_law_own_added" = some (some (.ref f24))) (l24:K.lookup f24=some ⟨oc24,od24,.func (PySem.W.fnOf "_law_own_added" "_law_own_added" (aX cD) (aQ cD) (az cD) .none kV24 dc24 pm24 an24 cd24 ct24),sl24⟩) (c24:PySem.W.codeIn K cd24 "_law_own_added" = true) (k24:PySem.W.keepIn K (.ref f24)=true)
  (a25:PySem.W.nsIn K mainGlobals "_law_own_sum" = some (some (.ref f25))) (l25:K.lookup f25=some ⟨oc25,od25,.func (PySem.W.fnOf "_law_own_sum" "_law_own_sum" (aX c_) (aQ c_) (az c_) .none kV25 dc25 pm25 an25 cd25 ct25),sl25⟩) (c25:PySem.W.codeIn K cd25 "_law_own_sum" = true) (k25:PySem.W.keepIn K (.ref f25)=true)
  (a26:PySem.W.nsIn K mainGlobals "_law_own_exchange" = some (some (.ref f26))) (l26:K.lookup f26=some ⟨oc26,od26,.func (PySem.W.fnOf "_law_own_exchange" "_law_own_exchange" (aX bR) (aQ bR) (az bR) .none kV26 dc26 pm26 an26 cd26 ct26),sl26⟩) (c26:PySem.W.codeIn K cd26 "_law_own_exchange" = true) (k26:PySem.W.keepIn K (.ref f26)=true)
  (a27:PySem.W.nsIn K mainGlobals "_law_is" = some (some (.ref f27))) (l27:K.lookup f27=some ⟨oc27,od27,.func (PySem.W.fnOf "_law_is" "_law_is" (aX iW) (aQ iW) (az iW) .none kV27 dc27 pm27 an27 cd27 ct27),sl27⟩) (c27:PySem.W.codeIn K cd27 "_law_is" = true) (k27:PySem.W.keepIn K (.ref f27)=true)
  (a28:PySem.W.nsIn K mainGlobals "_law_refused" = some (some (.ref f28))) (l28:K.lookup f28=some ⟨oc28,od28,.func (PySem.W.fnOf "_law_refused" "_law_refused" (aX dc) (aQ dc) (az dc) .none kV28 dc28 pm28 an28 cd28 ct28),sl28⟩) (c28:PySem.W.codeIn K cd28 "_law_refused" = true) (k28:PySem.W.keepIn K (.ref f28)=true)
  (a29:PySem.W.nsIn K mainGlobals "_law_apart" = some (some (.ref f29))) (l29:K.lookup f29=some ⟨oc29,od29,.func (PySem.W.fnOf "_law_apart" "_law_apart" (aX eG) (aQ eG) (az eG) .none kV29 dc29 pm29 an29 cd29 ct29),sl29⟩) (c29:PySem.W.codeIn K cd29 "_law_apart" = true) (k29:PySem.W.keepIn K (.ref f29)=true)
  (a30:PySem.W.nsIn K mainGlobals "_law_right" = some (some (.ref f30))) (l30:K.lookup f30=some ⟨oc30,od30,.func (PySem.W.fnOf "_law_right" "_law_right" (aX eE) (aQ eE) (az eE) .none kV30 dc30 pm30 an30 cd30 ct30),sl30⟩) (c30:PySem.W.codeIn K cd30 "_law_right" = true) (k30:PySem.W.keepIn K (.ref f30)=true)
  (a31:PySem.W.nsIn K mainGlobals "law" = some (some (.ref f31))) (l31:K.lookup f31=some ⟨oc31,od31,.func (PySem.W.fnOf "law" "law" (aX lZ) (aQ lZ) (az lZ) .none kV31 dc31 pm31 an31 cd31 ct31),sl31⟩) (c31:PySem.W.codeIn K cd31 "law" = true) (k31:PySem.W.keepIn K (.ref f31)=true)
  (RV:PySem.W.nsIn K mainGlobals "isinstance" = some none)
  (RW:PySem.W.nsIn K mainGlobals "bool" = some none)
  (RX:PySem.W.nsIn K mainGlobals "int" = some none)
  (RY:PySem.W.nsIn K mainGlobals "list" = some none)
  (RZ:PySem.W.nsIn K mainGlobals "tuple" = some none)
  (R0:PySem.W.nsIn K mainGlobals "len" = some none)
  (R9:PySem.W.nsIn K mainGlobals "range" = some none)
  (R_:PySem.W.nsIn K mainGlobals "sorted" = some none)
  (Sa:PySem.W.nsIn K mainGlobals "dict" = some none)
  (Sb:PySem.W.nsIn K mainGlobals "all" = some none)
  (Sd:PySem.W.nsIn K mainGlobals "ValueError" = some none)
  (Se:PySem.W.nsIn K mainGlobals "max" = some none)
  (Sf:PySem.W.nsIn K mainGlobals "min" = some none)
  {a_AT_A_FALL:Addr} (Si:PySem.W.nsIn K mainGlobals "AT_A_FALL" = some (some (.ref a_AT_A_FALL))) (kp_AT_A_FALL:MQ K a_AT_A_FALL=some [((-1:Int),(1:Int)),((1:Int),(-1:Int))])
  {U C_NoWord C_TooMany C_NoPair C_NoNumber C_NoName C_NoRow C_NoText C_NoTables:Addr} (u0:PySem.W.nsIn K mainGlobals "UnderError" = some (some (.ref U))) (u1:L2.mroIn K U=some IA)
  (n_NoWord:PySem.W.nsIn K mainGlobals "NoWord" = some (some (.ref C_NoWord)))
  (n_TooMany:PySem.W.nsIn K mainGlobals "TooMany" = some (some (.ref C_TooMany)))
  (n_NoPair:PySem.W.nsIn K mainGlobals "NoPair" = some (some (.ref C_NoPair)))
  (n_NoNumber:PySem.W.nsIn K mainGlobals "NoNumber" = some (some (.ref C_NoNumber)))
  (n_NoName:PySem.W.nsIn K mainGlobals "NoName" = some (some (.ref C_NoName)))
  (n_NoRow:PySem.W.nsIn K mainGlobals "NoRow" = some (some (.ref C_NoRow)))
  (n_NoText:PySem.W.nsIn K mainGlobals "NoText" = some (some (.ref C_NoText)))
  (n_NoTables:PySem.W.nsIn K mainGlobals "NoTables" = some (some (.ref C_NoTables)))
  (q_NoWord:PySem.W.excIn K C_NoWord IA "ValueError.__new__" = true)
  (r_NoWord:L2.mroIn K C_NoWord=some (.ref U::IA))
  (xa_NoWord:PySem.W.findIn K (.ref C_NoWord) "__getattribute__" = some (some (.builtin "BaseException.__getattribute__")))
  (xb_NoWord:PySem.W.findIn K (.ref C_NoWord) "__getattr__" = some none)
  (xc_NoWord:PySem.W.findObj K C_NoWord none "__class__" = some (.bind (.builtin "getset_descriptor.__get__") (.builtin "object.__class__")))
  (xd_NoWord:PySem.W.mroIn K C_NoWord (.type "object")=some true)
  (xf_NoWord:PySem.W.subIn K (.ref C_NoWord) (.type "BaseException")=some true)
  (cl_NoWord:(PySem.W.clsIn K C_NoWord).isSome=true)
  (v_NoWord:PySem.W.kitOne K (.ref C_NoWord) (.type "ValueError")=some true)
  (k_NoWord_TooMany:PySem.W.kitOne K (.ref C_NoWord) (.ref C_TooMany)=some false)
  (k_NoWord_NoPair:PySem.W.kitOne K (.ref C_NoWord) (.ref C_NoPair)=some false)
  (k_NoWord_NoNumber:PySem.W.kitOne K (.ref C_NoWord) (.ref C_NoNumber)=some false)
  (k_NoWord_NoWord:PySem.W.kitOne K (.ref C_NoWord) (.ref C_NoWord)=some true)
  (k_NoWord_NoName:PySem.W.kitOne K (.ref C_NoWord) (.ref C_NoName)=some false)
  (k_NoWord_NoRow:PySem.W.kitOne K (.ref C_NoWord) (.ref C_NoRow)=some false)
  (k_NoWord_NoText:PySem.W.kitOne K (.ref C_NoWord) (.ref C_NoText)=some false)
  (k_NoWord_NoTables:PySem.W.kitOne K (.ref C_NoWord) (.ref C_NoTables)=some false)
  : ∃ fd:FuncData,(∀ (s:Shared) (v:Value),BindsTo s fd ⟨[v],[]⟩ [("_law_script",v)])/\∀ base:Heap,K.In base->base.Ns mainGlobals mg->FnOk l.prog w K mg base iS 6 fa fd ["_law_script"] (jH K 1 sH):=by
 have e:=hfa.symm.trans (PySem.W.mg_of X G a31)
 cases e
 have QV:ExcK K U "NoWord" C_NoWord:=⟨n_NoWord,q_NoWord,r_NoWord,⟨xa_NoWord,xb_NoWord,xc_NoWord,xd_NoWord,xf_NoWord⟩,cl_NoWord,v_NoWord⟩;have Rx:=PySem.W.mg_of X G n_TooMany;have Ry:=PySem.W.mg_of X G n_NoPair;have Rz:=PySem.W.mg_of X G n_NoNumber;have RA:=PySem.W.mg_of X G n_NoWord;have RB:=PySem.W.mg_of X G n_NoName;have RC:=PySem.W.mg_of X G n_NoRow;have RE:=PySem.W.mg_of X G n_NoText;have RG:=PySem.W.mg_of X G n_NoTables;have QY:=PySem.W.mg_none_of X G RV;have Q7:=PySem.W.mg_none_of X G RW;have Q4:=PySem.W.mg_none_of X G RX;have Q0:=PySem.W.mg_none_of X G RY;have Q3:=PySem.W.mg_none_of X G RZ;have QX:=PySem.W.mg_none_of X G R0;have QW:=PySem.W.mg_none_of X G R9;have Q2:=PySem.W.mg_none_of X G R_;have Rk:=PySem.W.mg_none_of X G Sa;have Q_:=PySem.W.mg_none_of X G Sb;have RH:=PySem.W.mg_none_of X G Sd;have RM:=PySem.W.mg_none_of X G Se;have RN:=PySem.W.mg_none_of X G Sf;have h_AT_A_FALL:∃ a,mg "AT_A_FALL" = some (.ref a)/\MQ K a=some [((-1:Int),(1:Int)),((1:Int),(-1:Int))]:=⟨a_AT_A_FALL,PySem.W.mg_of X G Si,kp_AT_A_FALL⟩;have F1:=bJ (st:=fH) l1 c1 k1;have i1:=F1.binds (ps:=["thing"]) λ _ _ _ _ _ _=>Ca λ _=>rfl;have F2:=bJ (st:=cY) l2 c2 k2;have i2:=F2.binds (ps:=["n", "thing"]) λ _ _ _ _ _ _=>xy λ _ _=>rfl;have F3:=bJ (st:=bV) l3 c3 k3;have i3:=F3.binds (ps:=["order", "i", "j"]) λ _ _ _ _ _ _=>OJ λ _ _ _=>rfl;have F4:=bJ (st:=eS) l4 c4 k4;have i4:=F4.binds (ps:=["order", "k"]) λ _ _ _ _ _ _=>xy λ _ _=>rfl;have F5:=bJ (st:=kh) l5 c5 k5;have i5:=F5.binds (ps:=["order"]) λ _ _ _ _ _ _=>Ca λ _=>rfl;have F6:=bJ (st:=cC) l6 c6 k6;have i6:=F6.binds (ps:=["numbers"]) λ _ _ _ _ _ _=>Ca λ _=>rfl;have F7:=bJ (st:=nV) l7 c7 k7;have i7:=F7.binds (ps:=["one", "other"]) λ _ _ _ _ _ _=>xy λ _ _=>rfl;have F8:=bJ (st:=j_) l8 c8 k8;have i8:=F8.binds (ps:=["one", "other"]) λ _ _ _ _ _ _=>xy λ _ _=>rfl;have F9:=bJ (st:=dG) l9 c9 k9;have i9:=F9.binds (ps:=["found", "order", "poly"]) λ _ _ _ _ _ _=>OJ λ _ _ _=>rfl;have F10:=bJ (st:=iV) l10 c10 k10;have i10:=F10.binds (ps:=["found"]) λ _ _ _ _ _ _=>Ca λ _=>rfl;have F11:=bJ (st:=cV) l11 c11 k11;have i11:=F11.binds (ps:=["one", "k"]) λ _ _ _ _ _ _=>xy λ _ _=>rfl;have F12:=bJ (st:=gA) l12 c12 k12;have i12:=F12.binds (ps:=["_law_script", "_law_at"]) λ _ _ _ _ _ _=>xy λ _ _=>rfl;have F13:=bJ (st:=eF) l13 c13 k13;have i13:=F13.binds (ps:=["_law_bag_here", "_law_many"]) λ _ _ _ _ _ _=>xy λ _ _=>rfl;have F14:=bJ (st:=dI) l14 c14 k14;have i14:=F14.binds (ps:=["_law_bag_here"]) λ _ _ _ _ _ _=>Ca λ _=>rfl;have F15:=bJ (st:=fB) l15 c15 k15;have i15:=F15.binds (ps:=["_law_bag_here", "_law_most", "_law_far"]) λ _ _ _ _ _ _=>OJ λ _ _ _=>rfl;have F16:=bJ (st:=cM) l16 c16 k16;have i16:=F16.binds (ps:=["_law_held"]) λ _ _ _ _ _ _=>Ca λ _=>rfl;have F17:=bJ (st:=cN) l17 c17 k17;have i17:=F17.binds (ps:=["_law_one", "_law_other"]) λ _ _ _ _ _ _=>xy λ _ _=>rfl;have F18:=bJ (st:=cB) l18 c18 k18;have i18:=F18.binds (ps:=["_law_one", "_law_other"]) λ _ _ _ _ _ _=>xy λ _ _=>rfl;have F19:=bJ (st:=er) l19 c19 k19;have i19:=F19.binds (ps:=["_law_bag_here", "_law_n"]) λ _ _ _ _ _ _=>xy λ _ _=>rfl;have F20:=bJ (st:=gB) l20 c20 k20;have i20:=F20.binds (ps:=["_law_bag_here", "_law_n", "_law_most", "_law_size"]) λ _ _ _ _ _ _=>QD λ _ _ _ _=>rfl;have F21:=bJ (st:=cZ) l21 c21 k21;have i21:=F21.binds (ps:=["_law_found"]) λ _ _ _ _ _ _=>Ca λ _=>rfl;have F22:=bJ (st:=dw) l22 c22 k22;have i22:=F22.binds (ps:=["_law_found"]) λ _ _ _ _ _ _=>Ca λ _=>rfl;have F23:=bJ (st:=fy) l23 c23 k23;have i23:=F23.binds (ps:=["_law_some"]) λ _ _ _ _ _ _=>Ca λ _=>rfl;have F24:=bJ (st:=cD) l24 c24 k24;have i24:=F24.binds (ps:=["_law_held", "_law_one", "_law_own"]) λ _ _ _ _ _ _=>OJ λ _ _ _=>rfl;have F25:=bJ (st:=c_) l25 c25 k25;have i25:=F25.binds (ps:=["_law_held"]) λ _ _ _ _ _ _=>Ca λ _=>rfl;have F26:=bJ (st:=bR) l26 c26 k26;have i26:=F26.binds (ps:=["_law_some", "_law_k"]) λ _ _ _ _ _ _=>xy λ _ _=>rfl;have F27:=bJ (st:=iW) l27 c27 k27;have i27:=F27.binds (ps:=["_law_e", "_law_due"]) λ _ _ _ _ _ _=>xy λ _ _=>rfl;have F28:=bJ (st:=dc) l28 c28 k28;have i28:=F28.binds (ps:=["_law_some", "_law_k"]) λ _ _ _ _ _ _=>xy λ _ _=>rfl;have F29:=bJ (st:=eG) l29 c29 k29;have i29:=F29.binds (ps:=["_law_found"]) λ _ _ _ _ _ _=>Ca λ _=>rfl;have F30:=bJ (st:=eE) l30 c30 k30;have i30:=F30.binds (ps:=["_law_some", "_law_k"]) λ _ _ _ _ _ _=>xy λ _ _=>rfl;have F31:=bJ (st:=lZ) l31 c31 k31;have i31:=F31.binds (ps:=["_law_script"]) λ _ _ _ _ _ _=>Ca λ _=>rfl;refine ⟨PySem.W.fnOf "law" "law" (aX lZ) (aQ lZ) (az lZ) .none kV31 dc31 pm31 an31 cd31 ct31,λ s v=>.of_eq rfl,λ base _ _=>?_⟩;have Rh:d7 l.prog w K mg base 1 "is_whole" ["thing"] fu:=⟨f1,_,wJ F1 QY Q7 Q4,PySem.W.mg_of X G a1,k1,i1⟩;have Ri:d7 l.prog w K mg base 2 "is_exchange" ["n", "thing"] b7:=⟨f2,_,pX F2 Rh,PySem.W.mg_of X G a2,k2,i2⟩;have Rj:d7 l.prog w K mg base 1 "exchanged_places" ["order", "i", "j"] bU:=⟨f3,_,kL F3 Q0 Q3,PySem.W.mg_of X G a3,k3,i3⟩;have Rm:MT l.prog w K mg base 3 "exchanged" ["order", "k"] cP:=⟨f4,_,tK F4 QV QX Ri Rj,PySem.W.mg_of X G a4,k4,i4⟩;have Ro:d7 l.prog w K mg base 1 "falls" ["order"] kG:=⟨f5,_,DT F5 QW QX,PySem.W.mg_of X G a5,k5,i5⟩;have Q8:d7 l.prog w K mg base 1 "as_polynomial" ["numbers"] bN:=⟨f6,_,nc F6 Q2,PySem.W.mg_of X G a6,k6,i6⟩;have Rl:d7 l.prog w K mg base 2 "plus" ["one", "other"] nE:=⟨f7,_,Jc F7 Rk Q8,PySem.W.mg_of X G a7,k7,i7⟩;have Rp:d7 l.prog w K mg base 2 "times" ["one", "other"] kC:=⟨f8,_,GF F8 Q8,PySem.W.mg_of X G a8,k8,i8⟩;have Rf:d7 l.prog w K mg base 3 "put_before" ["found", "order", "poly"] cF:=⟨f9,_,rz F9 Rl,PySem.W.mg_of X G a9,k9,i9⟩;have Rq:d7 l.prog w K mg base 1 "as_sum" ["found"] jb:=⟨f10,_,Ck F10 Q2,PySem.W.mg_of X G a10,k10,i10⟩;have Q6:MT l.prog w K mg base 4 "by_exchange" ["one", "k"] bG:=⟨f11,_,qF F11 Q0 h_AT_A_FALL Rf Rm Ro Rp Rq,PySem.W.mg_of X G a11,k11,i11⟩;have RO:d7 l.prog w K mg base 1 "_law_bag" ["_law_script", "_law_at"] gC:=⟨f12,_,xO F12 QX,PySem.W.mg_of X G a12,k12,i12⟩;have QZ:d7 l.prog w K mg base 1 "_law_digit" ["_law_bag_here", "_law_many"] aP:=⟨f13,_,ue F13,PySem.W.mg_of X G a13,k13,i13⟩;have Rr:d7 l.prog w K mg base 2 "_law_signed" ["_law_bag_here"] dD:=⟨f14,_,rm F14 QW QZ,PySem.W.mg_of X G a14,k14,i14⟩;have Ru:d7 l.prog w K mg base 3 "_law_poly" ["_law_bag_here", "_law_most", "_law_far"] fG:=⟨f15,_,wo F15 QW QZ Rr,PySem.W.mg_of X G a15,k15,i15⟩;have Q9:d7 l.prog w K mg base 1 "_law_own_poly" ["_law_held"] bX:=⟨f16,_,oE F16 Q2,PySem.W.mg_of X G a16,k16,i16⟩;have Rw:d7 l.prog w K mg base 2 "_law_own_plus" ["_law_one", "_law_other"] cL:=⟨f17,_,oH F17 Q9,PySem.W.mg_of X G a17,k17,i17⟩;have Rb:d7 l.prog w K mg base 2 "_law_own_times" ["_law_one", "_law_other"] bO:=⟨f18,_,nB F18 Q9,PySem.W.mg_of X G a18,k18,i18⟩;have Rt:d7 l.prog w K mg base 2 "_law_order" ["_law_bag_here", "_law_n"] eo:=⟨f19,_,um F19 Q0 QW QX Q3 QZ,PySem.W.mg_of X G a19,k19,i19⟩;have RP:d7 l.prog w K mg base 4 "_law_sum" ["_law_bag_here", "_law_n", "_law_most", "_law_size"] gD:=⟨f20,_,yg F20 QW Q2 QZ Rt Ru,PySem.W.mg_of X G a20,k20,i20⟩;have Rv:d7 l.prog w K mg base 1 "_law_is_poly" ["_law_found"] cX:=⟨f21,_,qg F21 QY Q0 QX Q3 Q7 Q4 Q_ QW,PySem.W.mg_of X G a21,k21,i21⟩;have RK:d7 l.prog w K mg base 2 "_law_is_sum" ["_law_found"] dH:=⟨f22,_,qV F22 QY Q0 Q3 QX Rv,PySem.W.mg_of X G a22,k22,i22⟩;have Rg:d7 l.prog w K mg base 1 "_law_copy" ["_law_some"] eg:=⟨f23,_,vH F23 Q0,PySem.W.mg_of X G a23,k23,i23⟩;have Q5:d7 l.prog w K mg base 3 "_law_own_added" ["_law_held", "_law_one", "_law_own"] bq:=⟨f24,_,nS F24 Rw,PySem.W.mg_of X G a24,k24,i24⟩;have Rc:d7 l.prog w K mg base 1 "_law_own_sum" ["_law_held"] b6:=⟨f25,_,pS F25 Q2,PySem.W.mg_of X G a25,k25,i25⟩;have RJ:d7 l.prog w K mg base 4 "_law_own_exchange" ["_law_some", "_law_k"] bS:=⟨f26,_,kM F26 Q5 Rb Rc,PySem.W.mg_of X G a26,k26,i26⟩;have RI:KL l.prog w K mg base 1 "_law_is" ["_law_e", "_law_due"] iU:=⟨f27,_,Bx F27 QV Rx Ry Rz RA RB RC RE RG k_NoWord_TooMany k_NoWord_NoPair k_NoWord_NoNumber k_NoWord_NoWord k_NoWord_NoName k_NoWord_NoRow k_NoWord_NoText k_NoWord_NoTables QY RH,PySem.W.mg_of X G a27,k27,i27⟩;have RU:d7 l.prog w K mg base 5 "_law_refused" ["_law_some", "_law_k"] cW:=⟨f28,_,qq F28 u0 u1 QV Q6 RI,PySem.W.mg_of X G a28,k28,i28⟩;have RL:d7 l.prog w K mg base 1 "_law_apart" ["_law_found"] eB:=⟨f29,_,uC F29 QW QX Q_,PySem.W.mg_of X G a29,k29,i29⟩;have RQ:d7 l.prog w K mg base 5 "_law_right" ["_law_some", "_law_k"] eL:=⟨f30,_,tu F30 QW RJ Rg Q6 RK RL Q5 Rb Rc,PySem.W.mg_of X G a30,k30,i30⟩;exact Mx F31 QW RM RN QX Q4 RO QZ RP RQ RU
theorem walk {l:PySem.W.OpenLaw}{q:Program}{loose:List Str}{XP:(Str->Option Value)->Heap->Prop}{YP:World->Heap->Prop}{d:DefRec}{K:Params->PySem.W.Frag}(hn:l.most=some 63)(hdf:d.params.defaults=[])
  (hY:∀ (w:World) (h:Heap),YP w h->(K w.params).In h)
  (F:∀ (w:World) (mg:Str->Option Value) (fa:Addr) (h:Heap),(K w.params).In h->h.Ns mainGlobals mg->mg d.name=some (.ref fa) ->
   ∃ fd:FuncData,(∀ (s:Shared) (u:Value),BindsTo s fd ⟨[u],[]⟩ [("_law_script",u)])/\∀ base:Heap,(K w.params).In base->base.Ns mainGlobals mg->FnOk l.prog w (K w.params) mg base iS 6 fa fd ["_law_script"] (jH (K w.params) 1 sH)) :
  PySem.W.WalkO q loose XP YP l.row.toRowW d [] (λ f vs=>PySem.call f vs):=
 L2.HA (n:=63) (k:=6) (x := "_law_script") (CX:=λ _=>iS) (sp:=λ w=>jH (K w.params) 1 sH) hn (by decide) hdf ⟨rfl,by decide,by decide⟩ hY F (λ _ H a ns hl hO hS=>BV hO hS (Ls ns hl)) λ _ _ _ _ _ z=>z
end K27
open PySem PySem.W PyProof.Rows
namespace PySem.W.Fast
theorem tw7311101467357954903:True:=trivial
theorem tw18382106714666241352:True:=trivial
theorem tw6703962876143534766:True:=trivial
theorem tw17935681723191906014:True:=trivial
theorem tw6236989627468574598:True:=trivial
theorem tw17198710863624032740:True:=trivial
theorem tw12366244427530497059:True:=trivial
theorem tw8153231446811438232:True:=trivial
theorem tw8401414220733852174:True:=trivial
theorem tw9995862793775655476:True:=trivial
theorem tw13738862418478843776:True:=trivial
theorem tw16664513422257576989:True:=trivial
theorem tw16191515782707856336:True:=trivial
theorem tw7375407741006674442:True:=trivial
theorem tw11934715289972342578:True:=trivial
theorem tw3923592140818704994:True:=trivial
theorem tw9470686993231628657:True:=trivial
theorem tw8758564377929371734:True:=trivial
theorem tw4649528757922380189:True:=trivial
theorem tw18337025439756723013:True:=trivial
theorem tw16654850805070144751:True:=trivial
theorem tw15753332000740058904:True:=trivial
theorem tw4617998662527946533:True:=trivial
theorem tw7450822156490927021:True:=trivial
theorem tw3221830838321620471:True:=trivial
theorem tw16851929246687390176:True:=trivial
theorem tw3533422422284332023:True:=trivial
theorem tw10899290926765370391:True:=trivial
theorem tw16616141572707132097:True:=trivial
theorem tw7935775539254065258:True:=trivial
theorem tw4090921576178212137:True:=trivial
theorem tw16958841929058653120:True:=trivial
theorem tw3179644212916073658:True:=trivial
theorem tw6044828083670199548:True:=trivial
theorem tw12772853095163487967:True:=trivial
theorem tw14304373570650919039:True:=trivial
theorem tw3489734125206166102:True:=trivial
theorem tw7695390703385397535:True:=trivial
theorem tw2360601125500413541:True:=trivial
theorem tw5841551601399214204:True:=trivial
theorem tw13150874997290942492:True:=trivial
theorem tw6895971705841053219:True:=trivial
theorem tw16163560260194170989:True:=trivial
theorem tw11698090221748654321:True:=trivial
theorem tw4418920758825878379:True:=trivial
theorem tw9401072761696443759:True:=trivial
theorem tw12467694912688224475:True:=trivial
theorem tw3263404689387247681:True:=trivial
theorem tw9143084404690353465:True:=trivial
theorem tw1859664570701851707:True:=trivial
theorem tw9379561585251670078:True:=trivial
theorem tw5171652571841199032:True:=trivial
theorem tw11653811758636136859:True:=trivial
theorem tw15048778803349226786:True:=trivial
theorem tw1702083858085741809:True:=trivial
theorem tw16012475488757646094:True:=trivial
theorem tw8618159388393807194:True:=trivial
theorem tw11929842796486603013:True:=trivial
theorem tw4960665552930868718:True:=trivial
theorem tw13649543616944437068:True:=trivial
end PySem.W.Fast
set_option maxRecDepth 100000 in
set_option maxHeartbeats 0 in
theorem PySem.Challenge.cw_undercells_k27_by_exchange_holds : PySem.Challenge.rw_undercells_k27_by_exchange.Holds := by
 w_on;o_law;k_head;(case hw=>w_witness2)
 k_fill
 refine K27.walk (l:=PySem.Challenge.rw_undercells_k27_by_exchange) rfl rfl (fun w h Y=>PySem.W.kIn_of Y) ?F
 case F=>
  intro w mg fa h KX G hmg;refine' K27.all_mk KX G hmg ?a1 ?l1 ?c1 ?k1 ?a2 ?l2 ?c2 ?k2 ?a3 ?l3 ?c3 ?k3 ?a4 ?l4 ?c4 ?k4 ?a5 ?l5 ?c5 ?k5 ?a6 ?l6 ?c6 ?k6 ?a7 ?l7 ?c7 ?k7 ?a8 ?l8 ?c8 ?k8 ?a9 ?l9 ?c9 ?k9 ?a10 ?l10 ?c10 ?k10 ?a11 ?l11 ?c11 ?k11 ?a12 ?l12 ?c12 ?k12 ?a13 ?l13 ?c13 ?k13 ?a14 ?l14 ?c14 ?k14 ?a15 ?l15 ?c15 ?k15 ?a16 ?l16 ?c16 ?k16 ?a17 ?l17 ?c17 ?k17 ?a18 ?l18 ?c18 ?k18 ?a19 ?l19 ?c19 ?k19 ?a20 ?l20 ?c20 ?k20 ?a21 ?l21 ?c21 ?k21 ?a22 ?l22 ?c22 ?k22 ?a23 ?l23 ?c23 ?k23 ?a24 ?l24 ?c24 ?k24 ?a25 ?l25 ?c25 ?k25 ?a26 ?l26 ?c26 ?k26 ?a27 ?l27 ?c27 ?k27 ?a28 ?l28 ?c28 ?k28 ?a29 ?l29 ?c29 ?k29 ?a30 ?l30 ?c30 ?k30 ?a31 ?l31 ?c31 ?k31 ?z_isinstance ?z_bool ?z_int ?z_list ?z_tuple ?z_len ?z_range ?z_sorted ?z_dict ?z_all ?z_ValueError ?z_max ?z_min ?y_AT_A_FALL ?kp_AT_A_FALL ?u0 ?u1 ?n_NoWord ?n_TooMany ?n_NoPair ?n_NoNumber ?n_NoName ?n_NoRow ?n_NoText ?n_NoTables ?q_NoWord ?r_NoWord ?xa_NoWord ?xb_NoWord ?xc_NoWord ?xd_NoWord ?xf_NoWord ?cl_NoWord ?v_NoWord ?k_NoWord_TooMany ?k_NoWord_NoPair ?k_NoWord_NoNumber ?k_NoWord_NoWord ?k_NoWord_NoName ?k_NoWord_NoRow ?k_NoWord_NoText ?k_NoWord_NoTables
  (case a1=>k_is)
  (case l1=>k_is)
  (case c1=>k_is)
  (case k1=>k_is)
  (case a2=>k_is)
  (case l2=>k_is)
  (case c2=>k_is)
  (case k2=>k_is)
  (case a3=>k_is)
  (case l3=>k_is)
  (case c3=>k_is)
  (case k3=>k_is)
  (case a4=>k_is)
  (case l4=>k_is)
  (case c4=>k_is)
  (case k4=>k_is)
  (case a5=>k_is)
  (case l5=>k_is)
  (case c5=>k_is)
  (case k5=>k_is)
  (case a6=>k_is)
  (case l6=>k_is)
  (case c6=>k_is)
  (case k6=>k_is)
  (case a7=>k_is)
  (case l7=>k_is)
  (case c7=>k_is)
  (case k7=>k_is)
  (case a8=>k_is)
  (case l8=>k_is)
  (case c8=>k_is)
  (case k8=>k_is)
  (case a9=>k_is)
  (case l9=>k_is)
  (case c9=>k_is)
  (case k9=>k_is)
  (case a10=>k_is)
  (case l10=>k_is)
  (case c10=>k_is)
  (case k10=>k_is)
  (case a11=>k_is)
  (case l11=>k_is)
  (case c11=>k_is)
  (case k11=>k_is)
  (case a12=>k_is)
  (case l12=>k_is)
  (case c12=>k_is)
  (case k12=>k_is)
  (case a13=>k_is)
  (case l13=>k_is)
  (case c13=>k_is)
  (case k13=>k_is)
  (case a14=>k_is)
  (case l14=>k_is)
  (case c14=>k_is)
  (case k14=>k_is)
  (case a15=>k_is)
  (case l15=>k_is)
  (case c15=>k_is)
  (case k15=>k_is)
  (case a16=>k_is)
  (case l16=>k_is)
  (case c16=>k_is)
  (case k16=>k_is)
  (case a17=>k_is)
  (case l17=>k_is)
  (case c17=>k_is)
  (case k17=>k_is)
  (case a18=>k_is)
  (case l18=>k_is)
  (case c18=>k_is)
  (case k18=>k_is)
  (case a19=>k_is)
  (case l19=>k_is)
  (case c19=>k_is)
  (case k19=>k_is)
  (case a20=>k_is)
  (case l20=>k_is)
  (case c20=>k_is)
  (case k20=>k_is)
  (case a21=>k_is)
  (case l21=>k_is)
  (case c21=>k_is)
  (case k21=>k_is)
  (case a22=>k_is)
  (case l22=>k_is)
  (case c22=>k_is)
  (case k22=>k_is)
  (case a23=>k_is)
  (case l23=>k_is)
  (case c23=>k_is)
  (case k23=>k_is)
  (case a24=>k_is)
  (case l24=>k_is)
  (case c24=>k_is)
  (case k24=>k_is)
  (case a25=>k_is)
  (case l25=>k_is)
  (case c25=>k_is)
  (case k25=>k_is)
  (case a26=>k_is)
  (case l26=>k_is)
  (case c26=>k_is)
  (case k26=>k_is)
  (case a27=>k_is)
  (case l27=>k_is)
  (case c27=>k_is)
  (case k27=>k_is)
  (case a28=>k_is)
  (case l28=>k_is)
  (case c28=>k_is)
  (case k28=>k_is)
  (case a29=>k_is)
  (case l29=>k_is)
  (case c29=>k_is)
  (case k29=>k_is)
  (case a30=>k_is)
  (case l30=>k_is)
  (case c30=>k_is)
  (case k30=>k_is)
  (case a31=>k_is)
  (case l31=>k_is)
  (case c31=>k_is)
  (case k31=>k_is)
  (case z_isinstance=>k_is)
  (case z_bool=>k_is)
  (case z_int=>k_is)
  (case z_list=>k_is)
  (case z_tuple=>k_is)
  (case z_len=>k_is)
  (case z_range=>k_is)
  (case z_sorted=>k_is)
  (case z_dict=>k_is)
  (case z_all=>k_is)
  (case z_ValueError=>k_is)
  (case z_max=>k_is)
  (case z_min=>k_is)
  (case y_AT_A_FALL=>k_is)
  (case u0=>k_is)
  (case n_NoWord=>k_is)
  (case n_TooMany=>k_is)
  (case n_NoPair=>k_is)
  (case n_NoNumber=>k_is)
  (case n_NoName=>k_is)
  (case n_NoRow=>k_is)
  (case n_NoText=>k_is)
  (case n_NoTables=>k_is)
  (case u1=>kernel_rfl)
  (case q_NoWord=>kernel_rfl)
  (case r_NoWord=>kernel_rfl)
  (case xa_NoWord=>kernel_rfl)
  (case xb_NoWord=>kernel_rfl)
  (case xc_NoWord=>kernel_rfl)
  (case xd_NoWord=>kernel_rfl)
  (case xf_NoWord=>kernel_rfl)
  (case cl_NoWord=>kernel_rfl)
  (case v_NoWord=>kernel_rfl)
  (case k_NoWord_TooMany=>kernel_rfl)
  (case k_NoWord_NoPair=>kernel_rfl)
  (case k_NoWord_NoNumber=>kernel_rfl)
  (case k_NoWord_NoWord=>kernel_rfl)
  (case k_NoWord_NoName=>kernel_rfl)
  (case k_NoWord_NoRow=>kernel_rfl)
  (case k_NoWord_NoText=>kernel_rfl)
  (case k_NoWord_NoTables=>kernel_rfl)
  (case kp_AT_A_FALL=>kernel_rfl)
