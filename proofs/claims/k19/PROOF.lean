import PyProof.Rows.All
import Wide.All
import OpenK.AllK
import Wide.FinOn
import Lean
import PyProof.EqAt
import PyProof.EqKinds
import PyProof.TupleCall
import PySem.Challenge.RW_undercells_k19_between_two_near_ones
set_option Elab.async false
set_option linter.all false
set_option maxRecDepth 100000
set_option maxHeartbeats 4000000
theorem anI{a b:Prop}(h:a)(k:b):a/\b:=⟨h,k⟩
open Array (getElem?_toList length_toList size_map size_zip)
open Bool (and_eq_true false_eq_true)
open PySem.Heap (get?_push_ne get?_push_of_some get?_push_size lt_size size_push size_update)
open Int (emod_lt_of_pos emod_nonneg lt_or_gt_of_ne toNat_natCast)
open List (all_eq_true all_map any_cons append_nil countP_cons drop_eq_getElem_cons drop_zero filterMap_map filter_append filter_cons filter_eq_nil_iff filter_map filter_sublist find?_cons flatMap_append flatMap_cons flatMap_map flatten_cons foldl_cons forIn_cons forIn_nil forall_mem_cons getD_eq_getElem?_getD getElem?_append_left getElem?_drop getElem?_of_mem getElem?_range getElem?_replicate getElem?_set_ne getElem?_set_self getElem?_take_of_lt getElem?_toArray getElem_inj getElem_map getElem_mem getElem_range length_append length_cons length_drop length_eq_zero_iff length_filter_le length_map length_nil length_pos_iff length_range length_set length_take lookup_cons map_append map_congr_left map_cons map_drop map_id' map_nil map_replicate map_set map_take mem_append mem_append_left mem_append_right mem_cons mem_cons_of_mem mem_cons_self mem_filter mem_flatMap mem_map mem_of_getElem? mem_of_mem_drop mem_of_mem_take mem_range mem_singleton nodup_append nodup_cons nodup_nil not_mem_nil of_mem_zip pairwise_append pairwise_cons pairwise_iff_getElem pairwise_map pairwise_singleton prefix_append prefix_refl range'_succ range_eq_range' replicate_succ reverse_cons set_append_right size_toArray sum_cons take_append take_append_drop take_length take_of_length_le take_succ take_zero zipIdx_cons)
open Nat (add_assoc le_of_lt lt_irrefl lt_of_lt_of_le lt_succ_of_lt lt_succ_self mul_comm ne_of_gt ne_of_lt not_lt_zero sub_self succ_pos zero_add zero_le)
open Option (bind_eq_some_iff bind_some getD_none getD_some isSome_iff_exists isSome_map map_eq_some_iff map_some)
namespace L2
open PySem PySem.Spec PyProof.Rows
noncomputable abbrev Key:=Sum Int Str
noncomputable def qQ:Key->Value->Bool
 | .inl k,v=>Value.isInt k v
 | .inr x,v=>Value.isStrOf x v
noncomputable def Of (w:World):Key->Int
 | .inl k=>hashInt k
 | .inr x=>hashStr w x
theorem cE:∀ {k:Key} {v:Value},qQ k v=true->(∃ i t,k=Sum.inl i/\v=Value.int i t)\/(∃ x t,k=Sum.inr x/\v=Value.str x t)
 | .inl i,v,h=>by
  obtain ⟨t,e⟩:=Value.isInt_shape (k:=i) (v:=v) h;exact .inl ⟨i,t,rfl,e⟩
 | .inr x,v,h=>by
  obtain ⟨t,e⟩:=Value.isStrOf_shape (x:=x) (v:=v) h;exact .inr ⟨x,t,rfl,e⟩
theorem AZ (i:Int)(t:Tok):qQ (.inl i) (.int i t)=true:=by simp [qQ,Value.isInt]
theorem Bs (x:Str)(t:Tok):qQ (.inr x) (.str x t)=true:=by simp [qQ,Value.isStrOf]
theorem KQ (a b:Int):decide ((Sum.inl a:Key)=Sum.inl b)=(a == b):=by
 by_cases e:a=b
 ·subst e;simp
 ·have h:¬ (Sum.inl a:Key)=Sum.inl b:=λ q=>e (Sum.inl.inj q);rw [decide_eq_false h];exact (beq_eq_false_iff_ne.mpr e).symm
theorem LJ (a b:Str):decide ((Sum.inr a:Key)=Sum.inr b)=decide (a=b):=by
 by_cases e:a=b
 ·subst e;simp
 ·have h:¬ (Sum.inr a:Key)=Sum.inr b:=λ q=>e (Sum.inr.inj q);rw [decide_eq_false h,decide_eq_false e]
theorem Jj (a:Int)(b:Str):decide ((Sum.inl a:Key)=Sum.inr b)=false:=decide_eq_false (λ q=>nomatch q)
theorem LO (a:Str)(b:Int):decide ((Sum.inr a:Key)=Sum.inl b)=false:=decide_eq_false (λ q=>nomatch q)
noncomputable def cH (prog:Program)(w:World):PySem.KeyKind prog w Key where
 is:=qQ
 hash:=Of w
 inj:=λ v a b ha hb=>by
  rcases cE ha with ⟨i,t,rfl,rfl⟩ | ⟨x,t,rfl,rfl⟩
  ·rcases cE hb with ⟨j,u,rfl,e⟩ | ⟨y,u,rfl,e⟩
   ·injection e with e1 _;rw [e1]
   ·exact nomatch e
  ·rcases cE hb with ⟨j,u,rfl,e⟩ | ⟨y,u,rfl,e⟩
   ·exact nomatch e
   ·injection e with e1 _;rw [e1]
 byValue:=λ k v h=>by
  rcases cE h with ⟨i,t,rfl,rfl⟩ | ⟨x,t,rfl,rfl⟩ <;> rfl
 pyHash:=λ hv h=>by
  rcases cE hv with ⟨i,t,rfl,rfl⟩ | ⟨x,t,rfl,rfl⟩
  ·exact wpAny_pyHash_int h
  ·exact wpAny_pyHash_str h
 eqBool:=λ hu hv h=>by
  rcases cE hu with ⟨i,t,rfl,rfl⟩ | ⟨x,t,rfl,rfl⟩
  ·rcases cE hv with ⟨j,u,rfl,rfl⟩ | ⟨y,u,rfl,rfl⟩
   ·rw [KQ] at h;exact wpAny_eqBool_int h
   ·rw [Jj] at h;exact SeqAt.EqAt.int_str i t y u _ _ _ _ h
  ·rcases cE hv with ⟨j,u,rfl,rfl⟩ | ⟨y,u,rfl,rfl⟩
   ·rw [LO] at h;exact SeqAt.EqAt.str_int x t j u _ _ _ _ h
   ·rw [LJ] at h;exact wpAny_eqBool_str h
 «strs»:=λ k x t v h=>by
  rcases cE h with ⟨i,u,rfl,e⟩ | ⟨y,u,rfl,e⟩
  ·exact nomatch e
  ·injection e with e1 _
   subst e1
   cases v <;> rfl
theorem uH (prog:Program)(w:World)(i:Int)(t:Tok):(cH prog w).is (.inl i) (.int i t)=true:=AZ i t
theorem uD (prog:Program)(w:World)(x:Str)(t:Tok):(cH prog w).is (.inr x) (.str x t)=true:=Bs x t
inductive V where
 | non | bl (b:Bool) | int (i:Int) | str (x:Str) | byt (b:Array UInt8) | flt (b:UInt64) | ref (a:Addr) | ty (n:String)
 deriving DecidableEq
noncomputable def RelV:V->Value->Prop
 | .non,u=>u=Value.none
 | .bl b,u=>u=Value.bool b
 | .int i,u=>∃ t,u=Value.int i t
 | .str x,u=>∃ t,u=Value.str x t
 | .byt b,u=>∃ t,u=Value.bytes b t
 | .flt b,u=>∃ t,u=Value.float b t
 | .ref a,u=>u=Value.ref a
 | .ty n,u=>u=Value.type n
noncomputable abbrev Vals:List V->List Value->Prop:=Paired RelV
theorem Vals.length {xs:List V}{us:List Value}(r:Vals xs us):xs.length=us.length:=Paired.length r
theorem Vals.get:∀ {xs:List V} {us:List Value} {i:Nat} {x:V},Vals xs us->xs[i]?=some x->∃ u,us[i]?=some u/\RelV x u
 | _,_,_,_,.nil,e=>by simp at e
 | _,_,0,_,.cons r _,e=>by simp at e;subst e;exact ⟨_,rfl,r⟩
 | _,_,i+1,x,.cons _ t,e=>by
  obtain ⟨u,h1,h2⟩:=Vals.get (i:=i) (x:=x) t (by simpa using e);exact ⟨u,by simpa using h1,h2⟩
theorem Vals.set {x:V}{u:Value}(r:RelV x u):∀ {xs:List V} {us:List Value} (i:Nat),Vals xs us->Vals (xs.set i x) (us.set i u)
 | _,_,_,.nil=>.nil
 | _,_,0,.cons _ t=>.cons r t
 | _,_,i+1,.cons q t=>.cons q (Vals.set r i t)
theorem Vals.append:∀ {xs ys:List V} {us ws:List Value},Vals xs us->Vals ys ws->Vals (xs++ys) (us++ws)
 | _,_,_,_,.nil,s=>s
 | _,_,_,_,.cons r t,s=>.cons r (Vals.append t s)
theorem Vals.take:∀ {xs:List V} {us:List Value} (n:Nat),Vals xs us->Vals (xs.take n) (us.take n)
 | _,_,0,_=>.nil
 | _,_,_+1,.nil=>.nil
 | _,_,n+1,.cons r t=>.cons r (Vals.take n t)
theorem Vals.drop:∀ {xs:List V} {us:List Value} (n:Nat),Vals xs us->Vals (xs.drop n) (us.drop n)
 | _,_,0,r=>r
 | _,_,_+1,.nil=>.nil
 | _,_,n+1,.cons _ t=>Vals.drop n t
noncomputable def qu:Option V->Option Value->Prop
 | some v,some u=>RelV v u
 | none,none=>True
 | _,_=>False
noncomputable def KV {κ:Type}:List (κ×V)->List (κ×Value)->Prop:=Paired λ (p:κ×V) (q:κ×Value)=>p.1=q.1/\RelV p.2 q.2
noncomputable def kV:Key->V
 | .inl i=>.int i
 | .inr x=>.str x
inductive HO where
 | lst (xs:List V)
 | tup (xs:List V)
 | dK (kvs:List (Key×V)) | dT (kvs:List (List Key×V))
 | set (S:Int->Bool) (n:Nat)
 | ins (C dx:Addr) (fs:List (Str×V))
 | own (x:Addr)
 | xd (fs:List (Str×V))
 | met (f x:Addr)
 | rng (lo hi:Int)
 | frz (o:Obj) (u:HO)
 | tbl (ps:Array Value)
 | ext (φ:Heap->Prop)
noncomputable abbrev Hp:=Addr->Option HO
noncomputable def upd (H:Hp)(a:Addr)(o:HO):Hp:=λ b=>if b=a then some o else H b
theorem bF {H:Hp}{a:Addr}{o:HO}:upd H a o a=some o:=by unfold upd;rw [if_pos rfl]
theorem aN {H:Hp}{a b:Addr}{o:HO}(h:b≠a):upd H a o b=H b:=by unfold upd;rw [if_neg h]
theorem Ae {H:Hp}{a b:Addr}{o u:HO}(h:H a=some o)(h':H b=some u)(d:o≠u):a≠b:=by
 intro e;subst e;rw [h] at h';exact d (Option.some.inj h')
theorem aW {H:Hp}{a b:Addr}{o:HO}(h:H a=some o)(h':H b=none):a≠b:=by
 intro e;subst e;rw [h] at h';cases h'
noncomputable def fC (h:Heap)(a:Addr)(items:Array Value):Prop:=∃ o,h.get? a=some o/\o.cls=.type "tuple" /\ o.dict=none/\∃ n,o.data=.seq items n
theorem fC.tup {h:Heap}{a:Addr}{items:Array Value}:fC h a items->IsTup h a items:=λ ⟨o,e,c,_,n,d⟩=>⟨o,e,c,n,d⟩
theorem fC.new (h:Heap)(items:Array Value):fC (h.push { cls:=.type "tuple",data:=.seq items }) h.objs.size items:=⟨_,get?_push_size _ rfl,rfl,rfl,_,rfl⟩
theorem fC.lt {h:Heap}{a:Addr}{items:Array Value}(x:fC h a items):a < h.objs.size:=let ⟨_,ho,_⟩:=x;lt_size ho
section
variable (P:Program) (w:World)
noncomputable def b_ (H:Hp)(h:Heap)(a:Addr):HO->Prop
 | .lst xs=>xs.length<=sizeLine/\∃ (its:List Value) (n:Nat),Vals xs its/\h.get? a=some { cls:=.type "list",data:=.seq its.toArray n }
 | .tup xs=>xs.length<=sizeLine/\∃ its:List Value,Vals xs its/\fC h a its.toArray
 | .dK kvs=>kvs.length<=sizeLine/\(a == sysModules)=false/\∃ vs,KV kvs vs/\h.DictOf (cH P w) a vs
 | .dT kvs=>kvs.length<=sizeLine/\(a == sysModules)=false/\∃ xs:List (List Key×Addr×Value),
   Paired (λ (p:List Key×V) (q:List Key×Addr×Value)=>p.1=q.1/\H q.2.1=some (.tup (p.1.map kV))/\RelV p.2 q.2.2) kvs xs /\
   ∃ o es ep,h.get? a=some o/\o.ExactDict/\o.data=.dict es ep/\es.toList=xs.map (entryOfKey (tupleKind (cH P w)))/\(xs.map (·.1)).Nodup
 | .set S n=>h.SetOf (intKind P w) a S n
 | .ins C dx fs=>H dx=some (.own a)/\fs.length<=1000/\dx≠a/\h.get? a=some (PySem.W.instObj C dx) /\
   ∃ mA,h.Ns1 dx mA/\(∀ f,qu (fs.lookup f) (mA f))/\PySem.Within mA (fs.map (·.1))
 | .own _=>∃ o,h.get? a=some o
 | .xd fs=>∃ mA,h.Ns1 a mA/\∀ f,qu (fs.lookup f) (mA f)
 | .rng lo hi=>∃ t u v,h.get? a=some { cls:=.type "range",data:=.fields #[.int lo t,.int hi u,.int 1 v] }
 | .frz o u=>h.get? a=some o/\b_ H h a u
 | .tbl ps=>h.get? a=some { cls:=.none,data:=.fields ps }
 | .met f x=>h.get? a=some (PySem.W.methodObj (.ref f) (.ref x))
 | .ext φ=>φ h/\(∃ o,h.get? a=some o)/\∀ h1 h2:Heap,φ h1->(∀ o,h1.get? a=some o->h2.get? a=some o)->φ h2
noncomputable def lE (H:Hp)(h:Heap):Prop:=∀ a o,H a=some o->b_ P w H h a o
end
section
variable {P:Program} {w:World} {H H':Hp} {h h':Heap} {a:Addr} {o:HO}
theorem b_.lt (x:b_ P w H h a o):a < h.objs.size:=by
 cases o with
 | lst xs=>obtain ⟨_,_,_,_,e⟩:=x;exact lt_size e
 | tup xs=>obtain ⟨_,_,_,p⟩:=x;exact fC.lt p
 | dK kvs=>obtain ⟨_,_,_,_,o,_,_,e,_⟩:=x;exact lt_size e
 | dT kvs=>obtain ⟨_,_,_,_,o,_,_,e,_⟩:=x;exact lt_size e
 | set S n=>obtain ⟨o,_,_,_,e,_⟩:=x;exact lt_size e
 | ins C dx fs=>obtain ⟨_,_,_,e,_⟩:=x;exact lt_size e
 | own y=>obtain ⟨_,e⟩:=x;exact lt_size e
 | xd fs=>obtain ⟨_,⟨_,_,_,e,_⟩,_⟩:=x;exact lt_size e
 | rng lo hi=>obtain ⟨_,_,_,e⟩:=x;exact lt_size e
 | frz ob u=>obtain ⟨e,_⟩:=x;exact lt_size e
 | tbl ps=>exact lt_size (show h.get? a=some _ from x)
 | met f y=>exact lt_size (show h.get? a=some _ from x)
 | ext φ=>obtain ⟨_,⟨_,e⟩,_⟩:=x;exact lt_size e
theorem Paired.J_ {α β:Type}{F G:α->β->Prop}:∀ {l₁:List α} {l₂:List β},Paired F l₁ l₂->(∀ a b,F a b->G a b)->Paired G l₁ l₂
 | _,_,.nil,_=>.nil
 | _,_,.cons r t,f=>.cons (f _ _ r) (Paired.J_ t f)
theorem b_.stay (x:b_ P w H h a o)(k:∀ b u,(b=a\/H b=some (.own a))->h.get? b=some u->h'.get? b=some u)
  (ho:∀ b,H b=some (.own a)->H' b=some (.own a)) (ht:∀ b xs,H b=some (.tup xs)->H' b=some (.tup xs)):b_ P w H' h' a o:=by
 induction o with
 | lst xs=>obtain ⟨z,its,n,r,e⟩:=x;exact ⟨z,its,n,r,k _ _ (.inl rfl) e⟩
 | tup xs=>obtain ⟨z,its,r,ob,e,c⟩:=x;exact ⟨z,its,r,ob,k _ _ (.inl rfl) e,c⟩
 | dK kvs=>obtain ⟨z,y,vs,r,ob,es,ep,e,c⟩:=x;exact ⟨z,y,vs,r,ob,es,ep,k _ _ (.inl rfl) e,c⟩
 | dT kvs=>
  obtain ⟨z,y,xs,r,ob,es,ep,e,c⟩:=x;exact ⟨z,y,xs,Paired.J_ r λ p q z=>⟨z.1,ht _ _ z.2.1,z.2.2⟩,ob,es,ep,k _ _ (.inl rfl) e,c⟩
 | set S n=>obtain ⟨ob,es,ep,t,e,c⟩:=x;exact ⟨ob,es,ep,t,k _ _ (.inl rfl) e,c⟩
 | ins C dx fs=>
  obtain ⟨d,z,ne,e,mA,⟨od,es,ep,e2,c⟩,r⟩:=x;exact ⟨ho _ d,z,ne,k _ _ (.inl rfl) e,mA,⟨od,es,ep,k _ _ (.inr d) e2,c⟩,r⟩
 | own y=>obtain ⟨ob,e⟩:=x;exact ⟨ob,k _ _ (.inl rfl) e⟩
 | xd fs=>obtain ⟨mA,⟨od,es,ep,e,c⟩,r⟩:=x;exact ⟨mA,⟨od,es,ep,k _ _ (.inl rfl) e,c⟩,r⟩
 | rng lo hi=>obtain ⟨t,u,v,e⟩:=x;exact ⟨t,u,v,k _ _ (.inl rfl) e⟩
 | frz ob u ih=>obtain ⟨e,q⟩:=x;exact ⟨k _ _ (.inl rfl) e,ih q⟩
 | tbl ps=>
  have e:h.get? a=some { cls:=.none,data:=.fields ps }:=x;show h'.get? a=some { cls:=.none,data:=.fields ps };exact k a _ (.inl rfl) e
 | met f y=>
  have e:h.get? a=some (PySem.W.methodObj (.ref f) (.ref y)):=x;show h'.get? a=some (PySem.W.methodObj (.ref f) (.ref y));exact k a _ (.inl rfl) e
 | ext φ=>obtain ⟨p,⟨o,e⟩,st⟩:=x;exact ⟨st _ _ p λ o q=>k _ _ (.inl rfl) q,⟨o,k _ _ (.inl rfl) e⟩,st⟩
theorem lE.lt (x:lE P w H h)(e:H a=some o):a < h.objs.size:=(x a o e).lt
theorem lE.fresh (x:lE P w H h)(e:h.objs.size<=a):H a=none:=by
 cases q:H a with
 | none=>rfl
 | some u=>exact absurd (lt_of_lt_of_le (x.lt q) e) (lt_irrefl _)
theorem lE.kept (x:lE P w H h)(k:∀ b u,h.get? b=some u->h'.get? b=some u):lE P w H h':=λ a o e=>
 (x a o e).stay (λ b u _ q=>k b u q) (λ _ q=>q) λ _ _ q=>q
theorem lE.laid (x:lE P w H h)(k:∀ b u,h.get? b=some u->h'.get? b=some u)(hp:h.objs.size<=a)(new:b_ P w (upd H a o) h' a o):lE P w (upd H a o) h':=λ b u e=>by
 have hn:=x.fresh hp;by_cases hb:b=a
 ·subst hb;rw [bF] at e;cases e;exact new
 ·rw [aN hb] at e;exact (x b u e).stay (λ c v _ q=>k c v q) (λ c q=>by rw [aN (aW q hn)];exact q) λ c xs q=>by rw [aN (aW q hn)];exact q
end
noncomputable def Rd (H:Hp)(a:Addr)(u:HO):Prop:=H a=some u\/∃ o,H a=some (.frz o u)
theorem Rd.ok {P:Program}{w:World}{H:Hp}{h:Heap}{a:Addr}{u:HO}(r:Rd H a u)(x:lE P w H h):b_ P w H h a u:=by
 rcases r with r | ⟨o,r⟩
 ·exact x a u r
 ·obtain ⟨_,q⟩:=x a _ r;exact q
noncomputable def MS:Option HO->Prop
 | some (.lst _)=>True
 | some (.dK _)=>True
 | some (.dT _)=>True
 | some (.set _ _)=>True
 | some (.ins _ _ _)=>True
 | some (.ext _)=>True
 | _=>False
section
variable {P:Program} {w:World} {H:Hp} {h h':Heap} {x e:Addr} {o':HO}
theorem lE.write (ok:lE P w H h)(mu:MS (H x))(he:e=x\/H e=some (.own x))(k:∀ b u,b≠e->h.get? b=some u->h'.get? b=some u)(heo:∃ u,h'.get? e=some u)
  (new:b_ P w (upd H x o') h' x o'):lE P w (upd H x o') h':=λ b u q=>by
 have nown:∀ c y,H c=some (.own y)->c≠x:=λ c y r z=>by subst z;rw [r] at mu;exact mu
 have ntup:∀ c xs,H c=some (.tup xs)->c≠x:=λ c xs r z=>by subst z;rw [r] at mu;exact mu
 by_cases hb:b=x
 ·subst hb;rw [bF] at q;cases q;exact new
 ·rw [aN hb] at q;by_cases hbe:b=e
  ·have q':H b=some (.own x):=by
    rcases he with z | z
    ·exact absurd (hbe.trans z) hb
    ·rw [hbe];exact z
   rw [q] at q';cases q';obtain ⟨v,hv⟩:=heo;exact ⟨v,by rw [hbe];exact hv⟩
  ·refine (ok b u q).stay (λ c v hc r=>k c v ?_ r) (λ c r=>by rw [aN (nown c b r)];exact r) λ c xs r=>by rw [aN (ntup c xs r)];exact r
   rcases hc with rfl | hc
   ·exact hbe
   ·rintro rfl
    rcases he with z | z
    ·exact nown c b hc z
    ·rw [hc] at z;cases z;exact hb rfl
end
structure Un (fs ex:List Addr)(H H':Hp)(h h':Heap):Prop where
 keep:∀ b o,h.get? b=some o->H b=none->b∉fs->b∉ex->h'.get? b=some o
 slot:∀ b o,h.get? b=some o->H b=none->b∈fs->b∉ex->∃ sl,h'.get? b=some { o with slots:=sl }
 free:∀ b o,h.get? b=some o->H b=none->b∉ex->H' b=none
 there:∀ b o,h.get? b=some o->b∉ex->∃ o',h'.get? b=some o'
 tups:∀ b xs,H b=some (.tup xs)->H' b=some (.tup xs)
 frzs:∀ b o u,H b=some (.frz o u)->H' b=some (.frz o u)
 tbls:∀ b ps,H b=some (.tbl ps)->∃ more,H' b=some (.tbl (ps++more))
section
variable {fs fs' ex ex':List Addr} {H H1 H2:Hp} {h h1 h2 h':Heap} {a x e:Addr} {o:HO}
theorem Un.any (u:Un fs ex H H1 h h1){b:Addr}{ob:Obj}(q:h.get? b=some ob)(n:H b=none)(hx:b∉ex):∃ sl,h1.get? b=some { ob with slots:=sl }:=by
 by_cases hb:b∈fs
 ·exact u.slot b ob q n hb hx
 ·exact ⟨ob.slots,u.keep b ob q n hb hx⟩
theorem Un.kept (k:∀ b u,h.get? b=some u->h'.get? b=some u):Un fs ex H H h h':=
 ⟨λ b ob q _ _ _=>k b ob q,λ b ob q _ _ _=>⟨ob.slots,k b ob q⟩,λ _ _ _ n _=>n,λ b ob q _=>⟨ob,k b ob q⟩,λ _ _ q=>q,λ _ _ _ q=>q,λ _ ps q=>⟨#[],by rw [q];simp⟩⟩
theorem Un.refl:Un fs ex H H h h:=Un.kept λ _ _ q=>q
theorem Un.laid (k:∀ b u,h.get? b=some u->h'.get? b=some u)(hp:h.objs.size<=a)(hn:H a=none):Un fs ex H (upd H a o) h h' where
 keep:=λ b u q _ _ _=>k b u q
 slot:=λ b u q _ _ _=>⟨u.slots,k b u q⟩
 free:=λ b u q n _=>by rw [aN (ne_of_lt (lt_of_lt_of_le (lt_size q) hp))];exact n
 there:=λ b u q _=>⟨u,k b u q⟩
 tups:=λ b xs q=>by rw [aN (aW q hn)];exact q
 frzs:=λ b u xs q=>by rw [aN (aW q hn)];exact q
 tbls:=λ b ps q=>⟨#[],by rw [aN (aW q hn),q];simp⟩
theorem Un.write (mu:MS (H x))(he:e=x\/H e=some (.own x))(k:∀ b u,b≠e->h.get? b=some u->h'.get? b=some u)(heo:∃ u,h'.get? e=some u):Un fs ex H (upd H x o) h h':=by
 have hx:∀ b,H b=none->b≠x:=λ b n z=>by subst z;rw [n] at mu;exact mu
 have hb:∀ b,H b=none->b≠e:=λ b n z=>by
  subst z
  rcases he with r | r
  ·exact hx b n r
  ·rw [n] at r;cases r
 have hm:∀ b u,H b=some u->¬ MS (some u)->b≠x:=λ b u q nm z=>by subst z;rw [q] at mu;exact nm mu
 refine ⟨λ b u q n _ _=>k b u (hb b n) q,λ b u q n _ _=>⟨u.slots,k b u (hb b n) q⟩,λ b u q n _=>by rw [aN (hx b n)];exact n,λ b u q _=>?_,
  λ b xs q=>by rw [aN (hm b _ q λ z=>z)];exact q,λ b u xs q=>by rw [aN (hm b _ q λ z=>z)];exact q,λ b ps q=>⟨#[],by rw [aN (hm b _ q λ z=>z),q];simp⟩⟩
 by_cases hbe:b=e
 ·subst hbe;exact heo
 ·exact ⟨u,k b u hbe q⟩
end
noncomputable def NZ (h:Heap)(H:Hp):List Addr:=(List.range h.objs.size).filter λ a=>(H a).isSome
noncomputable def sY (h:Heap)(H:Hp):Heap:=PySem.W.hideAll h (NZ h H)
theorem AR (h:Heap)(H:Hp):(sY h H).objs.size=h.objs.size:=PySem.W.hideAll_size _ _
theorem Cm {h:Heap}{H:Hp}{b:Addr}{o:Obj}(e:h.get? b=some o)(n:H b=none):(sY h H).get? b=some o:=
 PySem.W.hideAll_get _ e λ hm=>by
  have q:(H b).isSome=true:=(mem_filter.mp hm).2;rw [n] at q;simp at q
theorem Gn {h:Heap}{H:Hp}{b:Addr}{o:Obj}(e:(sY h H).get? b=some o):h.get? b=some o/\H b=none:=by
 have e':h.get? b=some o:=PySem.W.of_hideAll (NZ h H) e;refine ⟨e',?_⟩
 cases q:H b with
 | none=>rfl
 | some x=>
  have hm:b∈NZ h H:=mem_filter.mpr ⟨mem_range.mpr (lt_size e'),by simp [q]⟩;have z:(sY h H).get? b=none:=PySem.W.hideAll_none (NZ h H) hm;rw [z] at e;cases e
noncomputable def Gb (g h:Heap)(L:Addr):List (Addr×Obj):=(List.range h.objs.size).filterMap λ a=>if a=L\/(g.get? a).isSome=true then none else (h.get? a).map λ o=>(a,o)
noncomputable def rest (g h:Heap)(L d:Addr):List (Addr×Obj):=(Gb g h L).filter λ p=>decide (p.1≠d)
structure Mod (K:PySem.W.Frag)(mg:Str->Option Value)(base:Heap):Prop where
 kin:K.In base
 glob:base.Ns mainGlobals mg
 blt:∃ mb,base.Ns builtinsNs mb/\∀ x:Str,x ≠ "__name__" -> mb x=bootBuiltins x
 nolimit:base.NoLimit
structure Cx where
 prog:Program
 w:World
 K:PySem.W.Frag
 mg:Str->Option Value
 base:Heap
 A:Around
 N:List Str
 s₀:Shared
 H₀:Hp
 env:Env
 outer:List Env
 stack:List Env
 ex:List Addr
 fn:Str->Bool
 calm:Bool
 pn:List (Addr×Obj)
 xe:Value->Shared->Prop
noncomputable def frs (l:List Env):List Addr:=l.filterMap (·.frame)
noncomputable abbrev Cx.fs (X:Cx):List Addr:=frs X.outer
noncomputable def LR (sc:Scope)(x:Str):Prop:=sc.names.lookup x=some .local\/sc.names.lookup x=some .cell\/sc.names.lookup x=some .free
noncomputable def Loc (sc:Scope)(x:Str):Prop:=sc.names.lookup x=some .local\/sc.names.lookup x=some .cell
noncomputable def Look (env:Env)(h:Heap)(m:Str->Option Value)(x:Str)(u:Value):Prop:=
 (env.kindOf x=some .local/\m x=some u)\/((env.kindOf x=some .cell\/env.kindOf x=some .free)/\∃ c,env.cells.lookup x=some c/\h.IsCell c (some u))
structure Cx.Ok (X:Cx):Prop where
 mod:Mod X.K X.mg X.base
 kind:X.env.scope.kind=.function
 glob:X.env.globals=mainGlobals
 blt:X.env.builtins=builtinsNs
 above:X.s₀.heap.objs.size<=X.env.locals
 inj:∀ x y c,X.env.cells.lookup x=some c->X.env.cells.lookup y=some c->x=y
 has:∀ x,(X.env.kindOf x=some .cell\/X.env.kindOf x=some .free)->∃ c,X.env.cells.lookup x=some c
 cab:∀ x c,X.fn x=true->X.env.cells.lookup x=some c->X.s₀.heap.objs.size<=c
 hd:X.calm=true->X.A.handled=none
 frames:X.A.frames=some X.stack
 stk:X.stack=X.outer\/(X.stack=X.env::X.outer/\X.env.frame=some X.env.locals)
 exf:∀ b∈X.ex,b≠X.env.locals/\∀ x c,X.env.cells.lookup x=some c->c≠b
 bs:∀ b o,X.base.get? b=some o->X.s₀.heap.get? b=some o/\X.H₀ b=none
 bsz:X.base.objs.size<=X.s₀.heap.objs.size
 noex:∀ b o,X.base.get? b=some o->b∉X.ex
 exfs:∀ b∈X.ex,b∉X.fs
 oV:X.s₀.heap.FunFrames X.base X.outer
 frf:∀ b∈X.fs,X.H₀ b=none
structure Inv (X:Cx)(pins:List (Addr×Obj))(σ:List (Option V))(H:Hp)(s:Shared):Prop where
 ok:X.Ok
 os:s.os=X.s₀.os
 bare:AllBare s.gens
 base:Un X.fs X.ex X.H₀ H X.s₀.heap s.heap
 loc:∃ m,s.heap.Ns X.env.locals m/\∀ (i:Nat) (x:Str) (v:V),X.N[i]?=some x->σ[i]?=some (some v)->LR X.env.scope x->∃ u,RelV v u/\Look X.env s.heap m x u
 cell:∀ x c,X.env.cells.lookup x=some c->∃ v,s.heap.IsCell c v
 free:H X.env.locals=none
 freeC:∀ x c,X.env.cells.lookup x=some c->H c=none
 pin:∀ p∈X.pn++pins,s.heap.get? p.1=some p.2/\H p.1=none/\p.1≠X.env.locals/\p.1∉X.fs/\∀ v,p.2.data≠.cell v
 hok:lE X.prog X.w H s.heap
 len:σ.length=X.N.length
section
variable {X:Cx} {pins:List (Addr×Obj)} {σ:List (Option V)} {H H':Hp} {s:Shared} {h':Heap}
theorem Cx.Ok.Pc (ok:X.Ok){b:Addr}{o:Obj}(e:X.base.get? b=some o):b∉X.fs:=λ hb=>by
 have:=(ok.oV.mem hb).1;rw [e] at this;cases this
theorem Inv.bs (I:Inv X pins σ H s):∀ b o,X.base.get? b=some o->s.heap.get? b=some o/\H b=none:=λ b o e=>
 ⟨I.base.keep b o (I.ok.bs b o e).1 (I.ok.bs b o e).2 (I.ok.Pc e) (I.ok.noex b o e),I.base.free b o (I.ok.bs b o e).1 (I.ok.bs b o e).2 (I.ok.noex b o e)⟩
theorem Inv.bk (I:Inv X pins σ H s):∀ b o,X.base.get? b=some o->s.heap.get? b=some o:=λ b o e=>(I.bs b o e).1
theorem Inv.mod (I:Inv X pins σ H s):Mod X.K X.mg X.base:=I.ok.mod
theorem Inv.tY (I:Inv X pins σ H s):X.K.In s.heap:=I.ok.mod.kin.keeps I.bk
theorem Inv.lt (I:Inv X pins σ H s):X.env.locals < s.heap.objs.size:=let ⟨_,hn,_⟩:=I.loc;hn.lt
theorem Inv.sz (I:Inv X pins σ H s):X.s₀.heap.objs.size<=s.heap.objs.size:=Nat.le_trans I.ok.above (le_of_lt I.lt)
theorem Inv.Ow (I:Inv X pins σ H s){a:Addr}(h:s.heap.objs.size<=a):a∉X.fs:=λ hb=>by
 obtain ⟨_,o,ho,_⟩:=I.ok.oV.mem hb;exact absurd (lt_of_lt_of_le (lt_size ho) (Nat.le_trans I.sz h)) (lt_irrefl _)
theorem Inv.La (I:Inv X pins σ H s):∀ x c,X.env.cells.lookup x=some c->c≠X.env.locals:=λ x c e z=>by
 obtain ⟨v,o,ho,hd⟩:=I.cell x c e;obtain ⟨m,⟨o',es,ep,ho',hd',_⟩,_⟩:=I.loc;rw [z,ho'] at ho;cases ho;rw [hd'] at hd;cases hd
theorem Inv.oV (I:Inv X pins σ H s):s.heap.FunFrames X.base X.outer:=by
 have all:∀ (l:List Env),(∀ b∈frs l,b∈X.fs)->X.s₀.heap.FunFrames X.base l->s.heap.FunFrames X.base l:=by
  intro l
  induction l with
  | nil=>intro _ _;trivial
  | cons env r ih=>
   intro hs hl;obtain ⟨hk,⟨L,o,hf,hn,ho,hd⟩,hr⟩:=hl;have hL:L∈X.fs:=hs L (by unfold frs;rw [List.filterMap_cons,hf];exact mem_cons_self);obtain ⟨sl,e⟩:=I.base.slot L o ho (I.ok.frf L hL) hL λ z=>I.ok.exfs L z hL;exact ⟨hk,⟨L,_,hf,hn,e,hd⟩,ih (λ b hb=>hs b (by unfold frs;rw [List.filterMap_cons,hf];exact mem_cons_of_mem _ hb)) hr⟩
 exact all X.outer (λ _ hb=>hb) I.ok.oV
theorem Inv.stack (I:Inv X pins σ H s):s.heap.FunFrames X.base X.stack:=by
 rcases I.ok.stk with e | ⟨e,hf⟩
 ·rw [e];exact I.oV
 ·rw [e];obtain ⟨m,hn,_⟩:=I.loc;refine .cons (by rw [I.ok.kind];decide) hf hn ?_ I.oV;exact Heap.get?_none_of_le (Nat.le_trans I.ok.bsz I.ok.above)
theorem Inv.xx (I:Inv X pins σ H s):∀ b∈frs X.stack,b∈X.env.locals::X.fs:=λ b hb=>by
 rcases I.ok.stk with e | ⟨e,hf⟩
 ·rw [e] at hb;exact mem_cons_of_mem _ hb
 ·rw [e] at hb;unfold frs at hb;rw [List.filterMap_cons,hf] at hb;exact hb
theorem Inv.yW (I:Inv X pins σ H s):∀ b∈frs X.stack,H b=none:=λ b hb=>by
 rcases mem_cons.mp (I.xx b hb) with e | hb
 ·rw [e];exact I.free
 ·obtain ⟨_,o,ho,_⟩:=I.ok.oV.mem hb;exact I.base.free b o ho (I.ok.frf b hb) λ z=>I.ok.exfs b z hb
theorem Inv.step {g':Array GenState}{t':Nat}{d':Drawn}{ch:List Addr}(I:Inv X pins σ H s)
  (hch:∀ b∈ch,(b∈X.ex\/X.s₀.heap.objs.size<=b)/\b≠X.env.locals/\(∀ x c,X.env.cells.lookup x=some c->c≠b)/\∀ p∈X.pn++pins,p.1≠b)
  (keep:∀ b o,b≠X.env.locals->b∉X.fs->b∉ch->s.heap.get? b=some o->H b=none->h'.get? b=some o)
  (slot:∀ b o,b≠X.env.locals->b∈X.fs->b∉ch->s.heap.get? b=some o->H b=none->∃ sl,h'.get? b=some { o with slots:=sl }) (free:∀ b o,b∉ch->s.heap.get? b=some o->H b=none->H' b=none)
  (there:∀ b o,b∉ch->s.heap.get? b=some o->∃ o',h'.get? b=some o')
  (tups:∀ b xs,H b=some (.tup xs)->H' b=some (.tup xs)) (frzs:∀ b o u,H b=some (.frz o u)->H' b=some (.frz o u)) (tbls:∀ b ps,H b=some (.tbl ps)->∃ more,H' b=some (.tbl (ps++more)))
  (ns:∀ m,s.heap.Ns X.env.locals m->h'.Ns X.env.locals m) (hok:lE X.prog X.w H' h') (hg:AllBare g') :
  Inv X pins σ H' { s with heap:=h',gens:=g',drawn:=d',toks:=t' }:=by
 have neL:∀ b o,X.s₀.heap.get? b=some o->b≠X.env.locals:=λ b o e=>ne_of_lt (lt_of_lt_of_le (lt_size e) I.ok.above);have neC:∀ b o,X.s₀.heap.get? b=some o->b∉X.ex->b∉ch:=λ b o e hx hb=>by
  rcases (hch b hb).1 with z | z
  ·exact hx z
  ·exact absurd (lt_of_lt_of_le (lt_size e) z) (lt_irrefl _)
 have cellK:∀ x c,X.env.cells.lookup x=some c->∀ v,s.heap.IsCell c v->h'.IsCell c v:=λ x c e v ⟨o,ho,hd⟩=>by
  have nch:c∉ch:=λ z=>(hch c z).2.2.1 x c e rfl;by_cases hc:c∈X.fs
  ·obtain ⟨sl,q⟩:=slot c o (I.La x c e) hc nch ho (I.freeC x c e);exact ⟨_,q,hd⟩
  ·exact ⟨o,keep c o (I.La x c e) hc nch ho (I.freeC x c e),hd⟩
 refine ⟨I.ok,I.os,hg,⟨λ b o e n hb hx=>?_,λ b o e n hb hx=>?_,λ b o e n hx=>?_,λ b o e hx=>?_,λ b xs e=>tups b xs (I.base.tups b xs e),λ b o xs e=>frzs b o xs (I.base.frzs b o xs e),λ b ps e=>?_⟩,?_,λ x c e=>?_,?_,λ x c e=>?_,λ p hp=>?_,hok,I.len⟩
 ·exact keep b o (neL b o e) hb (neC b o e hx) (I.base.keep b o e n hb hx) (I.base.free b o e n hx)
 ·obtain ⟨sl,e1⟩:=I.base.slot b o e n hb hx;obtain ⟨sl',e2⟩:=slot b _ (neL b o e) hb (neC b o e hx) e1 (I.base.free b o e n hx);exact ⟨sl',e2⟩
 ·obtain ⟨o',e1⟩:=I.base.there b o e hx;exact free b o' (neC b o e hx) e1 (I.base.free b o e n hx)
 ·obtain ⟨o',e1⟩:=I.base.there b o e hx;exact there b o' (neC b o e hx) e1
 ·obtain ⟨m1,e1⟩:=I.base.tbls b ps e;obtain ⟨m2,e2⟩:=tbls b _ e1;exact ⟨m1++m2,by rw [e2,Array.append_assoc]⟩
 ·obtain ⟨m,hn,hl⟩:=I.loc;refine ⟨m,ns m hn,λ i x v e1 e2 e3=>?_⟩;obtain ⟨u,r,l⟩:=hl i x v e1 e2 e3;refine ⟨u,r,?_⟩
  rcases l with l | ⟨k,c,e,z⟩
  ·exact .inl l
  ·exact .inr ⟨k,c,e,cellK x c e _ z⟩
 ·obtain ⟨v,z⟩:=I.cell x c e;exact ⟨v,cellK x c e v z⟩
 ·obtain ⟨m,⟨o,_,_,ho,_⟩,_⟩:=I.loc;exact free _ o (λ z=>(hch _ z).2.1 rfl) ho I.free
 ·obtain ⟨v,o,ho,hd⟩:=I.cell x c e;exact free c o (λ z=>(hch c z).2.2.1 x c e rfl) ho (I.freeC x c e)
 ·obtain ⟨e,n,ne,nf,d⟩:=I.pin p hp;have nch:p.1∉ch:=λ z=>(hch p.1 z).2.2.2 p hp rfl;exact ⟨keep p.1 p.2 ne nf nch e n,free p.1 p.2 nch e n,ne,nf,d⟩
theorem Inv.un {t':Nat}(I:Inv X pins σ H s)(u:Un X.fs [] H H' s.heap h')(hok:lE X.prog X.w H' h'):Inv X pins σ H' { s with heap:=h',toks:=t' }:=by
 obtain ⟨m,⟨o,es,ep,ho,r⟩,_⟩:=id I.loc;obtain ⟨sl,hL⟩:=u.any ho I.free (by simp);exact I.step (g':=s.gens) (d':=s.drawn) (ch:=[]) (λ _ z=>nomatch z) (λ b o _ hb _ e n=>u.keep b o e n hb (by simp)) (λ b o _ hb _ e n=>u.slot b o e n hb (by simp)) (λ b o _ e n=>u.free b o e n (by simp)) (λ b o _ e=>u.there b o e (by simp)) u.tups u.frzs u.tbls (λ m' hm=>by
  obtain ⟨o',es',ep',ho',r'⟩:=hm;rw [ho] at ho';cases ho';exact ⟨_,es',ep',hL,r'⟩) hok I.bare
theorem Inv.call {g':Array GenState}{t':Nat}{d':Drawn}{ch:List Addr}(I:Inv X pins σ H s)(u:Un (frs X.stack) ch H H' s.heap h')(hok:lE X.prog X.w H' h')(hg:AllBare g')
  (hch:∀ b∈ch,(b∈X.ex\/X.s₀.heap.objs.size<=b)/\b≠X.env.locals/\(∀ x c,X.env.cells.lookup x=some c->c≠b)/\∀ p∈X.pn++pins,p.1≠b) :
  Inv X pins σ H' { s with heap:=h',gens:=g',drawn:=d',toks:=t' }:=by
 obtain ⟨m,⟨o,es,ep,ho,r⟩,_⟩:=id I.loc;obtain ⟨sl,hL⟩:=u.any ho I.free λ z=>(hch _ z).2.1 rfl;exact I.step (ch:=ch) hch (λ b o hL hb hc e n=>u.keep b o e n (λ z=>(mem_cons.mp (I.xx b z)).elim hL hb) hc) (λ b o _ _ hc e n=>u.any e n hc) (λ b o hc e n=>u.free b o e n hc) (λ b o hc e=>u.there b o e hc) u.tups u.frzs u.tbls (λ m' hm=>by
  obtain ⟨o',es',ep',ho',r'⟩:=hm;rw [ho] at ho';cases ho';exact ⟨_,es',ep',hL,r'⟩) hok hg
theorem Inv.turned {t':Nat}{it:Addr}(I:Inv X pins σ H s)(k:∀ b o,b≠it->s.heap.get? b=some o->h'.get? b=some o)(hn:H it=none)(hL:it≠X.env.locals)
  (h1:it∈X.ex\/X.s₀.heap.objs.size<=it) (h2:∀ x c,X.env.cells.lookup x=some c->c≠it) (h3:∀ p∈X.pn++pins,p.1≠it):Inv X pins σ H { s with heap:=h',toks:=t' }:=by
 have nit:∀ b u,H b=some u->b≠it:=λ b u e z=>by rw [z,hn] at e;cases e
 refine I.step (g':=s.gens) (d':=s.drawn) (ch:=[it]) (λ b hb=>?_) (λ b o _ _ hc e _=>k b o (λ z=>hc (by simp [z])) e) (λ b o _ _ hc e _=>⟨o.slots,k b o (λ z=>hc (by simp [z])) e⟩) (λ _ _ _ _ n=>n)
  (λ b o hc e=>⟨o,k b o (λ z=>hc (by simp [z])) e⟩) (λ _ _ e=>e) (λ _ _ _ e=>e) (λ b ps e=>⟨#[],by rw [e];simp⟩) (λ m hm=>?_) (λ b u e=>?_) I.bare
 ·have e:b=it:=by simpa using hb
  subst e;exact ⟨h1,hL,h2,h3⟩
 ·obtain ⟨o,es,ep,ho,r⟩:=hm;exact ⟨o,es,ep,k _ o (Ne.symm hL) ho,r⟩
 ·refine (I.hok b u e).stay (λ c v hc q=>k c v ?_ q) (λ _ q=>q) λ _ _ q=>q
  rcases hc with z | z
  ·rw [z];exact nit b u e
  ·exact nit c _ z
theorem Inv.tok (I:Inv X pins σ H s)(t:Nat):Inv X pins σ H { s with toks:=t }:=I.un (h':=s.heap) (t':=t) Un.refl I.hok
theorem Inv.kept {t':Nat}(I:Inv X pins σ H s)(k:∀ b u,s.heap.get? b=some u->h'.get? b=some u):Inv X pins σ H { s with heap:=h',toks:=t' }:=I.un (Un.kept k) (I.hok.kept k)
theorem Inv.laid {a:Addr}{o:HO}{t':Nat}(I:Inv X pins σ H s)(k:∀ b u,s.heap.get? b=some u->h'.get? b=some u)(hp:s.heap.objs.size<=a)(new:b_ X.prog X.w (upd H a o) h' a o) :
  Inv X pins σ (upd H a o) { s with heap:=h',toks:=t' }:=I.un (Un.laid k hp (I.hok.fresh hp)) (I.hok.laid k hp new)
theorem Inv.write {x e:Addr}{o:HO}{t':Nat}(I:Inv X pins σ H s)(mu:MS (H x))(he:e=x\/H e=some (.own x))(k:∀ b u,b≠e->s.heap.get? b=some u->h'.get? b=some u)(heo:∃ u,h'.get? e=some u)
  (new:b_ X.prog X.w (upd H x o) h' x o):Inv X pins σ (upd H x o) { s with heap:=h',toks:=t' }:=I.un (Un.write mu he k heo) (I.hok.write mu he k heo new)
theorem Inv.yg {pins':List (Addr×Obj)}(I:Inv X pins σ H s)(h:∀ p∈pins',s.heap.get? p.1=some p.2/\H p.1=none/\p.1≠X.env.locals/\p.1∉X.fs/\∀ v,p.2.data≠.cell v):Inv X pins' σ H s:=
 ⟨I.ok,I.os,I.bare,I.base,I.loc,I.cell,I.free,I.freeC,λ p hp=>(mem_append.mp hp).elim (λ z=>I.pin p (mem_append_left _ z)) (h p),I.hok,I.len⟩
theorem t6 {N:List Str}(hN:N.Nodup){i j:Nat}{x:Str}(a:N[i]?=some x)(b:N[j]?=some x):i=j:=by
 obtain ⟨h1,e1⟩:=List.getElem?_eq_some_iff.mp a;obtain ⟨h2,e2⟩:=List.getElem?_eq_some_iff.mp b;exact (getElem_inj hN).mp (e1.trans e2.symm)
theorem By {M:Model}{A:Around}{E:Value->Shared->Prop}{i:Nat}{x:Str}{v:V}{u:Value}{Q:Unit->Shared->Prop}(I:Inv X pins σ H s)(hN:X.N.Nodup)(hi:X.N[i]?=some x)(hx:Loc X.env.scope x)(r:RelV v u)
  (h:∀ s',Inv X pins (σ.set i (some v)) H s'->(∃ a,Heap.SameBut a s.heap s'.heap/\(a=X.env.locals\/X.env.cells.lookup x=some a))->Q () s') (hf:X.fn x=true\/X.env.scope.names.lookup x=some .local:=by first | exact .inl rfl | exact .inr rfl | assumption):wpAny M A (storeName X.env x u) Q E s:=by
 obtain ⟨m,hn,hl⟩:=id I.loc;have hcls:(X.env.scope.kind == .class || (X.env.scope.kind == .module && X.env.locals != X.env.globals))=false:=by rw [I.ok.kind];rfl
 have hiσ:i < σ.length:=by rw [I.len];exact (List.getElem?_eq_some_iff.mp hi).1
 have La:=I.La;have tracked:∀ {a:Addr} {h':Heap},(∃ o,s.heap.get? a=some o/\H a=none)->Heap.SameBut a s.heap h'->lE X.prog X.w H h':=λ {a h'} ha hs b ob e=>by
  obtain ⟨_,_,hfree⟩:=ha;refine (I.hok b ob e).stay (λ c w' hc q=>(hs.2 c ?_).trans q) (λ _ q=>q) λ _ _ q=>q;rintro rfl
  rcases hc with rfl | hc
  ·rw [hfree] at e;cases e
  ·rw [hfree] at hc;cases hc
 rcases hx with hk | hk
 ·refine wpAny_storeName_local hk hn (λ h' hn' hs=>?_) hcls;obtain ⟨oL,_,_,hoL,_⟩:=id hn;refine h _ ⟨I.ok,I.os,I.bare,⟨λ b o e n hb hx=>?_,λ b o e n hb hx=>?_,I.base.free,λ b o e hx=>?_,I.base.tups,I.base.frzs,I.base.tbls⟩,⟨_,hn',λ j y v' e1 e2 e3=>?_⟩,λ y c e=>?_,I.free,I.freeC,λ p hp=>?_,tracked ⟨oL,hoL,I.free⟩ hs,by simpa using I.len⟩ ⟨_,hs,.inl rfl⟩
  ·exact (hs.2 b (ne_of_lt (lt_of_lt_of_le (lt_size e) I.ok.above))).trans (I.base.keep b o e n hb hx)
  ·obtain ⟨sl,e1⟩:=I.base.slot b o e n hb hx;exact ⟨sl,(hs.2 b (ne_of_lt (lt_of_lt_of_le (lt_size e) I.ok.above))).trans e1⟩
  ·obtain ⟨o',e1⟩:=I.base.there b o e hx;exact ⟨o',(hs.2 b (ne_of_lt (lt_of_lt_of_le (lt_size e) I.ok.above))).trans e1⟩
  ·by_cases hj:j=i
   ·subst hj;rw [hi] at e1;cases e1;rw [getElem?_set_self hiσ] at e2
    cases e2
    exact ⟨u,r,.inl ⟨hk,by simp⟩⟩
   ·rw [getElem?_set_ne (Ne.symm hj)] at e2;obtain ⟨u',r',q⟩:=hl j y v' e1 e2 e3;refine ⟨u',r',?_⟩
    rcases q with ⟨k,e⟩ | ⟨k,c,e,z⟩
    ·refine .inl ⟨k,?_⟩;have:y≠x:=λ e=>hj (t6 hN e1 (e ▸ hi));simp [this,e]
    ·exact .inr ⟨k,c,e,z.sameBut hs (La y c e)⟩
  ·obtain ⟨w',z⟩:=I.cell y c e;exact ⟨w',z.sameBut hs (La y c e)⟩
  ·obtain ⟨e,n,ne,nf,d⟩:=I.pin p hp;exact ⟨(hs.2 p.1 ne).trans e,n,ne,nf,d⟩
 ·have hfn:X.fn x=true:=by
   rcases hf with z | z
   ·exact z
   ·rw [z] at hk;cases hk
  obtain ⟨c,hc⟩:=I.ok.has x (.inl hk);obtain ⟨w',z⟩:=I.cell x c hc;refine wpAny_storeName_cell I.ok.kind hk hc z (λ h' hc' hs=>?_);obtain ⟨oc,hoc,hocd⟩:=id z;refine h { s with heap:=h' } ⟨I.ok,I.os,I.bare,⟨λ b o e n hb hx=>?_,λ b o e n hb hx=>?_,I.base.free,λ b o e hx=>?_,I.base.tups,I.base.frzs,I.base.tbls⟩,⟨m,hn.sameBut hs (Ne.symm (La x c hc)),λ j y v' e1 e2 e3=>?_⟩,λ y c' e=>?_,I.free,I.freeC,λ p hp=>?_,tracked ⟨oc,hoc,I.freeC x c hc⟩ hs,by simpa using I.len⟩ ⟨c,hs,.inr hc⟩
  ·exact (hs.2 b (ne_of_lt (lt_of_lt_of_le (lt_size e) (I.ok.cab x c hfn hc)))).trans (I.base.keep b o e n hb hx)
  ·obtain ⟨sl,e1⟩:=I.base.slot b o e n hb hx;exact ⟨sl,(hs.2 b (ne_of_lt (lt_of_lt_of_le (lt_size e) (I.ok.cab x c hfn hc)))).trans e1⟩
  ·obtain ⟨o',e1⟩:=I.base.there b o e hx;exact ⟨o',(hs.2 b (ne_of_lt (lt_of_lt_of_le (lt_size e) (I.ok.cab x c hfn hc)))).trans e1⟩
  ·by_cases hj:j=i
   ·subst hj;rw [hi] at e1;cases e1;rw [getElem?_set_self hiσ] at e2
    cases e2
    exact ⟨u,r,.inr ⟨.inl hk,c,hc,hc'⟩⟩
   ·rw [getElem?_set_ne (Ne.symm hj)] at e2;obtain ⟨u',r',q⟩:=hl j y v' e1 e2 e3;refine ⟨u',r',?_⟩
    rcases q with q | ⟨k,c',e,z'⟩
    ·exact .inl q
    ·refine .inr ⟨k,c',e,z'.sameBut hs ?_⟩;rintro rfl;exact hj (t6 hN e1 (I.ok.inj _ _ _ e hc ▸ hi))
  ·by_cases hcc:c'=c
   ·subst hcc;exact ⟨_,hc'⟩
   ·obtain ⟨w2,z2⟩:=I.cell y c' e;exact ⟨w2,z2.sameBut hs hcc⟩
  ·obtain ⟨e,n,ne,nf,d⟩:=I.pin p hp;refine ⟨(hs.2 p.1 ?_).trans e,n,ne,nf,d⟩;intro q;rw [q,hoc] at e;have q':oc=p.2:=Option.some.inj e;exact d w' (by rw [<- q'];exact hocd)
theorem pe {M:Model}{A:Around}{E:Value->Shared->Prop}{i:Nat}{x:Str}{v:V}{u:Value}{Q:Unit->Shared->Prop}(I:Inv X pins σ H s)(hN:X.N.Nodup)(hi:X.N[i]?=some x)(hx:Loc X.env.scope x)(r:RelV v u)
  (h:∀ s',Inv X pins (σ.set i (some v)) H s'->Q () s') (hf:X.fn x=true\/X.env.scope.names.lookup x=some .local:=by first | exact .inl rfl | exact .inr rfl | assumption):wpAny M A (storeName X.env x u) Q E s:=
 By I hN hi hx r (λ s' I' _=>h s' I') hf
theorem Inv.E3 {s':Shared}{ch:List Addr}(I:Inv X pins σ H s)(ho:s'.os=s.os)(u:Un (frs X.stack) ch H H' s.heap s'.heap)(hok:lE X.prog X.w H' s'.heap)(hg:AllBare s'.gens)
  (hch:∀ b∈ch,(b∈X.ex\/X.s₀.heap.objs.size<=b)/\b≠X.env.locals/\(∀ x c,X.env.cells.lookup x=some c->c≠b)/\∀ p∈X.pn++pins,p.1≠b):Inv X pins σ H' s':=by
 obtain ⟨h',g',d',t',o'⟩:=s';have e:o'=s.os:=ho;subst e;exact I.call (g':=g') (t':=t') (d':=d') u hok hg hch
end
noncomputable abbrev XK:=Value->Option Addr->Hp->Prop
noncomputable abbrev St:=List (Option V)
noncomputable abbrev VK:=V->Hp->Prop
noncomputable abbrev TE:=St->Hp->VK->Prop
noncomputable abbrev TT:=St->Hp->(Bool->Hp->Prop)->Prop
noncomputable abbrev TA:=St->Hp->(List V->Hp->Prop)->Prop
structure Ends where
 nx:St->Hp->Prop
 rt:VK
 bk:St->Hp->Prop:=λ _ _=>False
 ct:St->Hp->Prop:=λ _ _=>False
noncomputable abbrev TS:=Ends->St->Hp->Prop
noncomputable def EP (X:Cx)(pins:List (Addr×Obj))(σ:St)(Q:VK)(u:Value)(s':Shared):Prop:=∃ v H',Inv X pins σ H' s'/\RelV v u/\Q v H'
noncomputable def TP (X:Cx)(pins:List (Addr×Obj))(σ:St)(Q:Bool->Hp->Prop)(b:Bool)(s':Shared):Prop:=∃ H',Inv X pins σ H' s'/\Q b H'
noncomputable def AP (X:Cx)(pins:List (Addr×Obj))(σ:St)(Q:List V->Hp->Prop)(us:List Value)(s':Shared):Prop:=∃ vs H',Inv X pins σ H' s'/\Vals vs us/\Q vs H'
noncomputable def SP (X:Cx)(pins:List (Addr×Obj))(D:Ends)(f:Flow)(s':Shared):Prop:=
 match f with
 | .next=>∃ σ' H',Inv X pins σ' H' s'/\D.nx σ' H'
 | .brk=>∃ σ' H',Inv X pins σ' H' s'/\D.bk σ' H'
 | .cont=>∃ σ' H',Inv X pins σ' H' s'/\D.ct σ' H'
 | .ret u=>∃ v σ' H',Inv X pins σ' H' s'/\RelV v u/\D.rt v H'
noncomputable def PE (X:Cx)(e:Expr)(t:TE):Prop:=
 ∀ (pins:List (Addr×Obj)) (s:Shared) (σ:St) (H:Hp) (Q:VK),Inv X pins σ H s->t σ H Q->wpAny (model X.prog X.w) X.A (eval e X.env) (EP X pins σ Q) X.xe s
noncomputable def PT (X:Cx)(e:Expr)(t:TT):Prop:=
 ∀ (pins:List (Addr×Obj)) (s:Shared) (σ:St) (H:Hp) (Q:Bool->Hp->Prop),Inv X pins σ H s->t σ H Q->wpAny (model X.prog X.w) X.A (isTrue e X.env (eval e X.env)) (TP X pins σ Q) X.xe s
noncomputable def PW (X:Cx)(e:Expr)(t:TT):Prop:=
 ∀ (whole:Sem Value) (pins:List (Addr×Obj)) (s:Shared) (σ:St) (H:Hp) (Q:Bool->Hp->Prop),Inv X pins σ H s->t σ H Q->wpAny (model X.prog X.w) X.A (isTrue e X.env whole) (TP X pins σ Q) X.xe s
noncomputable def PA (X:Cx)(es:List Expr)(t:TA):Prop:=
 ∀ (pos:Pos) (pins:List (Addr×Obj)) (s:Shared) (σ:St) (H:Hp) (Q:List V->Hp->Prop),Inv X pins σ H s->t σ H Q->wpAny (model X.prog X.w) X.A (spliced (backTo pos (starEach es X.env))) (AP X pins σ Q) X.xe s
noncomputable def PS (X:Cx)(st:Stmt)(t:TS):Prop:=
 ∀ (pins:List (Addr×Obj)) (s:Shared) (σ:St) (H:Hp) (D:Ends),Inv X pins σ H s->t D σ H->wpAny (model X.prog X.w) X.A (exec st X.env) (SP X pins D) X.xe s
noncomputable def tB (X:Cx)(st:List Stmt)(t:TS):Prop:=
 ∀ (pins:List (Addr×Obj)) (s:Shared) (σ:St) (H:Hp) (D:Ends),Inv X pins σ H s->t D σ H->wpAny (model X.prog X.w) X.A (execs st X.env) (SP X pins D) X.xe s
theorem cj {α:Type}{t:Sem α}{Q Q':α->Shared->Prop}{M:Model}{A:Around}{E:Value->Shared->Prop}{s:Shared}(h:wpAny M A t Q E s)(hQ:∀ a s,Q a s->Q' a s):wpAny M A t Q' E s:=wpAny_mono h hQ λ _ _ x=>x
section
variable {X:Cx}
noncomputable def Nt (i:Nat):TE:=λ σ H Q=>∃ v,σ[i]?=some (some v)/\Q v H
noncomputable def tC (v:V):TE:=λ _ H Q=>Q v H
theorem EV {i:Nat}{x:Str}{pos:Pos}(hN:X.N[i]?=some x)(hv:LR X.env.scope x)(hd:(x == ("__debug__" : Str))=false:=by decide)(hcd:(x == ("__classdict__" : Str))=false:=by decide):PE X (.Name x pos) (Nt i):=by
 intro pins s σ H Q I h;obtain ⟨v,e,h⟩:=h;obtain ⟨m,hn,hl⟩:=I.loc;obtain ⟨u,r,l⟩:=hl i x v hN e hv;have fin:EP X pins σ Q u s:=⟨v,H,I,r,h⟩
 rcases l with ⟨hk,hm⟩ | ⟨hk,c,hc,hcell⟩
 ·exact wpAny_Name (wpAny_loadName_local I.ok.kind hk hn hm fin) hd
 ·rcases hk with hk | hk
  ·exact wpAny_Name (wpAny_loadName_cell I.ok.kind hk hc hcell fin) hd
  ·exact wpAny_Name (wpAny_loadName_free I.ok.kind hk hc hcell fin hcd) hd
theorem xg {i j pos}:PE X (.Constant (.int i) j pos) (tC (.int i)):=λ _ _ _ H _ I h=>wpAny_Constant_int ⟨.int i,H,I.tok _,⟨_,rfl⟩,h⟩
theorem MR {b j pos}:PE X (.Constant (.bool b) j pos) (tC (.bl b)):=λ _ _ _ H _ I h=>Constant_bool ⟨.bl b,H,I,rfl,h⟩
theorem LF {j pos}:PE X (.Constant .none j pos) (tC .non):=λ _ _ _ H _ I h=>Constant_none ⟨.non,H,I,rfl,h⟩
noncomputable def Gl (X:Cx)(x:Str):Prop:=X.env.kindOf x=some .globalImplicit
theorem yN {E:Value->Shared->Prop}{pins:List (Addr×Obj)}{s:Shared}{σ:St}{H:Hp}{x:Str}{u:Value}{pos:Pos}{Q:Value->Shared->Prop}(I:Inv X pins σ H s)(hg:Gl X x)(hm:X.mg x=some u)(h:Q u s)
  (hd:(x == ("__debug__" : Str))=false:=by decide):wpAny (model X.prog X.w) X.A (eval (.Name x pos) X.env) Q E s:=
 Calls.Name_function_global I.ok.kind hg (Calls.loadGlobal_global (by rw [I.ok.glob];exact I.mod.glob.keeps I.bk) hm h) hd
theorem pq {E:Value->Shared->Prop}{pins:List (Addr×Obj)}{s:Shared}{σ:St}{H:Hp}{x:Str}{u:Value}{pos:Pos}{Q:Value->Shared->Prop}(I:Inv X pins σ H s)(hg:Gl X x)(hm:X.mg x=none)(hv:bootBuiltins x=some u)(h:Q u s)
  (hn:x ≠ "__name__" := by decide) (hd:(x == ("__debug__" : Str))=false:=by decide):wpAny (model X.prog X.w) X.A (eval (.Name x pos) X.env) Q E s:=by
 obtain ⟨mb,h1,h2⟩:=I.mod.blt;exact Calls.Name_function_global I.ok.kind hg (Calls.loadGlobal_builtin (by rw [I.ok.glob];exact I.mod.glob.keeps I.bk) hm (by rw [I.ok.blt];exact h1.keeps I.bk) ((h2 x hn).trans hv) h) hd
theorem FF {x:Str}{v:V}{u:Value}{pos:Pos}(hg:Gl X x)(hm:X.mg x=some u)(r:RelV v u)(hd:(x == ("__debug__" : Str))=false:=by decide):PE X (.Name x pos) (tC v):=
 λ _ _ _ H _ I h=>yN I hg hm ⟨v,H,I,r,h⟩ hd
theorem Hf {x:Str}{v:V}{u:Value}{pos:Pos}(hg:Gl X x)(hm:X.mg x=none)(hv:bootBuiltins x=some u)(r:RelV v u)(hn:x ≠ "__name__" := by decide)(hd:(x == ("__debug__" : Str))=false:=by decide):PE X (.Name x pos) (tC v):=
 λ _ _ _ H _ I h=>pq I hg hm hv ⟨v,H,I,r,h⟩ hn hd
variable {a b:Expr} {ta tb:TE} {pos:Pos}
variable {tA tB':TT} {rest:List Expr}
noncomputable def Mr (t u:TT):TT:=λ σ H Q=>t σ H λ c H1=>if c=true then u σ H1 Q else Q false H1
noncomputable def Pz (t u:TT):TT:=λ σ H Q=>t σ H λ c H1=>if c=true then Q true H1 else u σ H1 Q
noncomputable def Pb (t:TT):TT:=λ σ H Q=>t σ H λ c H1=>Q (!c) H1
theorem G5 (ha:PT X a tA):PW X (.BoolOp .And [a] pos) tA:=by
 intro wh pins s σ H Q I h;refine isTrue_and (cj (ha pins s σ H Q I h) λ c s1 e=>?_)
 cases c with
 | true=>exact isTrue_and_nil e
 | false=>exact e
theorem JS (ha:PT X a tA):PW X (.BoolOp .Or [a] pos) tA:=by
 intro wh pins s σ H Q I h;refine isTrue_or (cj (ha pins s σ H Q I h) λ c s1 e=>?_)
 cases c with
 | false=>exact isTrue_or_nil e
 | true=>exact e
theorem Lw (ha:PT X a tA)(hb:PW X (.BoolOp .And (b::rest) pos) tB'):PW X (.BoolOp .And (a::b::rest) pos) (Mr tA tB'):=by
 intro wh pins s σ H Q I h;refine isTrue_and (cj (ha pins s σ H _ I h) λ c s1 ⟨H1,I1,q1⟩=>?_)
 cases c with
 | true=>exact hb wh pins s1 σ H1 Q I1 q1
 | false=>exact ⟨H1,I1,q1⟩
theorem Nz (ha:PT X a tA)(hb:PW X (.BoolOp .Or (b::rest) pos) tB'):PW X (.BoolOp .Or (a::b::rest) pos) (Pz tA tB'):=by
 intro wh pins s σ H Q I h;refine isTrue_or (cj (ha pins s σ H _ I h) λ c s1 ⟨H1,I1,q1⟩=>?_)
 cases c with
 | true=>exact ⟨H1,I1,q1⟩
 | false=>exact hb wh pins s1 σ H1 Q I1 q1
theorem Ln (ha:PT X a tA):PT X (.UnaryOp .Not a pos) (Pb tA):=by
 intro pins s σ H Q I h;exact isTrue_not (ha pins s σ H (λ c H1=>Q (!c) H1) I h)
noncomputable def Oq (ta tb:TE):TE:=λ σ H Q=>ta σ H λ x H1=>∃ c,x=.bl c/\if c=true then Q (.bl true) H1 else tb σ H1 Q
noncomputable def LZ (ta:TE):TE:=λ σ H Q=>ta σ H λ x H1=>∃ c,x=.bl c/\Q (.bl (!c)) H1
theorem KU {op}{t:TE}(h:PE X a t):PE X (.BoolOp op [a] pos) t:=λ pins s σ H Q I hw=>BoolOp_one (h pins s σ H Q I hw)
theorem MI (ha:PE X a ta)(hb:PE X (.BoolOp .Or (b::rest) pos) tb):PE X (.BoolOp .Or (a::b::rest) pos) (Oq ta tb):=by
 intro pins s σ H Q I h;refine BoolOp_or (cj (ha pins s σ H _ I h) λ v s1 ⟨x,H1,I1,r1,q1⟩=>?_);obtain ⟨c,rfl,q1⟩:=q1
 cases r1
 refine wpAny_truthy_bool ?_
 cases c with
 | false=>exact hb pins s1 σ H1 Q I1 q1
 | true=>exact ⟨.bl true,H1,I1,rfl,q1⟩
theorem JB (ha:PE X a ta):PE X (.UnaryOp .Not a pos) (LZ ta):=by
 intro pins s σ H Q I h;refine UnaryOp_ (cj (ha pins s σ H _ I h) λ v s1 ⟨x,H1,I1,r1,q1⟩=>?_);obtain ⟨c,rfl,q1⟩:=q1
 cases r1
 exact not_of (wpAny_truthy_bool ⟨.bl (!c),H1,I1,rfl,q1⟩)
end
noncomputable def f_ (K:PySem.W.Frag)(H:Hp)(a:Addr)(xs:List V):Prop:=
 Rd H a (.lst xs) \/
  ∃ (o:Obj) (its:Array Value) (n:Nat),K.lookup a=some o/\o.cls=.type "list" /\ o.dict=none/\o.data=.seq its n/\its.size<=sizeLine/\Vals xs its.toList
noncomputable def fS (K:PySem.W.Frag)(H:Hp)(a:Addr)(xs:List V):Prop:=
 Rd H a (.tup xs) \/
  ∃ (o:Obj) (its:Array Value) (n:Nat),K.lookup a=some o/\o.cls=.type "tuple" /\ o.dict=none/\o.data=.seq its n/\its.size<=sizeLine/\Vals xs its.toList
noncomputable def Om:Value->Option V
 | .none=>some .non
 | .bool b=>some (.bl b)
 | .int i _=>some (.int i)
 | .str x _=>some (.str x)
 | .bytes b _=>some (.byt b)
 | .float b _=>some (.flt b)
 | .ref a=>some (.ref a)
 | .type n=>some (.ty n)
 | _=>none
theorem RelV.abs {x:V}{u:Value}(r:RelV x u):Om u=some x:=by
 cases x with
 | non=>cases r;rfl
 | bl _=>cases r;rfl
 | int _=>obtain ⟨t,rfl⟩:=r;rfl
 | str _=>obtain ⟨t,rfl⟩:=r;rfl
 | byt _=>obtain ⟨t,rfl⟩:=r;rfl
 | flt _=>obtain ⟨t,rfl⟩:=r;rfl
 | ref _=>cases r;rfl
 | ty _=>cases r;rfl
theorem RelV.inj {x y:V}{u:Value}(r:RelV x u)(q:RelV y u):x=y:=Option.some.inj (r.abs.symm.trans q.abs)
theorem Vals.inj:∀ {xs ys:List V} {us:List Value},Vals xs us->Vals ys us->xs=ys
 | _,_,_,.nil,.nil=>rfl
 | _,_,_,.cons r t,.cons r' t'=>by rw [r.inj r',Vals.inj t t']
section
variable {X:Cx} {pins:List (Addr×Obj)} {σ:St} {H:Hp} {s:Shared} {a:Addr} {xs ys:List V}
theorem f_.of {K:PySem.W.Frag}(h:H a=some (.lst xs)):f_ K H a xs:=.inl (.inl h)
theorem fS.of {K:PySem.W.Frag}(h:H a=some (.tup xs)):fS K H a xs:=.inl (.inl h)
theorem Inv.list (I:Inv X pins σ H s)(h:f_ X.K H a xs):∃ its:List Value,Vals xs its/\PlainL s.heap a its.toArray/\xs.length<=sizeLine:=by
 rcases h with h | ⟨o,its,n,hk,hc,hd,hs,hz,r⟩
 ·obtain ⟨z,its,n,r,e⟩:=h.ok I.hok;exact ⟨its,r,⟨_,n,e,rfl,rfl,rfl⟩,z⟩
 ·refine ⟨its.toList,r,⟨o,n,I.tY a o hk,hc,hd,by simpa using hs⟩,?_⟩;have e:=r.length;simp only [length_toList] at e;omega
theorem Inv.tuple (I:Inv X pins σ H s)(h:fS X.K H a xs):∃ its:List Value,Vals xs its/\IsTup s.heap a its.toArray/\xs.length<=sizeLine:=by
 rcases h with h | ⟨o,its,n,hk,hc,_,hs,hz,r⟩
 ·obtain ⟨z,its,r,p⟩:=h.ok I.hok;exact ⟨its,r,p.tup,z⟩
 ·refine ⟨its.toList,r,⟨o,I.tY a o hk,hc,n,by simpa using hs⟩,?_⟩;have e:=r.length;simp only [length_toList] at e;omega
theorem Inv.Dy (I:Inv X pins σ H s)(h:f_ X.K H a xs)(h':f_ X.K H a ys):xs=ys:=by
 obtain ⟨its,r,⟨o,n,e,_,_,d⟩,_⟩:=I.list h;obtain ⟨its',r',⟨o',n',e',_,_,d'⟩,_⟩:=I.list h';rw [e] at e';cases e';rw [d] at d'
 injection d' with d1 _
 have:its=its':=by simpa using congrArg Array.toList d1
 subst this;exact r.inj r'
theorem Inv.qW (I:Inv X pins σ H s)(h:fS X.K H a xs)(h':fS X.K H a ys):xs=ys:=by
 obtain ⟨its,r,⟨o,e,_,n,d⟩,_⟩:=I.tuple h;obtain ⟨its',r',⟨o',e',_,n',d'⟩,_⟩:=I.tuple h';rw [e] at e';cases e';rw [d] at d'
 injection d' with d1 _
 have:its=its':=by simpa using congrArg Array.toList d1
 subst this;exact r.inj r'
end
noncomputable abbrev Cx.qA (X:Cx)(E:Value->Shared->Prop):Cx:={ X with xe:=E }
noncomputable abbrev Cx.Mx (X:Cx):Cx:=X.qA λ _ _=>False
theorem Cx.Ok.qA {X:Cx}(ok:X.Ok)(E:Value->Shared->Prop):(X.qA E).Ok:=
 ⟨ok.mod,ok.kind,ok.glob,ok.blt,ok.above,ok.inj,ok.has,ok.cab,ok.hd,ok.frames,ok.stk,ok.exf,ok.bs,ok.bsz,ok.noex,ok.exfs,ok.oV,ok.frf⟩
theorem Cx.Ok.jJ {X:Cx}{E:Value->Shared->Prop}(ok:(X.qA E).Ok):X.Ok:=
 ⟨ok.mod,ok.kind,ok.glob,ok.blt,ok.above,ok.inj,ok.has,ok.cab,ok.hd,ok.frames,ok.stk,ok.exf,ok.bs,ok.bsz,ok.noex,ok.exfs,ok.oV,ok.frf⟩
section
variable {X:Cx} {pins:List (Addr×Obj)} {σ:St} {H:Hp} {s:Shared} {E:Value->Shared->Prop}
theorem Inv.qA (I:Inv X pins σ H s)(E:Value->Shared->Prop):Inv (X.qA E) pins σ H s:=⟨I.ok.qA E,I.os,I.bare,I.base,I.loc,I.cell,I.free,I.freeC,I.pin,I.hok,I.len⟩
theorem Inv.jJ (I:Inv (X.qA E) pins σ H s):Inv X pins σ H s:=⟨I.ok.jJ,I.os,I.bare,I.base,I.loc,I.cell,I.free,I.freeC,I.pin,I.hok,I.len⟩
theorem SP.jJ {D:Ends}{f:Flow}{s':Shared}(h:SP (X.qA E) pins D f s'):SP X pins D f s':=by
 cases f with
 | next=>obtain ⟨σ',H',I,q⟩:=h;exact ⟨σ',H',I.jJ,q⟩
 | brk=>obtain ⟨σ',H',I,q⟩:=h;exact ⟨σ',H',I.jJ,q⟩
 | cont=>obtain ⟨σ',H',I,q⟩:=h;exact ⟨σ',H',I.jJ,q⟩
 | ret u=>obtain ⟨v,σ',H',I,r,q⟩:=h;exact ⟨v,σ',H',I.jJ,r,q⟩
theorem tB.Mx {st:List Stmt}{t:TS}(h:tB X.Mx st t):tB X st t:=λ pins s σ H D I hw=>
 wpAny_mono (h pins s σ H D (I.qA _) hw) (λ _ _ q=>q.jJ) λ _ _ z=>False.elim z
end
section
variable {X:Cx} {st:Stmt} {rest:List Stmt} {t u:TS} {e:Expr} {te:TE} {pos:Pos}
noncomputable def L5:TS:=λ D σ H=>D.nx σ H
noncomputable def L3 (t u:TS):TS:=λ D σ H=>t { D with nx:=u D } σ H
theorem G_:tB X [] L5:=λ _ _ σ H _ I h=>wpAny_execs_nil ⟨σ,H,I,h⟩
theorem CM (h1:PS X st t)(h2:tB X rest u):tB X (st::rest) (L3 t u):=by
 intro pins s σ H D I h;refine wpAny_execs_cons (cj (h1 pins s σ H { D with nx:=u D } I h) λ f s1 q=>?_)
 cases f with
 | next=>
  obtain ⟨σ',H',I',q⟩:=q;exact h2 pins s1 σ' H' D I' q
 | ret v=>exact q
 | brk=>exact q
 | cont=>exact q
theorem Ga (h1:PS X st t):tB X [st] t:=by
 intro pins s σ H D I h;refine wpAny_execs_cons (cj (h1 pins s σ H D I h) λ f s1 q=>?_)
 cases f with
 | next=>exact wpAny_execs_nil q
 | ret v=>exact q
 | brk=>exact q
 | cont=>exact q
theorem Inv.quiet {pins:List (Addr×Obj)}{σ:St}{H:Hp}{s:Shared}(I:Inv X pins σ H s):interactive X.env=false:=by simp [interactive,I.ok.kind]
noncomputable def Mj (te:TE):TS:=λ D σ H=>te σ H λ _ H1=>D.nx σ H1
theorem FG (he:PE X e te)(hs:swapsWith e none pos.line X.env=pure false:=by rfl):PS X (.Expr e pos) (Mj te):=by
 intro pins s σ H D I h;exact wpAny_Expr_any (cj (he pins s σ H _ I h) λ v s1 ⟨x,H1,I1,r1,q1⟩=>⟨σ,H1,I1,q1⟩) I.quiet hs
noncomputable def OI (te:TE):TS:=λ D σ H=>te σ H D.rt
theorem LA (he:PE X e te):PS X (.Return (some e) pos) (OI te):=by
 intro pins s σ H D I h;exact wpAny_Return_some (cj (he pins s σ H _ I h) λ v s1 ⟨x,H1,I1,r1,q1⟩=>⟨x,σ,H1,I1,r1,q1⟩)
noncomputable def Mq:TS:=λ D _ H=>D.rt .non H
theorem GR:PS X (.Return none pos) Mq:=λ _ _ σ H _ I h=>wpAny_Return_none ⟨.non,σ,H,I,rfl,h⟩
noncomputable def O0 (c:TT)(t u:TS):TS:=λ D σ H=>c σ H λ b H1=>if b=true then t D σ H1 else u D σ H1
theorem MT {c:Expr}{a b:List Stmt}{tc:TT}(hc:PT X c tc)(ha:tB X a t)(hb:tB X b u):PS X (.If c a b pos) (O0 tc t u):=by
 intro pins s σ H D I h;refine wpAny_If (cj (hc pins s σ H _ I h) λ d s1 ⟨H1,I1,q1⟩=>?_)
 cases d with
 | true=>exact ha pins s1 σ H1 D I1 q1
 | false=>exact hb pins s1 σ H1 D I1 q1
noncomputable def Jw:TS:=λ _ _ _=>False
theorem Ei:PS X st Jw:=λ _ _ _ _ _ _ h=>h.elim
end
noncomputable abbrev TG:=V->St->Hp->(St->Hp->Prop)->Prop
noncomputable abbrev II:=List V->St->Hp->(St->Hp->Prop)->Prop
noncomputable def PG (X:Cx)(target:Expr)(t:TG):Prop:=
 ∀ (pins:List (Addr×Obj)) (s:Shared) (σ:St) (H:Hp) (v:V) (u:Value) (Q:St->Hp->Prop),Inv X pins σ H s->RelV v u->t v σ H Q ->
  wpAny (model X.prog X.w) X.A (assign target X.env u) (λ _ s'=>∃ σ' H',Inv X pins σ' H' s'/\Q σ' H') X.xe s
noncomputable def NB (X:Cx)(ts:List Expr)(t:II):Prop:=
 ∀ (pins:List (Addr×Obj)) (s:Shared) (σ:St) (H:Hp) (vs:List V) (us:List Value) (Q:St->Hp->Prop),Inv X pins σ H s->Vals vs us->t vs σ H Q ->
  wpAny (model X.prog X.w) X.A (assignInOrder ((assignEach ts X.env).map (·.2)) us) (λ _ s'=>∃ σ' H',Inv X pins σ' H' s'/\Q σ' H') X.xe s
noncomputable abbrev wX:=V->V->V->Hp->(Hp->Prop)->Prop
noncomputable def A1 (X:Cx)(t:wX):Prop:=
 ∀ (pins:List (Addr×Obj)) (s:Shared) (σ:St) (H:Hp) (o i v:V) (ov iv u:Value) (Q:Hp->Prop),Inv X pins σ H s->RelV o ov->RelV i iv->RelV v u->t o i v H Q ->
  wpAny (model X.prog X.w) X.A (setItem ov iv u) (λ _ s'=>∃ H',Inv X pins σ H' s'/\Q H') X.xe s
noncomputable abbrev JE:=V->V->Hp->VK->Prop
noncomputable def IM (X:Cx)(op:Operator)(t:JE):Prop:=
 ∀ (pins:List (Addr×Obj)) (s:Shared) (σ:St) (H:Hp) (x y:V) (v u:Value) (Q:VK),Inv X pins σ H s->RelV x v->RelV y u->t x y H Q ->
  wpAny (model X.prog X.w) X.A (inplaceOp op v u) (EP X pins σ Q) X.xe s
section
variable {X:Cx} {pos:Pos}
noncomputable def EC (i:Nat):TG:=λ v σ H Q=>Q (σ.set i (some v)) H
theorem yR {i:Nat}{x:Str}(hN:X.N.Nodup)(hi:X.N[i]?=some x)(hx:Loc X.env.scope x)(hf:X.fn x=true\/X.env.scope.names.lookup x=some .local:=by first | exact .inl rfl | exact .inr rfl | assumption):PG X (.Name x pos) (EC i):=by
 intro pins s σ H v u Q I r h;exact wpAny_assign_Name (pe I hN hi hx r (λ s' I'=>⟨_,H,I',h⟩) hf)
noncomputable def Oz:II:=λ vs σ H Q=>vs=[]/\Q σ H
noncomputable def Mf (t:TG)(u:II):II:=λ vs σ H Q=>∃ v r,vs=v::r/\t v σ H λ σ' H'=>u r σ' H' Q
theorem Gi:NB X [] Oz:=by
 intro pins s σ H vs us Q I r h;obtain ⟨e,h⟩:=h;subst e
 cases r
 exact assignInOrder_nil ⟨σ,H,I,h⟩
theorem Cc {e:Expr}{es:List Expr}{t:TG}{u:II}(h1:PG X e t)(h2:NB X es u)
  (hs:(assignEach (e::es) X.env).map (·.2)=assign e X.env::(assignEach es X.env).map (·.2):=by rfl):NB X (e::es) (Mf t u):=by
 intro pins s σ H vs us Q I r h;obtain ⟨v,vr,e1,h⟩:=h;subst e1
 cases r with
 | cons r rr=>
  rw [hs];refine assignInOrder_cons (cj (h1 pins s σ H _ _ _ I r h) λ _ s1 ⟨σ1,H1,I1,q1⟩=>?_);exact h2 pins s1 σ1 H1 _ _ Q I1 rr q1
noncomputable def N7 (K:PySem.W.Frag)(n:Nat)(t:II):TG:=λ v σ H Q=>∃ a xs,v=.ref a/\fS K H a xs/\xs.length=n/\t xs σ H Q
theorem JU {es:List Expr}{k:Nat}{t:II}{n:Nat}(hc:X.calm=true)(h:NB X es t)
  (hn:(assignEach es X.env).length=n:=by rfl) (hst:(assignEach es X.env).findIdx? (·.1)=none:=by rfl):PG X (.Tuple es k pos) (N7 X.K n t):=by
 intro pins s σ H v u Q I r hw;obtain ⟨a,xs,e1,hq,hl,hw⟩:=hw;subst e1
 cases r
 obtain ⟨its,rv,ht,hz⟩:=I.tuple hq;refine assign_Tuple_tuple (I.ok.hd hc) ht (by simp [hn,<- hl,rv.length]) hst λ h' hx=>?_;have I1:Inv X pins σ H { s with heap:=h' }:=I.kept (t':=s.toks) λ b o e=>hx b o (ne_of_lt (lt_size e)) e;exact h pins _ σ H xs _ Q I1 (by simpa using rv) hw
noncomputable def Od (to ti:TE)(t:wX):TG:=λ v σ H Q=>to σ H λ o H1=>ti σ H1 λ i H2=>t o i v H2 λ H3=>Q σ H3
theorem CL {o i:Expr}{to ti:TE}{t:wX}(ho:PE X o to)(hi:PE X i ti)(hs:A1 X t)
  (ha:∀ v,assign (.Subscript o i pos) X.env v=(do
   let ov <- holding [v] (eval o X.env)
   let iv <- holding [v,ov] (eval i X.env)
   standAt pos
   holding [v,ov,iv] (setItem ov iv v)
   release [v,ov,iv] []):=by intro _;rfl):PG X (.Subscript o i pos) (Od to ti t):=by
 intro pins s σ H v u Q I r h;rw [ha];refine wpAny_bind (wpAny_holding (cj (ho pins s σ H _ I h) λ ov s1 ⟨x,H1,I1,r1,q1⟩=>?_));refine wpAny_bind (wpAny_holding (cj (hi pins s1 σ H1 _ I1 q1) λ iv s2 ⟨y,H2,I2,r2,q2⟩=>?_));refine wpAny_bind (wpAny_standAt (wpAny_bind (wpAny_holding (cj (hs pins s2 σ H2 x y v ov iv u _ I2 r1 r2 r q2) λ _ s3 ⟨H3,I3,q3⟩=>?_))));exact wpAny_release ⟨σ,H3,I3,q3⟩
noncomputable def G8 (te:TE)(g:TG):TS:=λ D σ H=>te σ H λ x H1=>g x σ H1 D.nx
theorem Jq {tg e:Expr}{te:TE}{g:TG}(he:PE X e te)(hg:PG X tg g)(hs:swapsWithSole [tg] e pos.line X.env=pure false:=by rfl)(hw:swappedStores [tg] e X.env=pure none:=by rfl)
  (h1:(assignEach [tg] X.env).map (·.2)=[assign tg X.env]:=by rfl):PS X (.Assign [tg] e pos) (G8 te g):=by
 intro pins s σ H D I h;refine wpAny_Assign_stores (cj (he pins s σ H _ I h) λ v s1 ⟨x,H1,I1,r1,q1⟩=>?_) hs hw;rw [h1];exact cj (hg pins s1 σ H1 x v _ I1 r1 q1) λ _ s2 q=>q
theorem LD {i:Nat}{x:Str}{e:Expr}{te:TE}{pos':Pos}(hN:X.N.Nodup)(hi:X.N[i]?=some x)(hx:Loc X.env.scope x)(he:PE X e te)(hs:swapsWith e (some (.Name x pos')) pos.line X.env=pure false:=by rfl)(hf:X.fn x=true\/X.env.scope.names.lookup x=some .local:=by first | exact .inl rfl | exact .inr rfl | assumption) :
  PS X (.Assign [.Name x pos'] e pos) (G8 te (EC i)):=by
 intro pins s σ H D I h;refine wpAny_Assign_Name (cj (he pins s σ H _ I h) λ v s1 ⟨y,H1,I1,r1,q1⟩=>?_) hs;exact pe I1 hN hi hx r1 (λ s2 I2=>⟨_,H1,I2,q1⟩) hf
noncomputable def OC (i:Nat)(te:TE)(ti:JE):TS:=λ D σ H=>∃ x,σ[i]?=some (some x)/\te σ H λ y H1=>ti x y H1 λ z H2=>D.nx (σ.set i (some z)) H2
theorem Ju {i:Nat}{x:Str}{e:Expr}{te:TE}{op:Operator}{ti:JE}{pos':Pos}(hN:X.N.Nodup)(hi:X.N[i]?=some x)(hx:Loc X.env.scope x)(he:PE X e te)(ho:IM X op ti)(hf:X.fn x=true\/X.env.scope.names.lookup x=some .local:=by first | exact .inl rfl | exact .inr rfl | assumption) :
  PS X (.AugAssign (.Name x pos') op e pos) (OC i te ti):=by
 intro pins s σ H D I h;obtain ⟨v,e1,h⟩:=h;obtain ⟨m,hn,hl⟩:=I.loc;have vis:LR X.env.scope x:=by rcases hx with k | k;exact .inl k;exact .inr (.inl k)
 obtain ⟨u,r,l⟩:=hl i x v hi e1 vis;refine wpAny_AugAssign_Name ?_;have go:wpAny (model X.prog X.w) X.A (eval e X.env) (λ w s₂=>wpAny (model X.prog X.w) X.A (inplaceOp op u w) (λ r s₃=>wpAny (model X.prog X.w) X.A (storeName X.env x r) (λ _=>SP X pins D .next) X.xe s₃) X.xe s₂) X.xe s:=by
  refine cj (he pins s σ H _ I h) λ w s1 ⟨y,H1,I1,r1,q1⟩=>?_;refine cj (ho pins s1 σ H1 v y u w _ I1 r r1 q1) λ z s2 ⟨zv,H2,I2,r2,q2⟩=>?_;exact pe I2 hN hi hx r2 (λ s3 I3=>⟨_,H2,I3,q2⟩) hf
 rcases l with ⟨hk,hm⟩ | ⟨hk,c,hc,hcell⟩
 ·exact wpAny_loadName_local I.ok.kind hk hn hm go
 ·rcases hk with hk | hk
  ·exact wpAny_loadName_cell I.ok.kind hk hc hcell go
  ·rcases hx with k | k
   ·have:X.env.scope.names.lookup x=some .free:=hk;rw [k] at this;cases this
   ·have:X.env.scope.names.lookup x=some .free:=hk;rw [k] at this;cases this
noncomputable def NL (to ti te:TE)(tget:V->V->Hp->VK->Prop)(tip:JE)(tset:wX):TS:=λ D σ H=>to σ H λ o H1=>ti σ H1 λ i H2=>tget o i H2 λ x H3=>te σ H3 λ y H4=>tip x y H4 λ z H5=>tset o i z H5 λ H6=>D.nx σ H6
noncomputable def Ll (X:Cx)(t:V->V->Hp->VK->Prop):Prop:=
 ∀ (pins:List (Addr×Obj)) (s:Shared) (σ:St) (H:Hp) (o i:V) (ov iv:Value) (Q:VK),Inv X pins σ H s->RelV o ov->RelV i iv->t o i H Q ->
  wpAny (model X.prog X.w) X.A (getItem ov iv) (EP X pins σ Q) X.xe s
theorem Hz {o i e:Expr}{to ti te:TE}{tget:V->V->Hp->VK->Prop}{tip:JE}{tset:wX}{op:Operator}{tpos:Pos}(ho:PE X o to)(hi:PE X i ti)(hg:Ll X tget)(he:PE X e te)(hp:IM X op tip)(hs:A1 X tset)
  (ha:∀ ov iv new,augStore i ov iv new=(do holding [new,ov,iv] (setItem ov iv new);release [new,ov,iv] [];pure .next):=by intros;rfl):PS X (.AugAssign (.Subscript o i tpos) op e pos) (NL to ti te tget tip tset):=by
 intro pins s σ H D I h;refine wpAny_AugAssign_SubscriptAny (cj (ho pins s σ H _ I h) λ ov s1 ⟨x1,H1,I1,r1,q1⟩=>?_) ha;refine cj (hi pins s1 σ H1 _ I1 q1) λ iv s2 ⟨x2,H2,I2,r2,q2⟩=>?_;refine cj (hg pins s2 σ H2 x1 x2 ov iv _ I2 r1 r2 q2) λ old s3 ⟨x3,H3,I3,r3,q3⟩=>?_;refine cj (he pins s3 σ H3 _ I3 q3) λ v s4 ⟨x4,H4,I4,r4,q4⟩=>?_;refine cj (hp pins s4 σ H4 x3 x4 old v _ I4 r3 r4 q4) λ new s5 ⟨x5,H5,I5,r5,q5⟩=>?_;exact cj (hs pins s5 σ H5 x1 x2 x5 ov iv new _ I5 r1 r2 r5 q5) λ _ s6 ⟨H6,I6,q6⟩=>⟨σ,H6,I6,q6⟩
noncomputable def Pn (f:Int->Int->Int):JE:=λ x y H Q=>∃ i j,x=.int i/\y=.int j/\Q (.int (f i j)) H
theorem Ko:IM X .Add (Pn λ i j=>i+j):=by
 intro pins s σ H x y v u Q I r1 r2 h;obtain ⟨i,j,e1,e2,q⟩:=h;subst e1;subst e2;obtain ⟨t,rfl⟩:=r1;obtain ⟨t',rfl⟩:=r2;exact iadd_int ⟨.int _,H,I.tok _,⟨_,rfl⟩,q⟩
theorem Jh:IM X .Sub (Pn λ i j=>i - j):=by
 intro pins s σ H x y v u Q I r1 r2 h;obtain ⟨i,j,e1,e2,q⟩:=h;subst e1;subst e2;obtain ⟨t,rfl⟩:=r1;obtain ⟨t',rfl⟩:=r2;exact isub_int ⟨.int _,H,I.tok _,⟨_,rfl⟩,q⟩
end
section
variable {X:Cx} {pos:Pos}
noncomputable def Cr (c:TT)(tb:TS):TS:=λ D σ H=>∃ W:Nat->St->Hp->Prop,(∃ m,W m σ H)/\∀ m σ H,W m σ H ->
 c σ H λ b H1=>if b=true then ∃ N:St->Hp->Prop,(∀ σ' H',N σ' H'->∃ m',m' < m/\W m' σ' H')/\tb { D with nx:=N,ct:=N,bk:=D.nx } σ H1 else D.nx σ H1
theorem Em {c:Expr}{body:List Stmt}{tc:TT}{tb:TS}(hp:PassesOwn (model X.prog X.w) X.A X.env X.xe)(hc:PT X c tc)(hb:tB X body tb):PS X (.While c body [] pos) (Cr tc tb):=by
 intro pins s σ H D I h;obtain ⟨W,⟨m0,w0⟩,turn⟩:=h;refine wpAny_While (codeAny_whileLoop (λ n s'=>∃ σ' H',Inv X pins σ' H' s'/\W n σ' H') ?_ m0 ⟨σ,H,I,w0⟩);rintro n s1 ⟨σ1,H1,I1,w1⟩;refine wpAny_passesOwn hp (cj (hc pins s1 σ1 H1 _ I1 (turn n σ1 H1 w1)) λ b s2 ⟨H2,I2,q2⟩=>?_)
 cases b with
 | true=>
  obtain ⟨N,hN,q2⟩:=q2;rw [if_pos rfl];refine wpAny_passesOwn hp (cj (hb pins s2 σ1 H2 _ I2 q2) λ f s3 q3=>?_)
  cases f with
  | next=>
   obtain ⟨σ3,H3,I3,n3⟩:=q3;obtain ⟨m',hm,w3⟩:=hN σ3 H3 n3;exact ⟨m',hm,σ3,H3,I3,w3⟩
  | cont=>
   obtain ⟨σ3,H3,I3,n3⟩:=q3;obtain ⟨m',hm,w3⟩:=hN σ3 H3 n3;exact ⟨m',hm,σ3,H3,I3,w3⟩
  | brk=>exact q3
  | ret v=>exact q3
 | false=>
  rw [if_neg Bool.false_ne_true];exact wpAny_execs_nil ⟨σ1,H2,I2,q2⟩
end
structure It where
 go:Nat->Hp->Prop
 yld:Nat->Hp->V->Hp->Prop
 stop:Nat->Hp->Prop
noncomputable def jM (X:Cx)(pins:List (Addr×Obj))(H:Hp)(b:Addr):Prop:=
 H b=none/\b≠X.env.locals/\b∉X.fs/\(b∈X.ex\/X.s₀.heap.objs.size<=b)/\(∀ x c,X.env.cells.lookup x=some c->c≠b)/\∀ p∈X.pn++pins,p.1≠b
theorem Inv.wZ {X:Cx}{pins:List (Addr×Obj)}{σ:St}{H H':Hp}{s:Shared}{b:Addr}(I:Inv X pins σ H s)(hb:s.heap.objs.size<=b)(hn:H' b=none):jM X pins H' b:=by
 refine ⟨hn,ne_of_gt (lt_of_lt_of_le I.lt hb),I.Ow hb,.inr (Nat.le_trans I.sz hb),λ x c e z=>?_,λ p hp z=>?_⟩
 ·obtain ⟨v,q⟩:=I.cell x c e;exact absurd (lt_of_lt_of_le q.lt (by rw [z];exact hb)) (lt_irrefl _)
 ·exact absurd (lt_of_lt_of_le (lt_size (I.pin p hp).1) (by rw [z];exact hb)) (lt_irrefl _)
structure Turn (P:Program)(w:World)(K:PySem.W.Frag)(tg:Expr)(J:It)(fp:List Addr)(it:Addr)(tn:Nat->Heap->Prop):Prop where
 mem:it∈fp
 obj:∀ i h,tn i h->∀ b∈fp,∃ o,h.get? b=some o/\∀ v,o.data≠.cell v
 keep:∀ i h h',tn i h->(∀ b∈fp,∀ o,h.get? b=some o->h'.get? b=some o)->tn i h'
 item:∀ (X:Cx),X.prog=P->X.w=w->X.K=K->X.calm=true->∀ (i:Nat) (pins:List (Addr×Obj)) (s:Shared) (σ:St) (H:Hp) (E:Value->Shared->Prop),Inv X pins σ H s->(∀ b∈fp,jM X pins H b)->tn i s.heap->J.go i H ->
  wpAny (model P w) X.A (pyNext (.ref it)) (λ r s1=>∃ u,r=some u /\
   wpAny (model P w) X.A (letOwnedTupleGo tg (.ref it) u) (λ _ s2=>∃ x H',Inv X pins σ H' s2/\RelV x u/\J.yld i H x H'/\tn (i+1) s2.heap/\∀ b∈fp,H' b=none) E s1) E s
 done:∀ (X:Cx),X.prog=P->X.w=w->X.K=K->X.calm=true->∀ (i:Nat) (pins:List (Addr×Obj)) (s:Shared) (σ:St) (H:Hp) (E:Value->Shared->Prop),Inv X pins σ H s->(∀ b∈fp,jM X pins H b)->tn i s.heap->J.stop i H ->
  wpAny (model P w) X.A (pyNext (.ref it)) (λ r s1=>r=none/\Inv X pins σ H s1) E s
 self:∀ (A:Around) (i:Nat) (s:Shared) (Q:Value->Shared->Prop) (E:Value->Shared->Prop),tn i s.heap->Q (.ref it) s->wpAny (model P w) A (pyIter (.ref it)) Q E s
noncomputable abbrev TI:=St->Hp->(It->Hp->Prop)->Prop
noncomputable def PL (X:Cx)(pins:List (Addr×Obj))(σ:St)(tg:Expr)(R:It->Hp->Prop)(itv:Value)(s2:Shared):Prop:=
 ∃ (it:Addr) (fp:List Addr) (tn:Nat->Heap->Prop) (J:It) (H':Hp),itv=.ref it/\Inv X pins σ H' s2/\Turn X.prog X.w X.K tg J fp it tn/\tn 0 s2.heap/\(∀ b∈fp,jM X pins H' b)/\R J H'
noncomputable def PI (X:Cx)(tg iter:Expr)(wi:TI):Prop:=
 ∀ (pins:List (Addr×Obj)) (s:Shared) (σ:St) (H:Hp) (R:It->Hp->Prop),Inv X pins σ H s->wi σ H R ->
  wpAny (model X.prog X.w) X.A (eval iter X.env) (λ v s1=>wpAny (model X.prog X.w) X.A (pyIter v) (PL X pins σ tg R) X.xe s1) X.xe s
theorem vP {M:Model}{A:Around}{E:Value->Shared->Prop}{s:Shared}{tg:Expr}{it:Addr}{u:Value}{o:Obj}{n:String}{vs:Array Value}{Q:Unit->Shared->Prop}(ho:s.heap.get? it=some o)(hc:o.cls=.type n)(hd:o.data=.fields vs)
  (hn:["enumerate", "zip", "dict_itemiterator", "dict_reverseitemiterator", "odict_iterator", "itertools.zip_longest", "itertools.pairwise"].contains n=false) (hQ:Q () s):wpAny M A (letOwnedTupleGo tg (.ref it) u) Q E s:=by
 unfold letOwnedTupleGo
 cases tg <;> first
  | exact wpAny_pure hQ
  | (cases u <;> first
    | exact wpAny_pure hQ
    | (refine wpAny_bind (wpAny_load ho ?_)
       rw [hc,hd];show wpAny M A (if (["enumerate", "zip", "dict_itemiterator", "dict_reverseitemiterator", "odict_iterator", "itertools.zip_longest", "itertools.pairwise"].contains n && vs[0]? == some (rawInt _))=true then _ else _) Q E s;rw [if_neg (by intro h;rw [hn,Bool.false_and] at h;cases h)];exact wpAny_pure hQ))
noncomputable def NR (K:PySem.W.Frag)(a:Addr):It:=
 ⟨λ i H=>∃ xs x,f_ K H a xs/\xs[i]?=some x,λ i H x H'=>H'=H/\∀ xs,f_ K H a xs->xs[i]?=some x,λ i H=>∃ xs,f_ K H a xs/\xs.length<=i⟩
noncomputable def N9 (K:PySem.W.Frag)(a:Addr):It:=
 ⟨λ i H=>∃ xs x,fS K H a xs/\xs[i]?=some x,λ i H x H'=>H'=H/\∀ xs,fS K H a xs->xs[i]?=some x,λ i H=>∃ xs,fS K H a xs/\xs.length<=i⟩
noncomputable def L8 (lo:Int)(n:Nat):It:=⟨λ i _=>i < n,λ i H x H'=>H'=H/\x=.int (lo+i),λ i _=>n<=i⟩
theorem Bw {P:Program}{w:World}{K:PySem.W.Frag}{tg:Expr}(a it:Addr):Turn P w K tg (NR K a) [it] it (λ i h=>h.IsListIter it a i) where
 mem:=by simp
 obj:=λ i h st b hb=>by
  have e:b=it:=by simpa using hb
  subst e;obtain ⟨o,e,c,d⟩:=st;exact ⟨o,e,λ v z=>by rw [d] at z;cases z⟩
 keep:=λ i h h' st k=>st.at λ o e=>k it (by simp) o e
 item:=by
  intro X hP hw hK hc i pins s σ H E I hf st hg;subst hP hw hK;obtain ⟨xs,x,hq,hx⟩:=hg;obtain ⟨its,rv,p,hz⟩:=I.list hq;obtain ⟨u,hu,ru⟩:=rv.get hx;obtain ⟨f0,f1,f2,f3,f4,f5⟩:=hf it (by simp);refine wpAny_pyNext_list_item st p.isList (x:=u) (by simpa using hu) λ h' st' sb=>?_;have I1:Inv X pins σ H { s with heap:=h' }:=I.turned (t':=s.toks) (λ b o hb e=>(sb.2 b hb).trans e) f0 f1 f3 f4 f5;obtain ⟨o,e,c,d⟩:=id st';exact ⟨u,rfl,vP (s:={ s with heap:=h' }) e c d (by decide) ⟨x,H,I1,ru,⟨rfl,λ ys hy=>by rw [I.Dy hy hq];exact hx⟩,st',λ b hb=>(hf b hb).1⟩⟩
 done:=by
  intro X hP hw hK hc i pins s σ H E I hf st hg;subst hP hw hK;obtain ⟨xs,hq,hx⟩:=hg;obtain ⟨its,rv,p,hz⟩:=I.list hq;obtain ⟨f0,f1,f2,f3,f4,f5⟩:=hf it (by simp);have hl:=rv.length;exact wpAny_pyNext_list_end (I.ok.hd hc) st p.isList (by simp;omega) λ h' eb=>⟨rfl,I.turned (t':=s.toks) (λ b o hb e=>eb b o hb e) f0 f1 f3 f4 f5⟩
 self:=λ _ _ _ _ _ st h=>wpAny_pyIter_listiter st h
theorem wc {P:Program}{w:World}{K:PySem.W.Frag}{tg:Expr}(a it:Addr):Turn P w K tg (N9 K a) [it] it (λ i h=>h.IsTupleIter it a i) where
 mem:=by simp
 obj:=λ i h st b hb=>by
  have e:b=it:=by simpa using hb
  subst e;obtain ⟨o,e,c,d⟩:=st;exact ⟨o,e,λ v z=>by rw [d] at z;cases z⟩
 keep:=λ i h h' st k=>st.at λ o e=>k it (by simp) o e
 item:=by
  intro X hP hw hK hc i pins s σ H E I hf st hg;subst hP hw hK;obtain ⟨xs,x,hq,hx⟩:=hg;obtain ⟨its,rv,p,hz⟩:=I.tuple hq;obtain ⟨u,hu,ru⟩:=rv.get hx;obtain ⟨f0,f1,f2,f3,f4,f5⟩:=hf it (by simp);refine wpAny_pyNext_tuple_item st (show s.heap.IsTuple a its.toArray from p) (x:=u) (by simpa using hu) λ h' st' sb=>?_;have I1:Inv X pins σ H { s with heap:=h' }:=I.turned (t':=s.toks) (λ b o hb e=>(sb.2 b hb).trans e) f0 f1 f3 f4 f5;obtain ⟨o,e,c,d⟩:=id st';exact ⟨u,rfl,vP (s:={ s with heap:=h' }) e c d (by decide) ⟨x,H,I1,ru,⟨rfl,λ ys hy=>by rw [I.qW hy hq];exact hx⟩,st',λ b hb=>(hf b hb).1⟩⟩
 done:=by
  intro X hP hw hK hc i pins s σ H E I hf st hg;subst hP hw hK;obtain ⟨xs,hq,hx⟩:=hg;obtain ⟨its,rv,p,hz⟩:=I.tuple hq;obtain ⟨f0,f1,f2,f3,f4,f5⟩:=hf it (by simp);have hl:=rv.length;exact wpAny_pyNext_tuple_end (I.ok.hd hc) st (show s.heap.IsTuple a its.toArray from p) (by simp;omega) λ h' eb=>⟨rfl,I.turned (t':=s.toks) (λ b o hb e=>eb b o hb e) f0 f1 f3 f4 f5⟩
 self:=λ _ _ _ _ _ st h=>wpAny_pyIter_tupleiter st h
theorem vU {P:Program}{w:World}{K:PySem.W.Frag}{tg:Expr}(it:Addr)(lo:Int)(n:Nat):Turn P w K tg (L8 lo n) [it] it (λ i h=>IsRangeIter h it (lo+(i:Nat) * 1) ((n:Int) - (i:Nat)) 1) where
 mem:=by simp
 obj:=λ i h st b hb=>by
  have e:b=it:=by simpa using hb
  subst e;exact ⟨_,st,λ v z=>by
   have z':Data.fields _=Data.cell v:=z
   cases z'⟩
 keep:=λ i h h' st k=>k it (by simp) _ st
 item:=by
  intro X hP hw hK hc i pins s σ H E I hf st hg;subst hP hw hK;obtain ⟨f0,f1,f2,f3,f4,f5⟩:=hf it (by simp);have W:=Walks.range (prog:=X.prog) (w:=X.w) (I.ok.hd hc) it lo 1 n;refine W.item i s _ _ hg st λ v h' tk hv st' kk=>?_;obtain ⟨t,rfl⟩:=hv;have I1:Inv X pins σ H { s with heap:=h',toks:=tk }:=I.turned (λ b o hb e=>kk b o (by simpa using hb) e) f0 f1 f3 f4 f5;refine ⟨_,rfl,vP (s:={ s with heap:=h',toks:=tk }) (n := "range_iterator") st' rfl rfl (by decide) ⟨.int (lo+i),H,I1,⟨t,?_⟩,⟨rfl,rfl⟩,st',λ b hb=>(hf b hb).1⟩⟩;rw [Int.mul_one]
 done:=by
  intro X hP hw hK hc i pins s σ H E I hf st hg;subst hP hw hK;obtain ⟨f0,f1,f2,f3,f4,f5⟩:=hf it (by simp);exact wpAny_pyNext_range_end (I.ok.hd hc) st (by have:n<=i:=hg;omega) λ h' eb=>⟨rfl,I.turned (t':=s.toks) (λ b o hb e=>eb b o hb e) f0 f1 f3 f4 f5⟩
 self:=λ _ _ _ _ _ st h=>wpAny_pyIter_rangeiter st h
section
variable {X:Cx} {tg:Expr}
noncomputable def NF (K:PySem.W.Frag)(tl:TE):TI:=λ σ H R=>tl σ H λ x H1=>∃ a,x=.ref a/\(∃ xs,f_ K H1 a xs)/\R (NR K a) H1
noncomputable def OJ (K:PySem.W.Frag)(tl:TE):TI:=λ σ H R=>tl σ H λ x H1=>∃ a,x=.ref a/\(∃ xs,fS K H1 a xs)/\R (N9 K a) H1
theorem Au {l:Expr}{tl:TE}(hl:PE X l tl):PI X tg l (NF X.K tl):=by
 intro pins s σ H R I h;refine cj (hl pins s σ H _ I h) λ v s1 ⟨x,H1,I1,r1,q1⟩=>?_;obtain ⟨a,e,⟨xs,hq⟩,q⟩:=q1;subst e
 cases r1
 obtain ⟨its,rv,p,hz⟩:=I1.list hq;refine wpAny_pyIter_list p.isList ?_;refine ⟨s1.heap.objs.size,[s1.heap.objs.size],_,_,H1,rfl,I1.kept (t':=s1.toks) λ b o e=>get?_push_of_some _ e,Bw a _,⟨_,get?_push_size _ rfl,rfl,rfl⟩,λ b hb=>?_,q⟩;have e:b=s1.heap.objs.size:=by simpa using hb
 subst e;exact I1.wZ (Nat.le_refl _) (I1.hok.fresh (Nat.le_refl _))
theorem DG {l:Expr}{tl:TE}(hl:PE X l tl):PI X tg l (OJ X.K tl):=by
 intro pins s σ H R I h;refine cj (hl pins s σ H _ I h) λ v s1 ⟨x,H1,I1,r1,q1⟩=>?_;obtain ⟨a,e,⟨xs,hq⟩,q⟩:=q1;subst e
 cases r1
 obtain ⟨its,rv,p,hz⟩:=I1.tuple hq;refine wpAny_pyIter_tuple (show s1.heap.IsTuple a its.toArray from p) ?_;refine ⟨s1.heap.objs.size,[s1.heap.objs.size],_,_,H1,rfl,I1.kept (t':=s1.toks) λ b o e=>get?_push_of_some _ e,wc a _,⟨_,get?_push_size _ rfl,rfl,rfl⟩,λ b hb=>?_,q⟩;have e:b=s1.heap.objs.size:=by simpa using hb
 subst e;exact I1.wZ (Nat.le_refl _) (I1.hok.fresh (Nat.le_refl _))
theorem vp {pins:List (Addr×Obj)}{σ:St}{H:Hp}{s:Shared}{R:It->Hp->Prop}{E:Value->Shared->Prop}{lo hi:Int}{t u v:Tok}{tk:Nat}(I:Inv X pins σ H s)(h1:-(2 ^ 62)<=lo)(h2:lo < 2 ^ 62)(h3:-(2 ^ 62)<=hi)(h4:hi < 2 ^ 62)
  (q:R (L8 lo (hi - lo).toNat) H):wpAny (model X.prog X.w) X.A (pyIter (.ref s.heap.objs.size)) (PL X pins σ tg R) E { s with heap:=s.heap.push { cls:=.type "range",data:=.fields #[.int lo t,.int hi u,.int 1 v] },toks:=tk }:=by
 refine wpAny_pyIter_range (IsRange.new ..) (small_one h1 h2 h3 h4) ?_;have I1:Inv X pins σ H { s with heap:=s.heap.push { cls:=.type "range",data:=.fields #[.int lo t,.int hi u,.int 1 v] },toks:=tk }:=I.kept λ b o e=>get?_push_of_some _ e;refine ⟨(s.heap.push { cls:=.type "range",data:=.fields #[.int lo t,.int hi u,.int 1 v] }).objs.size,[(s.heap.push { cls:=.type "range",data:=.fields #[.int lo t,.int hi u,.int 1 v] }).objs.size],_,_,H,rfl,
  I1.kept (t':=tk) λ b o e=>get?_push_of_some _ e,vU _ lo (hi - lo).toNat,?_,λ b hb=>?_,q⟩
 ·have e1:lo+((0:Nat):Int) * 1=lo:=by simp
  have e2:(((hi - lo).toNat:Nat):Int) - ((0:Nat):Int)=Builtin.Range.rangeSize lo hi 1:=by rw [rangeSize_one];split <;> omega
  show IsRangeIter _ _ (lo+((0:Nat):Int) * 1) ((((hi - lo).toNat:Nat):Int) - ((0:Nat):Int)) 1;rw [e1,e2];exact get?_push_size _ rfl
 ·have e:b=(s.heap.push { cls:=.type "range",data:=.fields #[.int lo t,.int hi u,.int 1 v] }).objs.size:=by simpa using hb
  subst e;exact I1.wZ (Nat.le_refl _) (I1.hok.fresh (Nat.le_refl _))
noncomputable def gO (ta:TA):TI:=λ σ H R=>ta σ H λ vs H1=>∃ j:Int,vs=[.int j]/\-(2 ^ 62)<=j/\j < 2 ^ 62/\R (L8 0 j.toNat) H1
noncomputable def iB (ta:TA):TI:=λ σ H R=>ta σ H λ vs H1=>∃ i j:Int,vs=[.int i,.int j]/\(-(2 ^ 62)<=i/\i < 2 ^ 62/\-(2 ^ 62)<=j/\j < 2 ^ 62)/\R (L8 i (j - i).toNat) H1
theorem A0 {a:Expr}{ta:TA}{p pos:Pos}(hg:Gl X "range")(hm:X.mg "range" = none)(ha:PA X [a] ta)(hs:starEach [a] X.env=[(false,eval a X.env)]:=by rfl):PI X tg (.Call (.Name "range" p) [a] [] pos) (gO ta):=by
 intro pins s σ H R I h;refine Call_ (pq I hg hm boot_range (PyProof.Rows.callWith_type1 (cj (ha pos pins s σ H _ I h) λ us s1 ⟨vs,H1,I1,r1,q1⟩=>?_) hs rfl));obtain ⟨j,e,q1,q2,q⟩:=q1;subst e
 cases r1 with
 | cons r rr=>
  cases rr
  obtain ⟨t,rfl⟩:=r;exact call_range_1 (vp I1 (by omega) (by omega) q1 q2 (by simpa using q))
theorem AA {a b:Expr}{ta:TA}{p pos:Pos}(hg:Gl X "range")(hm:X.mg "range" = none)(ha:PA X [a,b] ta)(hs:starEach [a,b] X.env=[(false,eval a X.env),(false,eval b X.env)]:=by rfl)(hs2:starEach [b] X.env=[(false,eval b X.env)]:=by rfl) :
  PI X tg (.Call (.Name "range" p) [a,b] [] pos) (iB ta):=by
 intro pins s σ H R I h;refine Call_ (pq I hg hm boot_range (PyProof.Rows.callWith_type1 (cj (ha pos pins s σ H _ I h) λ us s1 ⟨vs,H1,I1,r1,q1⟩=>?_) (by rw [hs,hs2]) (by rw [hs2];rfl)));obtain ⟨i,j,e,⟨q1,q2,q3,q4⟩,q⟩:=q1;subst e
 cases r1 with
 | cons r rr=>
  cases rr with
  | cons r' rr=>
   cases rr
   obtain ⟨t,rfl⟩:=r;obtain ⟨t',rfl⟩:=r';exact call_range_2 (vp I1 q1 q2 q3 q4 q)
noncomputable def Oo (wi:TI)(g:TG)(tb:TS):TS:=λ D σ H=>wi σ H λ J H1=>∃ W:Nat->Nat->St->Hp->Prop,(∃ m,W 0 m σ H1)/\∀ i m σ H,W i m σ H ->
 (J.stop i H/\D.nx σ H)\/(J.go i H/\∃ N:St->Hp->Prop,(∀ σ' H',N σ' H'->∃ m',m' < m/\W (i+1) m' σ' H')/\∀ x H',J.yld i H x H'->g x σ H' λ σ2 H2=>tb { D with nx:=N,ct:=N,bk:=D.nx } σ2 H2)
noncomputable def kP (fp:List Addr)(h:Heap):List (Addr×Obj):=fp.filterMap λ b=>(h.get? b).map λ o=>(b,o)
theorem cP {fp:List Addr}{h:Heap}{b:Addr}{o:Obj}(hb:b∈fp)(e:h.get? b=some o):(b,o)∈kP fp h:=List.mem_filterMap.mpr ⟨b,hb,by rw [e];rfl⟩
theorem AD {fp:List Addr}{h:Heap}{p:Addr×Obj}(hp:p∈kP fp h):p.1∈fp/\h.get? p.1=some p.2:=by
 obtain ⟨b,hb,e⟩:=List.mem_filterMap.mp hp
 cases q:h.get? b with
 | none=>rw [q] at e;cases e
 | some o=>
  rw [q] at e;have e':(b,o)=p:=Option.some.inj e;subst e';exact ⟨hb,q⟩
theorem Inv.pinned {pins:List (Addr×Obj)}{σ:St}{H:Hp}{s:Shared}{fp:List Addr}(I:Inv X pins σ H s)(hf:∀ b∈fp,jM X pins H b)(ho:∀ b∈fp,∃ o,s.heap.get? b=some o/\∀ v,o.data≠.cell v):Inv X (pins++kP fp s.heap) σ H s:=
 I.yg λ p hp=>(mem_append.mp hp).elim (λ z=>I.pin p (mem_append_right _ z)) λ z=>by
  obtain ⟨hb,e⟩:=AD z;obtain ⟨f0,f1,f2,_⟩:=hf p.1 hb;obtain ⟨o,e',d⟩:=ho p.1 hb;rw [e] at e';cases e';exact ⟨e,f0,f1,f2,d⟩
theorem Inv.gJ {pins pl:List (Addr×Obj)}{σ:St}{H:Hp}{s:Shared}(I:Inv X (pins++pl) σ H s):Inv X pins σ H s:=I.yg λ p hp=>I.pin p (mem_append_right _ (mem_append_left _ hp))
theorem Ku {iter:Expr}{body:List Stmt}{wi:TI}{g:TG}{tb:TS}{pos:Pos}(hp:PassesOwn (model X.prog X.w) X.A X.env X.xe)(hc:X.calm=true)(hi:PI X tg iter wi)(hg:PG X tg g)(hb:tB X body tb)
  (hs:∀ x,foldedSetIterable iter X.env x=pure x:=by intro _;rfl):PS X (.For tg iter body [] pos) (Oo wi g tb):=by
 intro pins s σ H D I h;refine wpAny_For (cj (hi pins s σ H _ I h) λ v s1 h1=>cj h1 λ itv s2 h2=>?_) hs;obtain ⟨it,fp,tn,J,H2,e,I2,T,st2,f2,W,⟨m0,w0⟩,turn⟩:=h2;subst e;have stat:∀ {H':Hp},(∀ b∈fp,H' b=none)->∀ b∈fp,jM X pins H' b:=λ hn b hb=>⟨hn b hb,(f2 b hb).2⟩;refine codeAny_forLoop_any (λ n s'=>∃ i σ' H',Inv X pins σ' H' s'/\tn i s'.heap/\(∀ b∈fp,H' b=none)/\W i n σ' H') ?_ m0 ⟨0,σ,H2,I2,st2,λ b hb=>(f2 b hb).1,w0⟩;rintro n s3 ⟨i,σ3,H3,I3,st3,fr3,w3⟩
 rcases turn i n σ3 H3 w3 with ⟨stop,qn⟩ | ⟨go,N,hN,step⟩
 ·refine wpAny_passesOwn hp (cj (T.done X rfl rfl rfl hc i pins s3 σ3 H3 X.xe I3 (stat fr3) st3 stop) λ r s4 ⟨hr,I4⟩=>?_);subst hr;exact wpAny_execs_nil ⟨σ3,H3,I4,qn⟩
 ·refine wpAny_passesOwn hp (cj (T.item X rfl rfl rfl hc i pins s3 σ3 H3 X.xe I3 (stat fr3) st3 go) λ r s4 ⟨u,hr,h4⟩=>?_);subst hr;refine wpAny_passesOwn hp (cj h4 λ _ s5 ⟨x,H5,I5,r5,y5,st5,fr5⟩=>?_);have I5':=I5.pinned (stat fr5) (T.obj _ _ st5);refine wpAny_passesOwn hp (cj (hg _ s5 σ3 H5 x u _ I5' r5 (step x H5 y5)) λ _ s6 ⟨σ6,H6,I6,q6⟩=>?_);refine wpAny_passesOwn hp (cj (hb _ s6 σ6 H6 _ I6 q6) λ f s7 q7=>?_);have again:∀ {σ7:St} {H7:Hp},Inv X (pins++kP fp s5.heap) σ7 H7 s7->N σ7 H7->∃ m,m < n/\∃ i σ' H',Inv X pins σ' H' s7/\tn i s7.heap/\(∀ b∈fp,H' b=none)/\W i m σ' H':=λ {σ7 H7} I7 n7=>by
   obtain ⟨m',hm,w7⟩:=hN σ7 H7 n7;refine ⟨m',hm,i+1,σ7,H7,I7.gJ,T.keep _ _ _ st5 λ b hb o e=>(I7.pin (b,o) (mem_append_right _ (mem_append_right _ (cP hb e)))).1,λ b hb=>?_,w7⟩;obtain ⟨o,e,d⟩:=T.obj _ _ st5 b hb;exact (I7.pin (b,o) (mem_append_right _ (mem_append_right _ (cP hb e)))).2.1
  cases f with
  | next=>obtain ⟨σ7,H7,I7,n7⟩:=q7;exact again I7 n7
  | cont=>obtain ⟨σ7,H7,I7,n7⟩:=q7;exact again I7 n7
  | brk=>obtain ⟨σ7,H7,I7,q7⟩:=q7;exact ⟨σ7,H7,I7.gJ,q7⟩
  | ret v=>obtain ⟨x7,σ7,H7,I7,r7,q7⟩:=q7;exact ⟨x7,σ7,H7,I7.gJ,r7,q7⟩
end
theorem iX {c:TT}{tb:TS}{D:Ends}{σ:St}{H:Hp}(Pv:St->Hp->Prop)(μ:St->Hp->Nat)(h0:Pv σ H)
  (hs:∀ σ H,Pv σ H->c σ H λ b H1=>if b=true then tb { D with nx:=λ σ' H'=>Pv σ' H'/\μ σ' H' < μ σ H,ct:=λ σ' H'=>Pv σ' H'/\μ σ' H' < μ σ H,bk:=D.nx } σ H1 else D.nx σ H1)
  (mono:∀ σ H Q Q',(∀ b H1,Q b H1->Q' b H1)->c σ H Q->c σ H Q'):Cr c tb D σ H:=by
 refine ⟨λ m σ H=>m=μ σ H/\Pv σ H,⟨_,rfl,h0⟩,?_⟩;rintro m σ H ⟨rfl,p⟩;refine mono σ H _ _ (λ b H1 q=>?_) (hs σ H p)
 cases b with
 | true=>exact ⟨_,λ σ' H' ⟨p',l⟩=>⟨_,l,rfl,p'⟩,q⟩
 | false=>exact q
noncomputable abbrev R2:=V->V->Hp->VK->Prop
noncomputable def e_ (X:Cx)(f:Value->Value->Sem Value)(r:R2):Prop:=
 ∀ (pins:List (Addr×Obj)) (s:Shared) (σ:St) (H:Hp) (x y:V) (v u:Value) (Q:VK),Inv X pins σ H s->RelV x v->RelV y u->r x y H Q ->
  wpAny (model X.prog X.w) X.A (f v u) (EP X pins σ Q) X.xe s
noncomputable def N_ (X:Cx)(f:Value->Sem Value)(r:V->Hp->VK->Prop):Prop:=
 ∀ (pins:List (Addr×Obj)) (s:Shared) (σ:St) (H:Hp) (x:V) (v:Value) (Q:VK),Inv X pins σ H s->RelV x v->r x H Q ->
  wpAny (model X.prog X.w) X.A (f v) (EP X pins σ Q) X.xe s
noncomputable def bB (X:Cx)(f:Value)(r:List V->Hp->VK->Prop):Prop:=
 ∀ (pins:List (Addr×Obj)) (s:Shared) (σ:St) (H:Hp) (xs:List V) (us:List Value) (Q:VK),Inv X pins σ H s->Vals xs us->r xs H Q ->
  wpAny (model X.prog X.w) X.A (call f us) (EP X pins σ Q) X.xe s
noncomputable def OD (X:Cx)(r:V->Hp->(Bool->Hp->Prop)->Prop):Prop:=
 ∀ (pins:List (Addr×Obj)) (s:Shared) (σ:St) (H:Hp) (x:V) (v:Value) (Q:Bool->Hp->Prop),Inv X pins σ H s->RelV x v->r x H Q ->
  wpAny (model X.prog X.w) X.A (truthy v) (TP X pins σ Q) X.xe s
noncomputable def Nv (r:R2)(ta tb:TE):TE:=λ σ H Q=>ta σ H λ x H1=>tb σ H1 λ y H2=>r x y H2 Q
noncomputable def PV (r:V->Hp->VK->Prop)(ta:TE):TE:=λ σ H Q=>ta σ H λ x H1=>r x H1 Q
noncomputable def rI (C:Int->Int->Prop)(g:Int->Int->V):R2:=λ x y H Q=>∃ i j,x=.int i/\y=.int j/\C i j/\Q (g i j) H
noncomputable def HB (g:Int->Int->V):R2:=λ x y H Q=>∃ i j,x=.int i/\y=.int j/\Q (g i j) H
noncomputable def rU (g:Int->V):V->Hp->VK->Prop:=λ x H Q=>∃ i,x=.int i/\Q (g i) H
section
variable {X:Cx} {a b c:Expr} {ta tb tc:TE} {pos:Pos}
theorem JA (ha:PE X a ta)(hb:PE X b tb){pins:List (Addr×Obj)}{s:Shared}{σ:St}{H:Hp}{R:V->V->Hp->Prop}(I:Inv X pins σ H s)
  (h:ta σ H λ x H1=>tb σ H1 λ y H2=>R x y H2) {Q:Value->Shared->Prop} {f:Value->Value->Sem Value}
  (hf:∀ v u s2 x y H2,Inv X pins σ H2 s2->RelV x v->RelV y u->R x y H2->wpAny (model X.prog X.w) X.A (f v u) Q X.xe s2) :
  wpAny (model X.prog X.w) X.A (eval a X.env) (λ v s₁=>wpAny (model X.prog X.w) X.A (eval b X.env) (λ u s₂=>wpAny (model X.prog X.w) X.A (f v u) Q X.xe s₂) X.xe s₁) X.xe s:=by
 refine cj (ha pins s σ H _ I h) λ v s1 ⟨x,H1,I1,r1,q1⟩=>?_;refine cj (hb pins s1 σ H1 _ I1 q1) λ u s2 ⟨y,H2,I2,r2,q2⟩=>?_;exact hf v u s2 x y H2 I2 r1 r2 q2
theorem My {op:Operator}{r:R2}(ho:e_ X (binaryOp op) r)(ha:PE X a ta)(hb:PE X b tb):PE X (.BinOp a op b pos) (Nv r ta tb):=by
 intro pins s σ H Q I h;exact wpAny_BinOp (JA ha hb I h λ v u s2 x y H2 I2 rx ry q=>ho pins s2 σ H2 x y v u Q I2 rx ry q)
theorem HP {op:UnaryOp}{r:V->Hp->VK->Prop}(ho:N_ X (unaryOp op) r)(ha:PE X a ta):PE X (.UnaryOp op a pos) (PV r ta):=by
 intro pins s σ H Q I h;exact UnaryOp_ (cj (ha pins s σ H _ I h) λ v s1 ⟨x,H1,I1,r1,q1⟩=>ho pins s1 σ H1 x v Q I1 r1 q1)
theorem NP {f:Value->Value->Sem Value}{C:Int->Int->Prop}{g:Int->Int->Int}
  (rule:∀ (i j:Int) (t u:Tok) (s:Shared) (Q:Value->Shared->Prop) (E:Value->Shared->Prop),C i j->Q (.int (g i j) s.toks) { s with toks:=s.toks+1 }->wpAny (model X.prog X.w) X.A (f (.int i t) (.int j u)) Q E s) :
  e_ X f (rI C λ i j=>.int (g i j)):=by
 intro pins s σ H x y v u Q I rx ry h;obtain ⟨i,j,rfl,rfl,hc,q⟩:=h;obtain ⟨t,rfl⟩:=rx;obtain ⟨t',rfl⟩:=ry;exact rule i j t t' s _ _ hc ⟨.int (g i j),H,I.tok _,⟨_,rfl⟩,q⟩
theorem M3 {f:Value->Value->Sem Value}{g:Int->Int->Int}
  (rule:∀ (i j:Int) (t u:Tok) (s:Shared) (Q:Value->Shared->Prop) (E:Value->Shared->Prop),Q (.int (g i j) s.toks) { s with toks:=s.toks+1 }->wpAny (model X.prog X.w) X.A (f (.int i t) (.int j u)) Q E s) :
  e_ X f (HB λ i j=>.int (g i j)):=by
 intro pins s σ H x y v u Q I rx ry h;obtain ⟨i,j,rfl,rfl,q⟩:=h;obtain ⟨t,rfl⟩:=rx;obtain ⟨t',rfl⟩:=ry;exact rule i j t t' s _ _ ⟨.int (g i j),H,I.tok _,⟨_,rfl⟩,q⟩
theorem Gh {f:Value->Value->Sem Value}{g:Int->Int->Bool}
  (rule:∀ (i j:Int) (t u:Tok) (s:Shared) (Q:Value->Shared->Prop) (E:Value->Shared->Prop),Q (.bool (g i j)) s->wpAny (model X.prog X.w) X.A (f (.int i t) (.int j u)) Q E s) :
  e_ X f (HB λ i j=>.bl (g i j)):=by
 intro pins s σ H x y v u Q I rx ry h;obtain ⟨i,j,rfl,rfl,q⟩:=h;obtain ⟨t,rfl⟩:=rx;obtain ⟨t',rfl⟩:=ry;exact rule i j t t' s _ _ ⟨.bl (g i j),H,I,rfl,q⟩
noncomputable def OS (i j:Int):Prop:=0<=j/\j<=1000000/\i.natAbs < 2 ^ 64
noncomputable def GV (i j:Int):Prop:=(-(2 ^ 64) < i/\i < 2 ^ 64)\/(-(2 ^ 64) < j/\j < 2 ^ 64)
theorem GV.ok {i j:Int}(h:GV i j):IntMulOk i j:=by
 rcases h with ⟨h1,h2⟩ | ⟨h1,h2⟩
 ·exact .of_left (intBits_le_64 h1 h2)
 ·exact .of_right (intBits_le_64 h1 h2)
theorem LB:e_ X (binaryOp .Add) (HB λ i j=>.int (i+j)):=M3 λ _ _ _ _ _ _ _ q=>add_int q
theorem LL:e_ X (binaryOp .Sub) (HB λ i j=>.int (i - j)):=M3 λ _ _ _ _ _ _ _ q=>sub_int q
theorem Jz:e_ X (binaryOp .Mult) (rI GV λ i j=>.int (i * j)):=NP λ _ _ _ _ _ _ _ hc q=>mul_int q hc.ok
theorem Lg:e_ X (binaryOp .Mod) (rI (λ _ j=>0 < j) λ i j=>.int (i % j)):=NP λ i j _ _ _ _ _ hc q=>by
 have h1:(0:Int) < j:=hc;exact mod_int' (by omega) (by rw [Int.fmod_eq_emod_of_nonneg i (by omega)];exact q)
theorem K3:e_ X (binaryOp .Pow) (rI OS λ i j=>.int (i ^ j.toNat)):=NP λ _ _ _ _ _ _ _ hc q=>pow_int_small hc.1 hc.2.1 hc.2.2 q
theorem PN {f:Value->Sem Value}{g:Int->Int}
  (rule:∀ (i:Int) (t:Tok) (s:Shared) (Q:Value->Shared->Prop) (E:Value->Shared->Prop),Q (.int (g i) s.toks) { s with toks:=s.toks+1 }->wpAny (model X.prog X.w) X.A (f (.int i t)) Q E s) :
  N_ X f (rU λ i=>.int (g i)):=by
 intro pins s σ H x v Q I rx h;obtain ⟨i,rfl,q⟩:=h;obtain ⟨t,rfl⟩:=rx;exact rule i t s _ _ ⟨.int (g i),H,I.tok _,⟨_,rfl⟩,q⟩
theorem Eo:N_ X (unaryOp .USub) (rU λ i=>.int (-i)):=PN λ _ _ _ _ _ q=>neg_int q
end
section
variable {X:Cx} {a b c:Expr} {ta tb tc:TE} {pos:Pos}
theorem J8 {pins:List (Addr×Obj)}{σ:St}{H:Hp}{s:Shared}{Q:VK}{k k':Bool}(I:Inv X pins σ H s)(q:Q (.bl k) H)(e:k=k'):EP X pins σ Q (.bool k') s:=by
 subst e;exact ⟨.bl k,H,I,rfl,q⟩
theorem Mc:e_ X (compareOp .Lt) (HB λ i j=>.bl (decide (i < j))):=Gh λ _ _ _ _ _ _ _ q=>lt_int q
theorem Ms:e_ X (compareOp .LtE) (HB λ i j=>.bl (decide (i<=j))):=Gh λ _ _ _ _ _ _ _ q=>le_int q
theorem Ml:e_ X (compareOp .Gt) (HB λ i j=>.bl (decide (j < i))):=Gh λ _ _ _ _ _ _ _ q=>gt_int q
theorem NI:e_ X (compareOp .GtE) (HB λ i j=>.bl (decide (j<=i))):=Gh λ _ _ _ _ _ _ _ q=>ge_int q
theorem JK:e_ X (compareOp .Is) (λ x y H Q=>y=.non/\Q (.bl (decide (x=.non))) H):=by
 intro pins s σ H x y v u Q I rx ry h;obtain ⟨rfl,q⟩:=h
 cases ry
 refine is_none_gen (J8 I q ?_)
 cases x <;> first
  | (cases rx;rfl)
  | (obtain ⟨t,rfl⟩:=rx;rfl)
theorem D5 (b:Expr){op:CmpOp}(h:op≠.In:=by decide)(h2:op≠.NotIn:=by decide):behindInMarks op b=false:=by
 have e1:(op == CmpOp.In)=false:=by cases op <;> first | rfl | exact absurd rfl h
 have e2:(op == CmpOp.NotIn)=false:=by cases op <;> first | rfl | exact absurd rfl h2
 cases b <;> simp [behindInMarks,e1,e2]
theorem GN {op:CmpOp}{r:R2}(ho:e_ X (compareOp op) r)(ha:PE X a ta)(hb:PE X b tb)(hm:behindInMarks op b=false):PE X (.Compare a [op] [b] pos) (Nv r ta tb):=by
 intro pins s σ H Q I h;exact wpAny_Compare1 (JA ha hb I h λ v u s2 x y H2 I2 rx ry q=>ho pins s2 σ H2 x y v u Q I2 rx ry q) hm
noncomputable def ID (t:TE):TT:=λ σ H Q=>t σ H λ x H'=>∃ k,x=.bl k/\Q k H'
theorem FZ {op:CmpOp}{r:R2}(ho:e_ X (compareOp op) r)(ha:PE X a ta)(hb:PE X b tb)(hm:behindInMarks op b=false):PT X (.Compare a [op] [b] pos) (ID (Nv r ta tb)):=by
 intro pins s σ H Q I h;refine wpAny_isTrue_Compare1 (cj (ha pins s σ H _ I h) λ v s1 ⟨x,H1,I1,r1,q1⟩=>cj (hb pins s1 σ H1 _ I1 q1) λ u s2 ⟨y,H2,I2,r2,q2⟩=>
  cj (ho pins s2 σ H2 x y v u _ I2 r1 r2 q2) λ c s3 ⟨z,H3,I3,r3,k,e,q3⟩=>?_) hm
 subst e
 cases r3
 exact wpAny_truthy_bool ⟨H3,I3,q3⟩
noncomputable def wB (r r':R2)(ta tb tc:TE):TE:=λ σ H Q=>ta σ H λ x H1=>tb σ H1 λ y H2=>r x y H2 λ z H3=>∃ k,z=.bl k /\
 (if k=true then tc σ H3 λ w' H4=>r' y w' H4 Q else Q (.bl false) H3)
theorem CV {op op':CmpOp}{r r':R2}(ho:e_ X (compareOp op) r)(ho':e_ X (compareOp op') r')(ha:PE X a ta)(hb:PE X b tb)(hc:PE X c tc)
  (hm:lastMarks [op,op'] [b,c]=false:=by with_unfolding_all rfl):PE X (.Compare a [op,op'] [b,c] pos) (wB r r' ta tb tc):=by
 intro pins s σ H Q I h;refine Compare_chain (cj (ha pins s σ H _ I h) λ v s1 ⟨x,H1,I1,r1,q1⟩=>chain_link (cj (hb pins s1 σ H1 _ I1 q1) λ u s2 ⟨y,H2,I2,r2,q2⟩=>
  cj (ho pins s2 σ H2 x y v u _ I2 r1 r2 q2) λ d s3 ⟨z,H3,I3,r3,k,e,q3⟩=>?_)) hm
 subst e
 cases r3
 refine wpAny_truthy_bool ?_
 cases k with
 | false=>exact ite_ff ⟨.bl false,H3,I3,rfl,q3⟩
 | true=>exact ite_tt (chain_last (cj (hc pins s3 σ H3 _ I3 q3) λ w' s4 ⟨z',H4,I4,r4,q4⟩=>ho' pins s4 σ H4 y z' u w' Q I4 r2 r4 q4))
theorem EY {op op':CmpOp}{r r':R2}(ho:e_ X (compareOp op) r)(ho':e_ X (compareOp op') r')(ha:PE X a ta)(hb:PE X b tb)(hc:PE X c tc)
  (hm:lastMarks [op,op'] [b,c]=false:=by with_unfolding_all rfl):PT X (.Compare a [op,op'] [b,c] pos) (ID (wB r r' ta tb tc)):=by
 intro pins s σ H Q I h;refine isTrue_chain (cj (ha pins s σ H _ I h) λ v s1 ⟨x,H1,I1,r1,q1⟩=>test_link (cj (hb pins s1 σ H1 _ I1 q1) λ u s2 ⟨y,H2,I2,r2,q2⟩=>
  cj (ho pins s2 σ H2 x y v u _ I2 r1 r2 q2) λ d s3 ⟨z,H3,I3,r3,k,e,q3⟩=>?_)) hm
 subst e
 cases r3
 refine wpAny_truthy_bool ?_
 cases k with
 | false=>
  obtain ⟨k',e',q'⟩:=q3
  cases e'
  exact ite_ff ⟨H3,I3,q'⟩
 | true=>
  refine ite_tt (test_last (cj (hc pins s3 σ H3 _ I3 q3) λ w' s4 ⟨z',H4,I4,r4,q4⟩=>cj (ho' pins s4 σ H4 y z' u w' _ I4 r2 r4 q4) λ d' s5 ⟨z2,H5,I5,r5,k2,e2,q5⟩=>?_));subst e2
  cases r5
  exact wpAny_truthy_bool ⟨H5,I5,q5⟩
noncomputable def LN (K:PySem.W.Frag)(x:V)(H:Hp)(k:Bool):Prop:=
 match x with
 | .non=>k=false
 | .bl b=>k=b
 | .int i=>k=(i != 0)
 | .str y=>y.length<=sizeLine/\k=((y.length:Int) != 0)
 | .byt y=>y.size<=sizeLine/\k=((y.size:Int) != 0)
 | .ref p=>(∃ xs,f_ K H p xs/\k=!xs.isEmpty)\/(∃ xs,fS K H p xs/\k=!xs.isEmpty)\/∃ kvs,H p=some (.dK kvs)/\k=!kvs.isEmpty
 | _=>False
theorem wH {κ:Type}{kvs:List (κ×V)}{vs:List (κ×Value)}(r:KV kvs vs):(!vs.isEmpty)=!kvs.isEmpty:=by
 cases r <;> rfl
theorem qg {xs:List V}{its:List Value}(r:Vals xs its):(!its.toArray.isEmpty)=!xs.isEmpty:=by
 cases r <;> simp
theorem kN:(sizeLine:Nat) < 2 ^ 63:=by rw [sizeLine_eq];decide
theorem K2:OD X (λ x H Q=>∃ k,LN X.K x H k/\Q k H):=by
 intro pins s σ H x v Q I rx h;obtain ⟨k,e,q⟩:=h;have hl:=kN;have hs:sizeLine=16777216:=sizeLine_eq
 cases x with
 | non=>
  cases rx
  have e':k=false:=e;subst e';exact truthy_none ⟨H,I,q⟩
 | bl b=>
  cases rx
  have e':k=b:=e;subst e';exact wpAny_truthy_bool ⟨H,I,q⟩
 | int i=>
  obtain ⟨t,rfl⟩:=rx;have e':k=(i != 0):=e;subst e';exact PySem.P.truthy_int ⟨H,I,q⟩
 | str y=>
  obtain ⟨t,rfl⟩:=rx;obtain ⟨hy,e'⟩:y.length<=sizeLine/\k=((y.length:Int) != 0):=e;subst e';exact PySem.P.truthy_str (by omega) ⟨H,I.tok _,q⟩
 | byt y=>
  obtain ⟨t,rfl⟩:=rx;obtain ⟨hy,e'⟩:y.size<=sizeLine/\k=((y.size:Int) != 0):=e;subst e';exact PySem.W.truthy_bytes (by omega) ⟨H,I.tok _,q⟩
 | ref p=>
  cases rx
  have e':(∃ xs,f_ X.K H p xs/\k=!xs.isEmpty)\/(∃ xs,fS X.K H p xs/\k=!xs.isEmpty)\/∃ kvs,H p=some (.dK kvs)/\k=!kvs.isEmpty:=e
  rcases e' with ⟨xs,hx,e'⟩ | ⟨xs,hx,e'⟩ | ⟨kvs,hx,e'⟩
  ·subst e';obtain ⟨its,r,pl,hz⟩:=I.list hx;have hlen:=r.length;exact wpAny_truthy_list pl.isList (by simp only [size_toArray];omega) ⟨H,I.tok _,by rw [qg r];exact q⟩
  ·subst e';obtain ⟨its,r,pl,hz⟩:=I.tuple hx;have hlen:=r.length;exact truthy_tuple pl (by simp only [size_toArray];omega) ⟨H,I.tok _,by rw [qg r];exact q⟩
  ·subst e';obtain ⟨hz,hS,vs,r,m⟩:kvs.length<=sizeLine/\(p == sysModules)=false/\∃ vs,KV kvs vs/\s.heap.DictOf (cH X.prog X.w) p vs:=I.hok p _ hx;have hlen:kvs.length=vs.length:=Paired.length r;exact wpAny_truthy_dict hS m (by omega) ⟨H,I.tok _,by rw [wH r];exact q⟩
 | _=>exact (show False from e).elim
theorem B9 (ha:PE X a ta)(he:∀ whole,isTrue a X.env whole=(do let v <- whole;standAt a.pos;holding [v] (truthy v))) :
  PT X a (λ σ H Q=>ta σ H λ x H'=>∃ k,LN X.K x H' k/\Q k H'):=by
 intro pins s σ H Q I h;exact isTrue_plain (cj (ha pins s σ H _ I h) λ v s1 ⟨x,H1,I1,r1,q1⟩=>K2 pins s1 σ H1 x v Q I1 r1 q1) (he _)
theorem wU:e_ X (binaryOp .Add) (λ x y H Q=>∃ i j,x=.str i/\y=.str j/\i.length+j.length<=sizeLine/\Q (.str (i++j)) H):=by
 intro pins s σ H x y v u Q I rx ry h;obtain ⟨i,j,rfl,rfl,hz,q⟩:=h;obtain ⟨t,rfl⟩:=rx;obtain ⟨t',rfl⟩:=ry;exact add_str (λ t' tk=>⟨.str (i++j),H,I.tok _,⟨_,rfl⟩,q⟩) hz
theorem vals1 {x:V}{us:List Value}(r:Vals [x] us):∃ u,us=[u]/\RelV x u:=by
 cases r with
 | cons r1 r2=>cases r2;exact ⟨_,rfl,r1⟩
theorem vals2 {x y:V}{us:List Value}(r:Vals [x,y] us):∃ u w',us=[u,w']/\RelV x u/\RelV y w':=by
 cases r with
 | cons r1 r2=>
  cases r2 with
  | cons r3 r4=>cases r4;exact ⟨_,_,rfl,r1,r3⟩
theorem BX:bB X (.builtin "abs") (λ xs H Q=>∃ i,xs=[.int i]/\Q (.int (if i < 0 then -i else i)) H):=by
 intro pins s σ H xs us Q I r h;obtain ⟨i,rfl,q⟩:=h;obtain ⟨u,rfl,t,rfl⟩:=vals1 r;exact call_abs_int λ u tk=>⟨.int (if i < 0 then -i else i),H,I.tok _,⟨_,rfl⟩,q⟩
theorem AQ (hc:X.calm=true):bB X (.builtin "max") (λ xs H Q=>∃ i j,xs=[.int i,.int j]/\Q (.int (if j > i then j else i)) H):=by
 intro pins s σ H xs us Q I r h;obtain ⟨i,j,rfl,q⟩:=h;obtain ⟨u,w',rfl,⟨t,rfl⟩,⟨t',rfl⟩⟩:=vals2 r;refine max_two_ints (I.ok.hd hc) λ h' tk k=>⟨_,H,I.kept k,?_,q⟩;by_cases hj:j > i
 ·rw [if_pos hj,if_pos hj];exact ⟨_,rfl⟩
 ·rw [if_neg hj,if_neg hj];exact ⟨_,rfl⟩
theorem AF (hc:X.calm=true):bB X (.builtin "min") (λ xs H Q=>∃ i j,xs=[.int i,.int j]/\Q (.int (if j < i then j else i)) H):=by
 intro pins s σ H xs us Q I r h;obtain ⟨i,j,rfl,q⟩:=h;obtain ⟨u,w',rfl,⟨t,rfl⟩,⟨t',rfl⟩⟩:=vals2 r;refine min_two_ints (I.ok.hd hc) λ h' tk k=>⟨_,H,I.kept k,?_,q⟩;by_cases hj:j < i
 ·rw [if_pos hj,if_pos hj];exact ⟨_,rfl⟩
 ·rw [if_neg hj,if_neg hj];exact ⟨_,rfl⟩
theorem rK:bB X (.type "int") (λ xs H Q=>(∃ i,xs=[.int i]/\Q (.int i) H)\/∃ k,xs=[.bl k]/\Q (.int (if k then 1 else 0)) H):=by
 intro pins s σ H xs us Q I r h
 rcases h with ⟨i,rfl,q⟩ | ⟨k,rfl,q⟩
 ·obtain ⟨u,rfl,t,rfl⟩:=vals1 r;exact call_int_int ⟨.int i,H,I,⟨_,rfl⟩,q⟩
 ·obtain ⟨u,rfl,r1⟩:=vals1 r
  cases r1
  exact call_int_bool ⟨.int (if k then 1 else 0),H,I.tok _,⟨_,rfl⟩,q⟩
noncomputable def O6 (K:PySem.W.Frag)(x:V)(H:Hp)(n:Nat):Prop:=
 match x with
 | .str y=>y.length<=sizeLine/\n=y.length
 | .byt y=>y.size<=sizeLine/\n=y.size
 | .ref p=>(∃ xs,f_ K H p xs/\n=xs.length)\/∃ xs,fS K H p xs/\n=xs.length
 | _=>False
theorem Dz:bB X (.builtin "len") (λ xs H Q=>∃ x n,xs=[x]/\O6 X.K x H n/\Q (.int n) H):=by
 intro pins s σ H xs us Q I r h;obtain ⟨x,n,rfl,e,q⟩:=h;obtain ⟨u,rfl,rx⟩:=vals1 r;have hl:=kN;have hs:sizeLine=16777216:=sizeLine_eq
 cases x with
 | str y=>
  obtain ⟨t,rfl⟩:=rx;obtain ⟨hy,e'⟩:y.length<=sizeLine/\n=y.length:=e;subst e';exact len_str (by omega) ⟨.int _,H,I.tok _,⟨_,rfl⟩,q⟩
 | byt y=>
  obtain ⟨t,rfl⟩:=rx;obtain ⟨hy,e'⟩:y.size<=sizeLine/\n=y.size:=e;subst e';exact PySem.W.len_bytes (by omega) ⟨.int _,H,I.tok _,⟨_,rfl⟩,q⟩
 | ref p=>
  cases rx
  have e':(∃ xs,f_ X.K H p xs/\n=xs.length)\/∃ xs,fS X.K H p xs/\n=xs.length:=e
  rcases e' with ⟨xs,hx,e'⟩ | ⟨xs,hx,e'⟩
  ·subst e';obtain ⟨its,r',pl,hz⟩:=I.list hx;have hlen:=r'.length;exact Calls.call_len_list pl.isList (by simp only [size_toArray];omega) ⟨.int xs.length,H,I.tok _,⟨_,by simp only [size_toArray];rw [hlen]⟩,q⟩
  ·subst e';obtain ⟨its,r',pl,hz⟩:=I.tuple hx;have hlen:=r'.length;exact len_tuple pl (by simp only [size_toArray];omega) ⟨.int xs.length,H,I.tok _,⟨_,by simp only [size_toArray];rw [hlen]⟩,q⟩
 | _=>exact (show False from e).elim
end
structure ObjM (h:Heap)(x dx C:Addr)(mA:Str->Option Value):Prop where
 obj:h.get? x=some (PySem.W.instObj C dx)
 ns:h.Ns1 dx mA
 ne:dx≠x
theorem A9 {h:Heap}{dx:Addr}{mA:Str->Option Value}(n:h.Ns1 dx mA):∃ od,h.get? dx=some od/\∀ name,PySem.W.lookIn name od=some (mA name):=by
 obtain ⟨o,es,ep,ho,hd,hk,_,hm⟩:=n;refine ⟨o,ho,λ name=>?_⟩;have e:=hm name;unfold nsFind findBy at e;rw [<- Array.find?_toList] at e;unfold PySem.W.lookIn;rw [hd];dsimp only;split
 ·rename_i y q;rw [q] at e;exact congrArg some e
 ·rename_i q;rw [q] at e;have a:es.toList.any (·.refKey)=false:=by
   rw [List.any_eq_false];intro y hy;obtain ⟨z,t,hkey⟩:=hk y (Array.mem_toList_iff.mp hy);simp [DictEntry.refKey,hkey]
  have a':¬ es.toList.any (·.refKey)=true:=by rw [a];exact Bool.false_ne_true
  rw [if_neg a'];exact congrArg some e
theorem ObjM.look {h:Heap}{x dx C:Addr}{mA:Str->Option Value}(I:ObjM h x dx C mA):∃ od,PySem.W.InstAt h x (PySem.W.instObj C dx) C (some od)/\∀ name,PySem.W.lookIn name od=some (mA name):=
 let ⟨od,ho,hl⟩:=A9 I.ns
 ⟨od,⟨I.obj,rfl,rfl,ho⟩,hl⟩
section
variable {prog:Program} {w:World} {A:Around} {E:Value->Shared->Prop} {s:Shared} {K:PySem.W.Frag} {x dx C f:Addr} {mA:Str->Option Value} {name:Str} {v:Value}
end
theorem qu.some_of {v:V}{o:Option Value}(r:qu (some v) o):∃ u,o=some u/\RelV v u:=by
 cases o with
 | none=>exact (show False from r).elim
 | some u=>exact ⟨u,rfl,r⟩
section
variable {P:Program} {w:World} {H H':Hp} {h h':Heap} {a C dx:Addr} {fs fs':List (Str×V)}
theorem Ge (hok:lE P w H h)(e:H a=some (.ins C dx fs)):∃ mA,ObjM h a dx C mA/\(∀ f,qu (fs.lookup f) (mA f))/\PySem.Within mA (fs.map (·.1))/\fs.length<=1000/\H dx=some (.own a):=by
 obtain ⟨d,z,ne,ob,mA,n,r,q⟩:=(show b_ P w H h a (.ins C dx fs) from hok a _ e);exact ⟨mA,⟨ob,n,ne⟩,r,q,z,d⟩
end
structure Cls (K:PySem.W.Frag)(C:Addr):Prop where
 pg:PySem.W.plainGet K C Str.empty=true
 hd:PySem.W.hasDictIn K C=true
 po:PySem.W.plainOver K C=true
 sa:PySem.W.findIn K (.ref C) "__setattr__" = some (some (.builtin "object.__setattr__"))
theorem Cls.get {K:PySem.W.Frag}{C:Addr}(c:Cls K C)(f:Str):PySem.W.plainGet K C f=true:=c.pg
structure Con (K:PySem.W.Frag)(C:Addr)(f:Str)(v:V)(u:Value):Prop where
 at_:PySem.W.findIn K (.ref C) f=some (some u)
 rel:RelV v u
 get:PySem.W.specialIn K u "__get__" = some none
 cp:PySem.W.copiedNames.contains f=false
structure Meth (K:PySem.W.Frag)(C:Addr)(m:Str)(f:Addr):Prop where
 at_:PySem.W.findIn K (.ref C) m=some (some (.ref f))
 fn:PySem.W.isFn K (.ref f)=true
 kp:PySem.W.keepIn K (.ref f)=true
section
variable {X:Cx} {pins:List (Addr×Obj)} {σ:St} {H:Hp} {s:Shared} {a C dx:Addr} {fs:List (Str×V)} {f:Str} {v:V} {A:Around} {E:Value->Shared->Prop}
end
section
variable {X:Cx} {o e value:Expr} {f:Str} {pos pos' tpos:Pos} {ta tv:TE}
end
section
variable {X:Cx} {pins:List (Addr×Obj)} {σ:St} {H:Hp} {s:Shared} {A:Around} {E:Value->Shared->Prop} {Q:Value->Shared->Prop} {c:Value} {b:Bool}
inductive TyOf (K:PySem.W.Frag) (H:Hp):V->Value->Prop where
 | non:TyOf K H .non (.type "NoneType")
 | bl (x:Bool):TyOf K H (.bl x) (.type "bool")
 | int (i:Int):TyOf K H (.int i) (.type "int")
 | str (x:Str):TyOf K H (.str x) (.type "str")
 | flt (x:UInt64):TyOf K H (.flt x) (.type "float")
 | lst {a:Addr} {xs:List V} (e:H a=some (.lst xs)):TyOf K H (.ref a) (.type "list")
 | frz {a:Addr} {o:Obj} {xs:List V} (e:H a=some (.frz o (.lst xs))):TyOf K H (.ref a) (.type "list")
 | tup {a:Addr} {xs:List V} (e:H a=some (.tup xs)):TyOf K H (.ref a) (.type "tuple")
 | dK {a:Addr} {kvs:List (Key×V)} (e:H a=some (.dK kvs)):TyOf K H (.ref a) (.type "dict")
 | dT {a:Addr} {kvs:List (List Key×V)} (e:H a=some (.dT kvs)):TyOf K H (.ref a) (.type "dict")
 | ins {a C dx:Addr} {fs:List (Str×V)} (e:H a=some (.ins C dx fs)) (cl:Cls K C) (ha:PySem.W.findIn K (.ref C) "__class__" = some (some (.builtin "object.__class__")))
   (hn:PySem.W.specialIn K (.builtin "object.__class__") "__get__" = some (some (.builtin "getset_descriptor.__get__"))) (htk:PySem.W.takesIn K (.builtin "object.__class__")=some true)
   (hm:PySem.W.mroIn K C (.type "object")=some true):TyOf K H (.ref a) (.ref C)
theorem Bd {x:V}{u t:Value}(I:Inv X pins σ H s)(rx:RelV x u)(ty:TyOf X.K H x t)(e:PySem.W.kitOne X.K t c=some b)(h:∀ tk,Q (.bool b) { s with toks:=tk }) :
  wpAny (model X.prog X.w) A (call (.builtin "isinstance") [u,c]) Q E s:=by
 cases ty with
 | non=>cases (show u=Value.none from rx);exact PySem.W.kia_one PySem.W.kitx_none I.tY True.intro e (λ z=>nomatch z) h
 | bl y=>cases (show u=Value.bool y from rx);exact PySem.W.kia_one PySem.W.kitx_bool I.tY True.intro e (λ z=>nomatch z) h
 | int i=>obtain ⟨t,q⟩:=(show ∃ t,u=Value.int i t from rx);cases q;exact PySem.W.kia_one PySem.W.kitx_int I.tY True.intro e (λ z=>nomatch z) h
 | str y=>obtain ⟨t,q⟩:=(show ∃ t,u=Value.str y t from rx);cases q;exact PySem.W.kia_one PySem.W.kitx_str I.tY True.intro e (λ z=>nomatch z) h
 | flt y=>obtain ⟨t,q⟩:=(show ∃ t,u=Value.float y t from rx);cases q;exact PySem.W.kia_one PySem.W.kitx_float I.tY True.intro e (λ z=>nomatch z) h
 | @lst a xs ea=>
  cases (show u=Value.ref a from rx)
  obtain ⟨_,_,n,_,h1⟩:=(show b_ X.prog X.w H s.heap a (.lst xs) from I.hok a _ ea);exact PySem.W.kia_one PySem.W.kitx_list I.tY ⟨_,h1,rfl⟩ e (λ z=>nomatch z) h
 | @frz a ob xs ea=>
  cases (show u=Value.ref a from rx)
  obtain ⟨_,_,_,n,_,h1⟩:=(show b_ X.prog X.w H s.heap a (.frz ob (.lst xs)) from I.hok a _ ea);exact PySem.W.kia_one PySem.W.kitx_list I.tY ⟨_,h1,rfl⟩ e (λ z=>nomatch z) h
 | @tup a xs ea=>
  cases (show u=Value.ref a from rx)
  obtain ⟨_,_,_,p⟩:=(show b_ X.prog X.w H s.heap a (.tup xs) from I.hok a _ ea);obtain ⟨o,h1,h2,_⟩:=p;exact PySem.W.kia_one PySem.W.kitx_tuple I.tY ⟨o,h1,h2⟩ e (λ z=>nomatch z) h
 | @dK a kvs ea=>
  cases (show u=Value.ref a from rx)
  obtain ⟨_,_,vs,_,p⟩:=(show b_ X.prog X.w H s.heap a (.dK kvs) from I.hok a _ ea);obtain ⟨o,es,ep,h1,h2,_⟩:=p;exact PySem.W.kia_one PySem.W.kitx_dict I.tY ⟨o,h1,h2.1⟩ e (λ z=>nomatch z) h
 | @dT a kvs ea=>
  cases (show u=Value.ref a from rx)
  obtain ⟨_,_,xs,_,o,es,ep,h1,h2,_⟩:=(show b_ X.prog X.w H s.heap a (.dT kvs) from I.hok a _ ea);exact PySem.W.kia_one PySem.W.kitx_dict I.tY ⟨o,h1,h2.1⟩ e (λ z=>nomatch z) h
 | @ins a C dx fs ea cl ha hn htk hm=>
  cases (show u=Value.ref a from rx)
  obtain ⟨mA,O,_⟩:=Ge I.hok ea;obtain ⟨od,J,_⟩:=O.look;exact PySem.W.kia_one (PySem.W.kitx_own (cl.get _) cl.hd ha hn htk hm) I.tY J e (λ z=>nomatch z) h
end
structure Room (k:Nat)(A:Around):Prop where
 hd:A.handled=none
 dp:A.depth+3 * k+5 < recursionLimit
 un:A.units+16 * k+200 < cLine
theorem Room.mono {j k:Nat}{A:Around}(r:Room k A)(h:j<=k):Room j A:=⟨r.hd,by have:=r.dp;omega,by have:=r.un;omega⟩
theorem Room.deeper {k:Nat}{A:Around}(r:Room (k+1) A)(env:Env):Room k (A.deeper env):=
 ⟨r.hd,by have:=r.dp;show A.depth+1+3 * k+5 < _;omega,by have:=r.un;show A.units+3+16 * k+200 < _;omega⟩
theorem Room.depth {k:Nat}{A:Around}(r:Room k A):A.depth < recursionLimit:=by have:=r.dp;omega
theorem Room.units {k:Nat}{A:Around}(r:Room k A):A.units+64 < cLine:=by have:=r.un;omega
noncomputable def Ot:TA:=λ _ H Q=>Q [] H
noncomputable def M_ (ta:TE)(tr:TA):TA:=λ σ H Q=>ta σ H λ x H1=>tr σ H1 λ xs H2=>Q (x::xs) H2
section
variable {X:Cx} {e:Expr} {es:List Expr} {te:TE} {t:TA} {pos:Pos}
theorem vY:PA X [] Ot:=λ _ _ _ _ H Q I h=>Calls.spliced_nil ⟨[],H,I,.nil,h⟩
theorem n8 (ha:PE X e te)(hr:PA X es t)(hs:starEach (e::es) X.env=(false,eval e X.env)::starEach es X.env:=by rfl):PA X (e::es) (M_ te t):=by
 intro pos pins s σ H Q I h;rw [hs];show wpAny _ _ (spliced ((false,eval e X.env)::backTo pos (starEach es X.env))) _ _ s;refine Calls.spliced_cons (cj (ha pins s σ H _ I h) λ u s1 ⟨x,H1,I1,r1,q1⟩=>?_);exact cj (hr pos pins s1 σ H1 _ I1 q1) λ us s2 ⟨xs,H2,I2,r2,q2⟩=>⟨x::xs,H2,I2,.cons r1 r2,q2⟩
noncomputable def Oi (t:TA):TE:=λ σ H Q=>t σ H λ xs H1=>xs.length<=sizeLine/\∀ p,H1 p=none->Q (.ref p) (upd H1 p (.tup xs))
noncomputable def OL (t:TA):TE:=λ σ H Q=>t σ H λ xs H1=>xs.length<=sizeLine/\∀ p,H1 p=none->Q (.ref p) (upd H1 p (.lst xs))
theorem J7 {x1}(h:PA X es t):PE X (.Tuple es x1 pos) (Oi t):=by
 intro pins s σ H Q I hq;refine wpAny_Tuple_spliced (cj (h pos pins s σ H _ I hq) λ us s1 ⟨xs,H1,I1,r,z,q⟩=>⟨by rw [<- r.length];exact z,?_⟩);have hf:H1 s1.heap.objs.size=none:=I1.hok.fresh (Nat.le_refl _);refine ⟨.ref s1.heap.objs.size,upd H1 s1.heap.objs.size (.tup xs),I1.laid (t':=s1.toks) (λ b u e=>get?_push_of_some _ e) (Nat.le_refl _) ?_,rfl,q _ hf⟩;exact ⟨z,us,r,⟨_,get?_push_size _ rfl,rfl,rfl,_,rfl⟩⟩
theorem K_ (h:PA X es t):PE X (.List es pos) (OL t):=by
 intro pins s σ H Q I hq;refine wpAny_List_spliced (cj (h pos pins s σ H _ I hq) λ us s1 ⟨xs,H1,I1,r,z,q⟩=>⟨by rw [<- r.length];exact z,?_⟩);have hf:H1 s1.heap.objs.size=none:=I1.hok.fresh (Nat.le_refl _);refine ⟨.ref s1.heap.objs.size,upd H1 s1.heap.objs.size (.lst xs),I1.laid (t':=s1.toks) (λ b u e=>get?_push_of_some _ e) (Nat.le_refl _) ?_,rfl,q _ hf⟩;exact ⟨z,us,0,r,get?_push_size _ rfl⟩
end
noncomputable abbrev Sp:=List V->Hp->VK->XK->Prop
noncomputable abbrev D6:=List Env->Hp->Shared->XK->Value->Shared->Prop
structure Env0 (P:Program)(w:World)(K:PySem.W.Frag)(mg:Str->Option Value)(base:Heap)(A:Around)(outer:List Env)(s:Shared)(H:Hp):Prop where
 frames:A.frames=some outer
 mod:Mod K mg base
 bs:∀ b o,base.get? b=some o->s.heap.get? b=some o/\H b=none
 bsz:base.objs.size<=s.heap.objs.size
 oV:s.heap.FunFrames base outer
 frf:∀ b∈frs outer,H b=none
 hok:lE P w H s.heap
 bare:AllBare s.gens
noncomputable def CE (outer:List Env)(P:Program)(w:World)(H:Hp)(s:Shared)(Q:VK)(u:Value)(s':Shared):Prop:=
 ∃ v H',s'.os=s.os/\AllBare s'.gens/\Un (frs outer) [] H H' s.heap s'.heap/\lE P w H' s'.heap/\RelV v u/\Q v H'
noncomputable def CR (CX:D6)(outer:List Env)(P:Program)(w:World)(H:Hp)(s:Shared)(Q:VK)(E:XK)(r:Result)(s':Shared):Prop:=
 match r with
 | .ok (.ret u)=>CE outer P w H s Q u s'
 | .ok _=>False
 | .error e=>CX outer H s E e s'
structure FnOk (P:Program)(w:World)(K:PySem.W.Frag)(mg:Str->Option Value)(base:Heap)(CX:D6)(k:Nat)(f:Addr)(fd:FuncData)(ps:List Str)(sp:Sp):Prop where
 len:∀ vs H Q E,sp vs H Q E->vs.length=ps.length
 run:∀ (A:Around) (outer:List Env) (s:Shared) (H:Hp) (args:Args) (us:List Value) (vs:List V) (Q:VK) (E:XK),Room k A->Env0 P w K mg base A outer s H->BindsTo s fd args (ps.zip us)->Vals vs us->sp vs H Q E ->
  codeAny (model P w) A (.call (.ref f) args) (CR CX outer P w H s Q E) s
section
variable {X:Cx} {pins:List (Addr×Obj)} {σ:St} {H:Hp} {s s':Shared}
theorem Inv.OH (I:Inv X pins σ H s):Env0 X.prog X.w X.K X.mg X.base X.A X.stack s H:=
 ⟨I.ok.frames,I.ok.mod,I.bs,Nat.le_trans I.ok.bsz I.sz,I.stack,I.yW,I.hok,I.bare⟩
theorem Inv.after {Q:VK}{u:Value}(I:Inv X pins σ H s)(h:CE X.stack X.prog X.w H s Q u s'):EP X pins σ Q u s':=by
 obtain ⟨v,H',os,bare,un,hok,r,q⟩:=h;obtain ⟨hh,g,d,t,os'⟩:=s';obtain rfl:os'=s.os:=os;exact ⟨v,H',I.call (h':=hh) (g':=g) (d':=d) (t':=t) (ch:=[]) un hok bare (λ b z=>absurd z (by simp)),r,q⟩
end
noncomputable def IA (sp:Sp)(dvs:List V)(E:XK)(t:TA):TE:=λ σ H Q=>t σ H λ vs H1=>sp (vs++dvs) H1 Q E
noncomputable def Binds (K:PySem.W.Frag)(fd:FuncData)(ps:List Str)(ds:List Value):Prop:=
 ∀ (s:Shared) (us:List Value),K.In s.heap->(us++ds).length=ps.length->BindsTo s fd ⟨us,[]⟩ (ps.zip (us++ds))
theorem Binds.all {K:PySem.W.Frag}{fd:FuncData}{ps:List Str}(h:∀ us:List Value,us.length=ps.length->bindArgs fd ⟨us,[]⟩=pure (ps.zip us)):Binds K fd ps []:=λ s us _ hl=>by
 rw [append_nil] at hl ⊢;exact .of_eq (h us hl)
noncomputable def Passes (CX:D6)(X:Cx)(E:XK):Prop:=∀ (pins:List (Addr×Obj)) (σ:St) (H:Hp) (s:Shared) (e:Value) (s':Shared),Inv X pins σ H s->CX X.stack H s E e s'->X.xe e s'
section
variable {X:Cx} {CX:D6} {k:Nat} {f C:Addr} {fd:FuncData} {ps:List Str} {sp:Sp} {dvs:List V} {ds:List Value} {E:XK} {x m:Str} {p pos apos:Pos} {e o:Expr} {es:List Expr} {ta:TE} {t:TA}
theorem JY {pins:List (Addr×Obj)}{σ:St}{H:Hp}{s:Shared}{Q:VK}{us:List Value}{vs:List V}(F:FnOk X.prog X.w X.K X.mg X.base CX k f fd ps sp)(hr:Room k X.A)(hb:Binds X.K fd ps ds)(hd:Vals dvs ds)(hx:Passes CX X E)
  (I:Inv X pins σ H s) (r:Vals vs us) (h:sp (vs++dvs) H Q E):wpAny (model X.prog X.w) X.A (call (.ref f) us) (EP X pins σ Q) X.xe s:=by
 have r2:Vals (vs++dvs) (us++ds):=r.append hd;have hl:(us++ds).length=ps.length:=by rw [<- r2.length];exact F.len _ _ _ _ h
 refine wpAny_call (codeAny_mono (F.run X.A X.stack s H ⟨us,[]⟩ (us++ds) (vs++dvs) Q E hr I.OH (hb s us I.tY hl) r2 h) λ r s' hq=>?_)
 cases r with
 | error e=>exact hx pins σ H s e s' I hq
 | ok fl=>
  cases fl with
  | ret u=>exact I.after hq
  | next=>exact False.elim hq
  | brk=>exact False.elim hq
  | cont=>exact False.elim hq
theorem Gf (F:FnOk X.prog X.w X.K X.mg X.base CX k f fd ps sp)(hr:Room k X.A)(hg:Gl X x)(hm:X.mg x=some (.ref f))(hk:PySem.W.keepIn X.K (.ref f)=true)(hb:Binds X.K fd ps ds)(hd:Vals dvs ds)(hx:Passes CX X E)
  (ha:PA X (e::es) t) (hdb:(x == ("__debug__" : Str))=false:=by decide) (he:starEach (e::es) X.env=(false,eval e X.env)::starEach es X.env:=by rfl) (hpl:(backTo pos (starEach es X.env)).any (·.1)=false:=by rfl) :
  PE X (.Call (.Name x p) (e::es) [] pos) (IA sp dvs E t):=by
 intro pins s σ H Q I h;refine wpAny_Call_Name_kw (yN I hg hm ?_ hdb);refine PySem.W.callWith_K (h₀:=X.base) I.ok.mod.kin hk (cj (ha pos pins s σ H _ I h) λ us s1 ⟨vs,H1,I1,r,q⟩=>⟨I1.tY,?_⟩) he hpl;exact JY F hr hb hd hx I1 r q
structure Mk (K:PySem.W.Frag)(C f:Addr):Prop where
 makes:PySem.W.makesIn K C=true
 init:PySem.W.findIn K (.ref C) "__init__" = some (some (.ref f))
 fn:PySem.W.isFn K (.ref f)=true
 kp:PySem.W.keepIn K (.ref C)=true
end
section
variable {X:Cx} {CX:D6} {k:Nat} {f C:Addr} {fd:FuncData} {ps ks:List Str} {sp:Sp} {E:XK} {x m:Str} {p pos apos kpos:Pos} {e o:Expr} {es:List Expr} {kws:List Keyword} {te ta:TE} {t tk:TA} {nm:Option Str}
structure KBinds (K:PySem.W.Frag)(fd:FuncData)(ps ks:List Str)(g:List Value->List Value->List Value)(gV:List V->List V->List V):Prop where
 to:∀ (s:Shared) (us ws:List Value),K.In s.heap->(g us ws).length=ps.length->BindsTo s fd ⟨us,ks.zip ws⟩ (ps.zip (g us ws))
 rel:∀ {vs:List V} {us:List Value} {zs:List V} {ws:List Value},Vals vs us->Vals zs ws->Vals (gV vs zs) (g us ws)
variable {g:List Value->List Value->List Value} {gV:List V->List V->List V}
end
structure FnScope (N P:List Str)(sc:Scope):Prop where
 kind:sc.kind=.function
 co:sc.isCoroutine=false
 gen:sc.isGenerator=false
 nd:N.Nodup
 pre:N.take P.length=P
 par:∀ x∈P,sc.names.lookup x=some .local\/sc.names.lookup x=some .cell
 nofree:∀ y∈sc.names,y.2≠.free
theorem qU {kindOf:Str->Option NameKind}{x:Str}:∀ {binds:List (Str×Value)} {m:Str->Option Value},(∀ v,(x,v)∉binds)->bindL kindOf binds m x=m x
 | [],_,_=>rfl
 | (n,v)::r,m,h=>by
  unfold bindL;rw [qU λ w hw=>h w (mem_cons_of_mem _ hw)];split
  ·have:x≠n:=by rintro rfl;exact h v mem_cons_self
   simp [this]
  ·rfl
theorem q_ {kindOf:Str->Option NameKind}{x:Str}:∀ {binds:List (Str×Value)} {m:Str->Option Value},(∀ v,(x,v)∉binds)->bindC kindOf binds m x=m x
 | [],_,_=>rfl
 | (n,v)::r,m,h=>by
  unfold bindC;rw [q_ λ w hw=>h w (mem_cons_of_mem _ hw)];split
  ·rfl
  ·have:x≠n:=by rintro rfl;exact h v mem_cons_self
   simp [this]
theorem qK {kindOf:Str->Option NameKind}{x:Str}{v:Value}:∀ {P:List Str} {vs:List Value} {i:Nat} {m:Str->Option Value},P.Nodup->P[i]?=some x->vs[i]?=some v->kindOf x=some .local ->
  bindL kindOf (P.zip vs) m x=some v
 | [],_,_,_,_,h,_,_=>by simp at h
 | _::_,[],_,_,_,_,h,_=>by simp at h
 | p::P,w::vs,0,m,nd,h1,h2,hk=>by
  simp at h1 h2;subst h1;subst h2;show bindL kindOf ((p,w)::P.zip vs) m p=_;unfold bindL;rw [qU λ v hv=>(nodup_cons.mp nd).1 (of_mem_zip hv).1,if_pos hk];simp
 | p::P,w::vs,i+1,m,nd,h1,h2,hk=>by
  show bindL kindOf ((p,w)::P.zip vs) m x=_;unfold bindL;exact qK (i:=i) (nodup_cons.mp nd).2 (by simpa using h1) (by simpa using h2) hk
theorem rf {kindOf:Str->Option NameKind}{x:Str}{v:Value}:∀ {P:List Str} {vs:List Value} {i:Nat} {m:Str->Option Value},P.Nodup->P[i]?=some x->vs[i]?=some v->kindOf x≠some .local ->
  bindC kindOf (P.zip vs) m x=some v
 | [],_,_,_,_,h,_,_=>by simp at h
 | _::_,[],_,_,_,_,h,_=>by simp at h
 | p::P,w::vs,0,m,nd,h1,h2,hk=>by
  simp at h1 h2;subst h1;subst h2;show bindC kindOf ((p,w)::P.zip vs) m p=_;unfold bindC;rw [q_ λ v hv=>(nodup_cons.mp nd).1 (of_mem_zip hv).1,if_neg hk];simp
 | p::P,w::vs,i+1,m,nd,h1,h2,hk=>by
  show bindC kindOf ((p,w)::P.zip vs) m x=_;unfold bindC;exact rf (i:=i) (nodup_cons.mp nd).2 (by simpa using h1) (by simpa using h2) hk
noncomputable def start (N:List Str)(vs:List V):St:=vs.map some++List.replicate (N.length - vs.length) none
noncomputable def xD (CX:D6)(P:Program)(w:World)(K:PySem.W.Frag)(mg:Str->Option Value)(base:Heap)(N:List Str)(qual:Str)(scope:Scope)(f:Addr)(cd:Value)(A:Around)(outer:List Env)(s:Shared)(H:Hp)(E:XK):Cx where
 prog:=P
 w:=w
 K:=K
 mg:=mg
 base:=base
 A:=A.deeper (envOfC qual scope s.heap.objs.size f cd)
 N:=N
 s₀:=s
 H₀:=H
 env:=envOfC qual scope s.heap.objs.size f cd
 outer:=outer
 stack:=envOfC qual scope s.heap.objs.size f cd::outer
 ex:=[]
 calm:=true
 fn:=λ _=>true
 pn:=[]
 xe:=λ e s'=>wpAny (model P w) (A.deeper (envOfC qual scope s.heap.objs.size f cd)) (leaving (envOfC qual scope s.heap.objs.size f cd) e) (λ _ s''=>CX outer H s E e s'') (λ e' s''=>CX outer H s E e' s'') s'
theorem vA {sc:Scope}{n:Nat}{x:Str}(h:sc.names.lookup x=some .cell):∃ c,(cellsFrom n sc.names []).lookup x=some c:=by
 have q:=PySem.W.cellsFrom_some sc.names n [] (.inl h);exact isSome_iff_exists.mp q
theorem AJ {CX:D6}{P:Program}{w:World}{K:PySem.W.Frag}{mg:Str->Option Value}{base:Heap}{N ps:List Str}{qual:Str}{scope:Scope}{f:Addr}{cd:Value}{A:Around}{outer:List Env}{s s1:Shared}{H:Hp}{E:XK}{us:List Value}{vs:List V}
  (S:FnScope N ps scope) (hd:A.handled=none) (e0:Env0 P w K mg base A outer s H) (hl:vs.length=ps.length) (r:Vals vs us)
  (x:InCallC s s.heap.objs.size (bindL (envOfC qual scope s.heap.objs.size f cd).kindOf (ps.zip us) λ _=>none) (cellsFrom (s.heap.objs.size+1) scope.names []) (bindC (envOfC qual scope s.heap.objs.size f cd).kindOf (ps.zip us) λ _=>none) s1) :
  Inv (xD CX P w K mg base N qual scope f cd A outer s H E) [] (start N vs) H s1:=by
 have hpl:ps.length<=N.length:=by have:=congrArg List.length S.pre;rw [length_take] at this;omega
 obtain ⟨h1,tk,rfl,hk⟩:=x.done;have noA:∀ b:Addr,b∉(xD CX P w K mg base N qual scope f cd A outer s H E).ex:=λ b z=>absurd (show b∈([]:List Addr) from z) (by simp);refine ⟨⟨e0.mod,S.kind,rfl,rfl,Nat.le_refl _,λ y z c h1 h2=>?_,λ y hy=>?_,λ y c _ h=>?_,λ _=>hd,Around.frames_deeper e0.frames,.inr ⟨rfl,rfl⟩,λ b z=>absurd z (noA b),e0.bs,e0.bsz,λ b _ _=>noA b,λ b z=>absurd z (noA b),e0.oV,e0.frf⟩,
  rfl,e0.bare,Un.kept hk,⟨_,x.toInCall.ns,λ i y v h1 h2 h3=>?_⟩,λ y c h=>⟨_,x.cell y c h⟩,e0.hok.fresh (Nat.le_refl _),λ y c h=>?_,λ p hp=>absurd (show p∈([]:List (Addr×Obj)) from hp) (by simp),e0.hok.kept hk,?_⟩
 ·exact name_of_addr x.apart (PySem.mem_of_lookup h1) (PySem.mem_of_lookup h2)
 ·have hy:scope.names.lookup y=some .cell\/scope.names.lookup y=some .free:=hy
  rcases hy with hy | hy
  ·exact vA hy
  ·exact absurd rfl (S.nofree _ (PySem.mem_of_lookup hy))
 ·exact le_of_lt (x.above y c (PySem.mem_of_lookup h))
 ·have hi:i < vs.length:=by
   unfold start at h2;by_cases hi:i < vs.length
   ·exact hi
   ·rw [List.getElem?_append_right (by simpa using hi)] at h2;rw [getElem?_replicate] at h2;split at h2 <;> cases h2
  have ha:vs[i]?=some v:=by
   unfold start at h2;rw [getElem?_append_left (by simpa using hi),List.getElem?_map] at h2
   cases e:vs[i]? with
   | none=>rw [e] at h2;cases h2
   | some a=>rw [e] at h2;cases h2;rfl
  obtain ⟨u,hu,rv⟩:=r.get ha;have hp:ps[i]?=some y:=by
   rw [<- S.pre,getElem?_take_of_lt (by omega)];exact h1
  have ndP:ps.Nodup:=by rw [<- S.pre];exact S.nd.sublist (List.take_sublist _ _)
  refine ⟨u,rv,?_⟩
  rcases S.par y (mem_of_getElem? hp) with k | k
  ·exact .inl ⟨k,qK ndP hp hu k⟩
  ·obtain ⟨c,e⟩:=vA (n:=s.heap.objs.size+1) k;refine .inr ⟨.inl k,c,e,?_⟩;have q:=x.cell y c e;rw [rf ndP hp hu (by show scope.names.lookup y≠_;rw [k];decide)] at q;exact q
 ·exact e0.hok.fresh (le_of_lt (x.above y c (PySem.mem_of_lookup h)))
 ·unfold start;show _=N.length;rw [length_append,length_map,List.length_replicate];omega
theorem Nm {CX:D6}{P:Program}{w:World}{K:PySem.W.Frag}{mg:Str->Option Value}{base:Heap}{k:Nat}{f:Addr}{name qual:Str}{params:Arguments}{body:List Stmt}{scope:Scope}{dV kV doc pm cdv ct oc:Value}{an od:Option Addr}
  {osl:Array (Option Value)} {N ps:List Str} {sp:Sp} (lk:K.lookup f=some ⟨oc,od,.func (PySem.W.fnOf name qual params body scope dV kV doc pm an cdv ct),osl⟩) (hcd:PySem.W.codeIn K cdv qual=true) (S:FnScope N ps scope)
  (len:∀ vs H Q E,sp vs H Q E->vs.length=ps.length)
  (hbody:∀ (A:Around) (outer:List Env) (s:Shared) (H:Hp) (vs:List V) (Q:VK) (E:XK),Room k (A.deeper (envOfC qual scope s.heap.objs.size f cdv))->sp vs H Q E ->
   ∃ t,tB (xD CX P w K mg base N qual scope f cdv A outer s H E) body t/\t { nx:=λ _ H'=>Q .non H',rt:=Q } (start N vs) H) :
  FnOk P w K mg base CX (k+1) f (PySem.W.fnOf name qual params body scope dV kV doc pm an cdv ct) ps sp:=by
 refine ⟨len,λ A outer s H args us vs Q E hr e0 hb r hsp=>?_⟩;have hl:=len _ _ _ _ hsp;have KX:K.In s.heap:=e0.mod.kin.keeps λ b o e=>(e0.bs b o e).1;have lim:s.heap.NoLimit:=e0.mod.nolimit.keeps λ b o e=>(e0.bs b o e).1;have hkind:∀ y∈ps.zip us,scope.names.lookup y.1=some .local\/(scope.names.lookup y.1=some .cell/\((cellsFrom (s.heap.objs.size+1) scope.names []).lookup y.1).isSome=true):=λ ⟨n,v⟩ hy=>by
  rcases S.par n (of_mem_zip hy).1 with q | q
  ·exact .inl q
  ·exact .inr ⟨q,PySem.W.cellsFrom_some _ _ _ (.inl q)⟩
 refine codeAny_call_function hr.depth (KX _ _ lk) rfl S.co S.gen rfl (PySem.W.codeRec_of KX hcd) (hb _ _ _ _ ?_);refine wpAny_newFunctionEnv_cells S.kind hkind λ env he s1 x=>?_;subst he;refine ⟨lim.keeps x.toInCall.keep,codeAny_func ?_⟩;obtain ⟨t,ht,hq⟩:=hbody A outer s H vs Q E (hr.deeper _) hsp;have I:Inv (xD CX P w K mg base N qual scope f cdv A outer s H E) [] (start N vs) H s1:=AJ S hr.hd e0 hl r x;refine wpAny_mono (ht [] s1 (start N vs) H _ I hq) (λ fl s' hs=>?_) λ e s' hs=>hs;have fin:∀ {σ':St} {H':Hp} {v:V} {u:Value},Inv (xD CX P w K mg base N qual scope f cdv A outer s H E) [] σ' H' s'->RelV v u->Q v H'->CE outer P w H s Q u s':=
  λ {σ' H' v u} J rv q=>⟨v,H',J.os,J.bare,J.base,J.hok,rv,q⟩
 cases fl with
 | ret u=>
  obtain ⟨v,σ',H',J,rv,q⟩:=hs;exact fin J rv q
 | next=>
  obtain ⟨σ',H',J,q⟩:=hs;exact fin (v:=V.non) (u:=Value.none) J rfl q
 | brk=>
  obtain ⟨_,_,_,q⟩:=hs;exact False.elim q
 | cont=>
  obtain ⟨_,_,_,q⟩:=hs;exact False.elim q
section
variable {X:Cx} {x:Str} {p pos:Pos} {e:Expr} {es:List Expr} {t:TA} {id T:String} {r:List V->Hp->VK->Prop}
noncomputable def OM (r:List V->Hp->VK->Prop)(t:TA):TE:=λ σ H Q=>t σ H λ vs H1=>r vs H1 Q
theorem CK (hc:bB X (.builtin id) r)(hg:Gl X x)(hm:X.mg x=none)(hv:bootBuiltins x=some (.builtin id))(ha:PA X (e::es) t)(hn:x ≠ "__name__" := by decide)(hdb:(x == ("__debug__" : Str))=false:=by decide)
  (he:starEach (e::es) X.env=(false,eval e X.env)::starEach es X.env:=by rfl) (hpl:(backTo pos (starEach es X.env)).any (·.1)=false:=by rfl):PE X (.Call (.Name x p) (e::es) [] pos) (OM r t):=by
 intro pins s σ H Q I h;refine wpAny_Call_Name_kw (pq I hg hm hv ?_ hn hdb);exact PyProof.Rows.callWith_builtin1 (cj (ha pos pins s σ H _ I h) λ us s1 ⟨vs,H1,I1,r1,q1⟩=>hc pins s1 σ H1 vs us Q I1 r1 q1) he hpl
theorem Bv (hc:bB X (.type T) r)(hg:Gl X x)(hm:X.mg x=none)(hv:bootBuiltins x=some (.type T))(ha:PA X (e::es) t)(hn:x ≠ "__name__" := by decide)(hdb:(x == ("__debug__" : Str))=false:=by decide)
  (he:starEach (e::es) X.env=(false,eval e X.env)::starEach es X.env:=by rfl) (hpl:(backTo pos (starEach es X.env)).any (·.1)=false:=by rfl):PE X (.Call (.Name x p) (e::es) [] pos) (OM r t):=by
 intro pins s σ H Q I h;refine wpAny_Call_Name_kw (pq I hg hm hv ?_ hn hdb);exact PyProof.Rows.callWith_type1 (cj (ha pos pins s σ H _ I h) λ us s1 ⟨vs,H1,I1,r1,q1⟩=>hc pins s1 σ H1 vs us Q I1 r1 q1) he hpl
end
end L2
namespace HT
open PySem PyProof.Rows
noncomputable def lexLt:List Int->List Int->Bool
 | [],[]=>false
 | [],_::_=>true
 | _::_,[]=>false
 | x::xs,y::ys=>if x=y then lexLt xs ys else decide (x < y)
theorem ee (x y:Int)(xs ys:List Int):lexLt (x::xs) (y::ys)=if x=y then lexLt xs ys else decide (x < y):=rfl
theorem iH:lexLt [] []=false:=rfl
theorem eZ (y:Int)(ys:List Int):lexLt [] (y::ys)=true:=rfl
theorem gW (x:Int)(xs:List Int):lexLt (x::xs) []=false:=rfl
section
open PySem.SeqAt
open PySem.AutoSeq1 (wpAny_loadPart')
open PySem.MeetsSeq PySem.MeetsSeq2 PySem.MeetsSeq3
end
section
variable {prog:Program} {w:World} {A:Around} {E:Value->Shared->Prop} {s:Shared}
theorem GA {t b:Addr}{vs ws:List Value}{Q:Value->Shared->Prop}(ht:IsTup s.heap t vs.toArray)(hb:IsTup s.heap b ws.toArray)(hv:vs≠[])
  (h1:ws=[]->Q (.ref t) s) (h2:ws≠[]->Q (.ref s.heap.objs.size) { s with heap:=s.heap.push { cls:=.type "tuple",data:=.seq (vs++ws).toArray } })
  (hsz:vs.length+ws.length<=sizeLine):wpAny (model prog w) A (binaryOp .Add (.ref t) (.ref b)) Q E s:=by
 obtain ⟨⟨cls,dd,data,sl⟩,ho,hc,n,hd⟩:=id ht;obtain ⟨⟨cls2,dd2,data2,sl2⟩,ho2,hc2,n2,hd2⟩:=id hb;simp only at hc hd hc2 hd2;subst hc hd hc2 hd2;have e:vs.toArray++ws.toArray=(vs++ws).toArray:=by simp
 by_cases hw:ws=[]
 ·exact concat_meets ⟨_,ho,rfl⟩ ⟨_,ho2,rfl⟩ noFill_tuple_add seq_tuple_add PySem.F.slot_tuple_add PySem.F.entry_tuple_add (PySem.F.args_tuple_add_2 _ _)
   (tuple_addW1 t b vs.toArray ws.toArray n n2 dd dd2 sl sl2 (by simpa using hv) (by simp [hw])) ⟨ho,ho2,h1 hw⟩
 ·refine concat_meets ⟨_,ho,rfl⟩ ⟨_,ho2,rfl⟩ noFill_tuple_add seq_tuple_add PySem.F.slot_tuple_add PySem.F.entry_tuple_add (PySem.F.args_tuple_add_2 _ _)
   (tuple_addW2 t b vs.toArray ws.toArray n n2 dd dd2 sl sl2 (by simpa using hv) (by simpa using hw) (by rw [size_toArray,size_toArray];exact hsz)) ⟨ho,ho2,?_⟩
  rw [e];exact h2 hw
noncomputable def dY (n d:Nat):Option Int->Nat
 | none=>d
 | some v=>if v < 0 then (v+(n:Int)).toNat else min v.toNat n
theorem vF (n d:Nat):dY n d none=d:=rfl
theorem j5 (n d k:Nat):dY n d (some (k:Int))=min k n:=by
 show (if (k:Int) < 0 then ((k:Int)+(n:Int)).toNat else min (k:Int).toNat n)=min k n;rw [if_neg (by omega),toNat_natCast]
theorem KI (n d:Nat)(hd:d<=n)(o:Option Int):dY n d o<=n:=by
 cases o with
 | none=>exact hd
 | some v=>
  show (if v < 0 then (v+(n:Int)).toNat else min v.toNat n)<=n;by_cases hv:v < 0
  ·rw [if_pos hv];omega
  ·rw [if_neg hv];exact Nat.min_le_right _ _
theorem Aa (v:Int)(n d:Nat):(if v < 0 then max (v+(n:Int)) 0 else min v (n:Int))=((dY n d (some v):Nat):Int):=by
 show (if v < 0 then max (v+(n:Int)) 0 else min v (n:Int))=(((if v < 0 then (v+(n:Int)).toNat else min v.toNat n):Nat):Int);by_cases hv:v < 0
 ·simp only [if_pos hv];omega
 ·simp only [if_neg hv];omega
theorem wQ (lo hi:Option Int)(n:Nat):Builtin.Slice.sliceAdjust lo hi 1 (n:Int)=(((dY n 0 lo:Nat):Int),((dY n n hi:Nat):Int)):=by
 have h1:¬ ((1:Int) < 0):=by omega
 unfold Builtin.Slice.sliceAdjust;simp only [h1,if_false];refine Prod.ext ?_ ?_
 ·cases lo with
  | none=>rfl
  | some v=>exact Aa v n 0
 ·cases hi with
  | none=>rfl
  | some v=>exact Aa v n n
theorem xC (i j:Nat):Builtin.Slice.slicePlaces (i:Int) (j:Int) 1=j - i:=by
 unfold Builtin.Slice.slicePlaces;have h1:(1:Int) > 0:=by omega
 simp only [h1,if_true,Int.ediv_one];split <;> omega
theorem o4 {v:Value}{o:Option Int}{Q:Option Int->Shared->Prop}(p:IsPart v o)(h:Q o s):wpAny (model prog w) A (Builtin.Slice.slicePartIndex v) Q E s:=by
 cases p with
 | none=>exact slicePart_none h
 | int i t=>exact slicePart_int h
theorem ni {sl:Addr}{vl vu:Value}{lo hi:Option Int}{n:Nat}{Q:Int×Int×Nat->Shared->Prop}(hs:s.heap.IsSliceOf sl vl vu .none)(pl:IsPart vl lo)(pu:IsPart vu hi)
  (h:Q (((dY n 0 lo:Nat):Int),1,dY n n hi - dY n 0 lo) s):wpAny (model prog w) A (Builtin.Slice.sliceApplied (.ref sl) (pure (n:Int))) Q E s:=by
 obtain ⟨os,hos,hcs,hds⟩:=id hs;unfold Builtin.Slice.sliceApplied Builtin.Slice.sliceFields;refine wpAny_bind (wpAny_bind (wpAny_field hos hds (x:=vl) rfl (wpAny_bind (wpAny_field hos hds (x:=vu) rfl (wpAny_bind (wpAny_field hos hds (x:=.none) rfl (wpAny_pure ?_)))))));refine wpAny_bind (slicePart_none ?_);show wpAny _ _ (if ((1:Int) == 0)=true then _ else _) _ _ s;rw [if_neg (by decide)];refine wpAny_bind (o4 pl (wpAny_bind (o4 pu (wpAny_bind (wpAny_pure ?_)))));show wpAny _ _ (match Builtin.Slice.sliceAdjust lo hi 1 (n:Int) with | (lo,hi)=>pure (lo,(1:Int),Builtin.Slice.slicePlaces lo hi 1)) _ _ s;rw [wQ lo hi n];show wpAny _ _ (pure (((dY n 0 lo:Nat):Int),(1:Int),Builtin.Slice.slicePlaces ((dY n 0 lo:Nat):Int) ((dY n n hi:Nat):Int) 1)) _ _ s;rw [xC];exact wpAny_pure h
theorem ER (xs:Array Value)(i k:Nat):((List.range k).filterMap λ (m:Nat)=>xs[((i:Int)+(m:Int) * 1).toNat]?).toArray=((xs.toList.drop i).take k).toArray:=by
 have e:(λ (m:Nat)=>xs[((i:Int)+(m:Int) * 1).toNat]?)=λ m=>xs[i+m]?:=by
  funext m
  have:((i:Int)+(m:Int) * 1).toNat=i+m:=by omega
  rw [this]
 rw [e];have:=pick_run xs i k;rw [filterMap_map] at this;have e2:((λ x=>xs[x]?) ∘ λ x=>i+x)=λ m=>xs[i+m]?:=rfl;rw [e2] at this;rw [this]
theorem lU {t sl:Addr}{items:Array Value}{vl vu:Value}{lo hi:Option Int}{Q:Value->Shared->Prop}(ht:IsTup s.heap t items)(hs:s.heap.IsSliceOf sl vl vu .none)(pl:IsPart vl lo)(pu:IsPart vu hi)
  (hw:¬ (dY items.size 0 lo=0/\dY items.size items.size hi=items.size))
  (h:Q (.ref s.heap.objs.size) { s with heap:=s.heap.push { cls:=.type "tuple",data:=.seq ((items.toList.drop (dY items.size 0 lo)).take (dY items.size items.size hi - dY items.size 0 lo)).toArray } })
  (hsz:items.size<=sizeLine):wpAny (model prog w) A (getItem (.ref t) (.ref sl)) Q E s:=by
 have htake:sizeOk (.seq ((items.toList.drop (dY items.size 0 lo)).take (dY items.size items.size hi - dY items.size 0 lo)).toArray):=by
  show ((items.toList.drop (dY items.size 0 lo)).take (dY items.size items.size hi - dY items.size 0 lo)).toArray.size<=sizeLine;rw [size_toArray,length_take,length_drop,length_toList];omega
 have hj:dY items.size items.size hi<=items.size:=KI _ _ (Nat.le_refl _) hi;obtain ⟨os,hos,hcs,hds⟩:=id hs;have hTs:s.TypeIs (.ref sl) "slice" := ⟨os,hos,hcs⟩;unfold getItem
 try with_reducible refine wpAny_holding ?_
 first | refine wpAny_bind (wpAny_pure ?_) | skip
 refine wpAny_bind (wpAny_sequenceKey ht.typeIs (by decide) ?_);refine wpAny_bind (wpAny_callSpecial?_slot (name:=Str.ofString "__getitem__") ht.typeIs PyProof.Rows.slot_tuple_getitem
  (wpAny_call_entry PyProof.Rows.slot_tuple_getitem ht.typeIs entry_tuple_getitem ?_ (args_tuple_getitem _ _)))
 show wpAny _ _ (Builtin.Tuple.tupleItemsOf (.ref t) >>= _) _ _ s;refine wpAny_bind (tupleItemsOf_ ht ?_);refine wpAny_bind (wpAny_typeOf hTs ?_);rw [if_pos (by decide)];refine wpAny_bind (ni hs pl pu ?_);have hno:¬ ((((dY items.size 0 lo:Nat):Int) == 0 && (1:Int) == 1 && (dY items.size items.size hi - dY items.size 0 lo) == items.size)=true):=by
  intro q;rw [and_eq_true,and_eq_true] at q;have q1:((dY items.size 0 lo:Nat):Int)=0:=eq_of_beq q.1.1;have q2:dY items.size items.size hi - dY items.size 0 lo=items.size:=eq_of_beq q.2;exact hw ⟨by omega,by omega⟩
 show wpAny _ _ (if (((dY items.size 0 lo:Nat):Int) == 0 && (1:Int) == 1 && (dY items.size items.size hi - dY items.size 0 lo) == items.size)=true then _ else _) _ _ s;rw [if_neg hno,ER]
 first
  | exact wpAny_bind (m:=Builtin.Tuple.tupleExact _) (wpAny_newObj_type (wpAny_pure ⟨_,rfl,wpAny_pure h⟩) htake)
  | exact wpAny_bind (m:=Builtin.Tuple.tupleExact _) (wpAny_newObj_type (wpAny_bind (wpAny_pure (wpAny_pure ⟨_,rfl,wpAny_pure h⟩))) htake)
  | exact wpAny_bind (wpAny_bind (m:=Builtin.Tuple.tupleExact _) (wpAny_newObj_type (wpAny_pure (wpAny_pure ⟨_,rfl,wpAny_pure h⟩)) htake))
  | exact wpAny_bind (wpAny_bind (m:=Builtin.Tuple.tupleExact _) (wpAny_newObj_type (wpAny_pure ⟨_,rfl,wpAny_pure h⟩) htake))
end
end HT
namespace L2
open PySem PySem.Spec PyProof.Rows
noncomputable abbrev TO:=St->Hp->(Option Int->Hp->Prop)->Prop
noncomputable def PO (X:Cx)(e:Option Expr)(t:TO):Prop:=
 ∀ (pins:List (Addr×Obj)) (s:Shared) (σ:St) (H:Hp) (Q:Option Int->Hp->Prop),Inv X pins σ H s->t σ H Q ->
  wpAny (model X.prog X.w) X.A (evalPart e X.env) (λ u s'=>∃ o H',Inv X pins σ H' s'/\IsPart u o/\Q o H') X.xe s
noncomputable def Gm:TO:=λ _ H Q=>Q none H
noncomputable def NH (t:TE):TO:=λ σ H Q=>t σ H λ x H1=>∃ i,x=.int i/\Q (some i) H1
theorem intsAre_of {ns:List Int}:∀ {us:List Value},Vals (ns.map V.int) us->IntsAre us ns:=by
 induction ns with
 | nil=>intro us r;rw [map_nil] at r;cases r;exact .nil
 | cons n ns ih=>
  intro us r;rw [map_cons] at r
  cases r with
  | cons r1 r2=>
   obtain ⟨t,e⟩:=r1;subst e;exact .cons n t (ih r2)
section
variable {X:Cx} {e:Expr} {te:TE} {lo hi:Option Expr} {tl th:TO} {pos p2:Pos}
theorem GC:PO X none Gm:=by
 intro pins s σ H Q I h;rw [evalPart_none];exact wpAny_pure ⟨none,H,I,.none,h⟩
theorem Gg (h:PE X e te):PO X (some e) (NH te):=by
 intro pins s σ H Q I hw;rw [evalPart_some];refine cj (h pins s σ H _ I hw) λ u s1 ⟨x,H1,I1,r1,q1⟩=>?_;obtain ⟨i,rfl,q⟩:=q1;obtain ⟨t,rfl⟩:=r1;exact ⟨some i,H1,I1,.int i t,q⟩
noncomputable def NT (X:Cx)(r:V->Option Int->Option Int->Hp->VK->Prop):Prop:=
 ∀ (pins:List (Addr×Obj)) (s:Shared) (σ:St) (H:Hp) (x:V) (v vl vu:Value) (lo hi:Option Int) (sl:Addr) (Q:VK),Inv X pins σ H s->RelV x v->s.heap.IsSliceOf sl vl vu .none->IsPart vl lo->IsPart vu hi->r x lo hi H Q ->
  ∃ T id,typeLookup (.type T) "__getitem__" = pure (some (.builtin id))/\s.TypeIs v T/\wpAny (model X.prog X.w) X.A (getItem v (.ref sl)) (EP X pins σ Q) X.xe s
noncomputable def PZ (r:V->Option Int->Option Int->Hp->VK->Prop)(te:TE)(tl th:TO):TE:=λ σ H Q=>te σ H λ x H1=>tl σ H1 λ l H2=>th σ H2 λ u H3=>r x l u H3 Q
theorem EZ {r:V->Option Int->Option Int->Hp->VK->Prop}(hr:NT X r)(he:PE X e te)(hl:PO X lo tl)(hu:PO X hi th):PE X (.Subscript e (.Slice lo hi none p2) pos) (PZ r te tl th):=by
 intro pins s σ H Q I h;refine Subscript_ (cj (he pins s σ H _ I h) λ v s1 ⟨x,H1,I1,r1,q1⟩=>?_);refine wpAny_Slice (cj (hl pins s1 σ H1 _ I1 q1) λ vl s2 ⟨l,H2,I2,pl,q2⟩=>cj (hu pins s2 σ H2 _ I2 q2) λ vu s3 ⟨u,H3,I3,pu,q3⟩=>?_);rw [evalPart_none];refine wpAny_pure ?_;have I4:Inv X pins σ H3 { s3 with heap:=s3.heap.push { cls:=.type "slice",data:=.fields #[vl,vu,.none] } }:=I3.kept (t':=s3.toks) λ b ob q=>get?_push_of_some _ q;obtain ⟨T,id,hT,ht,hg⟩:=hr pins { s3 with heap:=s3.heap.push { cls:=.type "slice",data:=.fields #[vl,vu,.none] } } σ H3 x v vl vu l u s3.heap.objs.size Q I4 r1 (Heap.IsSliceOf.new ..) pl pu q3;show wpAny (model X.prog X.w) X.A (subscriptTail e (.Slice lo hi none p2) v (.ref s3.heap.objs.size)) (EP X pins σ Q) X.xe { s3 with heap:=s3.heap.push { cls:=.type "slice",data:=.fields #[vl,vu,.none] } };exact tail_any (ops:=[.ref s3.heap.objs.size,v]) ht hT hg (by with_unfolding_all rfl)
noncomputable def u9 (xs:List V)(lo hi:Option Int):List V:=(xs.drop (HT.dY xs.length 0 lo)).take (HT.dY xs.length xs.length hi - HT.dY xs.length 0 lo)
theorem nR (xs:List V)(lo hi:Option Int):(u9 xs lo hi).length<=xs.length:=by
 unfold u9;rw [length_take,length_drop];omega
noncomputable def Pd (K:PySem.W.Frag):V->Option Int->Option Int->Hp->VK->Prop:=λ x lo hi H Q=>∃ a xs,x=.ref a/\fS K H a xs /\
 ¬ (HT.dY xs.length 0 lo=0/\HT.dY xs.length xs.length hi=xs.length)/\∀ p,H p=none->Q (.ref p) (upd H p (.tup (u9 xs lo hi)))
theorem LP:NT X (Pd X.K):=by
 intro pins s σ H x v vl vu lo hi sl Q I rx hs pl pu h;obtain ⟨a,xs,rfl,hx,hw,q⟩:=h
 cases rx
 obtain ⟨its,r,ht,hz⟩:=I.tuple hx;have hlen:its.toArray.size=xs.length:=by rw [size_toArray];exact r.length.symm
 refine ⟨"tuple",_,PyProof.Rows.slot_tuple_getitem.lookup,ht.typeIs,?_⟩;refine HT.lU ht hs pl pu (by rw [hlen];exact hw) ?_ (by rw [hlen];exact hz);rw [hlen];refine ⟨.ref s.heap.objs.size,_,I.laid (t':=s.toks) (o:=.tup (u9 xs lo hi)) (λ b ob q=>get?_push_of_some _ q) (Nat.le_refl _) ?_,rfl,q _ (I.hok.fresh (Nat.le_refl _))⟩;exact ⟨Nat.le_trans (nR xs lo hi) hz,_,(r.drop (HT.dY xs.length 0 lo)).take (HT.dY xs.length xs.length hi - HT.dY xs.length 0 lo),fC.new _ _⟩
noncomputable def Np (K:PySem.W.Frag):R2:=λ x y H Q=>∃ a b xs ys,x=.ref a/\y=.ref b/\fS K H a xs/\fS K H b ys/\xs≠[]/\xs.length+ys.length<=sizeLine /\
 (ys=[]->Q (.ref a) H)/\(ys≠[]->∀ p,H p=none->Q (.ref p) (upd H p (.tup (xs++ys))))
theorem Vals.sS {xs:List V}{us:List Value}(r:Vals xs us):us=[] ↔ xs=[]:=by
 cases r with
 | nil=>simp
 | cons _ _=>simp
theorem Hj:e_ X (binaryOp .Add) (Np X.K):=by
 intro pins s σ H x y v u Q I rx ry h;obtain ⟨a,b,xs,ys,rfl,rfl,ha,hb,hx,hz,q1,q2⟩:=h
 cases rx
 cases ry
 obtain ⟨its,r1,p1,_⟩:=I.tuple ha;obtain ⟨its2,r2,p2,_⟩:=I.tuple hb;refine HT.GA p1 p2 (λ z=>hx (r1.sS.mp z)) (λ z=>⟨.ref a,H,I,rfl,q1 (r2.sS.mp z)⟩) (λ z=>?_) (by rw [<- r1.length,<- r2.length];exact hz);refine ⟨.ref s.heap.objs.size,_,I.laid (t':=s.toks) (o:=.tup (xs++ys)) (λ b ob q=>get?_push_of_some _ q) (Nat.le_refl _) ?_,rfl,q2 (λ w=>z (r2.sS.mpr w)) _ (I.hok.fresh (Nat.le_refl _))⟩;exact ⟨by rw [length_append];exact hz,_,r1.append r2,fC.new _ _⟩
end
noncomputable def pQ (n:Nat)(i:Int):Option Nat:=if 0<=i then (if i < n then some i.toNat else none) else if -(n:Int)<=i then some (i+n).toNat else none
noncomputable def fL {α:Type}(xs:List α)(i:Int):Option α:=(pQ xs.length i).bind λ j=>xs[j]?
theorem zj {n:Nat}{i:Int}{j:Nat}(h:pQ n i=some j):seqIndex? i n=some j/\j < n/\-(n:Int)<=i/\i < n:=by
 unfold pQ at h;by_cases h0:0<=i
 ·rw [if_pos h0] at h;by_cases h1:i < n
  ·rw [if_pos h1] at h;have e:i.toNat=j:=Option.some.inj h;exact ⟨by rw [seqIndex_of h0 h1,e],by omega,by omega,h1⟩
  ·rw [if_neg h1] at h;cases h
 ·rw [if_neg h0] at h;by_cases h1:-(n:Int)<=i
  ·rw [if_pos h1] at h;have e:(i+n).toNat=j:=Option.some.inj h;exact ⟨by rw [seqIndex_neg (by omega) h1,e],by omega,h1,by omega⟩
  ·rw [if_neg h1] at h;cases h
theorem sI {α:Type}{xs:List α}{i:Int}{v:α}(h:fL xs i=some v):∃ j,seqIndex? i xs.length=some j/\xs[j]?=some v/\j < xs.length/\-(xs.length:Int)<=i/\i < xs.length:=by
 unfold fL at h
 cases e:pQ xs.length i with
 | none=>rw [e] at h;cases h
 | some j=>
  rw [e] at h;obtain ⟨h1,h2,h3,h4⟩:=zj e;exact ⟨j,h1,h,h2,h3,h4⟩
theorem GD {α:Type}{xs:List α}{j:Nat}{v:α}(h:xs[j]?=some v):fL xs (j:Int)=some v:=by
 have hj:j < xs.length:=(List.getElem?_eq_some_iff.mp h).1;have e:pQ xs.length (j:Int)=some j:=by
  unfold pQ;rw [if_pos (by omega),if_pos (by omega)];simp
 unfold fL;rw [e];exact h
noncomputable def rX (b:Expr):Prop:=∀ o i,subscripted b false o i=operate [o,i] (getItem o i)
noncomputable def JT (X:Cx)(r:R2):Prop:=
 ∀ (value slice:Expr) (pins:List (Addr×Obj)) (s:Shared) (σ:St) (H:Hp) (x y:V) (v u:Value) (Q:VK),Inv X pins σ H s->RelV x v->RelV y u->r x y H Q ->
  subscripted slice false v u=operate [v,u] (getItem v u)->wpAny (model X.prog X.w) X.A (subscriptTail value slice v u) (EP X pins σ Q) X.xe s
noncomputable def Jy (X:Cx)(id:String)(r:V->List V->Hp->VK->Prop):Prop:=
 ∀ (pins:List (Addr×Obj)) (s:Shared) (σ:St) (H:Hp) (x:V) (xs:List V) (v:Value) (us:List Value) (Q:VK),Inv X pins σ H s->RelV x v->Vals xs us->r x xs H Q ->
  wpAny (model X.prog X.w) X.A (call (.builtin id) (v::us)) (EP X pins σ Q) X.xe s
section
variable {X:Cx} {a b:Expr} {ta tb:TE} {pos:Pos}
theorem Iw {r:R2}(hr:JT X r)(ha:PE X a ta)(hb:PE X b tb)(hs:rX b):PE X (.Subscript a b pos) (Nv r ta tb):=by
 intro pins s σ H Q I h;exact Subscript_ (JA ha hb I h λ v u s2 x y H2 I2 rx ry q=>hr a b pins s2 σ H2 x y v u Q I2 rx ry q (hs _ _))
noncomputable def OA (K:PySem.W.Frag):R2:=λ x y H Q=>∃ p xs i v,x=.ref p/\y=.int i/\f_ K H p xs/\fL xs i=some v/\Q v H
noncomputable def N2 (K:PySem.W.Frag):R2:=λ x y H Q=>∃ p xs i v,x=.ref p/\y=.int i/\fS K H p xs/\fL xs i=some v/\Q v H
noncomputable def OZ:R2:=λ x y H Q=>∃ z i c,x=.str z/\y=.int i/\z.length<=sizeLine/\fL z.cps.toList i=some c/\Q (.str ⟨#[c]⟩) H
theorem yf:JT X (OA X.K):=by
 intro value slice pins s σ H x y v u Q I rx ry h hs;obtain ⟨p,xs,i,z,rfl,rfl,hq,he,q⟩:=h
 cases rx
 obtain ⟨t,rfl⟩:=ry;obtain ⟨its,r,pl,hz⟩:=I.list hq;obtain ⟨j,h1,h2,h3,h4,h5⟩:=sI he;obtain ⟨w,ew,rw'⟩:=r.get h2;have hl:=r.length;have hn:=kN;have fin:EP X pins σ Q w s:=⟨z,H,I,rw',q⟩;by_cases h0:0<=i
 ·have hj:i.toNat=j:=by
   rw [seqIndex_of h0 h5] at h1;exact Option.some.inj h1
  exact item_listR pl.isList h0 (by omega) (by rw [hj];simpa using ew) fin hs
 ·have hj:(i+(its.toArray.size:Int)).toNat=j:=by
   rw [seqIndex_neg (by omega) h4] at h1;rw [size_toArray,<- hl];exact Option.some.inj h1
  exact subscriptTail_builtinR (x:=w) pl.isList.typeIs slot_list_getitem.lookup
   (wpAny_getItem_list_neg (Q:=λ r s'=>r=w/\EP X pins σ Q r s') pl.isList (by omega) (by rw [size_toArray] <;> omega) (by omega) (by rw [hj];simpa using ew) ⟨rfl,fin⟩) hs
theorem Ky:JT X (N2 X.K):=by
 intro value slice pins s σ H x y v u Q I rx ry h hs;obtain ⟨p,xs,i,z,rfl,rfl,hq,he,q⟩:=h
 cases rx
 obtain ⟨t,rfl⟩:=ry;obtain ⟨its,r,pl,hz⟩:=I.tuple hq;obtain ⟨j,h1,h2,h3,h4,h5⟩:=sI he;obtain ⟨w,ew,rw'⟩:=r.get h2;have hl:=r.length;have hn:=kN;have fin:EP X pins σ Q w s:=⟨z,H,I,rw',q⟩;exact subscriptTail_builtinR (x:=w) pl.typeIs slot_tuple_getitem.lookup
  (getItem_tuple (j:=j) (Q:=λ r s'=>r=w/\EP X pins σ Q r s') pl (by omega) (by omega) (by rw [size_toArray,<- hl];exact h1) (by simpa using ew) ⟨rfl,fin⟩) hs
theorem Kz:JT X OZ:=by
 intro value slice pins s σ H x y v u Q I rx ry h hs;obtain ⟨z,i,c,rfl,rfl,hz,he,q⟩:=h;obtain ⟨t,rfl⟩:=rx;obtain ⟨t',rfl⟩:=ry;obtain ⟨j,h1,h2,h3,h4,h5⟩:=sI he;have hl:z.cps.toList.length=z.length:=by simp [Str.length]
 rw [hl] at h1 h4 h5;have hn:=kN;exact tail_any (typeIs_str s z t) slot_str_getitem.lookup (getItem_str (c:=c) (by
  have e1:decide (i < -(2 ^ 63:Int))=false:=decide_eq_false (by omega);have e2:decide (i>=2 ^ 63)=false:=decide_eq_false (by omega);rw [e1,e2,Bool.or_false]) (by rw [h1];simpa using h2) ⟨.str ⟨#[c]⟩,H,I.tok _,⟨_,rfl⟩,q⟩) hs
theorem wY (its:List Value)(n j:Nat)(u:Value):Obj.mapSeq (·.setIfInBounds j u) { cls:=.type "list",data:=.seq its.toArray n }={ cls:=.type "list",data:=.seq (its.set j u).toArray n }:=by
 simp [Obj.mapSeq]
theorem Inv.lst {pins:List (Addr×Obj)}{σ:St}{H:Hp}{s:Shared}{p:Addr}{xs:List V}(I:Inv X pins σ H s)(h:H p=some (.lst xs)) :
  ∃ (its:List Value) (n:Nat),Vals xs its/\s.heap.get? p=some { cls:=.type "list",data:=.seq its.toArray n }/\xs.length<=sizeLine:=by
 obtain ⟨z,its,n,r,e⟩:=I.hok p _ h;exact ⟨its,n,r,e,z⟩
theorem Inv.JV {pins:List (Addr×Obj)}{σ:St}{H:Hp}{s:Shared}{p:Addr}{xs ys:List V}{its its':List Value}{n n':Nat}{f:Obj->Obj}(I:Inv X pins σ H s)(h:H p=some (.lst xs))
  (ho:s.heap.get? p=some { cls:=.type "list",data:=.seq its.toArray n }) (hf:f { cls:=.type "list",data:=.seq its.toArray n }={ cls:=.type "list",data:=.seq its'.toArray n' }) (r:Vals ys its') (hz:ys.length<=sizeLine) (t:Nat) :
  Inv X pins σ (upd H p (.lst ys)) { s with heap:=s.heap.update p f,toks:=t }:=by
 have e:(s.heap.update p f).get? p=some { cls:=.type "list",data:=.seq its'.toArray n' }:=by
  rw [Heap.get?_update_self f ho (by rw [hf] <;> rfl),hf]
 refine I.write (x:=p) (e:=p) (by rw [h];trivial) (.inl rfl) (λ b u hb q=>(Heap.get?_update_other _ _ (Ne.symm hb)).trans q) ⟨_,e⟩ ?_;exact ⟨hz,its',n',r,e⟩
noncomputable def NK:V->V->V->Hp->(Hp->Prop)->Prop:=λ o i v H Q=>∃ p xs k j,o=.ref p/\i=.int k/\H p=some (.lst xs)/\pQ xs.length k=some j/\Q (upd H p (.lst (xs.set j v)))
theorem set_list:A1 X NK:=by
 intro pins s σ H o i v ov iv u Q I ro ri rv h;obtain ⟨p,xs,k,j,rfl,rfl,hp,hj,q⟩:=h
 cases ro
 obtain ⟨t,rfl⟩:=ri;obtain ⟨its,n,r,ho,hz⟩:=I.lst hp;obtain ⟨h1,h2,h3,h4⟩:=zj hj;have hl:=r.length;have hn:=kN;have I':Inv X pins σ (upd H p (.lst (xs.set j v))) { s with heap:=s.heap.update p (Obj.mapSeq (·.setIfInBounds j u)) }:=
  I.JV hp ho (wY its n j u) (r.set rv j) (by rw [length_set];exact hz) s.toks
 by_cases h0:0<=k
 ·have hk:k.toNat=j:=by
   rw [seqIndex_of h0 h4] at h1;exact Option.some.inj h1
  exact PySem.W.ki_setAt ho h0 (by omega) (by rw [size_toArray,<- hl];exact h4) (by rw [hk];exact ⟨_,I',q⟩)
 ·have hk:(k+(its.toArray.size:Int)).toNat=j:=by
   rw [seqIndex_neg (by omega) h3] at h1;rw [size_toArray,<- hl];exact Option.some.inj h1
  exact PySem.W.ki_setBack ho (by omega) (by rw [size_toArray,<- hl];exact h3) (by omega) (by rw [hk];exact ⟨_,I',q⟩)
theorem sO (lo hi:Option Int)(n:Nat):(sliceBounds lo hi none n).1=((HT.dY n 0 lo:Nat):Int)/\(sliceBounds lo hi none n).2.1=((HT.dY n n hi:Nat):Int)/\(sliceBounds lo hi none n).2.2=1:=by
 refine ⟨?_,?_,rfl⟩
 ·cases lo with
  | none=>simp [sliceBounds,HT.dY]
  | some i=>
   simp only [sliceBounds,HT.dY,getD_none,show (1:Int) > 0 by decide,if_true];by_cases h:i < 0
   ·simp only [h,if_true] <;> omega
   ·simp only [h,if_false] <;> omega
 ·cases hi with
  | none=>simp [sliceBounds,HT.dY]
  | some i=>
   simp only [sliceBounds,HT.dY,getD_none,show (1:Int) > 0 by decide,if_true];by_cases h:i < 0
   ·simp only [h,if_true] <;> omega
   ·simp only [h,if_false] <;> omega
theorem qB (its:List Value)(lo hi:Option Int):slicePick its.toArray lo hi none=((its.drop (HT.dY its.length 0 lo)).take (HT.dY its.length its.length hi - HT.dY its.length 0 lo)).toArray:=by
 obtain ⟨h1,h2,h3⟩:=sO lo hi its.toArray.size;unfold slicePick;rw [h1,h2,h3];simp only [sliceRange_one,pick_run,size_toArray] <;> rfl
noncomputable def OB (K:PySem.W.Frag):V->Option Int->Option Int->Hp->VK->Prop:=λ x lo hi H Q=>∃ a xs,x=.ref a/\f_ K H a xs/\∀ p,H p=none->Q (.ref p) (upd H p (.lst (u9 xs lo hi)))
theorem yF:NT X (OB X.K):=by
 intro pins s σ H x v vl vu lo hi sl Q I rx hs pl pu h;obtain ⟨a,xs,rfl,hx,q⟩:=h
 cases rx
 obtain ⟨its,r,ht,hz⟩:=I.list hx;have hlen:=r.length;refine ⟨"list",_,slot_list_getitem.lookup,ht.isList.typeIs,?_⟩;refine wpAny_getItem_list_slice ht.isList hs pl pu .none (by simp) ?_ (by rw [size_toArray] <;> omega);rw [qB,<- hlen];refine ⟨.ref s.heap.objs.size,_,I.laid (t':=s.toks) (o:=.lst (u9 xs lo hi)) (λ b ob q=>get?_push_of_some _ q) (Nat.le_refl _) ?_,rfl,q _ (I.hok.fresh (Nat.le_refl _))⟩;exact ⟨Nat.le_trans (nR xs lo hi) hz,_,0,(r.drop (HT.dY xs.length 0 lo)).take (HT.dY xs.length xs.length hi - HT.dY xs.length 0 lo),get?_push_size _ rfl⟩
theorem jh:bB X (.type "list") (λ xs H Q=>∃ p ys,xs=[.ref p]/\(f_ X.K H p ys\/fS X.K H p ys)/\∀ l,H l=none->Q (.ref l) (upd H l (.lst ys))):=by
 intro pins s σ H xs us Q I r h;obtain ⟨p,ys,rfl,hq,q⟩:=h;obtain ⟨u,rfl,rx⟩:=vals1 r
 cases rx
 have fin:∀ (its:List Value),Vals ys its->ys.length<=sizeLine->∀ (h':Heap) (c':Nat),(∀ b o',s.heap.get? b=some o'->h'.get? b=some o') ->
   h'.get? s.heap.objs.size=some { cls:=.type "list",dict:=none,data:=.seq its.toArray c',slots:=#[] }->EP X pins σ Q (.ref s.heap.objs.size) { s with heap:=h' }:=λ its r' hz h' c' kp e=>
  ⟨.ref s.heap.objs.size,_,I.laid (t':=s.toks) kp (Nat.le_refl _) (show b_ X.prog X.w _ h' _ (.lst ys) from ⟨hz,its,c',r',e⟩),rfl,q _ (I.hok.fresh (Nat.le_refl _))⟩
 rcases hq with hq | hq
 ·obtain ⟨its,r',pl,hz⟩:=I.list hq;have hlen:=r'.length;obtain ⟨o,ho,hc,n,hd⟩:=pl.isList;exact call_list_seq p (.inl rfl) ho hc hd (λ h' c' kp e=>fin its r' hz h' c' kp e) (by simp only [size_toArray] <;> omega)
 ·obtain ⟨its,r',pl,hz⟩:=I.tuple hq;have hlen:=r'.length;obtain ⟨o,ho,hc,n,hd⟩:=pl;exact call_list_seq p (.inr rfl) ho hc hd (λ h' c' kp e=>fin its r' hz h' c' kp e) (by simp only [size_toArray] <;> omega)
theorem iR:bB X (.type "tuple") (λ xs H Q=>∃ p ys,xs=[.ref p]/\((f_ X.K H p ys/\∀ l,H l=none->Q (.ref l) (upd H l (.tup ys)))\/(fS X.K H p ys/\Q (.ref p) H))):=by
 intro pins s σ H xs us Q I r h;obtain ⟨p,ys,rfl,h⟩:=h;obtain ⟨u,rfl,rx⟩:=vals1 r
 cases rx
 rcases h with ⟨hq,q⟩ | ⟨hq,q⟩
 ·obtain ⟨its,r',pl,hz⟩:=I.list hq;have hlen:=r'.length;refine call_tuple_list pl.isList (λ h' kp=>?_) (by simp only [size_toArray] <;> omega);have I1:Inv X pins σ H { s with heap:=h' }:=I.kept (t':=s.toks) kp;have I2:Inv X pins σ (upd H h'.objs.size (.tup ys)) { s with heap:=h'.push { cls:=.type "tuple",data:=.seq its.toArray } }:=
   I1.laid (t':=s.toks) (λ b o e=>get?_push_of_some _ e) (Nat.le_refl _) (show b_ X.prog X.w _ _ _ (.tup ys) from ⟨hz,its,r',fC.new _ _⟩)
  exact ⟨.ref h'.objs.size,_,I2,rfl,q _ (I1.hok.fresh (Nat.le_refl _))⟩
 ·obtain ⟨its,r',pl,hz⟩:=I.tuple hq;exact call_tuple_same pl ⟨.ref p,H,I,rfl,q⟩
noncomputable def NQ (K:PySem.W.Frag)(T:String)(x:V)(H:Hp):Prop:=match x with
 | .str _=>T = "str"
 | .int _=>T = "int"
 | .ref p=>(T = "list" /\ ∃ xs,f_ K H p xs)\/(T = "tuple" /\ ∃ o,K.lookup p=some o/\o.cls=.type "tuple" /\ o.dict=none) \/
   (T = "dict" /\ ((∃ kvs,H p=some (.dK kvs))\/∃ kvs,H p=some (.dT kvs)))\/(T = "set" /\ ∃ S n,H p=some (.set S n))
 | _=>False
theorem BN {pins:List (Addr×Obj)}{σ:St}{H:Hp}{s:Shared}{T:String}{x:V}{v:Value}(I:Inv X pins σ H s)(r:RelV x v)(ty:NQ X.K T x H) :
  s.TypeIs v T/\∀ a,v=.ref a->∃ ob,s.heap.get? a=some ob/\ob.dict=none:=by
 cases x with
 | str z=>
  obtain ⟨t,rfl⟩:=r
  cases (show T = "str" from ty)
  exact ⟨typeIs_str s z t,λ _ e=>nomatch e⟩
 | int i=>
  obtain ⟨t,rfl⟩:=r
  cases (show T = "int" from ty)
  exact ⟨typeIs_int s i t,λ _ e=>nomatch e⟩
 | ref p=>
  cases r
  rcases ty with ⟨rfl,xs,hq⟩ | ⟨rfl,o,hk,hc,hd⟩ | ⟨rfl,hk⟩ | ⟨rfl,S,n,hk⟩
  ·obtain ⟨its,_,pl,_⟩:=I.list hq;refine ⟨pl.isList.typeIs,λ a e=>?_⟩
   cases e
   obtain ⟨o,n,e,c,hd,_⟩:=pl;exact ⟨o,e,hd⟩
  ·refine ⟨⟨o,I.tY p o hk,hc⟩,λ a e=>?_⟩
   cases e
   exact ⟨o,I.tY _ o hk,hd⟩
  ·have z:∃ o,s.heap.get? p=some o/\o.ExactDict:=by
    rcases hk with ⟨kvs,hk⟩ | ⟨kvs,hk⟩
    ·obtain ⟨_,_,_,_,o,_,_,e,ex,_⟩:=I.hok p _ hk;exact ⟨o,e,ex⟩
    ·obtain ⟨_,_,_,_,o,_,_,e,ex,_⟩:=I.hok p _ hk;exact ⟨o,e,ex⟩
   obtain ⟨o,e,ex⟩:=z;refine ⟨⟨o,e,ex.1⟩,λ a e2=>?_⟩
   cases e2
   exact ⟨o,e,ex.2.1⟩
  ·obtain ⟨o,_,_,_,e,ex,_⟩:=I.hok p _ hk;refine ⟨⟨o,e,ex.1⟩,λ a e2=>?_⟩
   cases e2
   exact ⟨o,e,ex.2.1⟩
 | _=>exact False.elim ty
noncomputable def Oe (K:PySem.W.Frag)(T:String)(r:V->List V->Hp->VK->Prop)(to:TE):TE:=λ σ H Q=>to σ H λ x H1=>NQ K T x H1/\r x [] H1 Q
noncomputable def P4 (K:PySem.W.Frag)(T:String)(r:V->List V->Hp->VK->Prop)(to:TE)(t:TA):TE:=λ σ H Q=>to σ H λ x H1=>NQ K T x H1/\t σ H1 λ xs H2=>r x xs H2 Q
variable {o e:Expr} {es:List Expr} {to:TE} {t:TA} {name:Str} {apos cpos:Pos} {T id:String} {r:V->List V->Hp->VK->Prop}
theorem Jr (pa:PlainAttrs T)(slot:Slot T name id)(hty:typeOf (.builtin id)=pure (.type "method_descriptor"))(hm:Jy X id r)(ho:PE X o to)
  (hbase:attributeBase o name X.env (eval o X.env)=eval o X.env:=by rfl) (hline:(apos.endLine == cpos.line)=true:=by rfl):PE X (.Call (.Attribute o name apos) [] [] cpos) (Oe X.K T r to):=by
 intro pins s σ H Q I h;refine wpAny_Call_method0_late hbase hline (cj (ho pins s σ H _ I h) λ v s1 ⟨x,H1,I1,r1,ty,q1⟩=>?_);obtain ⟨h1,h2⟩:=BN I1 r1 ty;exact ⟨T,id,pa,slot,hty,h1,h2,Calls.callWith_builtin rfl (PySem.evalArgs_none (hm pins s1 σ H1 x [] v [] Q I1 r1 .nil q1))⟩
theorem L4 (pa:PlainAttrs T)(slot:Slot T name id)(hty:typeOf (.builtin id)=pure (.type "method_descriptor"))(hm:Jy X id r)(ho:PE X o to)(ha:PA X (e::es) t)
  (hbase:attributeBase o name X.env (eval o X.env)=eval o X.env:=by rfl)
  (hfew:((backTo cpos (starEach (e::es) X.env)).all (λ x=>!x.1) && (backToKw cpos (keywordEach [] X.env)).all (λ x=>x.1.isSome)
   && decide ((e::es).length+([]:List Keyword).length+(if ([]:List Keyword).isEmpty then 0 else 1) < 30))=true:=by rfl)
  (hline:(apos.endLine == cpos.line)=true:=by rfl) (hs:starEach (e::es) X.env=(false,eval e X.env)::starEach es X.env:=by rfl) (hplain:(backTo cpos (starEach es X.env)).any (·.1)=false:=by rfl) :
  PE X (.Call (.Attribute o name apos) (e::es) [] cpos) (P4 X.K T r to t):=by
 intro pins s σ H Q I h;refine wpAny_Call_method_late hbase hfew hline rfl (cj (ho pins s σ H _ I h) λ v s1 ⟨x,H1,I1,r1,ty,q1⟩=>?_);obtain ⟨h1,h2⟩:=BN I1 r1 ty;refine ⟨T,id,pa,slot,hty,h1,h2,?_⟩;have hA:=ha cpos pins s1 σ H1 _ I1 q1;rw [hs] at hA ⊢;refine Calls.callWith_builtin (by show (false || (backTo cpos (starEach es X.env)).any (·.1))=false;rw [hplain] <;> rfl) (Calls.evalArgs_plain ?_);exact cj hA λ us s2 ⟨vs,H2,I2,r2,q2⟩=>hm pins s2 σ H2 x vs v us Q I2 r1 r2 q2
end
noncomputable def Ou (X:Cx)(id:String)(r:V->List V->Hp->VK->Prop):Prop:=
 ∀ (pins:List (Addr×Obj)) (s:Shared) (σ:St) (H:Hp) (x:V) (xs:List V) (v:Value) (us:List Value) (Q:VK),Inv X pins σ H s->RelV x v->Vals xs us->r x xs H Q ->
  wpAny (model X.prog X.w) X.A (call (.builtin id) (v::us)) (EP X pins σ Q) X.xe s
theorem Vals.one:∀ {x:V} {us:List Value},Vals [x] us->∃ u,us=[u]/\RelV x u
 | _,_,.cons r .nil=>⟨_,rfl,r⟩
theorem Vals.zero:∀ {us:List Value},Vals [] us->us=[]
 | _,.nil=>rfl
theorem Vals.dropLast {xs:List V}{us:List Value}(h:Vals xs us):Vals xs.dropLast us.dropLast:=by
 induction h with
 | nil=>exact .nil
 | cons r t ih=>
  cases t with
  | nil=>exact .nil
  | cons q t'=>exact .cons r ih
theorem Vals.reverse {xs:List V}{us:List Value}(h:Vals xs us):Vals xs.reverse us.reverse:=by
 induction h with
 | nil=>exact .nil
 | cons r t ih=>rw [reverse_cons,reverse_cons];exact Vals.append ih (.cons r .nil)
theorem Vals.rep {xs:List V}{us:List Value}(h:Vals xs us):∀ k:Nat,Vals (List.replicate k xs).flatten (List.replicate k us).flatten
 | 0=>.nil
 | k+1=>by
  rw [replicate_succ,replicate_succ,flatten_cons,flatten_cons];exact Vals.append h (Vals.rep h k)
theorem wM {α:Type}(l:List α):l.eraseIdx (l.length - 1)=l.dropLast:=by
 induction l with
 | nil=>rfl
 | cons a r ih=>
  cases r with
  | nil=>rfl
  | cons b r=>
   have e:(a::b::r).length - 1=((b::r).length - 1)+1:=by
    have h1:(a::b::r).length=r.length+2:=rfl;have h2:(b::r).length=r.length+1:=rfl;omega
   rw [e,List.eraseIdx_cons_succ,ih]
   all_goals rfl
theorem foldl_rep (its:List Value):∀ (k:Nat) (acc:List Value),
  List.foldl (λ x1 x2=>x1++x2) acc.toArray (List.replicate k its.toArray)=(acc++(List.replicate k its).flatten).toArray
 | 0,acc=>by simp
 | k+1,acc=>by
  have e:acc.toArray++its.toArray=(acc++its).toArray:=by simp
  have e2:(acc++its)++(List.replicate k its).flatten=acc++(List.replicate (k+1) its).flatten:=by
   rw [replicate_succ,flatten_cons,List.append_assoc]
  rw [<- e2,<- foldl_rep its k (acc++its),<- e,replicate_succ,foldl_cons]
section
variable {X:Cx} {pins:List (Addr×Obj)} {σ:St} {H:Hp} {s:Shared} {l b:Addr} {xs ys zs:List V}
theorem Inv.J4 {its its':List Value}{n:Nat}{f:Array Value->Array Value}{t':Nat}(I:Inv X pins σ H s)(hH:H l=some (.lst xs))
  (e:s.heap.get? l=some { cls:=.type "list",data:=.seq its.toArray n }) (hf:f its.toArray=its'.toArray) (hv:Vals ys its') (hz:ys.length<=sizeLine) :
  Inv X pins σ (upd H l (.lst ys)) { s with heap:=s.heap.update l (Obj.mapSeq f),toks:=t' }:=by
 have q:=PySem.IsL.update e f;rw [hf] at q;refine I.write (x:=l) (e:=l) (by rw [hH];exact trivial) (.inl rfl) (λ b' u hb hu=>(Heap.get?_update_other s.heap (Obj.mapSeq f) (Ne.symm hb)).trans hu) ⟨_,q⟩ ?_;exact ⟨hz,its',_,hv,q⟩
theorem Inv.EN {its:List Value}{t':Nat}(I:Inv X pins σ H s)(hv:Vals ys its)(hz:ys.length<=sizeLine) :
  Inv X pins σ (upd H s.heap.objs.size (.lst ys)) { s with heap:=s.heap.push { cls:=.type "list",data:=.seq its.toArray },toks:=t' }:=
 I.laid (λ _ _ q=>get?_push_of_some _ q) (Nat.le_refl _) ⟨hz,its,0,hv,get?_push_size _ rfl⟩
theorem Inv.fresh (I:Inv X pins σ H s):H s.heap.objs.size=none:=I.hok.fresh (Nat.le_refl _)
theorem Inv.wO (I:Inv X pins σ H s)(hH:H l=some (.lst xs)):xs.length<=sizeLine/\∃ (its:List Value) (n:Nat),Vals xs its/\xs.length=its.length/\s.heap.get? l=some { cls:=.type "list",data:=.seq its.toArray n }:=by
 obtain ⟨z,its,n,r,e⟩:=I.hok l _ hH;exact ⟨z,its,n,r,r.length,e⟩
theorem ug {n:Nat}(h:n<=sizeLine):Builtin.List.listTooLong n=false:=by
 unfold Builtin.List.listTooLong;exact decide_eq_false (by omega)
end
section
variable {X:Cx}
noncomputable def GI:V->List V->Hp->VK->Prop:=λ x vs H Q=>∃ l xs y,x=.ref l/\vs=[y]/\H l=some (.lst xs)/\xs.length < sizeLine/\Q .non (upd H l (.lst (xs++[y])))
theorem mW:Ou X "list.append" GI:=by
 intro pins s σ H x vs v us Q I rx rv h;obtain ⟨l,xs,y,rfl,rfl,hH,hz,q⟩:=h
 cases rx
 obtain ⟨u,rfl,ru⟩:=rv.one;obtain ⟨z,its,n,r,hl,e⟩:=I.wO hH;refine call_meets F.slot_list_append ⟨_,e,rfl⟩ F.entry_list_append (F.args_list_append_2 _ _) (PySem.list_append l its.toArray n u (by rw [size_toArray];omega)) ⟨e,?_⟩;refine ⟨.non,_,I.J4 (its':=its++[u]) hH e (by simp) (r.append (.cons ru .nil)) ?_,rfl,q⟩;rw [length_append,List.length_singleton];omega
noncomputable def Gu:V->List V->Hp->VK->Prop:=λ x vs H Q=>∃ l b xs zs,x=.ref l/\vs=[.ref b]/\H l=some (.lst xs)/\H b=some (.lst zs)/\xs.length+zs.length<=sizeLine/\Q .non (upd H l (.lst (xs++zs)))
theorem A4:Ou X "list.extend" Gu:=by
 intro pins s σ H x vs v us Q I rx rv h;obtain ⟨l,b,xs,zs,rfl,rfl,hH,hB,hz,q⟩:=h
 cases rx
 obtain ⟨u,rfl,ru⟩:=rv.one
 cases ru
 obtain ⟨z,its,n,r,hl,e⟩:=I.wO hH;obtain ⟨z2,its2,n2,r2,hl2,e2⟩:=I.wO hB;have hsz:its.toArray.size+its2.toArray.size<=sizeLine:=by rw [size_toArray,size_toArray];omega
 have hlong:¬ (!its.toArray.isEmpty && Builtin.List.listTooLong (its.toArray.size+its2.toArray.size))=true:=by
  rw [ug hsz,Bool.and_false];exact Bool.false_ne_true
 refine call_meets F.slot_list_extend ⟨_,e,rfl⟩ F.entry_list_extend (F.args_list_extend_2 _ _)
  (AutoSeq1.list_extend_list_list_0 l its.toArray n b its2.toArray n2 hlong (by rw [size_toArray];omega) (by omega)) ⟨e,e2,?_⟩
 refine ⟨.non,_,I.J4 (its':=its++its2) hH e (by simp) (r.append r2) ?_,rfl,q⟩;rw [length_append];omega
noncomputable def OF:V->List V->Hp->VK->Prop:=λ x vs H Q=>∃ l xs y,x=.ref l/\vs=[]/\H l=some (.lst xs)/\xs[xs.length - 1]?=some y/\Q y (upd H l (.lst xs.dropLast))
theorem JI:Ou X "list.pop" OF:=by
 intro pins s σ H x vs v us Q I rx rv h;obtain ⟨l,xs,y,rfl,rfl,hH,hy,q⟩:=h
 cases rx
 have hus:=rv.zero;subst hus;obtain ⟨z,its,n,r,hl,e⟩:=I.wO hH;obtain ⟨u,hu,ru⟩:=r.get hy;have hy':its.toArray[its.toArray.size - 1]?=some u:=by
  show its.toArray[its.length - 1]?=some u;rw [<- getElem?_toList,<- hl];exact hu
 refine call_meets F.slot_list_pop ⟨_,e,rfl⟩ F.entry_list_pop (F.args_list_pop_1 _) (MeetsSeq.list_pop_last l its.toArray n u hy' (by rw [size_toArray];omega)) ⟨e,?_⟩;refine ⟨y,_,I.J4 (its':=its.dropLast) hH e ?_ r.dropLast ?_,ru,q⟩
 ·show its.toArray.eraseIdxIfInBounds (its.toArray.size - 1)=its.dropLast.toArray;rw [size_toArray,List.eraseIdxIfInBounds_toArray,wM]
 ·rw [List.length_dropLast];omega
noncomputable def OQ:R2:=λ x y H Q=>∃ l b xs zs,x=.ref l/\y=.ref b/\H l=some (.lst xs)/\H b=some (.lst zs)/\xs.length+zs.length<=sizeLine/\∀ p,H p=none->Q (.ref p) (upd H p (.lst (xs++zs)))
theorem Lj:e_ X (binaryOp .Add) OQ:=by
 intro pins s σ H x y v u Q I rx ry h;obtain ⟨l,b,xs,zs,rfl,rfl,hH,hB,hz,q⟩:=h
 cases rx
 cases ry
 obtain ⟨z,its,n,r,hl,e⟩:=I.wO hH;obtain ⟨z2,its2,n2,r2,hl2,e2⟩:=I.wO hB;refine PySem.P.add_list e e2 ?_ (by rw [size_toArray,size_toArray];omega);have ea:its.toArray++its2.toArray=(its++its2).toArray:=by simp
 rw [ea];exact ⟨.ref _,_,I.EN (t':=s.toks) (r.append r2) (by rw [length_append];omega),rfl,q _ I.fresh⟩
noncomputable def O2:R2:=λ x y H Q=>∃ l k xs,x=.ref l/\y=.int k/\H l=some (.lst xs)/\-(2 ^ 63)<=k/\k < 2 ^ 63/\xs.length * k.toNat<=sizeLine /\
 ∀ p,H p=none->Q (.ref p) (upd H p (.lst (List.replicate k.toNat xs).flatten))
theorem len_rep {α:Type}(xs:List α)(k:Nat):(List.replicate k xs).flatten.length=k * xs.length:=by
 induction k with
 | zero=>simp
 | succ k ih=>rw [replicate_succ,flatten_cons,length_append,ih,Nat.succ_mul,Nat.add_comm]
theorem JH:e_ X (binaryOp .Mult) O2:=by
 intro pins s σ H x y v u Q I rx ry h;obtain ⟨l,k,xs,rfl,rfl,hH,h1,h2,hz,q⟩:=h
 cases rx
 obtain ⟨t,rfl⟩:=ry;obtain ⟨z,its,n,r,hl,e⟩:=I.wO hH;have hlen:its.toArray.size * k.toNat<=sizeLine:=by rw [size_toArray,<- hl];exact hz
 have hcap:¬ its.toArray.size * k.toNat > (2 ^ 63 - 1) / 8:=by
  have:(sizeLine:Nat)<=(2 ^ 63 - 1) / 8:=by decide
  omega
 have hfit:¬ (!Builtin.List.listFitsIndex k)=true:=by
  rw [fitsIndex_both h1 h2];exact Bool.false_ne_true
 have hlong:¬ Builtin.List.listTooLong (its.toArray.size * k.toNat)=true:=by
  rw [ug hlen];exact Bool.false_ne_true
 have hnew:List.foldl (λ x1 x2=>x1++x2) #[] (List.replicate (if its.toArray.isEmpty=true then 0 else k.toNat) its.toArray)=(List.replicate k.toNat its).flatten.toArray:=by
  have f0:∀ m:Nat,List.foldl (λ x1 x2=>x1++x2) #[] (List.replicate m its.toArray)=(List.replicate m its).flatten.toArray:=λ m=>by
   have:=foldl_rep its m [];rw [List.nil_append] at this;exact this
  rw [f0]
  cases its with
  | nil=>simp
  | cons a r'=>rw [if_neg (by simp)]
 refine wpAny_binaryOp_repeat_ref (T := "list") (U := "int") (by decide) ⟨_,e,rfl⟩ (λ s'=>typeIs_int s' k t) noFill_list_mul F.fills_int_mul F.slot_int_rmul repeat_list F.slot_int_index.lookup
  (call_meets F.slot_int_rmul (typeIs_int s k t) F.entry_int_rmul (F.args_int_rmul_2 _ _) (int___rmul___int_list k t l its.toArray n)
   ⟨e,rfl,⟨_,e,rfl⟩,call_meets F.slot_list_mul ⟨_,e,rfl⟩ F.entry_list_mul (F.args_list_mul_2 _ _) (AutoListH.list___mul___list_int_3 l its.toArray n k t hfit hcap hlong) ⟨e,?_⟩⟩)
 rw [hnew];exact ⟨.ref _,_,I.EN (t':=s.toks) (r.rep k.toNat) (by rw [len_rep,mul_comm];exact hz),rfl,q _ I.fresh⟩
end
section
variable {prog:Program} {w:World} {A:Around} {E:Value->Shared->Prop} {s:Shared}
end
section
variable {X:Cx}
end
end L2
namespace Att
open PySem PySem.W PySem.Calls PyProof.Rows
theorem nV {P:Params}{h:Heap}:∀ (ns:List Int) (vs:List Value),WellAll P h vs (ns.map WData.int)->IntsAre vs ns:=by
 intro ns
 induction ns with
 | nil=>
  intro vs w;rw [map_nil] at w
  cases w
  exact .nil
 | cons n ns ih=>
  intro vs w;rw [map_cons] at w
  cases w with
  | cons a b=>
   cases a
   exact .cons _ _ (ih _ b)
theorem AH {l:OpenLaw}{n:Nat}(hn:l.most=some n){P:Params}{h:Heap}{args:List WData}{vals:List Value}
  (hpre:l.row.toRowW.claim.pre args=true) (hwl:WellAll P h vals args) :
  ∃ a vs ns,vals=[Value.ref a]/\args=[WData.list (ns.map WData.int)]/\h.get? a=some { cls:=.type "list",data:=.seq vs.toArray }/\IntsAre vs ns/\ns.length<=n:=by
 have hsh:WShape.hasAll [] args [.list .int]=true:=(pre_splitW hpre).1;have hc:l.pre.holds [] { args:=args }=true:=(pre_splitW hpre).2;obtain ⟨d,r,rfl,h1,h2⟩:=hasAllW_cons hsh;obtain rfl:=hasAllW_nil h2;obtain ⟨xs,rfl,h3⟩:=hasW_list h1;obtain ⟨ns,rfl⟩:=items_int h3;have hlen:ns.length<=n:=by
  unfold OpenLaw.pre at hc;have h4:(WTm.not (.lt (.lit (.int (n:Int))) (.len (.arg 0)))).holds [] { args:=[.list (ns.map .int)] }=true:=by
   have h4:=(holds_andW hc).1;rw [hn] at h4;exact h4
  have h5:=condW_of h4 (w_not (w_lt w_lit (w_len_list (w_arg rfl))));rw [length_map] at h5;refine Nat.le_of_not_lt λ q=>?_;have q':(n:Int) < ((ns.length:Nat):Int):=by omega
  first
   | (rw [decide_eq_true q'] at h5;exact absurd h5 (by decide))
   | (simp at h5;omega)
 cases hwl with
 | cons w1 w2=>
  cases w2
  cases w1 with
  | list ho hall=>exact ⟨_,_,ns,rfl,rfl,ho,nV ns _ hall,hlen⟩
theorem A_ (l:OpenLaw)(args:List WData):l.row.toRowW.claim.post args (.bool true) args=true:=
 postW_of (r:=l.row.toRowW) (X:=(true == true))
  (show WShape.has [] (.bool true) .bool=true by first | rfl | decide | simp [WShape.has,WShape.arms,WShape.armsAll])
  (show (WTm.eq .res (.lit (.bool true))).value [] { args:=args,res:=some (.bool true),after:=args }=some (.bool (true == true)) from w_eq_bool (w_res rfl) w_lit) rfl
theorem vf {l:OpenLaw}{n:Nat}{q:Program}{loose:List Str}{XP:(Str->Option Value)->Heap->Prop}{YP:World->Heap->Prop}{d:DefRec}
  (hn:l.most=some n) (hdf:d.params.defaults=[])
  (call:∀ (w:World) (s₀ s₁:Shared) (mg mb:Str->Option Value) (fa:Addr) (o:Obj) (pm cd doc:Value) (a:Addr) (vs:List Value) (ns:List Int),
   Ground q loose [] XP w s₀ mg mb s₁.heap->YP w s₁.heap ->
   s₁.heap.get? fa=some o->o.data=.func (docDef d.name d.params d.body d.scope pm cd doc)->s₁.heap.CodeRec cd d.name->mg d.name=some (.ref fa) ->
   s₁.heap.get? a=some { cls:=.type "list",data:=.seq vs.toArray }->IntsAre vs ns->ns.length<=n->s₁.gens=#[] ->
   codeAny (model l.prog w) callerA (.call (.ref fa) ⟨[.ref a],[]⟩) (λ r s'=>r=.ok (.ret (.bool true))/\OldK s₁.heap s'.heap/\s'.os=s₁.os/\AllBare s'.gens) s₁) :
  WalkO q loose XP YP l.row.toRowW d [] (λ f vs=>PySem.call f vs):=by
 intro w s₀ s₁ mg mb G Y fa o pm cd doc dV kV ho hd hcd hD hmg hg args vals as hpre hlay hrd hwl hlo;obtain rfl:dV=.none:=Dflts.none hD hdf;obtain rfl:kV=.none:=Dflts.noKw hD;obtain ⟨a,vs,ns,rfl,rfl,hobj,hints,hlen⟩:=AH hn hpre hwl;refine enter_call (codeAny_mono (call w s₀ s₁ mg mb fa o pm cd doc a vs ns G Y ho (fd_plain hd) hcd hmg hobj hints hlen hg) λ r s' hq=>?_);obtain ⟨rfl,h2,h3,h4⟩:=hq;exact ⟨.inl ⟨.bool true,.bool true,[],rfl,λ _=>rfl,.bool true,A_ l _,λ _=>⟨List.Pairwise.nil,λ _ hm=>(nomatch hm)⟩⟩,h2,h3,h4⟩
section
variable {prog:Program} {w:World} {A:Around} {E:Value->Shared->Prop} {s:Shared} {K:Frag}
end
end Att
namespace L2
open PySem PySem.Spec PyProof.Rows
theorem rL:∀ {vs:List Value} {ns:List Int},IntsAre vs ns->Vals (ns.map V.int) vs
 | _,_,.nil=>.nil
 | _,_,.cons n t h=>.cons ⟨t,rfl⟩ (rL h)
noncomputable def Ht (H:Hp):Prop:=∀ b,H b=none\/∃ o xs,H b=some (.frz o (.lst xs))
theorem B_ {P:Program}{w:World}{K:PySem.W.Frag}{mg mb:Str->Option Value}{CX:D6}{k:Nat}{fa a:Addr}{fd:FuncData}{x:Str}{sp:Sp}{s₁:Shared}{vs:List Value}{ns:List Int}
  (KX:K.In s₁.heap) (hns:s₁.heap.Ns mainGlobals mg) (hb:s₁.heap.Ns builtinsNs mb) (hbb:∀ x:Str,x ≠ "__name__" -> mb x=bootBuiltins x) (hlim:s₁.heap.NoLimit) (hg:s₁.gens=#[])
  (ha:s₁.heap.get? a=some { cls:=.type "list",data:=.seq vs.toArray }) (hi:IntsAre vs ns) (hl:ns.length<=sizeLine) (hr:Room k callerA)
  (F:∀ base:Heap,K.In base->base.Ns mainGlobals mg->FnOk P w K mg base CX k fa fd [x] sp) (hbind:∀ (s:Shared) (u:Value),BindsTo s fd ⟨[u],[]⟩ [(x,u)])
  (hsp:∀ H:Hp,Ht H->f_ K H a (ns.map V.int)->sp [.ref a] H (λ v _=>v=.bl true) λ _ _ _=>False)
  (hCX:∀ H e s',CX [] H s₁ (λ _ _ _=>False) e s'->False) :
  codeAny (model P w) callerA (.call (.ref fa) ⟨[.ref a],[]⟩) (λ r s'=>r=.ok (.ret (.bool true))/\OldK s₁.heap s'.heap/\s'.os=s₁.os/\AllBare s'.gens) s₁:=by
 have rv:=rL hi;have lenV:=hi.length;have core:∀ H:Hp,Ht H->f_ K H a (ns.map V.int)->lE P w H s₁.heap->(∀ b,H b≠none->b=a)->(H a≠none->K.lookup a=none) ->
   codeAny (model P w) callerA (.call (.ref fa) ⟨[.ref a],[]⟩) (λ r s'=>r=.ok (.ret (.bool true))/\OldK s₁.heap s'.heap/\s'.os=s₁.os/\AllBare s'.gens) s₁:=by
  intro H hO hS hok hA hK;have base_of:∀ {b:Addr} {o:Obj},s₁.heap.get? b=some o->H b=none->(sY s₁.heap H).get? b=some o:=λ e n=>Cm e n;have noA:∀ {b:Addr} {o:Obj} {es:Array DictEntry} {ep:Nat},s₁.heap.get? b=some o->o.data=.dict es ep->H b=none:=λ {b o es ep} e d=>by
   cases q:H b with
   | none=>rfl
   | some u=>
    have e':b=a:=hA b (by rw [q];simp);subst e';rw [ha] at e;cases e;have d':Data.seq vs.toArray _=Data.dict es ep:=d
    cases d'
  have nsK:∀ {b:Addr} {m:Str->Option Value},s₁.heap.Ns b m->(sY s₁.heap H).Ns b m:=λ {b m} ⟨o,es,ep,e,d,r⟩=>⟨o,es,ep,base_of e (noA e d),d,r⟩;have hKb:K.In (sY s₁.heap H):=λ b o e=>base_of (KX b o e) (by
   cases q:H b with
   | none=>rfl
   | some u=>
    have e':b=a:=hA b (by rw [q];simp);subst e';rw [hK (by rw [q];simp)] at e;cases e)
  have hM:Mod K mg (sY s₁.heap H):=⟨hKb,nsK hns,⟨mb,nsK hb,hbb⟩,let ⟨mc,h1,h2⟩:=hlim;⟨mc,nsK h1,h2⟩⟩;have e0:Env0 P w K mg (sY s₁.heap H) callerA [] s₁ H:=⟨rfl,hM,λ b o e=>Gn e,Nat.le_of_eq (AR _ _),trivial,λ b hb=>absurd (show b∈([]:List Addr) from hb) (by simp),hok,.of_eq hg⟩;refine codeAny_mono ((F _ hKb (nsK hns)).run callerA [] s₁ H ⟨[.ref a],[]⟩ [.ref a] [.ref a] _ _ hr e0 (hbind s₁ (.ref a)) (.cons rfl .nil) (hsp H hO hS)) λ r s' h=>?_
  cases r with
  | error e=>exact (hCX H e s' h).elim
  | ok fl=>
   cases fl with
   | next=>exact False.elim h
   | brk=>exact False.elim h
   | cont=>exact False.elim h
   | ret u=>
    obtain ⟨v,H',os,bare,un,hok',r',q⟩:=h;have q':v=.bl true:=q;subst q';obtain rfl:u=Value.bool true:=r';refine ⟨rfl,OldK.of_keep λ b o e=>?_,os,bare⟩
    cases q:H b with
    | none=>exact un.keep b o e q (by intro z;exact absurd (show b∈([]:List Addr) from z) (by simp)) (by simp)
    | some u=>
     rcases hO b with z | ⟨ob,xs,z⟩
     ·rw [q] at z;cases z
     ·have z2:=un.frzs b ob _ z;obtain ⟨e1,_⟩:=hok b _ z;obtain ⟨e2,_⟩:=hok' b _ z2;rw [e] at e1;cases e1;exact e2
 cases hk:K.lookup a with
 | some o=>
  have e:=KX a o hk;rw [ha] at e
  cases e
  refine core (λ _=>none) (λ _=>.inl rfl) (.inr ⟨_,vs.toArray,_,hk,rfl,rfl,rfl,by rw [size_toArray,lenV];exact hl,by simpa using rv⟩) (λ b u z=>by have z':(none:Option HO)=some u:=z;cases z') (λ b z=>absurd rfl z) λ z=>absurd rfl z
 | none=>
  refine core (λ b=>if b=a then some (.frz { cls:=.type "list",data:=.seq vs.toArray } (.lst (ns.map V.int))) else none) (λ b=>?_) (.inl (.inr ⟨{ cls:=.type "list",data:=.seq vs.toArray },if_pos rfl⟩)) (λ b u z=>?_) (λ b z=>?_) λ _=>hk
  ·by_cases hb:b=a
   ·exact .inr ⟨_,_,if_pos hb⟩
   ·exact .inl (if_neg hb)
  ·by_cases hb:b=a
   ·have z':=(if_pos hb).symm.trans z
    cases z'
    subst hb;exact ⟨ha,by rw [length_map];exact hl,vs,_,rv,ha⟩
   ·have z':=(if_neg hb).symm.trans z
    cases z'
  ·by_cases hb:b=a
   ·exact hb
   ·exact absurd (if_neg hb) z
theorem GG {l:PySem.W.OpenLaw}{n k:Nat}{q:Program}{loose:List Str}{XP:(Str->Option Value)->Heap->Prop}{YP:World->Heap->Prop}{d:DefRec}{K:Params->PySem.W.Frag}{CX:World->D6}{sp:World->Sp}{x:Str}
  (hn:l.most=some n) (hn2:n<=sizeLine) (hdf:d.params.defaults=[]) (hr:Room k callerA)
  (hY:∀ (w:World) (h:Heap),YP w h->(K w.params).In h)
  (F:∀ (w:World) (mg:Str->Option Value) (fa:Addr) (h:Heap),(K w.params).In h->h.Ns mainGlobals mg->mg d.name=some (.ref fa) ->
   ∃ fd:FuncData,(∀ (s:Shared) (u:Value),BindsTo s fd ⟨[u],[]⟩ [(x,u)]) /\
    ∀ base:Heap,(K w.params).In base->base.Ns mainGlobals mg->FnOk l.prog w (K w.params) mg base (CX w) k fa fd [x] (sp w))
  (hsp:∀ (w:World) (H:Hp) (a:Addr) (ns:List Int),ns.length<=n->Ht H->f_ (K w.params) H a (ns.map V.int)->sp w [.ref a] H (λ v _=>v=.bl true) λ _ _ _=>False)
  (hCX:∀ (w:World) (H:Hp) (s:Shared) (e:Value) (s':Shared),CX w [] H s (λ _ _ _=>False) e s'->False) :
  PySem.W.WalkO q loose XP YP l.row.toRowW d [] (λ f vs=>PySem.call f vs):=by
 refine Att.vf hn hdf λ w s₀ s₁ mg mb fa o pm cd doc a vs ns G Y ho hd hcd hmg hobj hints hlen hg=>?_;have KX:=hY w _ Y;obtain ⟨fd,hb,hF⟩:=F w mg fa _ KX G.T.g hmg;exact B_ KX G.T.g G.T.b G.T.builtins G.T.nolimit hg hobj hints (Nat.le_trans hlen hn2) hr hF hb (λ H hO hS=>hsp w H a ns hlen hO hS) λ H e s'=>hCX w H s₁ e s'
noncomputable def bx (s:Stmt):Arguments:=match s with
 | .FunctionDef _ a _ _ _ _ _ _ _ _=>a
 | _=>{ posonlyargs:=[],args:=[],vararg:=none,kwonlyargs:=[],kw_defaults:=[],kwarg:=none,defaults:=[] }
noncomputable def bh (s:Stmt):List Stmt:=match s with
 | .FunctionDef _ _ b _ _ _ _ _ _ _=>b
 | _=>[]
noncomputable def aH (s:Stmt):Scope:=match s with
 | .FunctionDef _ _ _ _ _ _ sc _ _ _=>sc
 | _=>{ kind:=.function,names:=[],isGenerator:=false,isCoroutine:=false }
noncomputable abbrev j9:D6:=λ _ _ _ _ _ _=>False
noncomputable abbrev E0:XK:=λ _ _ _=>False
theorem MY {X:Cx}:Passes j9 X E0:=λ _ _ _ _ _ _ _ h=>h.elim
structure Fun (K:PySem.W.Frag)(x qual:Str)(st:Stmt)(f:Addr)(fd:FuncData):Prop where
 ex:∃ (oc:Value) (od:Option Addr) (kV doc pm:Value) (an:Option Addr) (cdv ct:Value) (osl:Array (Option Value)),
  fd=PySem.W.fnOf x qual (bx st) (bh st) (aH st) .none kV doc pm an cdv ct/\K.lookup f=some ⟨oc,od,.func fd,osl⟩/\PySem.W.codeIn K cdv qual=true
 kp:PySem.W.keepIn K (.ref f)=true
section
variable {P:Program} {w:World} {K:PySem.W.Frag} {mg:Str->Option Value} {base:Heap}
theorem Fun.ok {x qual:Str}{st:Stmt}{f:Addr}{fd:FuncData}{N ps:List Str}{k:Nat}{sp:Sp}(F:Fun K x qual st f fd)(S:FnScope N ps (aH st))(len:∀ vs H Q E,sp vs H Q E->vs.length=ps.length)
  (hbody:∀ (cdv:Value) (A:Around) (outer:List Env) (s:Shared) (H:Hp) (vs:List V) (Q:VK) (E:XK),Room k (A.deeper (envOfC qual (aH st) s.heap.objs.size f cdv))->sp vs H Q E ->
   ∃ t,tB (xD j9 P w K mg base N qual (aH st) f cdv A outer s H E).Mx (bh st) t/\t { nx:=λ _ H'=>Q .non H',rt:=Q } (start N vs) H):FnOk P w K mg base j9 (k+1) f fd ps sp:=by
 obtain ⟨oc,od,kV,doc,pm,an,cdv,ct,osl,rfl,lk,hcd⟩:=F.ex;refine Nm lk hcd S len λ A outer s H vs Q E hr hsp=>?_;obtain ⟨t,h,q⟩:=hbody cdv A outer s H vs Q E hr hsp;exact ⟨t,h.Mx,q⟩
theorem Fun.binds {x qual:Str}{st:Stmt}{f:Addr}{fd:FuncData}{ps:List Str}(F:Fun K x qual st f fd)
  (h:∀ (kV doc pm:Value) (an:Option Addr) (cdv ct:Value) (us:List Value),us.length=ps.length->bindArgs (PySem.W.fnOf x qual (bx st) (bh st) (aH st) .none kV doc pm an cdv ct) ⟨us,[]⟩=pure (ps.zip us)):Binds K fd ps []:=by
 obtain ⟨oc,od,kV,doc,pm,an,cdv,ct,osl,rfl,lk,hcd⟩:=F.ex;exact .all (h kV doc pm an cdv ct)
theorem bV {x qual:Str}{st:Stmt}{f:Addr}{oc:Value}{od an:Option Addr}{osl:Array (Option Value)}{kV doc pm cdv ct:Value}(l:K.lookup f=some ⟨oc,od,.func (PySem.W.fnOf x qual (bx st) (bh st) (aH st) .none kV doc pm an cdv ct),osl⟩)
  (c:PySem.W.codeIn K cdv qual=true) (k:PySem.W.keepIn K (.ref f)=true):Fun K x qual st f (PySem.W.fnOf x qual (bx st) (bh st) (aH st) .none kV doc pm an cdv ct):=⟨⟨oc,od,kV,doc,pm,an,cdv,ct,osl,rfl,l,c⟩,k⟩
end
section
variable {X:Cx}
theorem pv (i:Nat){x:Str}{pos:Pos}(hN:X.N[i]?=some x:=by rfl)(hv:LR X.env.scope x:=by first | exact Or.inl rfl | exact Or.inr (Or.inl rfl) | exact Or.inr (Or.inr rfl))(hd:(x == ("__debug__" : Str))=false:=by decide)
  (hcd:(x == ("__classdict__" : Str))=false:=by decide):PE X (.Name x pos) (Nt i):=EV hN hv hd hcd
end
set_option maxHeartbeats 4000000
noncomputable def Hq (σ:St):Option Nat->Option V
 | some j=>(σ[j]?).getD none
 | none=>none
noncomputable def ku (env:Env):List (Str×NameKind)->List (Str×Addr)->List (Str×Addr)
 | [],cs=>cs
 | (n,k)::r,cs=>ku env r (if k == .free then (n,(env.cells.lookup n).getD 0)::cs else cs)
theorem pD {scope:Scope}{env:Env}(h:∀ y∈scope.names,y.2=.free->∃ c,env.cells.lookup y.1=some c):closureFor scope env=pure (ku env scope.names []):=by
 have key:∀ (l:List (Str×NameKind)) (cs:List (Str×Addr)),(∀ y∈l,y.2=.free->∃ c,env.cells.lookup y.1=some c) ->
   (forIn l cs (λ (x:Str×NameKind) (r:List (Str×Addr))=>(match x with
    | (name,kind)=>if (kind == NameKind.free)=true then (do let c <- cellOf env name;pure (ForInStep.yield ((name,c)::r))) else pure (ForInStep.yield r):Sem (ForInStep (List (Str×Addr))))))=(pure (ku env l cs):Sem (List (Str×Addr))):=by
  intro l
  induction l with
  | nil=>intro cs _;rfl
  | cons y r ih=>
   intro cs hl;obtain ⟨n,k⟩:=y;rw [forIn_cons];by_cases hk:k=.free
   ·subst hk;obtain ⟨c,hc⟩:=hl (n,.free) mem_cons_self rfl;have e1:cellOf env n=pure c:=by
     unfold cellOf;rw [hc]
    simp only [beq_self_eq_true,if_true,e1,pure_bind];rw [ih _ (λ z hz=>hl z (mem_cons_of_mem _ hz))];simp only [ku,beq_self_eq_true,if_true,hc,getD_some]
   ·have hb:(k == NameKind.free)=false:=by simpa using hk
    simp only [hb,false_eq_true,if_false,pure_bind];rw [ih _ (λ z hz=>hl z (mem_cons_of_mem _ hz))];simp only [ku,hb,false_eq_true,if_false]
 have:=key scope.names [] h;exact (congrArg (λ z=>z >>= λ cs=>(pure cs:Sem (List (Str×Addr)))) this).trans (pure_bind _ _)
theorem p5:∀ {l:List (Str×NameKind)} {x:Str} {k:NameKind},l.lookup x=some k->(x,k)∈l
 | [],_,_,h=>nomatch h
 | (n,k')::r,x,k,h=>by
  rw [lookup_cons] at h
  cases hx:x == n with
  | true=>
   rw [hx] at h;have e:x=n:=by simpa using hx
   subst e
   cases h
   exact mem_cons_self
  | false=>rw [hx] at h;exact mem_cons_of_mem _ (p5 h)
theorem qH {env:Env}{x:Str}{c:Addr}:∀ {l:List (Str×NameKind)} {cs:List (Str×Addr)},(∀ y∈l,y.2=.free->∃ c,env.cells.lookup y.1=some c)->(ku env l cs).lookup x=some c->env.cells.lookup x=some c\/cs.lookup x=some c
 | [],cs,_,h=>.inr h
 | (n,k)::r,cs,hl,h=>by
  have h':=qH (l:=r) (λ z hz=>hl z (mem_cons_of_mem _ hz)) h
  rcases h' with h' | h'
  ·exact .inl h'
  ·by_cases hk:k=.free
   ·subst hk;simp only [beq_self_eq_true,if_true] at h';obtain ⟨c',hc⟩:=hl (n,.free) mem_cons_self rfl;rw [hc,getD_some,lookup_cons] at h'
    cases hx:x == n with
    | true=>
     rw [hx] at h';have e:x=n:=by simpa using hx
     subst e;left;rw [hc];exact h'
    | false=>rw [hx] at h';exact .inr h'
   ·have hb:(k == NameKind.free)=false:=by simpa using hk
    simp only [hb,false_eq_true,if_false] at h';exact .inr h'
theorem rj {env:Env}{x:Str}:∀ {l:List (Str×NameKind)} {cs:List (Str×Addr)},(cs.lookup x).isSome=true->((ku env l cs).lookup x).isSome=true
 | [],cs,h=>h
 | (n,k)::r,cs,h=>by
  show ((ku env r _).lookup x).isSome=true;refine rj (l:=r) ?_;by_cases hk:(k == NameKind.free)=true
  ·rw [if_pos hk,lookup_cons]
   cases hx:x == n with
   | true=>rfl
   | false=>exact h
  ·rw [if_neg hk];exact h
theorem pH {env:Env}{x:Str}:∀ {l:List (Str×NameKind)} {cs:List (Str×Addr)},(x,NameKind.free)∈l->((ku env l cs).lookup x).isSome=true
 | [],_,h=>nomatch h
 | (n,k)::r,cs,h=>by
  rcases mem_cons.mp h with e | h
  ·cases e
   show ((ku env r _).lookup x).isSome=true;refine rj (l:=r) ?_;rw [if_pos (by rfl),lookup_cons];simp
  ·exact pH (l:=r) h
noncomputable def bZ (X:Cx)(scope:Scope)(N:List Str)(C:Addr)(s₀:Shared)(H₀:Hp)(ex:List Addr):Cx where
 prog:=X.prog
 w:=X.w
 K:=X.K
 mg:=X.mg
 base:=X.base
 A:=X.A
 N:=N
 s₀:=s₀
 H₀:=H₀
 env:=compEnvC scope (ku X.env scope.names []) C X.env
 outer:=X.stack
 stack:=X.stack
 ex:=ex
 fn:=λ _=>false
 calm:=X.calm
 pn:=[]
 xe:=λ _ _=>False
structure CpScope (X:Cx)(scope:Scope)(N:List Str)(cap:List (Option Nat)):Prop where
 kind:scope.kind=.function
 nocell:∀ y∈scope.names,y.2≠.cell
 nm:∀ y∈scope.names,y.2=.local->scope.names.lookup y.1=some .local
 fr:∀ y∈scope.names,y.2=.free->X.env.kindOf y.1=some .cell\/X.env.kindOf y.1=some .free
 rl:∀ y,((relabel scope X.env).names.lookup y=some .cell\/(relabel scope X.env).names.lookup y=some .free)->(y,NameKind.free)∈scope.names
 len:cap.length=N.length
 nolf:∀ x,(x,NameKind.free)∈scope.names->scope.names.lookup x≠some .local
 cp:∀ (i j:Nat) (x:Str),N[i]?=some x->cap[i]?=some (some j)->X.N[j]?=some x/\(x,NameKind.free)∈scope.names
theorem DZ {X:Cx}{scope:Scope}{N:List Str}{cap:List (Option Nat)}{pins:List (Addr×Obj)}{σ:St}{H:Hp}{s:Shared}{fp:List Addr}{h₁:Heap}{m:Str->Option Value}{tk:Nat}(S:CpScope X scope N cap)(I:Inv X pins σ H s)
  (hf:∀ b∈fp,jM X pins H b) (ho:∀ b∈fp,∃ o,s.heap.get? b=some o) (hn:h₁.Ns s.heap.objs.size m) (hk:∀ b o,s.heap.get? b=some o->h₁.get? b=some o) :
  Inv (bZ X scope N s.heap.objs.size s H fp) [] (cap.map (Hq σ)) H { s with heap:=h₁,toks:=tk }:=by
 have hfree:∀ y∈scope.names,y.2=.free->∃ c,X.env.cells.lookup y.1=some c:=λ y hy e=>I.ok.has _ (S.fr y hy e);have lk:∀ x c,(ku X.env scope.names []).lookup x=some c->X.env.cells.lookup x=some c:=λ x c e=>by
  rcases qH hfree e with z | z
  ·exact z
  ·cases z
 have lt:∀ b o,s.heap.get? b=some o->b≠s.heap.objs.size:=λ b o e=>ne_of_lt (lt_size e);refine ⟨⟨I.ok.mod,?_,I.ok.glob,I.ok.blt,Nat.le_refl _,?_,?_,?_,I.ok.hd,I.ok.frames,.inl rfl,?_,I.bs,Nat.le_trans I.ok.bsz I.sz,?_,?_,I.stack,I.yW⟩,rfl,I.bare,Un.kept hk,?_,?_,I.hok.fresh (Nat.le_refl _),?_,?_,I.hok.kept hk,?_⟩
 ·exact S.kind
 ·intro x y c e1 e2;exact I.ok.inj x y c (lk x c e1) (lk y c e2)
 ·intro x e;have hm:=S.rl x e;have:=pH (env:=X.env) (cs:=[]) hm;exact isSome_iff_exists.mp this
 ·intro x c e _;exact absurd e (by simp [bZ])
 ·intro b hb;obtain ⟨o,e⟩:=ho b hb;refine ⟨lt b o e,λ x c e2=>(hf b hb).2.2.2.2.1 x c (lk x c e2)⟩
 ·intro b o e hb;obtain ⟨_,_,_,h3,_⟩:=hf b hb
  rcases h3 with z | z
  ·exact I.ok.noex b o e z
  ·exact absurd (lt_of_lt_of_le (lt_size (I.ok.bs b o e).1) z) (lt_irrefl _)
 ·intro b hb hz;obtain ⟨_,h1,h2,_⟩:=hf b hb
  rcases mem_cons.mp (I.xx b hz) with z | z
  ·exact h1 z
  ·exact h2 z
 ·refine ⟨m,hn,λ i x v e1 e2 e3=>?_⟩;rw [List.getElem?_map] at e2
  cases hc:cap[i]? with
  | none=>rw [hc] at e2;cases e2
  | some oj=>
   rw [hc] at e2
   cases oj with
   | none=>cases e2
   | some j=>
    have e2':(σ[j]?).getD none=some v:=Option.some.inj e2;obtain ⟨hj,hm⟩:=S.cp i j x e1 hc;obtain ⟨m0,hn0,hl0⟩:=I.loc;have hσ:σ[j]?=some (some v):=by
     cases h:σ[j]? with
     | none=>rw [h] at e2';cases e2'
     | some z=>rw [h,getD_some] at e2';rw [e2']
    have hkd:=S.fr (x,.free) hm rfl;have hv:LR X.env.scope x:=.inr hkd;obtain ⟨u,ru,lo⟩:=hl0 j x v hj hσ hv;refine ⟨u,ru,?_⟩
    rcases lo with ⟨lo,_⟩ | ⟨_,c,ec,ic⟩
    ·rcases hkd with z | z <;> (rw [z] at lo;cases lo)
    ·have h2:=pH (env:=X.env) (cs:=[]) hm;obtain ⟨c',hc'⟩:=isSome_iff_exists.mp h2;have:c'=c:=Option.some.inj ((lk x c' hc').symm.trans ec);subst this;refine .inr ⟨?_,c',hc',?_⟩
     ·rcases e3 with z | z | z
      ·exfalso;have:(relabel scope X.env).names.lookup x=some .local:=z;have hloc:scope.names.lookup x=some .local:=by
        have hmem:∃ k,(x,k)∈(relabel scope X.env).names/\k=.local:=by
         clear hc' h2;have:=p5 this;exact ⟨_,this,rfl⟩
        obtain ⟨k,hk1,rfl⟩:=hmem;obtain ⟨⟨n',k'⟩,hm1,hm2⟩:=mem_map.mp hk1;dsimp only at hm2;split at hm2
        ·cases hm2
        ·cases hm2
         exact S.nm (x,.local) hm1 rfl
       exact False.elim (S.nolf x hm hloc)
      ·exact .inl z
      ·exact .inr z
     ·obtain ⟨o,ho',hd⟩:=ic;exact ⟨o,hk _ _ ho',hd⟩
 ·intro x c e;obtain ⟨v,o,ho',hd⟩:=I.cell x c (lk x c e);exact ⟨v,o,hk _ _ ho',hd⟩
 ·intro x c e;exact I.freeC x c (lk x c e)
 ·intro p hp
  cases hp
 ·rw [length_map,S.len];rfl
noncomputable def Ft (X:Cx)(ifs:List Expr)(t:TT):Prop:=
 ∀ (pins:List (Addr×Obj)) (s:Shared) (σ:St) (H:Hp) (Q:Bool->Hp->Prop),Inv X pins σ H s->t σ H Q ->
  wpAny (model X.prog X.w) X.A (forIn ifs true λ c r=>if r=true then do let ok <- isTrue c X.env (eval c X.env);pure (ForInStep.yield ok) else pure (ForInStep.yield r)) (TP X pins σ Q) X.xe s
noncomputable def OW:TT:=λ _ H Q=>Q true H
theorem Hy {X:Cx}:Ft X [] OW:=λ _ _ _ H _ I h=>wpAny_tests_nil ⟨H,I,h⟩
theorem GF {X:Cx}{c:Expr}{t:TT}(h:PT X c t):Ft X [c] t:=λ pins s σ H Q I q=>wpAny_tests_one (h pins s σ H Q I q)
noncomputable def Jp (cap:List (Option Nat))(g:TG)(tc:TT)(te:TE)(σ:St)(Q:VK)(J:It)(H1:Hp):Prop:=∀ D,H1 D=none ->
 ∃ W:Nat->Nat->St->Hp->Prop,(∃ m,W 0 m (cap.map (Hq σ)) (upd H1 D (.lst [])))/\∀ i m σ' H',W i m σ' H' ->
  (J.stop i H'/\Q (.ref D) H')\/(J.go i H'/\∀ x H2,J.yld i H' x H2->g x σ' H2 λ σ3 H3=>tc σ3 H3 λ b H4=>
   if b=true then te σ3 H4 λ y H5=>∃ ys,H5 D=some (.lst ys)/\ys.length < sizeLine/\∃ m',m' < m/\W (i+1) m' σ3 (upd H5 D (.lst (ys++[y])))
   else ∃ m',m' < m/\W (i+1) m' σ3 H4)
noncomputable def Nd (cap:List (Option Nat))(wi:TI)(g:TG)(tc:TT)(te:TE):TE:=λ σ H Q=>wi σ H (Jp cap g tc te σ Q)
theorem sf {α:Type}{t:Sem α}{Q Q':α->Shared->Prop}{M:Model}{A:Around}{E:Value->Shared->Prop}{s:Shared}(h:wpAny M A t Q (λ _ _=>False) s)(hQ:∀ a s,Q a s->Q' a s):wpAny M A t Q' E s:=
 wpAny_mono h hQ λ _ _ f=>f.elim
structure TurnG (ok:Cx->Prop)(P:Program)(w:World)(K:PySem.W.Frag)(tg:Expr)(J:It)(fp:List Addr)(it:Addr)(tn:Nat->Heap->Prop):Prop where
 obj:∀ i h,tn i h->∀ b∈fp,∃ o,h.get? b=some o/\∀ v,o.data≠.cell v
 keep:∀ i h h',tn i h->(∀ b∈fp,∀ o,h.get? b=some o->h'.get? b=some o)->tn i h'
 item:∀ (X:Cx),X.prog=P->X.w=w->X.K=K->ok X->∀ (i:Nat) (pins:List (Addr×Obj)) (s:Shared) (σ:St) (H:Hp) (E:Value->Shared->Prop),Inv X pins σ H s->(∀ b∈fp,jM X pins H b)->tn i s.heap->J.go i H ->
  wpAny (model P w) X.A (pyNext (.ref it)) (λ r s1=>∃ u,r=some u /\
   wpAny (model P w) X.A (letOwnedTupleGo tg (.ref it) u) (λ _ s2=>∃ x H',Inv X pins σ H' s2/\RelV x u/\J.yld i H x H'/\tn (i+1) s2.heap/\∀ b∈fp,H' b=none) E s1) E s
 done:∀ (X:Cx),X.prog=P->X.w=w->X.K=K->ok X->∀ (i:Nat) (pins:List (Addr×Obj)) (s:Shared) (σ:St) (H:Hp) (E:Value->Shared->Prop),Inv X pins σ H s->(∀ b∈fp,jM X pins H b)->tn i s.heap->J.stop i H ->
  wpAny (model P w) X.A (pyNext (.ref it)) (λ r s1=>r=none/\Inv X pins σ H s1) E s
 self:∀ (A:Around) (i:Nat) (s:Shared) (Q:Value->Shared->Prop) (E:Value->Shared->Prop),tn i s.heap->Q (.ref it) s->wpAny (model P w) A (pyIter (.ref it)) Q E s
noncomputable def ON (ok:Cx->Prop)(X:Cx)(pins:List (Addr×Obj))(σ:St)(tg:Expr)(R:It->Hp->Prop)(itv:Value)(s2:Shared):Prop:=
 ∃ (it:Addr) (fp:List Addr) (tn:Nat->Heap->Prop) (J:It) (H':Hp),itv=.ref it/\Inv X pins σ H' s2/\TurnG ok X.prog X.w X.K tg J fp it tn/\tn 0 s2.heap/\(∀ b∈fp,jM X pins H' b)/\R J H'
noncomputable def N4 (ok:Cx->Prop)(X:Cx)(tg iter:Expr)(wi:TI):Prop:=
 ∀ (pins:List (Addr×Obj)) (s:Shared) (σ:St) (H:Hp) (R:It->Hp->Prop),Inv X pins σ H s->wi σ H R ->
  wpAny (model X.prog X.w) X.A (eval iter X.env) (λ v s1=>wpAny (model X.prog X.w) X.A (pyIter v) (ON ok X pins σ tg R) X.xe s1) X.xe s
theorem PI.g {X:Cx}{tg iter:Expr}{wi:TI}(h:PI X tg iter wi):N4 (λ Y=>Y.calm=true) X tg iter wi:=λ pins s σ H R I q=>
 cj (h pins s σ H R I q) λ v s1 h1=>cj h1 λ itv s2 ⟨it,fp,tn,J,H',e,I',T,a,b,c⟩=>⟨it,fp,tn,J,H',e,I',⟨T.obj,T.keep,T.item,T.done,T.self⟩,a,b,c⟩
theorem x_ {ok:Cx->Prop}{X:Cx}{use:Option (Value->Sem Unit)}{Q':Value->Shared->Prop}{tg iter elt:Expr}{ifs:List Expr}{scope:Scope}{pos:Pos}{N:List Str}{cap:List (Option Nat)}{wi:TI}{g:TG}{tc:TT}{te:TE}(S:CpScope X scope N cap)(hok:∀ C s₀ H₀ ex,(∀ a o u,X.H₀ a=some (.frz o u)->H₀ a=some (.frz o u))->ok (bZ X scope N C s₀ H₀ ex))(hi:N4 ok X tg iter wi)
  (hg:∀ C s₀ H₀ ex,PG (bZ X scope N C s₀ H₀ ex) tg g) (ht:∀ C s₀ H₀ ex,Ft (bZ X scope N C s₀ H₀ ex) ifs tc) (he:∀ C s₀ H₀ ex,PE (bZ X scope N C s₀ H₀ ex) elt te)
  (hs:∀ x,foldedSetIterable iter X.env x=pure x:=by intro _;rfl):∀ (pins:List (Addr×Obj)) (s:Shared) (σ:St) (H:Hp) (Q:VK),Inv X pins σ H s->Nd cap wi g tc te σ H Q ->
  (∀ (s6:Shared) (C D:Addr) (H5:Hp) (m:Str->Option Value),s6.heap.Ns C m->jM X pins H5 C->(∀ h',Heap.SameBut C s6.heap h'->Inv X pins σ H5 { s6 with heap:=h' })->Q (.ref D) H5->∀ v,compPost (model X.prog X.w) X.A X.xe use Q' (.ref D) C (.ok v) s6) ->
  wpAny (model X.prog X.w) X.A (comprehension (.ListComp elt [⟨tg,iter,ifs,0⟩] scope pos) scope X.env (firstIterPos [⟨tg,iter,ifs,0⟩] pos) (newList []) (firstAsync [⟨tg,iter,ifs,0⟩]) (firstIter [⟨tg,iter,ifs,0⟩] X.env) use) Q' X.xe s:=by
 intro pins s σ H Q I h hfin;have hfree:∀ y∈scope.names,y.2=.free->∃ c,X.env.cells.lookup y.1=some c:=λ y hy e=>I.ok.has _ (S.fr y hy e);refine wpAny_comprehension_free (use:=use) rfl hs (pD hfree) S.kind S.nm (cj (hi pins s σ H _ I h) λ xv s1 h1=>cj h1 λ itv s2 h2=>?_);obtain ⟨it,fp,tn,J,H2,rfl,I2,T,st2,f2,h2⟩:=h2;refine wpAny_newObj_type (wpAny_newFunctionEnv S.nocell (by intro y hy;simp at hy) (λ h₁ hns₁ hsb₁=>?_) S.kind);obtain ⟨W,⟨m0,w0⟩,turn⟩:=h2 s2.heap.objs.size I2.fresh;dsimp only at hns₁ hsb₁ ⊢;have I3:Inv X pins σ (upd H2 s2.heap.objs.size (.lst [])) { s2 with heap:=s2.heap.push { cls:=.type "list",data:=.seq ([]:List Value).toArray } }:=I2.EN (t':=s2.toks) (its:=[]) .nil (zero_le _);have hfp:∀ b∈fp,∃ o,s2.heap.get? b=some o:=λ b hb=>by
  obtain ⟨o,e,_⟩:=T.obj 0 _ st2 b hb;exact ⟨o,e⟩
 have neD:∀ b∈fp,b≠s2.heap.objs.size:=λ b hb=>by
  obtain ⟨o,e⟩:=hfp b hb;exact ne_of_lt (lt_size e)
 have f3:∀ b∈fp,jM X pins (upd H2 s2.heap.objs.size (.lst [])) b:=λ b hb=>⟨by rw [aN (neD b hb)];exact (f2 b hb).1,(f2 b hb).2⟩;have hDC:s2.heap.objs.size≠(s2.heap.push { cls:=.type "list",data:=.seq ([]:List Value).toArray }).objs.size:=by rw [size_push];exact ne_of_lt (lt_succ_self _)
 have old:∀ b o,(s2.heap.push { cls:=.type "list",data:=.seq ([]:List Value).toArray }).get? b=some o->h₁.get? b=some o:=λ b o e=>hsb₁.extBut b o (ne_of_lt (lt_size e)) (get?_push_of_some _ e);have I4:=DZ (tk:=s2.toks+([]:List (Str×Value)).length) (fp:=fp) S I3 f3 (λ b hb=>by
  obtain ⟨o,e⟩:=hfp b hb;exact ⟨o,get?_push_of_some _ e⟩) hns₁ old
 have st4:tn 0 h₁:=T.keep _ _ _ st2 λ b hb o e=>old b o (get?_push_of_some _ e);have hc:=hok (s2.heap.push { cls:=.type "list",data:=.seq ([]:List Value).toArray }).objs.size { s2 with heap:=s2.heap.push { cls:=.type "list",data:=.seq ([]:List Value).toArray } } (upd H2 s2.heap.objs.size (.lst [])) fp λ a o u e=>by
  have z:=I2.base.frzs a o u e;rw [aN (λ q=>by rw [q,I2.fresh] at z;cases z)];exact z
 have stat:∀ {H':Hp},(∀ b∈fp,H' b=none)->∀ b∈fp,jM (bZ X scope N (s2.heap.push { cls:=.type "list",data:=.seq ([]:List Value).toArray }).objs.size { s2 with heap:=s2.heap.push { cls:=.type "list",data:=.seq ([]:List Value).toArray } } (upd H2 s2.heap.objs.size (.lst [])) fp) [] H' b:=λ hn b hb=>by
  have ok:=I4.ok;refine ⟨hn b hb,(ok.exf b hb).1,ok.exfs b hb,.inl hb,λ x c e=>(ok.exf b hb).2 x c e,λ p hp=>nomatch hp⟩
 have loop:∀ s4:Shared,s4={ s2 with heap:=h₁,toks:=s2.toks+([]:List (Str×Value)).length } ->
   codeAny (model X.prog X.w) X.A (.compLoop (.ListComp elt [⟨tg,iter,ifs,0⟩] scope pos) 0 (.ref it) (.ref s2.heap.objs.size) (compEnvC scope (ku X.env scope.names []) (s2.heap.push { cls:=.type "list",data:=.seq ([]:List Value).toArray }).objs.size X.env))
    (compPost (model X.prog X.w) X.A X.xe use Q' (.ref s2.heap.objs.size) (s2.heap.push { cls:=.type "list",data:=.seq ([]:List Value).toArray }).objs.size) s4:=by
  rintro s4 rfl;refine codeAny_loop rfl (λ n s'=>∃ i σ' H',Inv (bZ X scope N (s2.heap.push { cls:=.type "list",data:=.seq ([]:List Value).toArray }).objs.size { s2 with heap:=s2.heap.push { cls:=.type "list",data:=.seq ([]:List Value).toArray } } (upd H2 s2.heap.objs.size (.lst [])) fp) [] σ' H' s'/\tn i s'.heap/\(∀ b∈fp,H' b=none)/\W i n σ' H') (λ n s5 hI=>?_) m0 ⟨0,_,_,I4,st4,λ b hb=>(f3 b hb).1,w0⟩;obtain ⟨i,σ5,H5,I5,st5,fr5,w5⟩:=hI;show wpAny _ X.A ((compTurn (.ListComp elt [⟨tg,iter,ifs,0⟩] scope pos) 0 (.ref it) (.ref s2.heap.objs.size) (compEnvC scope (ku X.env scope.names []) (s2.heap.push { cls:=.type "list",data:=.seq ([]:List Value).toArray }).objs.size X.env)).onRaise (λ x=>do noteFrame x _;theTreesLotGoes x)) _ _ s5;refine wpAny_noted ?_;rw [compTurn_list];refine wpAny_bind (wpAny_standAt (wpAny_bind ?_))
  rcases turn i n σ5 H5 w5 with ⟨stop,q⟩ | ⟨go,step⟩
  ·refine cj (T.done (bZ X scope N (s2.heap.push { cls:=.type "list",data:=.seq ([]:List Value).toArray }).objs.size { s2 with heap:=s2.heap.push { cls:=.type "list",data:=.seq ([]:List Value).toArray } } (upd H2 s2.heap.objs.size (.lst [])) fp) rfl rfl rfl hc i [] s5 σ5 H5 _ I5 (stat fr5) st5 stop) λ r s6 h9=>?_;obtain ⟨hr,I6⟩:=h9;subst hr;obtain ⟨m6,hn6,_⟩:=I6.loc;refine wpAny_pure (hfin s6 _ _ H5 m6 hn6 (I3.wZ (Nat.le_refl _) I6.free) (λ h' sb=>?_) q _);have u6:=I6.base;have nC:∀ b o,(s2.heap.push { cls:=.type "list",data:=.seq ([]:List Value).toArray }).get? b=some o->b≠(s2.heap.push { cls:=.type "list",data:=.seq ([]:List Value).toArray }).objs.size:=λ b o e=>ne_of_lt (lt_size e);refine I3.E3 (ch:=fp) I6.os ⟨λ b o e n hb hx=>?_,λ b o e n hb hx=>?_,λ b o e n hx=>?_,λ b o e hx=>?_,u6.tups,u6.frzs,u6.tbls⟩ ?_ I6.bare ?_
   ·exact sb.extBut b o (nC b o e) (u6.keep b o e n hb hx)
   ·obtain ⟨sl,z⟩:=u6.slot b o e n hb hx;exact ⟨sl,sb.extBut b _ (nC b o e) z⟩
   ·exact u6.free b o e n hx
   ·obtain ⟨o',z⟩:=u6.there b o e hx;exact ⟨o',sb.extBut b _ (nC b o e) z⟩
   ·intro b o e;have hb:∀ c v,H5 c=some v->c≠(s2.heap.push { cls:=.type "list",data:=.seq ([]:List Value).toArray }).objs.size:=λ c v e z=>by
     rw [z] at e;have:=I6.free;rw [show H5 (s2.heap.push { cls:=.type "list",data:=.seq ([]:List Value).toArray }).objs.size=none from this] at e
     cases e
    refine (I6.hok b o e).stay (λ c v hc q=>sb.extBut c v ?_ q) (λ _ q=>q) λ _ _ q=>q
    rcases hc with z | z
    ·rw [z];exact hb b o e
    ·exact hb c _ z
   ·intro b hb;obtain ⟨_,z1,_,z3,z4,z5⟩:=f3 b hb;exact ⟨z3,z1,z4,z5⟩
  ·refine cj (T.item (bZ X scope N (s2.heap.push { cls:=.type "list",data:=.seq ([]:List Value).toArray }).objs.size { s2 with heap:=s2.heap.push { cls:=.type "list",data:=.seq ([]:List Value).toArray } } (upd H2 s2.heap.objs.size (.lst [])) fp) rfl rfl rfl hc i [] s5 σ5 H5 _ I5 (stat fr5) st5 go) λ r s6 h9=>?_;obtain ⟨u,hr,h6⟩:=h9;subst hr;refine wpAny_bind (cj h6 λ _ s7 ⟨x,H7,I7,r7,y7,st7,fr7⟩=>?_);have I7':=I7.pinned (stat fr7) (T.obj _ _ st7);refine wpAny_bind (sf (hg _ _ _ fp _ s7 σ5 H7 x u _ I7' r7 (step x H7 y7)) λ _ s8 ⟨σ8,H8,I8,q8⟩=>?_);refine wpAny_bind (sf (ht _ _ _ fp _ s8 σ8 H8 _ I8 q8) λ ok s9 ⟨H9,I9,q9⟩=>?_);have again:∀ {s10:Shared} {H10:Hp},Inv (bZ X scope N (s2.heap.push { cls:=.type "list",data:=.seq ([]:List Value).toArray }).objs.size { s2 with heap:=s2.heap.push { cls:=.type "list",data:=.seq ([]:List Value).toArray } } (upd H2 s2.heap.objs.size (.lst [])) fp) ([]++kP fp s7.heap) σ8 H10 s10->(∃ m',m' < n/\W (i+1) m' σ8 H10) ->
     ∃ m,m < n/\∃ i σ' H',Inv (bZ X scope N (s2.heap.push { cls:=.type "list",data:=.seq ([]:List Value).toArray }).objs.size { s2 with heap:=s2.heap.push { cls:=.type "list",data:=.seq ([]:List Value).toArray } } (upd H2 s2.heap.objs.size (.lst [])) fp) [] σ' H' s10/\tn i s10.heap/\(∀ b∈fp,H' b=none)/\W i m σ' H':=λ {s10 H10} I10 h9=>by
    obtain ⟨m',hm,w10⟩:=h9;refine ⟨m',hm,i+1,σ8,H10,I10.gJ,T.keep _ _ _ st7 λ b hb o e=>(I10.pin (b,o) (mem_append_right _ (mem_append_right _ (cP hb e)))).1,λ b hb=>?_,w10⟩;obtain ⟨o,e,d⟩:=T.obj _ _ st7 b hb;exact (I10.pin (b,o) (mem_append_right _ (mem_append_right _ (cP hb e)))).2.1
   cases ok with
   | false=>
    rw [if_neg Bool.false_ne_true] at q9;exact wpAny_pure ⟨rfl,again I9 q9⟩
   | true=>
    rw [if_pos rfl] at q9;refine wpAny_bind (wpAny_bind (sf (he _ _ _ fp _ s9 σ8 H9 _ I9 q9) λ y s10 ⟨v10,H10,I10,r10,ys,hD,hz,w10⟩=>?_));refine wpAny_bind (sf (mW _ s10 σ8 H10 (.ref s2.heap.objs.size) [v10] _ [y] (λ _ H'=>H'=upd H10 s2.heap.objs.size (.lst (ys++[v10]))) I10 rfl (.cons r10 .nil) ⟨_,ys,v10,rfl,rfl,hD,hz,rfl⟩) λ _ s11 ⟨_,H11,I11,_,e11⟩=>?_);subst e11;exact wpAny_pure (wpAny_pure ⟨rfl,again I11 w10⟩)
 exact codeAny_compStart_list (loop _ rfl) (T.self _ 0 _ _ _ st4 (loop _ rfl))
theorem JZ {ok:Cx->Prop}{X:Cx}{tg iter elt:Expr}{ifs:List Expr}{scope:Scope}{pos:Pos}{N:List Str}{cap:List (Option Nat)}{wi:TI}{g:TG}{tc:TT}{te:TE}(S:CpScope X scope N cap)(hok:∀ C s₀ H₀ ex,(∀ a o u,X.H₀ a=some (.frz o u)->H₀ a=some (.frz o u))->ok (bZ X scope N C s₀ H₀ ex))(hi:N4 ok X tg iter wi)
  (hg:∀ C s₀ H₀ ex,PG (bZ X scope N C s₀ H₀ ex) tg g) (ht:∀ C s₀ H₀ ex,Ft (bZ X scope N C s₀ H₀ ex) ifs tc) (he:∀ C s₀ H₀ ex,PE (bZ X scope N C s₀ H₀ ex) elt te)
  (hs:∀ x,foldedSetIterable iter X.env x=pure x:=by intro _;rfl):PE X (.ListComp elt [⟨tg,iter,ifs,0⟩] scope pos) (Nd cap wi g tc te):=by
 intro pins s σ H Q I h;rw [eval_ListComp];exact x_ (use:=none) (Q':=EP X pins σ Q) S hok hi hg ht he hs pins s σ H Q I h λ s6 C D H5 m hn fk inv q v=>⟨m,hn,λ h' sb=>⟨.ref D,H5,inv h' sb,rfl,q⟩⟩
theorem L7 {X:Cx}{tg iter elt:Expr}{ifs:List Expr}{scope:Scope}{pos:Pos}{N:List Str}{cap:List (Option Nat)}{wi:TI}{g:TG}{tc:TT}{te:TE}(hc:X.calm=true)(S:CpScope X scope N cap)(hi:PI X tg iter wi)
  (hg:∀ C s₀ H₀ ex,PG (bZ X scope N C s₀ H₀ ex) tg g) (ht:∀ C s₀ H₀ ex,Ft (bZ X scope N C s₀ H₀ ex) ifs tc) (he:∀ C s₀ H₀ ex,PE (bZ X scope N C s₀ H₀ ex) elt te)
  (hs:∀ x,foldedSetIterable iter X.env x=pure x:=by intro _;rfl):PE X (.ListComp elt [⟨tg,iter,ifs,0⟩] scope pos) (Nd cap wi g tc te):=
 JZ S (λ _ _ _ _ _=>hc) hi.g hg ht he hs
section
variable {X:Cx}
theorem t8 {bs:List Bool}:∀ {us:List Value},Vals (bs.map V.bl) us->LSm.BoolsAre us bs:=by
 induction bs with
 | nil=>intro us r;cases r;exact .nil
 | cons b bs ih=>
  intro us r
  cases r with
  | cons h t=>
   have e:_=Value.bool b:=h;subst e;exact .cons b (ih t)
theorem AX (hc:X.calm=true):bB X (.builtin "all") (λ xs H Q=>∃ (p:Addr) (bs:List Bool),xs=[.ref p]/\f_ X.K H p (bs.map V.bl)/\Q (.bl (bs.all id)) H):=by
 intro pins s σ H xs us Q I r h;obtain ⟨p,bs,rfl,hq,q⟩:=h;obtain ⟨u,rfl,rx⟩:=vals1 r
 cases rx
 obtain ⟨its,rv,pl,hz⟩:=I.list hq;have hb:=t8 rv;have hl:=pl.isList;have hlt:p < s.heap.objs.size:=by obtain ⟨_,e,_⟩:=hl;exact lt_size e
 refine call_all_walk (wpAny_pyIter_list hl ?_);refine ⟨s.heap.objs.size,[s.heap.objs.size,p],[s.heap.objs.size],its.toArray.size,_,_,λ i=>(bs[i]?).getD true,rfl,Walks.list (A:=X.A.in1) (I.ok.hd hc) _ p (ne_of_lt hlt) its.toArray,
  ⟨⟨_,get?_push_size _ rfl,rfl,rfl⟩,hl.push _⟩,λ i v s' Q' E' hP hQ=>?_,λ h' tk hk=>?_⟩
 ·obtain ⟨b,e,rfl⟩:=hb.get i v (by simpa using hP);simp only [e,getD_some] at hQ;exact wpAny_truthy_bool hQ
 ·have e:((List.range its.toArray.size).all λ i=>(bs[i]?).getD true)=bs.all id:=by
   rw [size_toArray,hb.length];exact LSm.range_all bs
  rw [e];exact ⟨.bl _,H,I.kept (LSm.kept_iter hk),rfl,q⟩
theorem Be (hc:X.calm=true):bB X (.builtin "any") (λ xs H Q=>∃ (p:Addr) (bs:List Bool),xs=[.ref p]/\f_ X.K H p (bs.map V.bl)/\Q (.bl (bs.any id)) H):=by
 intro pins s σ H xs us Q I r h;obtain ⟨p,bs,rfl,hq,q⟩:=h;obtain ⟨u,rfl,rx⟩:=vals1 r
 cases rx
 obtain ⟨its,rv,pl,hz⟩:=I.list hq;have hb:=t8 rv;have hl:=pl.isList;have hlt:p < s.heap.objs.size:=by obtain ⟨_,e,_⟩:=hl;exact lt_size e
 refine call_any_walk (wpAny_pyIter_list hl ?_);refine ⟨s.heap.objs.size,[s.heap.objs.size,p],[s.heap.objs.size],its.toArray.size,_,_,λ i=>(bs[i]?).getD false,rfl,Walks.list (A:=X.A.in1) (I.ok.hd hc) _ p (ne_of_lt hlt) its.toArray,
  ⟨⟨_,get?_push_size _ rfl,rfl,rfl⟩,hl.push _⟩,λ i v s' Q' E' hP hQ=>?_,λ h' tk hk=>?_⟩
 ·obtain ⟨b,e,rfl⟩:=hb.get i v (by simpa using hP);simp only [e,getD_some] at hQ;exact wpAny_truthy_bool hQ
 ·have e:((List.range its.toArray.size).any λ i=>(bs[i]?).getD false)=bs.any id:=by
   rw [size_toArray,hb.length];exact LSm.range_any bs
  rw [e];exact ⟨.bl _,H,I.kept (LSm.kept_iter hk),rfl,q⟩
theorem KN:e_ X (compareOp .Is) (λ x y H Q=>∃ a b,x=.bl a/\y=.bl b/\Q (.bl (a == b)) H):=by
 intro pins s σ H x y v u Q I rx ry h;obtain ⟨a,b,rfl,rfl,q⟩:=h
 cases rx;cases ry
 exact is_bool ⟨.bl _,H,I,rfl,q⟩
theorem rY:bB X (.type "range") (λ xs H Q=>∃ i j,xs=[.int i,.int j]/\∀ p,H p=none->Q (.ref p) (upd H p (.rng i j))):=by
 intro pins s σ H xs us Q I r h;obtain ⟨i,j,rfl,q⟩:=h;obtain ⟨u,w',rfl,⟨t,rfl⟩,⟨t',rfl⟩⟩:=vals2 r;refine call_range_2 ⟨.ref s.heap.objs.size,_,I.laid (o:=.rng i j) (λ b o e=>get?_push_of_some _ e) (Nat.le_refl _) ?_,rfl,q _ I.fresh⟩;exact ⟨t,t',s.toks,get?_push_size _ rfl⟩
noncomputable def bq (i j:Int):List Int:=(List.range (j - i).toNat).map λ k:Nat=>i+(k:Int)
theorem b9 (i j:Int):(bq i j).length=(j - i).toNat:=by unfold bq;rw [length_map,length_range]
theorem qt {i:Int}{n:Nat}{acc:Array Value}(h:ItemsOf (λ k v=>∃ t,v=Value.int (i+(k:Int) * 1) t) acc n):Vals (((List.range n).map λ k:Nat=>i+(k:Int)).map V.int) acc.toList:=by
 obtain ⟨hs,hv⟩:=h;have gen:∀ (l:List Value) (b:Nat),(∀ j v,l[j]?=some v->∃ t,v=Value.int (i+((b+j:Nat):Int)) t)->Vals (((List.range' b l.length).map λ k:Nat=>i+(k:Int)).map V.int) l:=by
  intro l
  induction l with
  | nil=>intro b _;exact .nil
  | cons v l ih=>
   intro b hb;rw [length_cons,range'_succ,map_cons,map_cons];refine .cons ?_ ?_
   ·obtain ⟨t,e⟩:=hb 0 v rfl;exact ⟨t,by rw [e];simp⟩
   ·refine ih (b+1) λ j w hw=>?_;obtain ⟨t,e⟩:=hb (j+1) w hw;exact ⟨t,by rw [e,show b+(j+1)=b+1+j by omega]⟩
 have:=gen acc.toList 0 λ j v hj=>by
  obtain ⟨t,e⟩:=hv j v (by simpa using hj);exact ⟨t,by rw [e,zero_add,Int.mul_one]⟩
 rw [length_toList,hs,<- range_eq_range'] at this;exact this
theorem DR {i j:Int}:Builtin.Range.rangeSize i j 1=(((j - i).toNat:Nat):Int):=by rw [rangeSize_one];split <;> omega
theorem qz (hc:X.calm=true):bB X (.type "list") (λ xs H Q=>∃ p i j,xs=[.ref p]/\H p=some (.rng i j)/\(-(2 ^ 62)<=i/\i < 2 ^ 62/\-(2 ^ 62)<=j/\j < 2 ^ 62)/\(j - i).toNat<=1000/\∀ l,H l=none->Q (.ref l) (upd H l (.lst ((bq i j).map V.int)))):=by
 intro pins s σ H xs us Q I r h;obtain ⟨p,i,j,rfl,hp,⟨b1,b2,b3,b4⟩,hn,q⟩:=h;obtain ⟨u,rfl,rx⟩:=vals1 r
 cases rx
 obtain ⟨t,u',v,e⟩:=I.hok p _ hp;refine call_list_range (n:=(j - i).toNat) (I.ok.hd hc) e (small_one b1 b2 b3 b4) DR (by omega) λ h' tk acc' c' hk hS hacc=>?_;refine ⟨.ref s.heap.objs.size,_,I.laid (o:=.lst ((bq i j).map V.int)) hk (Nat.le_refl _) ⟨?_,acc'.toList,c',qt hacc,by rw [hS]⟩,rfl,q _ I.fresh⟩;rw [length_map,b9,sizeLine_eq];omega
end
section
variable {X:Cx}
theorem vI {prog:Program}{w:World}{A:Around}{E:Value->Shared->Prop}{s:Shared}{Q:List Value->Shared->Prop}{r:Addr}{a b c:Int}{t u v:Tok}{n:Nat}(hh:A.handled=none)(hr:IsRange s.heap r a b c t u v)(hsmall:Builtin.Range.small a b c=true)
  (hn:Builtin.Range.rangeSize a b c=n) (hlen:n<=2 ^ 24)
  (hQ:∀ h' tk (acc':Array Value),(∀ b o,s.heap.get? b=some o->h'.get? b=some o)->ItemsOf (λ i v=>∃ t,v=.int (a+i * c) t) acc' n->Q acc'.toList { s with heap:=h',toks:=tk }) :
  wpAny (model prog w) A (collect (.ref r)) Q E s:=by
 unfold collect;refine wpAny_bind (wpAny_runValue (codeAny_builtin F.entry_proto_collect ?_));rw [Around.under_plainId F.plain_proto_collect _];show wpAny _ A.in1 (newList [] >>= λ l=>again (.builtin "list.__iadd__" ⟨[l,.ref r],[]⟩)) _ _ s;refine wpAny_bind (wpAny_newObj_type ?_);refine wpAny_pure ⟨plainId_quiet F.plain_list_iadd _,codeAny_builtin F.entry_list_iadd ?_⟩;rw [Around.under_plainId F.plain_list_iadd _];show wpAny _ A.in1 (Builtin.List.listExtendWith (.ref s.heap.objs.size) (.ref r) (.ref s.heap.objs.size)) _ _ _;have hS:(s.heap.push { cls:=.type "list",data:=.seq ([]:List Value).toArray }).get? s.heap.objs.size=some { cls:=.type "list",data:=.seq #[] 0 }:=get?_push_size _ rfl;have fin':∀ (h':Heap) (tk:Nat) (acc':Array Value) (c':Nat),(∀ b o,b≠s.heap.objs.size->(s.heap.push { cls:=.type "list",data:=.seq ([]:List Value).toArray }).get? b=some o->h'.get? b=some o) ->
   h'.get? s.heap.objs.size=some { cls:=.type "list",dict:=none,data:=.seq acc' c',slots:=#[] }->ItemsOf (λ i v=>∃ t,v=.int (a+i * c) t) acc' n ->
   wpAny (model prog w) A (match Value.ref s.heap.objs.size with
   | Value.ref a=>do
    match (<- load a).data with
     | Data.seq xs _=>pure xs.toList
     | _=>unsupported "internal:collect"
   | _=>unsupported "internal:collect") Q E { s with heap:=h',toks:=tk }:=by
  intro h' tk acc' c' hk hS' hacc;show wpAny _ A (load s.heap.objs.size >>= _) _ _ _;refine wpAny_bind (wpAny_load hS' ?_);refine wpAny_pure ?_;exact hQ h' tk acc' (λ b o e=>hk b o (ne_of_lt (lt_size e)) (get?_push_of_some _ e)) hacc
 refine wpAny_mono (wpAny_extend_range (A:=A) (R:=λ rr s'=>rr=.ok (.ret (.ref s.heap.objs.size))/\∃ h' tk acc' c',s'={ s with heap:=h',toks:=tk }/\(∀ b o,b≠s.heap.objs.size->(s.heap.push { cls:=.type "list",data:=.seq ([]:List Value).toArray }).get? b=some o->h'.get? b=some o) /\
   h'.get? s.heap.objs.size=some { cls:=.type "list",dict:=none,data:=.seq acc' c',slots:=#[] }/\ItemsOf (λ i v=>∃ t,v=.int (a+i * c) t) acc' n)
  (s:={ s with heap:=s.heap.push { cls:=.type "list",data:=.seq ([]:List Value).toArray } }) hh (get?_push_of_some _ hr) hsmall hn hlen s.heap.objs.size (.ref s.heap.objs.size) 0 hS
  (λ h' tk acc' c' hk hS' hacc=>⟨rfl,h',tk,acc',c',rfl,hk,hS',hacc⟩)) (λ fin s' h=>?_) (λ e s' h=>?_)
 ·cases fin with
  | done f=>
   obtain ⟨e,h',tk,acc',c',rfl,hk,hS',hacc⟩:=h
   cases e
   exact fin' h' tk acc' c' hk hS' hacc
  | again c'=>exact ⟨h.1,codeAny_mono h.2 λ r s'' hr=>by
    obtain ⟨rfl,h',tk,acc',c',rfl,hk,hS',hacc⟩:=hr;exact fin' h' tk acc' c' hk hS' hacc⟩
 ·exact absurd h.1 (by simp)
theorem ko (l:Addr){a b:Int}{t u v:Tok}{n:Nat}(hsmall:Builtin.Range.small a b 1=true)
  (hn:Builtin.Range.rangeSize a b 1=n) (hlen:n<=1000) :
  Meets (Builtin.«tuple.__new__» ⟨[.type "tuple",.ref l],[]⟩)
   (λ A R s=>A.handled=none/\IsRange s.heap l a b 1 t u v/\∀ (h':Heap) (tk:Nat) (acc':Array Value),(∀ b o',s.heap.get? b=some o'->h'.get? b=some o')->ItemsOf (λ i v=>∃ t,v=.int (a+i * 1) t) acc' n->R (.ok (.ret (.ref h'.objs.size))) { s with heap:=h'.push { cls:=.type "tuple",data:=.seq acc' },toks:=tk }):=
 .of_wp λ prog w A R s h=>by
  obtain ⟨hp,g,d,tk,os⟩:=s;obtain ⟨hh,ht,h⟩:=h;have hsub:=sub_tuple_self;have hinit:=init_tuple_lookup;have hmh:=madeHere_tuple;have hT:Shared.TypeIs ⟨hp,g,d,tk,os⟩ (.ref l) "range" := ⟨_,ht,rfl⟩;have hh':A.in1.handled=none:=hh
  wp_walk using AutoSeq1.wpAny_loadPart' ht,wpAny_typeOf hT,vI (A:=A.in1) hh' ht hsmall hn (by omega)
  intro h' tk' acc' hk hacc;show wpAny _ _ (Builtin.Tuple.tupleExact acc'.toList.toArray >>= λ v=>ret v) _ _ _;unfold Builtin.Tuple.tupleExact;have e:acc'.toList.toArray=acc':=by simp
  refine wpAny_bind (wpAny_newObj_type ?_ (by show acc'.toList.toArray.size<=sizeLine;rw [e,hacc.1,sizeLine_eq];omega));refine wpAny_pure ⟨_,rfl,?_⟩;rw [e];exact h h' tk' acc' hk hacc
theorem qh (hc:X.calm=true):bB X (.type "tuple") (λ xs H Q=>∃ p i j,xs=[.ref p]/\H p=some (.rng i j)/\(-(2 ^ 62)<=i/\i < 2 ^ 62/\-(2 ^ 62)<=j/\j < 2 ^ 62)/\(j - i).toNat<=1000/\∀ l,H l=none->Q (.ref l) (upd H l (.tup ((bq i j).map V.int)))):=by
 intro pins s σ H xs us Q I r h;obtain ⟨p,i,j,rfl,hp,⟨b1,b2,b3,b4⟩,hn,q⟩:=h;obtain ⟨u,rfl,rx⟩:=vals1 r
 cases rx
 obtain ⟨t,u',v,e⟩:=I.hok p _ hp;refine callType_new F.called_tuple (by decide) (F.typeCall_tuple_1 _) (F.newCall_tuple_1 _) (λ obj=>F.args_object_init_2 obj _) F.entry_tuple_new
  (ko (n:=(j - i).toNat) p (small_one b1 b2 b3 b4) DR hn) ⟨I.ok.hd hc,e,λ h' tk acc' hk hacc=>⟨⟨_,get?_push_size _ rfl,rfl⟩,?_⟩⟩
 have I1:Inv X pins σ H { s with heap:=h',toks:=tk }:=I.kept hk;refine ⟨.ref h'.objs.size,_,I1.laid (t':=tk) (o:=.tup ((bq i j).map V.int)) (λ b o e=>get?_push_of_some _ e) (Nat.le_refl _) ⟨?_,acc'.toList,qt hacc,?_⟩,rfl,q _ (I1.hok.fresh (Nat.le_refl _))⟩
 ·rw [length_map,b9,sizeLine_eq];omega
 ·have e:acc'.toList.toArray=acc':=by simp
  rw [e];exact fC.new _ _
noncomputable def O4 (K:PySem.W.Frag)(te:TE):TE:=λ σ H Q=>te σ H λ x H1=>∃ a xs,x=.ref a/\f_ K H1 a xs/\∀ p,H1 p=none->Q (.ref p) (upd H1 p (.lst xs.reverse))
theorem FE {e:Expr}{te:TE}{p2 pos up cp:Pos}{kk:Nat}(he:PE X e te):PE X (.Subscript e (.Slice none none (some (.UnaryOp .USub (.Constant (.int 1) kk cp) up)) p2) pos) (O4 X.K te):=by
 intro pins s σ H Q I h;refine Subscript_ (cj (he pins s σ H _ I h) λ v s1 ⟨x,H1,I1,r1,a,xs,ex,hq,q⟩=>?_);subst ex
 cases r1
 refine wpAny_Slice ?_;rw [evalPart_none];refine wpAny_pure ?_;refine wpAny_pure ?_;rw [evalPart_some];refine cj ((HP (a:=.Constant (.int 1) kk cp) Eo xg) pins s1 σ H1 (λ v H'=>v=.int (-1)/\H'=H1) I1 ⟨1,rfl,rfl,rfl⟩) λ vs s3 h9=>?_;obtain ⟨y,H3,I3,r3,ey,eH⟩:=h9;subst ey eH;obtain ⟨t,rfl⟩:=r3;have I4:Inv X pins σ H3 { s3 with heap:=s3.heap.push { cls:=.type "slice",data:=.fields #[.none,.none,.int (-1) t] } }:=I3.kept (t':=s3.toks) λ b ob q=>get?_push_of_some _ q;obtain ⟨its,rv,pl,hz⟩:=I4.list hq;show wpAny (model X.prog X.w) X.A (subscriptTail e (.Slice none none (some (.UnaryOp .USub (.Constant (.int 1) kk cp) up)) p2) (.ref a) (.ref s3.heap.objs.size)) (EP X pins σ Q) X.xe { s3 with heap:=s3.heap.push { cls:=.type "slice",data:=.fields #[.none,.none,.int (-1) t] } };refine tail_any (ops:=[.ref a,.ref s3.heap.objs.size]) pl.isList.typeIs slot_list_getitem.lookup ?_ (by with_unfolding_all rfl);have hlen:=rv.length;refine wpAny_getItem_list_slice pl.isList (Heap.IsSliceOf.new ..) .none .none (.int (-1) t) (by decide) ?_ (by rw [size_toArray] <;> omega);rw [PySem.W.krv_pick];refine ⟨.ref _,_,I4.EN (t':=s3.toks) (ys:=xs.reverse) (its:=its.reverse) rv.reverse (by rw [List.length_reverse];exact hz),rfl,q _ I4.fresh⟩
theorem uI {c:String}:bB X (.builtin "isinstance") (λ xs H Q=>∃ x t b,xs=[x,.ty c]/\TyOf X.K H x t/\PySem.W.kitOne X.K t (.type c)=some b/\Q (.bl b) H):=by
 intro pins s σ H xs us Q I r h;obtain ⟨x,t,b,rfl,ty,e,q⟩:=h;obtain ⟨u,w',rfl,rx,rc⟩:=vals2 r
 cases rc
 exact Bd I rx ty e λ tk=>⟨.bl b,H,I.tok tk,rfl,q⟩
noncomputable def KR (K:PySem.W.Frag):R2:=λ x y H Q=>∃ a b ys,x=.ref a/\y=.ref b/\fS K H a []/\fS K H b ys/\Q (.ref b) H
theorem BO:e_ X (binaryOp .Add) (KR X.K):=by
 intro pins s σ H x y v u Q I rx ry h;obtain ⟨a,b,ys,rfl,rfl,h1,h2,q⟩:=h
 cases rx
 cases ry
 obtain ⟨us,r1,p1,_⟩:=I.tuple h1;obtain ⟨ws,r2,p2,_⟩:=I.tuple h2
 cases r1
 obtain ⟨⟨cls,dd,data,sl⟩,ho,hc,n,hd⟩:=id p1;obtain ⟨⟨cls2,dd2,data2,sl2⟩,ho2,hc2,n2,hd2⟩:=id p2;simp only at hc hd hc2 hd2;subst hc hd hc2 hd2;exact concat_meets ⟨_,ho,rfl⟩ ⟨_,ho2,rfl⟩ noFill_tuple_add seq_tuple_add PySem.F.slot_tuple_add PySem.F.entry_tuple_add (PySem.F.args_tuple_add_2 _ _)
   (tuple_addW0 a b _ ws.toArray n n2 dd dd2 sl sl2 (by simp)) ⟨ho,ho2,⟨.ref b,H,I,rfl,q⟩⟩
end
theorem bI:bootBuiltins "len" = some (.builtin "len"):=by decide +kernel
theorem Lv:bootBuiltins "abs" = some (.builtin "abs"):=by decide +kernel
theorem KY:bootBuiltins "all" = some (.builtin "all"):=by decide +kernel
theorem J3:bootBuiltins "any" = some (.builtin "any"):=by decide +kernel
theorem Fg:bootBuiltins "max" = some (.builtin "max"):=by decide +kernel
theorem Le:bootBuiltins "min" = some (.builtin "min"):=by decide +kernel
theorem m7:bootBuiltins "sorted" = some (.builtin "sorted"):=by decide +kernel
theorem kF:bootBuiltins "isinstance" = some (.builtin "isinstance"):=by decide +kernel
theorem wI:bootBuiltins "int" = some (.type "int"):=by decide +kernel
theorem lI:bootBuiltins "list" = some (.type "list"):=by decide +kernel
theorem gI:bootBuiltins "tuple" = some (.type "tuple"):=by decide +kernel
theorem u7:bootBuiltins "range" = some (.type "range"):=by decide +kernel
structure Blt (mg:Str->Option Value):Prop where
 len:mg "len" = none
 abs:mg "abs" = none
 all:mg "all" = none
 any:mg "any" = none
 max:mg "max" = none
 min:mg "min" = none
 sorted:mg "sorted" = none
 isinstance:mg "isinstance" = none
 int:mg "int" = none
 bool:mg "bool" = none
 str:mg "str" = none
 list:mg "list" = none
 tuple:mg "tuple" = none
 range:mg "range" = none
section
variable {X:Cx}
end
theorem Gj (i j:Int):(bq i j).Pairwise (·<=·):=by
 unfold bq;rw [pairwise_map];exact List.pairwise_lt_range.imp λ h=>by omega
theorem gU (i j:Int):(bq i j).Nodup:=by
 unfold bq;rw [List.Nodup,pairwise_map];exact List.pairwise_lt_range.imp λ h=>by omega
theorem fR {i j k:Int}:k∈bq i j ↔ i<=k/\k < j:=by
 unfold bq;rw [mem_map];constructor
 ·rintro ⟨a,ha,rfl⟩;have:=mem_range.mp ha;omega
 ·rintro ⟨h1,h2⟩;exact ⟨(k - i).toNat,mem_range.mpr (by omega),by omega⟩
theorem nK:∀ {l m:List Int},l.Nodup->(∀ x∈l,x∈m)->m.length<=l.length->l.Perm m
 | [],m,_,_,h=>by
  have:m=[]:=length_eq_zero_iff.mp (Nat.le_zero.mp h);rw [this]
 | a::l,m,nd,hs,hl=>by
  have ha:a∈m:=hs a mem_cons_self;have nd':=nodup_cons.mp nd;have pm:m.Perm (a::m.erase a):=List.perm_cons_erase ha;have ih:=nK (l:=l) (m:=m.erase a) nd'.2 (λ x hx=>by
   have hxa:x≠a:=λ e=>nd'.1 (e ▸ hx);exact (List.mem_erase_of_ne hxa).mpr (hs x (mem_cons_of_mem _ hx))) (by
   rw [List.length_erase_of_mem ha];simp only [length_cons] at hl;omega)
  exact (List.Perm.cons a ih).trans pm.symm
noncomputable def Kn (P:Program)(w:World)(K:PySem.W.Frag)(mg:Str->Option Value)(base:Heap)(k:Nat)(x:Str)(ps:List Str)(sp:Sp):Prop:=
 ∃ (f:Addr) (fd:FuncData),FnOk P w K mg base j9 k f fd ps sp/\mg x=some (.ref f)/\PySem.W.keepIn K (.ref f)=true/\Binds K fd ps []
theorem MQ {X:Cx}{k:Nat}{x:Str}{ps:List Str}{sp:Sp}{e:Expr}{es:List Expr}{t:TA}{p pos:Pos}(G:Kn X.prog X.w X.K X.mg X.base k x ps sp)(hr:Room k X.A)(ha:PA X (e::es) t)(hg:Gl X x:=by rfl)
  (hdb:(x == ("__debug__" : Str))=false:=by decide) (hs:starEach (e::es) X.env=(false,eval e X.env)::starEach es X.env:=by rfl) (hplain:(backTo pos (starEach es X.env)).any (·.1)=false:=by rfl) :
  PE X (.Call (.Name x p) (e::es) [] pos) (IA sp [] E0 t):=by
 obtain ⟨f,fd,F,hm,hk,hb⟩:=G;exact Gf F hr hg hm hk hb .nil MY ha hdb hs hplain
noncomputable def o7 (XN fs:List Str):List Str->List (Option Nat)->Prop
 | [],[]=>True
 | _::N,none::c=>o7 XN fs N c
 | x::N,some j::c=>XN[j]?=some x/\x∈fs/\o7 XN fs N c
 | _,_=>False
theorem o7.len {XN fs:List Str}:∀ {N:List Str} {c:List (Option Nat)},o7 XN fs N c->c.length=N.length
 | [],[],_=>rfl
 | _::N,none::c,h=>congrArg (·+1) (o7.len (N:=N) (c:=c) h)
 | _::N,some j::c,h=>congrArg (·+1) (o7.len (N:=N) (c:=c) h.2.2)
 | [],_::_,h=>h.elim
 | _::_,[],h=>h.elim
theorem o7.cp {XN fs:List Str}:∀ {N:List Str} {c:List (Option Nat)},o7 XN fs N c->∀ (i j:Nat) (x:Str),N[i]?=some x->c[i]?=some (some j)->XN[j]?=some x/\x∈fs
 | [],[],_,i,j,x,h1,_=>by simp at h1
 | y::N,none::c,h,i,j,x,h1,h2=>by
  cases i with
  | zero=>simp at h2
  | succ i=>exact o7.cp (N:=N) (c:=c) h i j x (by simpa using h1) (by simpa using h2)
 | y::N,some k::c,h,i,j,x,h1,h2=>by
  cases i with
  | zero=>
   simp at h1 h2;subst h1 h2;exact ⟨h.1,h.2.1⟩
  | succ i=>exact o7.cp (N:=N) (c:=c) h.2.2 i j x (by simpa using h1) (by simpa using h2)
 | [],_::_,h,_,_,_,_,_=>h.elim
 | _::_,[],h,_,_,_,_,_=>h.elim
theorem h_ {X:Cx}{scope:Scope}{N:List Str}{cap:List (Option Nat)}(fs:List Str)(kind:scope.kind=.function)(nocell:∀ y∈scope.names,y.2≠.cell)(nm:∀ y∈scope.names,y.2=.local->scope.names.lookup y.1=some .local)
  (nolf:∀ y∈scope.names,y.2=.free->scope.names.lookup y.1≠some .local) (hf:∀ y∈scope.names,y.2=.free->y.1∈fs) (hfs:∀ x∈fs,(x,NameKind.free)∈scope.names) (hk:∀ x∈fs,X.env.kindOf x=some .cell\/X.env.kindOf x=some .free) (cp:o7 X.N fs N cap):CpScope X scope N cap where
 kind:=kind
 nocell:=nocell
 nm:=nm
 fr:=λ y hy e=>hk _ (hf y hy e)
 rl:=λ y h=>by
  have go:∀ k,(k=NameKind.cell\/k=NameKind.free)->(relabel scope X.env).names.lookup y=some k->(y,NameKind.free)∈scope.names:=λ k hk e=>by
   obtain ⟨⟨n',k'⟩,hm1,hm2⟩:=mem_map.mp (p5 e);dsimp only at hm2;split at hm2
   ·rename_i hc
    cases hm2
    have:k'=.free:=by
     simp only [and_eq_true] at hc;simpa using hc.1.1
    subst this;exact hm1
   ·cases hm2
    rcases hk with rfl | rfl
    ·exact absurd rfl (nocell _ hm1)
    ·exact hm1
  rcases h with h | h
  ·exact go _ (.inl rfl) h
  ·exact go _ (.inr rfl) h
 len:=cp.len
 nolf:=λ x hx=>nolf (x,.free) hx rfl
 cp:=λ i j x h1 h2=>by
  obtain ⟨a,b⟩:=cp.cp i j x h1 h2;exact ⟨a,hfs x b⟩
inductive Kd where
 | non | bl | int | str | lst | tup
 deriving DecidableEq
noncomputable def Kd.ty:Kd->Value
 | .non=>.type "NoneType" | .bl=>.type "bool" | .int=>.type "int" | .str=>.type "str" | .lst=>.type "list" | .tup=>.type "tuple"
noncomputable def KL (H:Hp)(x:V):Kd->Prop
 | .non=>x=.non
 | .bl=>∃ b,x=.bl b
 | .int=>∃ i,x=.int i
 | .str=>∃ s,x=.str s
 | .lst=>∃ a xs,x=.ref a/\H a=some (.lst xs)
 | .tup=>∃ a xs,x=.ref a/\H a=some (.tup xs)
theorem KL.Og {K:PySem.W.Frag}{H:Hp}{x:V}{k:Kd}(h:KL H x k):TyOf K H x k.ty:=by
 cases k with
 | non=>cases h;exact .non
 | bl=>obtain ⟨b,rfl⟩:=h;exact .bl b
 | int=>obtain ⟨b,rfl⟩:=h;exact .int b
 | str=>obtain ⟨b,rfl⟩:=h;exact .str b
 | lst=>obtain ⟨a,xs,rfl,e⟩:=h;exact .lst e
 | tup=>obtain ⟨a,xs,rfl,e⟩:=h;exact .tup e
theorem FN {K:PySem.W.Frag}(k:Kd):PySem.W.kitOne K k.ty (.type "int")=some (decide (k=.int\/k=.bl)):=by cases k <;> rfl
theorem CY {K:PySem.W.Frag}(k:Kd):PySem.W.kitOne K k.ty (.type "bool")=some (decide (k=.bl)):=by cases k <;> rfl
theorem kit_tuple {K:PySem.W.Frag}(k:Kd):PySem.W.kitOne K k.ty (.type "tuple")=some (decide (k=.tup)):=by cases k <;> rfl
theorem Eh {K:PySem.W.Frag}(k:Kd):PySem.W.kitOne K k.ty (.type "list")=some (decide (k=.lst)):=by cases k <;> rfl
section
variable {prog:Program} {w:World} {A:Around} {E:Value->Shared->Prop} {s:Shared}
end
section
variable {X:Cx}
theorem Bk (hc:X.calm=true):bB X (.builtin "max") (λ xs H Q=>∃ (p:Addr) (ns:List Int),xs=[.ref p]/\f_ X.K H p (ns.map V.int)/\0 < ns.length/\∀ M,M∈ns->(∀ a∈ns,a<=M)->Q (.int M) H):=by
 intro pins s σ H xs us Q I r h;obtain ⟨p,ns,rfl,hq,hne,q⟩:=h;obtain ⟨u,rfl,rx⟩:=vals1 r
 cases rx
 obtain ⟨its,rv,pl,hz⟩:=I.list hq;have hi:=intsAre_of rv;have hl:=pl.isList;obtain ⟨ys,e⟩:=hi.allInts.items;have hns:ns=ys.toList.map (·.1):=by
  rw [<- hi.numsOf,<- nums_intItems,<- e]
 have hsz:0 < ys.size:=by
  have h3:=hne;rw [hns,length_map,length_toList] at h3;exact h3
 rw [e] at hl;refine max_intList (I.ok.hd hc) hl hsz λ v h' tk hv hk=>?_;obtain ⟨t,rfl⟩:=intItems_at hv;obtain ⟨h1,h2⟩:=argBest_gt (numAt ys) (ys.size - 1);refine ⟨.int _,H,I.kept hk,⟨t,rfl⟩,q _ ?_ λ a ha=>?_⟩
 ·rw [hns,numAt_eq];exact getD_mem (by rw [length_map,length_toList];omega)
 ·rw [hns] at ha;obtain ⟨j,hj,rfl⟩:=mem_getD ha;rw [length_map,length_toList] at hj;rw [<- numAt_eq];exact h2 j (by omega)
end
section
variable {prog:Program} {w:World} {A:Around} {E:Value->Shared->Prop} {s:Shared}
theorem wm (n:Nat):Builtin.Slice.sliceAdjust none none (-1) (n:Int)=((n:Int) - 1,-1):=by
 unfold Builtin.Slice.sliceAdjust;rfl
theorem xF (n:Nat):Builtin.Slice.slicePlaces ((n:Int) - 1) (-1) (-1)=n:=by
 unfold Builtin.Slice.slicePlaces;have h1:¬ ((-1:Int) > 0):=by decide
 simp only [h1,if_false];by_cases h:n=0
 ·subst h;simp
 ·rw [if_pos (by omega)];rw [show (- -1:Int)=1 by decide,Int.ediv_one];omega
theorem m9 {sl:Addr}{t:Tok}{n:Nat}{Q:Int×Int×Nat->Shared->Prop}(hs:s.heap.IsSliceOf sl .none .none (.int (-1) t))
  (h:Q ((n:Int) - 1,-1,n) s):wpAny (model prog w) A (Builtin.Slice.sliceApplied (.ref sl) (pure (n:Int))) Q E s:=by
 obtain ⟨os,hos,hcs,hds⟩:=id hs;unfold Builtin.Slice.sliceApplied Builtin.Slice.sliceFields;refine wpAny_bind (wpAny_bind (wpAny_field hos hds (x:=.none) rfl (wpAny_bind (wpAny_field hos hds (x:=.none) rfl (wpAny_bind (wpAny_field hos hds (x:=.int (-1) t) rfl (wpAny_pure ?_)))))));refine wpAny_bind (slicePart_int ?_);show wpAny _ _ (if ((-1:Int) == 0)=true then _ else _) _ _ s;rw [if_neg (by decide)];refine wpAny_bind (slicePart_none (wpAny_bind (slicePart_none (wpAny_bind (wpAny_pure ?_)))));show wpAny _ _ (match Builtin.Slice.sliceAdjust none none (-1) (n:Int) with | (lo,hi)=>pure (lo,(-1:Int),Builtin.Slice.slicePlaces lo hi (-1))) _ _ s;rw [wm n];show wpAny _ _ (pure ((n:Int) - 1,(-1:Int),Builtin.Slice.slicePlaces ((n:Int) - 1) (-1) (-1))) _ _ s;rw [xF];exact wpAny_pure h
theorem BZ (xs:Array Value):((List.range xs.size).filterMap λ (m:Nat)=>xs[((xs.size:Int) - 1+(m:Int) * (-1)).toNat]?).toArray=xs.toList.reverse.toArray:=by
 have e:(λ (m:Nat)=>xs[((xs.size:Int) - 1+(m:Int) * (-1)).toNat]?)=(λ x=>xs[x]?) ∘ λ k=>xs.size - 1 - k:=by
  funext m
  have:((xs.size:Int) - 1+(m:Int) * (-1)).toNat=xs.size - 1 - m:=by omega
  show xs[((xs.size:Int) - 1+(m:Int) * (-1)).toNat]?=xs[xs.size - 1 - m]?;rw [this]
 rw [e,<- filterMap_map,PySem.W.krv_range,List.filterMap_reverse,PySem.W.krv_all]
theorem lX {t sl:Addr}{items:Array Value}{tk:Tok}{Q:Value->Shared->Prop}(ht:IsTup s.heap t items)(hs:s.heap.IsSliceOf sl .none .none (.int (-1) tk))
  (h:Q (.ref s.heap.objs.size) { s with heap:=s.heap.push { cls:=.type "tuple",data:=.seq items.toList.reverse.toArray } })
  (hsz:items.size<=sizeLine):wpAny (model prog w) A (getItem (.ref t) (.ref sl)) Q E s:=by
 have htake:sizeOk (.seq items.toList.reverse.toArray):=by
  show items.toList.reverse.toArray.size<=sizeLine;rw [size_toArray,List.length_reverse,length_toList];exact hsz
 obtain ⟨os,hos,hcs,hds⟩:=id hs;have hTs:s.TypeIs (.ref sl) "slice" := ⟨os,hos,hcs⟩;unfold getItem
 try with_reducible refine wpAny_holding ?_
 first | refine wpAny_bind (wpAny_pure ?_) | skip
 refine wpAny_bind (wpAny_sequenceKey ht.typeIs (by decide) ?_);refine wpAny_bind (wpAny_callSpecial?_slot (name:=Str.ofString "__getitem__") ht.typeIs PyProof.Rows.slot_tuple_getitem
  (wpAny_call_entry PyProof.Rows.slot_tuple_getitem ht.typeIs entry_tuple_getitem ?_ (args_tuple_getitem _ _)))
 show wpAny _ _ (Builtin.Tuple.tupleItemsOf (.ref t) >>= _) _ _ s;refine wpAny_bind (tupleItemsOf_ ht ?_);refine wpAny_bind (wpAny_typeOf hTs ?_);rw [if_pos (by decide)];refine wpAny_bind (m9 hs ?_);have hno:¬ ((((items.size:Int) - 1) == 0 && (-1:Int) == 1 && items.size == items.size)=true):=by
  intro q;rw [and_eq_true,and_eq_true] at q;exact absurd q.1.2 (by decide)
 show wpAny _ _ (if (((items.size:Int) - 1) == 0 && (-1:Int) == 1 && items.size == items.size)=true then _ else _) _ _ s;rw [if_neg hno,BZ]
 first
  | exact wpAny_bind (m:=Builtin.Tuple.tupleExact _) (wpAny_newObj_type (wpAny_pure ⟨_,rfl,wpAny_pure h⟩) htake)
  | exact wpAny_bind (m:=Builtin.Tuple.tupleExact _) (wpAny_newObj_type (wpAny_bind (wpAny_pure (wpAny_pure ⟨_,rfl,wpAny_pure h⟩))) htake)
  | exact wpAny_bind (wpAny_bind (m:=Builtin.Tuple.tupleExact _) (wpAny_newObj_type (wpAny_pure (wpAny_pure ⟨_,rfl,wpAny_pure h⟩)) htake))
  | exact wpAny_bind (wpAny_bind (m:=Builtin.Tuple.tupleExact _) (wpAny_newObj_type (wpAny_pure ⟨_,rfl,wpAny_pure h⟩) htake))
end
section
variable {X:Cx}
noncomputable def M7 (K:PySem.W.Frag)(te:TE):TE:=λ σ H Q=>te σ H λ x H1=>∃ a xs,x=.ref a/\fS K H1 a xs/\∀ p,H1 p=none->Q (.ref p) (upd H1 p (.tup xs.reverse))
theorem zw {e:Expr}{te:TE}{p2 pos up cp:Pos}{kk:Nat}(he:PE X e te):PE X (.Subscript e (.Slice none none (some (.UnaryOp .USub (.Constant (.int 1) kk cp) up)) p2) pos) (M7 X.K te):=by
 intro pins s σ H Q I h;refine Subscript_ (cj (he pins s σ H _ I h) λ v s1 ⟨x,H1,I1,r1,a,xs,ex,hq,q⟩=>?_);subst ex
 cases r1
 refine wpAny_Slice ?_;rw [evalPart_none];refine wpAny_pure ?_;refine wpAny_pure ?_;rw [evalPart_some];refine cj ((HP (a:=.Constant (.int 1) kk cp) Eo xg) pins s1 σ H1 (λ v H'=>v=.int (-1)/\H'=H1) I1 ⟨1,rfl,rfl,rfl⟩) λ vs s3 h9=>?_;obtain ⟨y,H3,I3,r3,ey,eH⟩:=h9;subst ey eH;obtain ⟨t,rfl⟩:=r3;have I4:Inv X pins σ H3 { s3 with heap:=s3.heap.push { cls:=.type "slice",data:=.fields #[.none,.none,.int (-1) t] } }:=I3.kept (t':=s3.toks) λ b ob q=>get?_push_of_some _ q;obtain ⟨its,rv,pl,hz⟩:=I4.tuple hq;show wpAny (model X.prog X.w) X.A (subscriptTail e (.Slice none none (some (.UnaryOp .USub (.Constant (.int 1) kk cp) up)) p2) (.ref a) (.ref s3.heap.objs.size)) (EP X pins σ Q) X.xe { s3 with heap:=s3.heap.push { cls:=.type "slice",data:=.fields #[.none,.none,.int (-1) t] } };refine tail_any (ops:=[.ref a,.ref s3.heap.objs.size]) pl.typeIs PyProof.Rows.slot_tuple_getitem.lookup ?_ (by with_unfolding_all rfl);have hlen:=rv.length;refine lX pl (Heap.IsSliceOf.new ..) ?_ (by rw [size_toArray] <;> omega);refine ⟨.ref _,_,I4.laid (t':=s3.toks) (o:=.tup xs.reverse) (λ b o e=>get?_push_of_some _ e) (Nat.le_refl _) ⟨by rw [List.length_reverse];exact hz,its.reverse,rv.reverse,?_⟩,rfl,q _ I4.fresh⟩;exact fC.new _ _
noncomputable def NC (K:PySem.W.Frag):V->V->Hp->VK->Prop:=λ o i H Q=>∃ p xs k v,o=.ref p/\i=.int k/\f_ K H p xs/\0<=k/\xs[k.toNat]?=some v/\Q v H
theorem E7:Ll X (NC X.K):=by
 intro pins s σ H o i ov iv Q I ro ri h;obtain ⟨p,xs,k,v,rfl,rfl,hq,h0,hv,q⟩:=h
 cases ro
 obtain ⟨t,rfl⟩:=ri;obtain ⟨its,r,pl,hz⟩:=I.list hq;obtain ⟨u,eu,ru⟩:=r.get hv;have hl:=r.length;have hn:=kN;have hk:k.toNat < xs.length:=(List.getElem?_eq_some_iff.mp hv).1;exact wpAny_getItem_list pl.isList h0 (by omega) (by simpa using eu) ⟨v,H,I,ru,q⟩
end
theorem tP (elt t1 i1 t2 i2:Expr)(f1 f2:List Expr)(scope:Scope)(pos:Pos)(it acc:Value)(env:Env) :
  compTurn (.ListComp elt [⟨t1,i1,f1,0⟩,⟨t2,i2,f2,0⟩] scope pos) 0 it acc env=(do
   standAt i1.pos
   match <- pyNext it with
   | none=>pure (.done .next)
   | some v=>
    letOwnedTupleGo t1 it v
    assign t1 env v
    let mut ok:=true
    for c in f1 do
     if ok then ok <- isTrue c env (eval c env)
    if ok then
     let x <- eval i2 env
     standAt i2.pos
     let x <- foldedSetIterable i2 env x
     let _ <- runOwn (.compStart (.ListComp elt [⟨t1,i1,f1,0⟩,⟨t2,i2,f2,0⟩] scope pos) 1 (<- holding [x] (pyIter x)) acc env) env
    again (.compLoop (.ListComp elt [⟨t1,i1,f1,0⟩,⟨t2,i2,f2,0⟩] scope pos) 0 it acc env)):=by rfl
theorem r_ (elt t1 i1 t2 i2:Expr)(f1 f2:List Expr)(scope:Scope)(pos:Pos)(it acc:Value)(env:Env) :
  compTurn (.ListComp elt [⟨t1,i1,f1,0⟩,⟨t2,i2,f2,0⟩] scope pos) 1 it acc env=(do
   standAt i2.pos
   match <- pyNext it with
   | none=>pure (.done .next)
   | some v=>
    letOwnedTupleGo t2 it v
    assign t2 env v
    let mut ok:=true
    for c in f2 do
     if ok then ok <- isTrue c env (eval c env)
    if ok then
     (do let _ <- call (.builtin "list.append") [acc,<- eval elt env])
    again (.compLoop (.ListComp elt [⟨t1,i1,f1,0⟩,⟨t2,i2,f2,0⟩] scope pos) 1 it acc env)):=by rfl
section
variable {prog:Program} {w:World} {A:Around} {R:Result->Shared->Prop} {s:Shared}
theorem jE {elt t1 i1 t2 i2:Expr}{f1 f2:List Expr}{scope:Scope}{pos:Pos}{it acc:Value}{env:Env}
  (h0:codeAny (model prog w) A (.compLoop (.ListComp elt [⟨t1,i1,f1,0⟩,⟨t2,i2,f2,0⟩] scope pos) 1 it acc env) R s)
  (h:wpAny (model prog w) A (pyIter it) (λ it' s'=>codeAny (model prog w) A (.compLoop (.ListComp elt [⟨t1,i1,f1,0⟩,⟨t2,i2,f2,0⟩] scope pos) 1 it' acc env) R s')
   (notedBy (model prog w) A env λ x s'=>R (.error x) s') s) :
  codeAny (model prog w) A (.compStart (.ListComp elt [⟨t1,i1,f1,0⟩,⟨t2,i2,f2,0⟩] scope pos) 1 it acc env) R s:=by
 refine codeAny_of_tree ?_;show wpAny _ _ ((compStart (.ListComp elt [⟨t1,i1,f1,0⟩,⟨t2,i2,f2,0⟩] scope pos) 1 it acc env).onRaise (λ x=>do noteFrame x env;standAt theWindowsPlace)) _ _ s;refine wpAny_notedAt ?_;unfold compStart;show wpAny _ _ (ask >>= _) _ _ s;refine wpAny_bind (wpAny_askSetting (wpAny_ite ?_));split
 ·first
   | exact wpAny_bind (wpAny_pure (wpAny_pure (anI rfl h0)))
   | exact wpAny_pure (anI rfl h0)
 ·first
   | exact wpAny_bind (wpAny_rule (wpAny_bind (wpAny_standAt (wpAny_bind (wpAny_mono h (λ it' s' h'=>wpAny_pure (anI rfl h')) λ _ _ x=>x)))))
   | (refine wpAny_bind (wpAny_rule ?_);show wpAny _ _ (standAt i2.pos >>= _) _ _ s;exact wpAny_bind (wpAny_standAt (wpAny_bind (wpAny_mono h (λ it' s' h'=>wpAny_pure (anI rfl h')) λ _ _ x=>x))))
end
noncomputable def CS (g:TG)(tc:TT)(te:TE)(D:Addr)(Nn:L2.St->Hp->Prop)(σ:L2.St)(J:It)(H1:Hp):Prop:=
 ∃ V:Nat->Nat->L2.St->Hp->Prop,(∃ m,V 0 m σ H1)/\∀ i m σ' H',V i m σ' H' ->
  (J.stop i H'/\Nn σ' H')\/(J.go i H'/\∀ x H2,J.yld i H' x H2->g x σ' H2 λ σ3 H3=>tc σ3 H3 λ b H4=>
   if b=true then te σ3 H4 λ y H5=>∃ ys,H5 D=some (.lst ys)/\ys.length < sizeLine/\∃ m',m' < m/\V (i+1) m' σ3 (upd H5 D (.lst (ys++[y])))
   else ∃ m',m' < m/\V (i+1) m' σ3 H4)
theorem we {Z:Cx}{t1 i1 tg i2 elt:Expr}{f1 ifs:List Expr}{scope:Scope}{pos:Pos}{J:It}{fp:List Addr}{it D:Addr}{tn:Nat->Heap->Prop}{pins:List (Addr×Obj)}{σ:L2.St}{H:Hp}{s:Shared}{g:TG}{tc:TT}{te:TE}{Nn:L2.St->Hp->Prop}
  (hc:Z.calm=true) (hxe:Z.xe=λ _ _=>False) (T:Turn Z.prog Z.w Z.K tg J fp it tn) (I:Inv Z pins σ H s) (st:tn 0 s.heap) (hf:∀ b∈fp,jM Z pins H b) (hg:PG Z tg g) (ht:Ft Z ifs tc) (he:PE Z elt te) (goal:CS g tc te D Nn σ J H) :
  codeAny (model Z.prog Z.w) Z.A (.compLoop (.ListComp elt [⟨t1,i1,f1,0⟩,⟨tg,i2,ifs,0⟩] scope pos) 1 (.ref it) (.ref D) Z.env) (λ r s'=>r=.ok .next/\∃ σ' H',Inv Z pins σ' H' s'/\Nn σ' H') s:=by
 obtain ⟨V,⟨m0,v0⟩,turn⟩:=goal;have stat:∀ {H':Hp},(∀ b∈fp,H' b=none)->∀ b∈fp,jM Z pins H' b:=λ hn b hb=>⟨hn b hb,(hf b hb).2⟩;refine codeAny_loop rfl (λ n s'=>∃ i σ' H',Inv Z pins σ' H' s'/\tn i s'.heap/\(∀ b∈fp,H' b=none)/\V i n σ' H') (λ n s5 hI=>?_) m0 ⟨0,σ,H,I,st,λ b hb=>(hf b hb).1,v0⟩;obtain ⟨i,σ5,H5,I5,st5,fr5,w5⟩:=hI;show wpAny _ Z.A ((compTurn (.ListComp elt [⟨t1,i1,f1,0⟩,⟨tg,i2,ifs,0⟩] scope pos) 1 (.ref it) (.ref D) Z.env).onRaise (λ x=>do noteFrame x _;theTreesLotGoes x)) _ _ s5;refine wpAny_noted ?_;rw [r_];refine wpAny_bind (wpAny_standAt (wpAny_bind ?_))
 rcases turn i n σ5 H5 w5 with ⟨stop,q⟩ | ⟨go,step⟩
 ·refine cj (T.done Z rfl rfl rfl hc i pins s5 σ5 H5 _ I5 (stat fr5) st5 stop) λ r s6 h9=>?_;obtain ⟨hr,I6⟩:=h9;subst hr;exact wpAny_pure ⟨rfl,σ5,H5,I6,q⟩
 ·refine cj (T.item Z rfl rfl rfl hc i pins s5 σ5 H5 _ I5 (stat fr5) st5 go) λ r s6 h9=>?_;obtain ⟨u,hr,h6⟩:=h9;subst hr;refine wpAny_bind (cj h6 λ _ s7 ⟨x,H7,I7,r7,y7,st7,fr7⟩=>?_);have I7':=I7.pinned (stat fr7) (T.obj _ _ st7);have toF:∀ {α:Type} {t:Sem α} {Q Q':α->Shared->Prop} {E:Value->Shared->Prop} {s:Shared},wpAny (model Z.prog Z.w) Z.A t Q Z.xe s->(∀ a s,Q a s->Q' a s)->wpAny (model Z.prog Z.w) Z.A t Q' E s:=λ h hQ=>by
   rw [hxe] at h;exact sf h hQ
  refine wpAny_bind (toF (hg _ s7 σ5 H7 x u _ I7' r7 (step x H7 y7)) λ _ s8 ⟨σ8,H8,I8,q8⟩=>?_);refine wpAny_bind (toF (ht _ s8 σ8 H8 _ I8 q8) λ ok s9 ⟨H9,I9,q9⟩=>?_);have again:∀ {s10:Shared} {H10:Hp},Inv Z (pins++kP fp s7.heap) σ8 H10 s10->(∃ m',m' < n/\V (i+1) m' σ8 H10) ->
    ∃ m,m < n/\∃ i σ' H',Inv Z pins σ' H' s10/\tn i s10.heap/\(∀ b∈fp,H' b=none)/\V i m σ' H':=λ {s10 H10} I10 h9=>by
   obtain ⟨m',hm,w10⟩:=h9;refine ⟨m',hm,i+1,σ8,H10,I10.gJ,T.keep _ _ _ st7 λ b hb o e=>(I10.pin (b,o) (mem_append_right _ (mem_append_right _ (cP hb e)))).1,λ b hb=>?_,w10⟩;obtain ⟨o,e,d⟩:=T.obj _ _ st7 b hb;exact (I10.pin (b,o) (mem_append_right _ (mem_append_right _ (cP hb e)))).2.1
  cases ok with
  | false=>
   rw [if_neg Bool.false_ne_true] at q9;exact wpAny_pure ⟨rfl,again I9 q9⟩
  | true=>
   rw [if_pos rfl] at q9;refine wpAny_bind (wpAny_bind (toF (he _ s9 σ8 H9 _ I9 q9) λ y s10 ⟨v10,H10,I10,r10,ys,hD,hz,w10⟩=>?_));refine wpAny_bind (toF (mW _ s10 σ8 H10 (.ref D) [v10] _ [y] (λ _ H'=>H'=upd H10 D (.lst (ys++[v10]))) I10 rfl (.cons r10 .nil) ⟨_,ys,v10,rfl,rfl,hD,hz,rfl⟩) λ _ s11 ⟨_,H11,I11,_,e11⟩=>?_);subst e11;exact wpAny_pure (wpAny_pure ⟨rfl,again I11 w10⟩)
noncomputable def F_ (cap:List (Option Nat))(g:TG)(tc:TT)(wi2:TI)(g2:TG)(tc2:TT)(te:TE)(σ:L2.St)(Q:VK)(J:It)(H1:Hp):Prop:=∀ D,H1 D=none ->
 ∃ W:Nat->Nat->L2.St->Hp->Prop,(∃ m,W 0 m (cap.map (Hq σ)) (upd H1 D (.lst [])))/\∀ i m σ' H',W i m σ' H' ->
  (J.stop i H'/\Q (.ref D) H')\/(J.go i H'/\∀ x H2,J.yld i H' x H2->g x σ' H2 λ σ3 H3=>tc σ3 H3 λ b H4=>
   if b=true then wi2 σ3 H4 (CS g2 tc2 te D (λ σ5 H5=>∃ m',m' < m/\W (i+1) m' σ5 H5) σ3)
   else ∃ m',m' < m/\W (i+1) m' σ3 H4)
noncomputable def Oa (cap:List (Option Nat))(wi:TI)(g:TG)(tc:TT)(wi2:TI)(g2:TG)(tc2:TT)(te:TE):TE:=λ σ H Q=>wi σ H (F_ cap g tc wi2 g2 tc2 te σ Q)
theorem KO {X:Cx}{tg iter tg2 iter2 elt:Expr}{ifs ifs2:List Expr}{scope:Scope}{pos:Pos}{N:List Str}{cap:List (Option Nat)}{wi wi2:TI}{g g2:TG}{tc tc2:TT}{te:TE}(hc:X.calm=true)(S:CpScope X scope N cap)(hi:PI X tg iter wi)
  (hg:∀ C s₀ H₀ ex,PG (bZ X scope N C s₀ H₀ ex) tg g) (ht:∀ C s₀ H₀ ex,Ft (bZ X scope N C s₀ H₀ ex) ifs tc) (hi2:∀ C s₀ H₀ ex,PI (bZ X scope N C s₀ H₀ ex) tg2 iter2 wi2)
  (hg2:∀ C s₀ H₀ ex,PG (bZ X scope N C s₀ H₀ ex) tg2 g2) (ht2:∀ C s₀ H₀ ex,Ft (bZ X scope N C s₀ H₀ ex) ifs2 tc2) (he:∀ C s₀ H₀ ex,PE (bZ X scope N C s₀ H₀ ex) elt te)
  (hs:∀ x,foldedSetIterable iter X.env x=pure x:=by intro _;rfl) (hs2:∀ env x,foldedSetIterable iter2 env x=pure x:=by intro _ _;rfl):PE X (.ListComp elt [⟨tg,iter,ifs,0⟩,⟨tg2,iter2,ifs2,0⟩] scope pos) (Oa cap wi g tc wi2 g2 tc2 te):=by
 intro pins s σ H Q I h;have hfree:∀ y∈scope.names,y.2=.free->∃ c,X.env.cells.lookup y.1=some c:=λ y hy e=>I.ok.has _ (S.fr y hy e);rw [eval_ListComp];refine wpAny_comprehension_free (use:=none) rfl hs (pD hfree) S.kind S.nm (cj (hi pins s σ H _ I h) λ xv s1 h1=>cj h1 λ itv s2 h2=>?_);obtain ⟨it,fp,tn,J,H2,rfl,I2,T,st2,f2,h2⟩:=h2;refine wpAny_newObj_type (wpAny_newFunctionEnv S.nocell (by intro y hy;simp at hy) (λ h₁ hns₁ hsb₁=>?_) S.kind);obtain ⟨W,⟨m0,w0⟩,turn⟩:=h2 s2.heap.objs.size I2.fresh;dsimp only at hns₁ hsb₁ ⊢;have I3:Inv X pins σ (upd H2 s2.heap.objs.size (.lst [])) { s2 with heap:=s2.heap.push { cls:=.type "list",data:=.seq ([]:List Value).toArray } }:=I2.EN (t':=s2.toks) (its:=[]) .nil (zero_le _);have hfp:∀ b∈fp,∃ o,s2.heap.get? b=some o:=λ b hb=>by
  obtain ⟨o,e,_⟩:=T.obj 0 _ st2 b hb;exact ⟨o,e⟩
 have neD:∀ b∈fp,b≠s2.heap.objs.size:=λ b hb=>by
  obtain ⟨o,e⟩:=hfp b hb;exact ne_of_lt (lt_size e)
 have f3:∀ b∈fp,jM X pins (upd H2 s2.heap.objs.size (.lst [])) b:=λ b hb=>⟨by rw [aN (neD b hb)];exact (f2 b hb).1,(f2 b hb).2⟩;have hDC:s2.heap.objs.size≠(s2.heap.push { cls:=.type "list",data:=.seq ([]:List Value).toArray }).objs.size:=by rw [size_push];exact ne_of_lt (lt_succ_self _)
 have old:∀ b o,(s2.heap.push { cls:=.type "list",data:=.seq ([]:List Value).toArray }).get? b=some o->h₁.get? b=some o:=λ b o e=>hsb₁.extBut b o (ne_of_lt (lt_size e)) (get?_push_of_some _ e);have I4:=DZ (tk:=s2.toks+([]:List (Str×Value)).length) (fp:=fp) S I3 f3 (λ b hb=>by
  obtain ⟨o,e⟩:=hfp b hb;exact ⟨o,get?_push_of_some _ e⟩) hns₁ old
 have st4:tn 0 h₁:=T.keep _ _ _ st2 λ b hb o e=>old b o (get?_push_of_some _ e);have stat:∀ {H':Hp},(∀ b∈fp,H' b=none)->∀ b∈fp,jM (bZ X scope N (s2.heap.push { cls:=.type "list",data:=.seq ([]:List Value).toArray }).objs.size { s2 with heap:=s2.heap.push { cls:=.type "list",data:=.seq ([]:List Value).toArray } } (upd H2 s2.heap.objs.size (.lst [])) fp) [] H' b:=λ hn b hb=>by
  have ok:=I4.ok;refine ⟨hn b hb,(ok.exf b hb).1,ok.exfs b hb,.inl hb,λ x c e=>(ok.exf b hb).2 x c e,λ p hp=>nomatch hp⟩
 have loop:∀ s4:Shared,s4={ s2 with heap:=h₁,toks:=s2.toks+([]:List (Str×Value)).length } ->
   codeAny (model X.prog X.w) X.A (.compLoop (.ListComp elt [⟨tg,iter,ifs,0⟩,⟨tg2,iter2,ifs2,0⟩] scope pos) 0 (.ref it) (.ref s2.heap.objs.size) (compEnvC scope (ku X.env scope.names []) (s2.heap.push { cls:=.type "list",data:=.seq ([]:List Value).toArray }).objs.size X.env))
    (compPost (model X.prog X.w) X.A X.xe none (EP X pins σ Q) (.ref s2.heap.objs.size) (s2.heap.push { cls:=.type "list",data:=.seq ([]:List Value).toArray }).objs.size) s4:=by
  rintro s4 rfl;refine codeAny_loop rfl (λ n s'=>∃ i σ' H',Inv (bZ X scope N (s2.heap.push { cls:=.type "list",data:=.seq ([]:List Value).toArray }).objs.size { s2 with heap:=s2.heap.push { cls:=.type "list",data:=.seq ([]:List Value).toArray } } (upd H2 s2.heap.objs.size (.lst [])) fp) [] σ' H' s'/\tn i s'.heap/\(∀ b∈fp,H' b=none)/\W i n σ' H') (λ n s5 hI=>?_) m0 ⟨0,_,_,I4,st4,λ b hb=>(f3 b hb).1,w0⟩;obtain ⟨i,σ5,H5,I5,st5,fr5,w5⟩:=hI;show wpAny _ X.A ((compTurn (.ListComp elt [⟨tg,iter,ifs,0⟩,⟨tg2,iter2,ifs2,0⟩] scope pos) 0 (.ref it) (.ref s2.heap.objs.size) (compEnvC scope (ku X.env scope.names []) (s2.heap.push { cls:=.type "list",data:=.seq ([]:List Value).toArray }).objs.size X.env)).onRaise (λ x=>do noteFrame x _;theTreesLotGoes x)) _ _ s5;refine wpAny_noted ?_;rw [tP];refine wpAny_bind (wpAny_standAt (wpAny_bind ?_))
  rcases turn i n σ5 H5 w5 with ⟨stop,q⟩ | ⟨go,step⟩
  ·refine cj (T.done (bZ X scope N (s2.heap.push { cls:=.type "list",data:=.seq ([]:List Value).toArray }).objs.size { s2 with heap:=s2.heap.push { cls:=.type "list",data:=.seq ([]:List Value).toArray } } (upd H2 s2.heap.objs.size (.lst [])) fp) rfl rfl rfl hc i [] s5 σ5 H5 _ I5 (stat fr5) st5 stop) λ r s6 h9=>?_;obtain ⟨hr,I6⟩:=h9;subst hr;obtain ⟨m6,hn6,_⟩:=I6.loc;refine wpAny_pure ⟨m6,hn6,λ h' sb=>?_⟩;have u6:=I6.base;have nC:∀ b o,(s2.heap.push { cls:=.type "list",data:=.seq ([]:List Value).toArray }).get? b=some o->b≠(s2.heap.push { cls:=.type "list",data:=.seq ([]:List Value).toArray }).objs.size:=λ b o e=>ne_of_lt (lt_size e);refine ⟨.ref s2.heap.objs.size,H5,?_,rfl,q⟩;refine I3.E3 (ch:=fp) I6.os ⟨λ b o e n hb hx=>?_,λ b o e n hb hx=>?_,λ b o e n hx=>?_,λ b o e hx=>?_,u6.tups,u6.frzs,u6.tbls⟩ ?_ I6.bare ?_
   ·exact sb.extBut b o (nC b o e) (u6.keep b o e n hb hx)
   ·obtain ⟨sl,z⟩:=u6.slot b o e n hb hx;exact ⟨sl,sb.extBut b _ (nC b o e) z⟩
   ·exact u6.free b o e n hx
   ·obtain ⟨o',z⟩:=u6.there b o e hx;exact ⟨o',sb.extBut b _ (nC b o e) z⟩
   ·intro b o e;have hb:∀ c v,H5 c=some v->c≠(s2.heap.push { cls:=.type "list",data:=.seq ([]:List Value).toArray }).objs.size:=λ c v e z=>by
     rw [z] at e;have:=I6.free;rw [show H5 (s2.heap.push { cls:=.type "list",data:=.seq ([]:List Value).toArray }).objs.size=none from this] at e
     cases e
    refine (I6.hok b o e).stay (λ c v hc q=>sb.extBut c v ?_ q) (λ _ q=>q) λ _ _ q=>q
    rcases hc with z | z
    ·rw [z];exact hb b o e
    ·exact hb c _ z
   ·intro b hb;obtain ⟨_,z1,_,z3,z4,z5⟩:=f3 b hb;exact ⟨z3,z1,z4,z5⟩
  ·refine cj (T.item (bZ X scope N (s2.heap.push { cls:=.type "list",data:=.seq ([]:List Value).toArray }).objs.size { s2 with heap:=s2.heap.push { cls:=.type "list",data:=.seq ([]:List Value).toArray } } (upd H2 s2.heap.objs.size (.lst [])) fp) rfl rfl rfl hc i [] s5 σ5 H5 _ I5 (stat fr5) st5 go) λ r s6 h9=>?_;obtain ⟨u,hr,h6⟩:=h9;subst hr;refine wpAny_bind (cj h6 λ _ s7 ⟨x,H7,I7,r7,y7,st7,fr7⟩=>?_);have I7':=I7.pinned (stat fr7) (T.obj _ _ st7);refine wpAny_bind (sf (hg _ _ _ fp _ s7 σ5 H7 x u _ I7' r7 (step x H7 y7)) λ _ s8 ⟨σ8,H8,I8,q8⟩=>?_);refine wpAny_bind (sf (ht _ _ _ fp _ s8 σ8 H8 _ I8 q8) λ ok s9 ⟨H9,I9,q9⟩=>?_);have again:∀ {s10:Shared} {H10:Hp} {σ10:L2.St},Inv (bZ X scope N (s2.heap.push { cls:=.type "list",data:=.seq ([]:List Value).toArray }).objs.size { s2 with heap:=s2.heap.push { cls:=.type "list",data:=.seq ([]:List Value).toArray } } (upd H2 s2.heap.objs.size (.lst [])) fp) ([]++kP fp s7.heap) σ10 H10 s10->(∃ m',m' < n/\W (i+1) m' σ10 H10) ->
     ∃ m,m < n/\∃ i σ' H',Inv (bZ X scope N (s2.heap.push { cls:=.type "list",data:=.seq ([]:List Value).toArray }).objs.size { s2 with heap:=s2.heap.push { cls:=.type "list",data:=.seq ([]:List Value).toArray } } (upd H2 s2.heap.objs.size (.lst [])) fp) [] σ' H' s10/\tn i s10.heap/\(∀ b∈fp,H' b=none)/\W i m σ' H':=λ {s10 H10 σ10} I10 h9=>by
    obtain ⟨m',hm,w10⟩:=h9;refine ⟨m',hm,i+1,σ10,H10,I10.gJ,T.keep _ _ _ st7 λ b hb o e=>(I10.pin (b,o) (mem_append_right _ (mem_append_right _ (cP hb e)))).1,λ b hb=>?_,w10⟩;obtain ⟨o,e,d⟩:=T.obj _ _ st7 b hb;exact (I10.pin (b,o) (mem_append_right _ (mem_append_right _ (cP hb e)))).2.1
   cases ok with
   | false=>
    rw [if_neg Bool.false_ne_true] at q9;exact wpAny_pure ⟨rfl,again I9 q9⟩
   | true=>
    rw [if_pos rfl] at q9;refine wpAny_bind (sf (hi2 _ _ _ fp _ s9 σ8 H9 _ I9 q9) λ xv s10 h10=>wpAny_bind (wpAny_standAt ?_));rw [hs2];refine wpAny_bind (wpAny_pure (wpAny_bind (wpAny_holding (sf h10 λ itv s11 h11=>?_))));obtain ⟨it2,fp2,tn2,J2,H11,rfl,I11,T2,st11,f11,goal⟩:=h11;have hcz:=hc;have loop2:=(λ (Z:Cx) (h1:Z.calm=true) (h2:Z.xe=λ _ _=>False) T2 I11=>we (Z:=Z) (t1:=tg) (i1:=iter) (f1:=ifs) (i2:=iter2) (scope:=scope) (pos:=pos) h1 h2 T2 I11) _ (show (bZ X scope N _ _ _ fp).calm=true from hcz) rfl T2 I11 st11 f11 (hg2 _ _ _ fp) (ht2 _ _ _ fp) (he _ _ _ fp) goal;refine wpAny_bind (wpAny_runOwn (codeAny_mono (jE loop2 (T2.self _ 0 _ _ _ st11 loop2)) λ r s12 hr12=>?_));obtain ⟨hr,σ12,H12,I12,n12⟩:=hr12;subst hr;exact wpAny_pure ⟨rfl,again I12 n12⟩
 exact codeAny_compStart_list (loop _ rfl) (T.self _ 0 _ _ _ st4 (loop _ rfl))
end L2
namespace L2
open PySem PySem.Spec PyProof.Rows
open PySem.SeqAt
open PySem.AutoSeq1 (wpAny_loadPart')
open PySem.MeetsSeq PySem.MeetsSeq2 PySem.MeetsSeq3 PySem.SeqAt
section
variable {prog:Program} {w:World} {A:Around} {E:Value->Shared->Prop} {s:Shared}
end
section
variable {X:Cx}
theorem BF:e_ X (binaryOp .FloorDiv) (rI (λ _ j=>0 < j/\j < 18446744073709551616) λ i j=>.int (i / j)):=NP λ i j _ _ _ _ _ hc q=>by
 have h1:(0:Int) < j:=hc.1;have h2:j < 18446744073709551616:=hc.2;refine floordiv_int (by omega) (by rw [Int.fdiv_eq_ediv_of_nonneg i (by omega)];exact q) (.inl (PyProof.noPylong_of_log2 ?_));exact lt_of_lt_of_le ((Nat.log2_lt (by omega)).mpr (show j.natAbs < 2 ^ 64 by omega)) (by decide)
end
end L2
namespace L2
open PySem PySem.Spec PyProof.Rows
noncomputable def N8 (x:Str):It:=⟨λ i _=>i < x.cps.size,λ i H v H'=>H'=H/\∃ c,x.cps[i]?=some c/\v=.str ⟨#[c]⟩,λ i _=>i=x.cps.size⟩
theorem Dr {P:Program}{w:World}{K:PySem.W.Frag}{tg:Expr}(x:Str)(t:Tok)(it:Addr):Turn P w K tg (N8 x) [it] it (λ i h=>h.IsStrIter it "str_ascii_iterator" x t i) where
 mem:=by simp
 obj:=λ i h st b hb=>by
  have e:b=it:=by simpa using hb
  subst e;obtain ⟨o,e,c,d⟩:=st;exact ⟨o,e,λ v z=>by rw [d] at z;cases z⟩
 keep:=λ i h h' st k=>let ⟨o,ho,r⟩:=st;⟨o,k it (by simp) o ho,r⟩
 item:=by
  intro X hP hw hK hc i pins s σ H E I hf st hg;subst hP hw hK;obtain ⟨f0,f1,f2,f3,f4,f5⟩:=hf it (by simp);have W:=Walks.strAscii (prog:=X.prog) (w:=X.w) (I.ok.hd hc) it x t;refine W.item i s _ _ hg st λ v h' tk hv st' kk=>?_;obtain ⟨c,u,hcx,rfl⟩:=hv;have I1:Inv X pins σ H { s with heap:=h',toks:=tk }:=I.turned (λ b o hb e=>kk b o (by simpa using hb) e) f0 f1 f3 f4 f5;obtain ⟨o,e,cc,d⟩:=id st';exact ⟨_,rfl,vP (s:={ s with heap:=h',toks:=tk }) e cc d (by decide) ⟨.str ⟨#[c]⟩,H,I1,⟨u,rfl⟩,⟨rfl,c,hcx,rfl⟩,st',λ b hb=>(hf b hb).1⟩⟩
 done:=by
  intro X hP hw hK hc i pins s σ H E I hf st hg;subst hP hw hK;obtain ⟨f0,f1,f2,f3,f4,f5⟩:=hf it (by simp);have hg:i=x.cps.size:=hg;subst hg;have W:=Walks.strAscii (prog:=X.prog) (w:=X.w) (I.ok.hd hc) it x t;exact W.done s _ _ st λ h' tk kk=>⟨rfl,I.turned (λ b o hb e=>kk b o (by simpa using hb) e) f0 f1 f3 f4 f5⟩
 self:=λ _ _ _ _ _ st h=>wpAny_pyIter_striter_ascii st h
section
variable {X:Cx} {tg:Expr}
noncomputable def OE (tl:TE):TI:=λ σ H R=>tl σ H λ x H1=>∃ y:Str,x=.str y/\y.cps.all (· < 128)=true/\R (N8 y) H1
theorem K0 {l:Expr}{tl:TE}(hl:PE X l tl):PI X tg l (OE tl):=by
 intro pins s σ H R I h;refine cj (hl pins s σ H _ I h) λ v s1 h9=>?_;obtain ⟨x,H1,I1,r1,q1⟩:=h9;obtain ⟨y,e,ha,q⟩:=q1;subst e;obtain ⟨t,rfl⟩:=r1;refine wpAny_pyIter_ascii ha ?_;refine ⟨s1.heap.objs.size,[s1.heap.objs.size],_,_,H1,rfl,I1.kept (t':=s1.toks) λ b o e=>get?_push_of_some _ e,Dr y t _,⟨_,get?_push_size _ rfl,rfl,rfl⟩,λ b hb=>?_,q⟩;have e:b=s1.heap.objs.size:=by simpa using hb
 subst e;exact I1.wZ (Nat.le_refl _) (I1.hok.fresh (Nat.le_refl _))
theorem A7:bB X (.type "int") (λ xs H Q=>∃ (y:Str) (n:Int),xs=[.str y]/\y.length<=640/\PySem.intText? y=some n/\Q (.int n) H):=by
 intro pins s σ H xs us Q I rv h;obtain ⟨y,n,rfl,hl,hn,q⟩:=h;obtain ⟨w,rfl,rw'⟩:=vals1 rv;obtain ⟨u,rfl⟩:=rw';exact PySem.W.KIN.call_text hn hl ⟨.int n,H,I.tok _,⟨_,rfl⟩,q⟩
end
section
variable {κ:Type} [DecidableEq κ]
noncomputable def mG (kvs:List (κ×V))(k:κ):Option V:=(kvs.find? λ kv=>decide (kv.1=k)).map (·.2)
noncomputable def putK (kvs:List (κ×V))(k:κ)(v:V):List (κ×V):=
 if (kvs.any λ kv=>decide (kv.1=k))=true then kvs.map (λ kv=>if kv.1=k then (kv.1,v) else kv) else kvs++[(k,v)]
theorem lH {p:κ×V}{r:List (κ×V)}{k:κ}(e:p.1=k):mG (p::r) k=some p.2:=by simp [mG,find?_cons,e]
theorem mz {p:κ×V}{r:List (κ×V)}{k:κ}(e:¬ p.1=k):mG (p::r) k=mG r k:=by simp [mG,find?_cons,e]
theorem pO (k:κ):∀ kvs:List (κ×V),(kvs.any λ kv=>decide (kv.1=k))=(mG kvs k).isSome
 | []=>rfl
 | p::r=>by
  rw [any_cons];by_cases e:p.1=k
  ·simp only [lH e,decide_eq_true e,Bool.true_or,Option.isSome_some]
  ·rw [mz e,decide_eq_false e,Bool.false_or];exact pO k r
theorem nG (kvs:List (κ×V))(k:κ)(v:V):(putK kvs k v).length<=kvs.length+1:=by
 unfold putK;split
 ·rw [length_map];omega
 ·rw [length_append,length_cons,length_nil];omega
theorem qu.mT {o:Option V}{u:Option Value}(r:qu o u):o.isSome=u.isSome:=by
 cases o with
 | none=>cases u with
  | none=>rfl
  | some _=>exact (show False from r).elim
 | some _=>cases u with
  | none=>exact (show False from r).elim
  | some _=>rfl
theorem KV.val {kvs:List (κ×V)}{vs:List (κ×Value)}(r:KV kvs vs)(k:κ):qu (mG kvs k) (valueAt vs k):=by
 unfold KV at r
 induction r with
 | nil=>exact True.intro
 | @cons p q ps qs h t ih=>
  obtain ⟨h1,h2⟩:=h;by_cases e:p.1=k
  ·have e':q.1=k:=h1.symm.trans e;have b:valueAt (q::qs) k=some q.2:=by simp [valueAt,find?_cons,e']
   rw [lH e,b];exact h2
  ·have e':¬ q.1=k:=λ z=>e (h1.trans z);have b:valueAt (q::qs) k=valueAt qs k:=by simp [valueAt,find?_cons,e']
   rw [mz e,b];exact ih
theorem KV.any {kvs:List (κ×V)}{vs:List (κ×Value)}(r:KV kvs vs)(k:κ):(kvs.any λ kv=>decide (kv.1=k))=vs.any λ kv=>decide (kv.1=k):=by
 unfold KV at r
 induction r with
 | nil=>rfl
 | cons h t ih=>rw [any_cons,any_cons,ih,h.1]
theorem KV.repl {kvs:List (κ×V)}{vs:List (κ×Value)}(r:KV kvs vs)(k:κ){y:V}{u:Value}(ry:RelV y u) :
  KV (kvs.map λ kv=>if kv.1=k then (kv.1,y) else kv) (vs.map λ kv=>if kv.1=k then (kv.1,u) else kv):=by
 unfold KV at r ⊢
 induction r with
 | nil=>exact .nil
 | @cons p q ps qs h t ih=>
  rw [map_cons,map_cons];refine .cons ?_ ih;obtain ⟨h1,h2⟩:=h;by_cases e:p.1=k
  ·rw [if_pos e,if_pos (h1.symm.trans e)];exact ⟨h1,ry⟩
  ·rw [if_neg e,if_neg (λ z=>e (h1.trans z))];exact ⟨h1,h2⟩
theorem KV.put {kvs:List (κ×V)}{vs:List (κ×Value)}(r:KV kvs vs)(k:κ){y:V}{u:Value}(ry:RelV y u):KV (putK kvs k y) (stored vs k u):=by
 unfold putK stored;rw [r.any k];by_cases e:(vs.any λ kv=>decide (kv.1=k))=true
 ·rw [if_pos e,if_pos e];exact r.repl k ry
 ·rw [if_neg e,if_neg e];exact Paired.snoc r ⟨rfl,ry⟩
theorem KV.length {kvs:List (κ×V)}{vs:List (κ×Value)}(r:KV kvs vs):kvs.length=vs.length:=Paired.length r
end
theorem xQ {P:Program}{w:World}{k:Key}{u:Value}(r:RelV (kV k) u):(cH P w).is k u=true:=by
 cases k with
 | inl i=>obtain ⟨t,e⟩:=(show ∃ t,u=Value.int i t from r);subst e;exact uH P w i t
 | inr x=>obtain ⟨t,e⟩:=(show ∃ t,u=Value.str x t from r);subst e;exact uD P w x t
theorem qV {P:Program}{w:World}:∀ {ks:List Key} {us:List Value},Vals (ks.map kV) us->ItemsAre (cH P w) ks us
 | [],_,r=>by rw [map_nil] at r;cases r;exact .nil
 | k::ks,_,r=>by
  rw [map_cons] at r
  cases r with
  | cons h t=>exact .cons (xQ h) (qV t)
noncomputable abbrev KT (H:Hp):List (List Key×V)->List (List Key×Addr×Value)->Prop:=Paired λ p q=>p.1=q.1/\H q.2.1=some (.tup (p.1.map kV))/\RelV p.2 q.2.2
theorem KT.val {H:Hp}{kvs:List (List Key×V)}{xs:List (List Key×Addr×Value)}(r:KT H kvs xs)(k:List Key):qu (mG kvs k) ((atKey xs k).map (·.2)):=by
 induction r with
 | nil=>exact True.intro
 | @cons p q ps qs h t ih=>
  obtain ⟨h1,_,h2⟩:=h;by_cases e:p.1=k
  ·have e':q.1=k:=h1.symm.trans e;have b:atKey (q::qs) k=some q.2:=by simp [atKey,find?_cons,e']
   rw [lH e,b];exact h2
  ·have e':¬ q.1=k:=λ z=>e (h1.trans z);have b:atKey (q::qs) k=atKey qs k:=by simp [atKey,find?_cons,e']
   rw [mz e,b];exact ih
theorem KT.repl {H:Hp}{kvs:List (List Key×V)}{xs:List (List Key×Addr×Value)}(r:KT H kvs xs)(k:List Key){y:V}{u:Value}(ry:RelV y u) :
  KT H (kvs.map λ kv=>if kv.1=k then (kv.1,y) else kv) (xs.map (putAt k u)):=by
 induction r with
 | nil=>exact .nil
 | @cons p q ps qs h t ih=>
  rw [map_cons,map_cons];refine .cons ?_ ih;obtain ⟨h1,h2,h3⟩:=h;unfold putAt;by_cases e:p.1=k
  ·rw [if_pos e,if_pos (h1.symm.trans e)];exact ⟨h1,h2,ry⟩
  ·rw [if_neg e,if_neg (λ z=>e (h1.trans z))];exact ⟨h1,h2,h3⟩
theorem KT.put {H:Hp}{kvs:List (List Key×V)}{xs:List (List Key×Addr×Value)}(r:KT H kvs xs)(k:List Key){b:Addr}{y:V}{u:Value}(hb:H b=some (.tup (k.map kV)))(ry:RelV y u) :
  KT H (putK kvs k y) (storedH xs k b u):=by
 have e:(kvs.any λ kv=>decide (kv.1=k))=(atKey xs k).isSome:=by
  rw [pO,(r.val k).mT,isSome_map]
 unfold putK storedH;rw [e];by_cases q:(atKey xs k).isSome=true
 ·rw [if_pos q,if_pos q];exact r.repl k ry
 ·rw [if_neg q,if_neg q];exact Paired.snoc r ⟨rfl,hb,ry⟩
theorem KT.keeps {H H':Hp}{kvs:List (List Key×V)}{xs:List (List Key×Addr×Value)}(r:KT H kvs xs)(ht:∀ b ys,H b=some (.tup ys)->H' b=some (.tup ys)):KT H' kvs xs:=
 Paired.J_ r λ _ _ z=>⟨z.1,ht _ _ z.2.1,z.2.2⟩
section
variable {P:Program} {w:World} {H:Hp} {h:Heap} {a:Addr}
theorem Ib {u:HO}(ok:lE P w H h)(e:Rd H a u):b_ P w H h a u:=e.ok ok
theorem yK {kvs:List (Key×V)}(ok:lE P w H h)(e:Rd H a (.dK kvs)):kvs.length<=sizeLine/\(a == sysModules)=false/\∃ vs,KV kvs vs/\h.DictOf (cH P w) a vs:=
 show b_ P w H h a (.dK kvs) from Ib ok e
theorem MO {kvs:List (Key×V)}(ok:lE P w H h)(e:H a=some (.dK kvs)):kvs.length<=sizeLine/\(a == sysModules)=false/\∃ vs,KV kvs vs/\h.DictOf (cH P w) a vs:=yK ok (.inl e)
theorem o_ {ks:List Key}(ok:lE P w H h)(e:H a=some (.tup (ks.map kV))):(tupleKind (cH P w)).is h ks a:=by
 obtain ⟨_,its,r,o,h1,h2,_,n,h3⟩:=(show b_ P w H h a (.tup (ks.map kV)) from ok a _ e);exact ⟨o,its.toArray,n,h1,h2,h3,by simpa using qV r⟩
theorem Ag {kvs:List (List Key×V)}(ok:lE P w H h)(e:Rd H a (.dT kvs)):kvs.length<=sizeLine/\(a == sysModules)=false /\
  ∃ xs,KT H kvs xs/\h.DictOfH (tupleKind (cH P w)) a xs:=by
 obtain ⟨z,y,xs,r,o,es,ep,h1,h2,h3,h4,h5⟩:=(show b_ P w H h a (.dT kvs) from Ib ok e);refine ⟨z,y,xs,r,o,es,ep,h1,h2,h3,h4,λ x hx=>?_,h5⟩;have all:∀ {l:List (List Key×V)} {m:List (List Key×Addr×Value)},KT H l m->∀ x∈m,(tupleKind (cH P w)).is h x.1 x.2.1:=by
  intro l m q
  induction q with
  | nil=>intro x hx;exact nomatch hx
  | @cons p q ps qs hq t ih=>
   intro x hx
   rcases mem_cons.mp hx with e | hx
   ·subst e;exact o_ ok (by rw [<- hq.1];exact hq.2.1)
   ·exact ih x hx
 exact all r x hx
theorem uN {kvs:List (List Key×V)}(ok:lE P w H h)(e:H a=some (.dT kvs)):kvs.length<=sizeLine/\(a == sysModules)=false /\
  ∃ xs,KT H kvs xs/\h.DictOfH (tupleKind (cH P w)) a xs:=Ag ok (.inl e)
end
noncomputable def sX (H:Hp)(a:Addr)(y:V)(r:Option V):Prop:=
 (∃ kvs k,Rd H a (.dK kvs)/\y=kV k/\r=mG kvs k)\/∃ kvs k b,Rd H a (.dT kvs)/\y=.ref b/\H b=some (.tup (k.map kV))/\r=mG kvs k
noncomputable def Ep (H:Hp)(a:Addr)(y v:V)(H':Hp):Prop:=
 (∃ kvs k,H a=some (.dK kvs)/\y=kV k/\kvs.length < sizeLine/\H'=upd H a (.dK (putK kvs k v))) \/
 ∃ kvs k b,H a=some (.dT kvs)/\y=.ref b/\H b=some (.tup (k.map kV))/\kvs.length < sizeLine/\H'=upd H a (.dT (putK kvs k v))
theorem sX.t {H:Hp}{a b:Addr}{kvs:List (List Key×V)}{k:List Key}(e:H a=some (.dT kvs))(eb:H b=some (.tup (k.map kV))):sX H a (.ref b) (mG kvs k):=.inr ⟨kvs,k,b,.inl e,rfl,eb,rfl⟩
theorem Ep.t {H:Hp}{a b:Addr}{kvs:List (List Key×V)}{k:List Key}{v:V}(e:H a=some (.dT kvs))(eb:H b=some (.tup (k.map kV)))(hl:kvs.length < sizeLine) :
  Ep H a (.ref b) v (upd H a (.dT (putK kvs k v))):=.inr ⟨kvs,k,b,e,rfl,eb,hl,rfl⟩
section
variable {X:Cx} {pins:List (Addr×Obj)} {σ:St} {H:Hp} {s:Shared} {a:Addr} {y v:V} {u r:Value} {o:Option V} {A:Around} {E:Value->Shared->Prop}
theorem Inv.big (I:Inv X pins σ H s):sysModules < s.heap.objs.size:=by
 have h:mainGlobals < s.heap.objs.size:=(I.mod.glob.keeps I.bk).lt;exact Nat.lt_trans (by decide) h
theorem Bg {Q:Value->Shared->Prop}(hu:A.units+1 < cLine)(I:Inv X pins σ H s)(g:sX H a y (some v))(ry:RelV y u)(h:∀ w' s',Inv X pins σ H s'->RelV v w'->Q w' s') :
  wpAny (model X.prog X.w) A (getItem (.ref a) u) Q E s:=by
 rcases g with ⟨kvs,k,e,ey,l⟩ | ⟨kvs,k,b,e,ey,eb,l⟩
 ·subst ey;obtain ⟨z,hd,vs,rel,dd⟩:=yK I.hok e;obtain ⟨w',hw,rw'⟩:=qu.some_of (v:=v) (o:=valueAt vs k) (by rw [l];exact rel.val k);exact wpAny_getItem_of (xQ ry) dd.mapOf hw (h w' _ (I.tok _) rw')
 ·subst ey
  cases (show u=Value.ref b from ry)
  obtain ⟨z,hd,xs,rel,dd⟩:=Ag I.hok e;obtain ⟨w',hw,rw'⟩:=qu.some_of (v:=v) (o:=(atKey xs k).map (·.2)) (by rw [l];exact rel.val k);obtain ⟨p,hp,hp2⟩:=map_eq_some_iff.mp hw;refine wpAny_getItem_heap (tupleKind_room_in1 hu) (o_ I.hok eb) dd hp ?_;rw [hp2];exact h w' _ (I.tok _) rw'
theorem FJ {Q:Value->Shared->Prop}(hu:A.units+1 < cLine)(I:Inv X pins σ H s)(g:sX H a y o)(ry:RelV y u)(h:∀ s',Inv X pins σ H s'->Q (.bool (!o.isSome)) s') :
  wpAny (model X.prog X.w) A (compareOp .NotIn u (.ref a)) Q E s:=by
 rcases g with ⟨kvs,k,e,ey,l⟩ | ⟨kvs,k,b,e,ey,eb,l⟩
 ·subst ey;obtain ⟨z,hd,vs,rel,dd⟩:=yK I.hok e;refine wpAny_notIn_of (xQ ry) hd dd.mapOf ?_;rw [<- (rel.val k).mT,<- l];exact h _ (I.tok _)
 ·subst ey
  cases (show u=Value.ref b from ry)
  obtain ⟨z,hd,xs,rel,dd⟩:=Ag I.hok e;refine wpAny_notIn_heap (tupleKind_room_in1 hu) (o_ I.hok eb) hd dd ?_;have q:=(rel.val k).mT;rw [isSome_map] at q;rw [<- q,<- l];exact h _ (I.tok _)
theorem lY {h':Heap}{t':Nat}{ob:HO}(I:Inv X pins σ H s)(mu:MS (H a))(hs:Heap.SameBut a s.heap h')(he:∃ q,h'.get? a=some q)(new:b_ X.prog X.w (upd H a ob) h' a ob) :
  Inv X pins σ (upd H a ob) { s with heap:=h',toks:=t' }:=
 I.write (x:=a) (e:=a) mu (.inl rfl) (λ b q hb z=>(hs.2 b hb).trans z) he new
theorem Kq {P:Program}{w:World}{H':Hp}{h':Heap}{kvs:List (Key×V)}{vs:List (Key×Value)}(z:kvs.length<=sizeLine)(hd:(a == sysModules)=false)(rel:KV kvs vs)(dd:h'.DictOf (cH P w) a vs) :
  b_ P w H' h' a (.dK kvs):=⟨z,hd,vs,rel,dd⟩
theorem Bx {H':Hp}{Q:Unit->Shared->Prop}(hu:A.units+1 < cLine)(I:Inv X pins σ H s)(g:Ep H a y v H')(ry:RelV y u)(rv:RelV v r)(h:∀ s',Inv X pins σ H' s'->Q () s') :
  wpAny (model X.prog X.w) A (setItem (.ref a) u r) Q E s:=by
 rcases g with ⟨kvs,k,e,ey,l,eH⟩ | ⟨kvs,k,b,e,ey,eb,l,eH⟩
 ·subst ey eH;obtain ⟨z,hd,vs,rel,dd⟩:=MO I.hok e;have hz:vs.length<=sizeLine:=by rw [<- rel.length];exact z
  have hl:(putK kvs k v).length<=sizeLine:=by have:=nG kvs k v;omega
  refine wpAny_setItem_pairs (hsz:=hz) (xQ ry) dd λ h' dd' hs=>h _ ?_;have he:∃ q,h'.get? a=some q:=let ⟨q,_,_,hq,_⟩:=dd';⟨q,hq⟩
  exact lY I (by rw [e];exact True.intro) hs he (Kq hl hd (rel.put k rv) dd')
 ·subst ey eH
  cases (show u=Value.ref b from ry)
  obtain ⟨z,hd,xs,rel,dd⟩:=uN I.hok e;have hz:xs.length<=sizeLine:=by rw [<- Paired.length rel];exact z
  have hl:(putK kvs k v).length<=sizeLine:=by have:=nG kvs k v;omega
  refine wpAny_setItem_heap (hsz:=hz) (tupleKind_room_in1 hu) (o_ I.hok eb) dd λ h' dd' hs=>h _ ?_;obtain ⟨q,es,ep,hq,h2,h3,h4,_,h5⟩:=dd';refine lY I (by rw [e];exact True.intro) hs ⟨q,hq⟩ ⟨hl,hd,_,(rel.put k eb rv).keeps λ c ys ec=>?_,q,es,ep,hq,h2,h3,h4,h5⟩;rw [aN (Ae ec e (λ z=>nomatch z))];exact ec
end
section
variable {X:Cx} {pins:List (Addr×Obj)} {σ:St} {H:Hp} {s:Shared} {a:Addr} {kvs:List (Key×V)} {k:Key} {u:Value} {A:Around} {E:Value->Shared->Prop}
end
theorem uK {X:Cx}{pins:List (Addr×Obj)}{σ:St}{H:Hp}{s:Shared}{a:Addr}{y:V}{o:Option V}(I:Inv X pins σ H s)(g:sX H a y o):s.TypeIs (.ref a) "dict" := by
 rcases g with ⟨kvs,k,e,_,_⟩ | ⟨kvs,k,b,e,_,_,_⟩
 ·obtain ⟨_,_,vs,_,dd⟩:=yK I.hok e;exact dd.typeIs
 ·obtain ⟨_,_,xs,_,dd⟩:=Ag I.hok e;exact dd.typeIs
section
variable {X:Cx} {o i e value:Expr} {pos pos' tpos:Pos} {td ty tv:TE}
end
theorem vq {P:Program}{w:World}{H:Hp}(h:Heap)(hb:sysModules < h.objs.size):b_ P w H (h.push { cls:=.type "dict",data:=.dict #[] }) h.objs.size (.dT []):=
 ⟨zero_le _,beq_eq_false_iff_ne.mpr (Ne.symm (ne_of_lt hb)),[],.nil,_,#[],0,get?_push_size _ rfl,⟨rfl,rfl,rfl⟩,rfl,rfl,nodup_nil⟩
noncomputable def JD:TE:=λ _ H Q=>∀ p,H p=none->Q (.ref p) (upd H p (.dT []))
section
variable {X:Cx} {pos:Pos}
theorem E8:PE X (.Dict [] [] pos) JD:=λ pins s σ H Q I h=>
 wpAny_Dict_empty ⟨.ref s.heap.objs.size,_,I.laid (a:=s.heap.objs.size) (o:=.dT []) (t':=s.toks) (λ _ _ q=>get?_push_of_some _ q) (Nat.le_refl _) (vq s.heap I.big),rfl,h _ (I.hok.fresh (Nat.le_refl _))⟩
end
structure M1 (X:Cx)(o:Expr)(m:Str)(apos:Pos)(e:Expr)(cpos:Pos):Prop where
 base:attributeBase o m X.env (eval o X.env)=eval o X.env
 few:((backTo cpos (starEach [e] X.env)).all (λ x=>!x.1) && (backToKw cpos (keywordEach [] X.env)).all (λ x=>x.1.isSome)
  && decide (([e]:List Expr).length+([]:List Keyword).length+(if ([]:List Keyword).isEmpty then 0 else 1) < 30))=true
 line:(apos.endLine == cpos.line)=true
 trees:backTo cpos (starEach [e] X.env)=[(false,eval e X.env)]
structure M2 (X:Cx)(o:Expr)(m:Str)(apos:Pos)(e f:Expr)(cpos:Pos):Prop where
 base:attributeBase o m X.env (eval o X.env)=eval o X.env
 few:((backTo cpos (starEach [e,f] X.env)).all (λ x=>!x.1) && (backToKw cpos (keywordEach [] X.env)).all (λ x=>x.1.isSome)
  && decide (([e,f]:List Expr).length+([]:List Keyword).length+(if ([]:List Keyword).isEmpty then 0 else 1) < 30))=true
 line:(apos.endLine == cpos.line)=true
 trees:backTo cpos (starEach [e,f] X.env)=[(false,eval e X.env),(false,eval f X.env)]
section
variable {X:Cx} {pins:List (Addr×Obj)} {σ:St} {H:Hp} {s:Shared} {a:Addr} {y d:V} {u r:Value} {o:Option V} {A:Around} {E:Value->Shared->Prop}
end
section
variable {X:Cx} {o e f:Expr} {apos cpos:Pos} {td ty tx:TE}
end
section
variable {X:Cx} {pins:List (Addr×Obj)} {σ:St} {H:Hp} {s:Shared} {a:Addr} {kvs:List (Key×V)} {A:Around} {E:Value->Shared->Prop}
end
section
variable {X:Cx} {pins:List (Addr×Obj)} {σ:St} {H:Hp} {s:Shared} {a:Addr} {y:V} {u:Value} {A:Around} {E:Value->Shared->Prop}
end
section
variable {X:Cx}
theorem FU (hu:X.A.units+1 < cLine):JT X (λ x y H Q=>∃ a v,x=.ref a/\sX H a y (some v)/\Q v H):=by
 intro value slice pins s σ H x y v u Q I rx ry h hs;obtain ⟨a,z,rfl,g,q⟩:=h
 cases rx
 have hT:=uK I g;unfold subscriptTail;refine wpAny_bind ?_;rw [getitemInPython_of_ne hT.not_modules];refine wpAny_bind (wpAny_specialOf hT PySem.F.slot_dict_getitem.lookup ?_);have fin:wpAny (model X.prog X.w) X.A (subscripted slice false (.ref a) u) (λ r s₃=>wpAny (model X.prog X.w) X.A (letTemporaryGo value (.ref a) r >>= λ _=>pure r) (EP X pins σ Q) X.xe s₃) X.xe s:=by
  rw [hs];exact wpAny_operating (Bg hu I g ry λ w' s3 I3 rw'=>wpAny_bind (wpAny_letTemporaryGo (wpAny_pure ⟨z,H,I3,rw',q⟩)))
 first
  | exact wpAny_pure (wpAny_bind fin)
  | exact wpAny_bind (wpAny_pure (wpAny_bind fin))
  | exact wpAny_bind fin
theorem AN (hu:X.A.units+1 < cLine):e_ X (compareOp .NotIn) (λ y x H Q=>∃ a o,x=.ref a/\sX H a y o/\Q (.bl (!o.isSome)) H):=by
 intro pins s σ H y x v u Q I ry rx h;obtain ⟨a,o,rfl,g,q⟩:=h
 cases rx
 exact FJ hu I g ry λ s3 I3=>⟨.bl (!o.isSome),H,I3,rfl,q⟩
theorem set_dict (hu:X.A.units+1 < cLine):A1 X (λ o i v H Q=>∃ a H',o=.ref a/\Ep H a i v H'/\Q H'):=by
 intro pins s σ H o i v ov iv u Q I ro ri rv h;obtain ⟨a,H',rfl,g,q⟩:=h
 cases ro
 exact Bx hu I g ri rv λ s4 I4=>⟨H',I4,q⟩
noncomputable def Kw (tk tv:TE):TE:=λ σ H Q=>∀ p,H p=none->tk σ (upd H p (.dT [])) λ x H1=>tv σ H1 λ y H2=>H2 p=some (.dT [])/\∃ b ks,x=.ref b/\H2 b=some (.tup (ks.map kV))/\Q (.ref p) (upd H2 p (.dT [(ks,y)]))
theorem B3 {k v:Expr}{pos:Pos}{tk tv:TE}(hu:X.A.units+1 < cLine)(hk:PE X k tk)(hv:PE X v tv):PE X (.Dict [some k] [v] pos) (Kw tk tv):=by
 intro pins s σ H Q I q;have hn:=I.hok.fresh (Nat.le_refl s.heap.objs.size);have I1:=I.laid (a:=s.heap.objs.size) (o:=.dT []) (h':=s.heap.push { cls:=.type "dict",data:=.dict #[] }) (t':=s.toks) (λ _ _ q=>get?_push_of_some _ q) (Nat.le_refl _) (vq s.heap I.big);refine wpAny_Dict_any rfl rfl (by simp) (show 1<=15 by decide) ?_;refine pairTrees_cons_walk (cj (hk pins _ σ _ _ I1 (q _ hn)) λ kv s1 ⟨x,H1,I2,rx,q1⟩=>cj (hv pins s1 σ H1 _ I2 q1) λ vv s2 ⟨y,H2,I3,ry,e,b,ks,ex,eb,q2⟩=>pairTrees_nil_walk ?_);subst ex
 cases rx
 obtain ⟨z,hd,xs,rel,dd⟩:=uN I3.hok e
 cases rel
 unfold storeAll;rw [forIn_cons];refine wpAny_bind (wpAny_bind (wpAny_dictSet_heap (hsz:=by simp) (show X.A.units < cLine by omega) (o_ I3.hok eb) dd λ h' dd' hs=>wpAny_pure ?_));dsimp only;rw [forIn_nil];refine wpAny_pure ⟨.ref s.heap.objs.size,_,?_,rfl,q2⟩;obtain ⟨q',es,ep,hq,h2,h3,h4,_,h5⟩:=dd';refine lY I3 (by rw [e];exact True.intro) hs ⟨q',hq⟩ ⟨by show 1<=sizeLine;decide,hd,_,(KT.put (kvs:=[]) .nil ks eb ry).keeps λ c ys ec=>?_,q',es,ep,hq,h2,h3,h4,h5⟩;rw [aN (Ae ec e (λ z=>nomatch z))];exact ec
end
section
variable {P:Program} {w:World} {A:Around} {E:Value->Shared->Prop} {s:Shared} {it d:Addr} {i ep:Nat} {es:Array DictEntry} {o:Obj} {k0 v0:Value}
theorem GY {Q:Option Value->Shared->Prop}(hi:IsItemIter s.heap it d i es.size ep k0 v0)(ho:s.heap.get? d=some o)(hd:o.data=.dict es ep)(lt:i < es.size)
  (q:∀ h',IsItemIterOut h' it d (i+1) es.size ep es[i].key es[i].val s.heap.objs.size->h'.get? s.heap.objs.size=some { cls:=.type "tuple",data:=.seq #[es[i].key,es[i].val] }->h'.objs.size=s.heap.objs.size+1 ->
   (∀ b ob,b≠it->s.heap.get? b=some ob->h'.get? b=some ob)->Q (some (.ref s.heap.objs.size)) { s with heap:=h' }) :
  wpAny (model P w) A (pyNext (.ref it)) Q E s:=by
 obtain ⟨hp,gn,dr,tk,os⟩:=s;have ty:Shared.TypeIs ⟨hp,gn,dr,tk,os⟩ (.ref it) "dict_itemiterator" := ⟨_,hi,rfl⟩;have own:Builtin.Dict_items.ownsTuple "dict_itemiterator" = true:=by decide
 have nn:¬ ((Value.ref d == Value.none)=true):=Bool.false_ne_true;have n0:¬ ((i:Int) < 0):=by omega
 unfold pyNext;refine wpAny_bind (wpAny_attempt (wpAny_callSpecial?_slot (name:=Str.ofString "__next__") ty PySem.F.slot_dict_itemiterator_next (wpAny_call_entry PySem.F.slot_dict_itemiterator_next ty PySem.F.entry_dict_itemiterator_next ?_ (PySem.F.args_dict_itemiterator_next_1 _))));refine wpAny_bind (wpAny_pure (wpAny_bind (wpAny_bind ?_)))
 first
  | refine wpAny_bind (wpAny_typeNameOfWhole_itemiter ty (wpAny_pure (wpAny_bind (wpAny_fieldsOf hi rfl ?_))))
  | refine wpAny_bind (wpAny_typeNameOf_itemiter ty (wpAny_pure (wpAny_bind (wpAny_fieldsOf hi rfl ?_))))
 simp only [own,if_true];show wpAny (model P w) _ (if (Value.ref d == Value.none)=true then _ else _) _ _ ⟨hp,gn,dr,tk,os⟩;rw [if_neg nn];refine wpAny_bind (wpAny_pure (wpAny_bind (wpAny_dictEntries ho hd ?_)));rw [if_neg (show ¬ _ by simp)];refine wpAny_bind (wpAny_pure (wpAny_bind (wpAny_dictEpoch ho hd ?_)));rw [if_neg (show ¬ _ by simp)];refine wpAny_pure ?_;simp only [n0,if_false,toNat_natCast,Array.getElem?_eq_getElem lt];refine wpAny_bind ?_
 first
  | refine wpAny_bind (wpAny_typeNameOfWhole_itemiter ty (wpAny_pure (wpAny_bind (wpAny_isOneOf_itemiter ty ?_))))
  | refine wpAny_bind (wpAny_typeNameOf_itemiter ty (wpAny_pure (wpAny_bind (wpAny_isOneOf_itemiter ty ?_))))
 show wpAny (model P w) _ (setField (.ref it) 3 (rawInt ((i:Int)+1)) >>= _) _ _ _;refine wpAny_bind (wpAny_setField_rec hi (show _ by simp) λ h1 e1 b1=>?_);have b1:Heap.SameBut it hp h1:=b1;have e1:IsItemIter h1 it d (i+1) es.size ep k0 v0:=by
  have z:((i+1:Nat):Int)=(i:Int)+1:=by omega
  unfold IsItemIter;rw [z];simpa [rawInt] using e1
 have ty1:Shared.TypeIs ⟨h1,gn,dr,tk,os⟩ (.ref it) "dict_itemiterator" := ⟨_,e1,rfl⟩;refine wpAny_bind (wpAny_holding (wpAny_bind (wpAny_isOneOf_itemiter ty1 (wpAny_bind (wpAny_isOneOf_itemiter ty1 ?_)))));show wpAny (model P w) _ (Builtin.Dict_items.pairFromOwner (.ref it) 6 es[i].key es[i].val) _ _ ⟨h1,gn,dr,tk,os⟩;delta Builtin.Dict_items.pairFromOwner;refine wpAny_bind (wpAny_newTuple (?_));have il:it < hp.objs.size:=lt_size hi;have sz1:h1.objs.size=hp.objs.size:=b1.1;obtain ⟨h2,hh2⟩:∃ h2,h2=h1.push { cls:=.type "tuple",data:=.seq #[es[i].key,es[i].val] }:=⟨_,rfl⟩;have e2:IsItemIter h2 it d (i+1) es.size ep k0 v0:=by rw [hh2];exact get?_push_of_some _ e1
 have t2:h2.get? hp.objs.size=some { cls:=.type "tuple",data:=.seq #[es[i].key,es[i].val] }:=by rw [hh2,<- sz1];exact get?_push_size _ rfl
 have sz2:h2.objs.size=hp.objs.size+1:=by rw [hh2,size_push,sz1]
 have kp2:∀ b ob,b≠it->hp.get? b=some ob->h2.get? b=some ob:=λ b ob nb eb=>by rw [hh2];exact get?_push_of_some _ (b1.extBut b ob nb eb)
 show wpAny (model P w) _ (Builtin.Dict_items.ownedTupleIsFree (.ref it) >>= _) _ _ ⟨h1.push { cls:=.type "tuple",data:=.seq #[es[i].key,es[i].val] },gn,dr,tk,os⟩;rw [<- hh2,sz1];refine wpAny_bind ?_;delta Builtin.Dict_items.ownedTupleIsFree;refine wpAny_bind (wpAny_field e2 rfl (x:=.none) rfl (wpAny_pure ?_));simp only [if_true];refine wpAny_bind (wpAny_field e2 rfl (x:=k0) rfl (wpAny_bind (wpAny_field e2 rfl (x:=v0) rfl ?_)));refine wpAny_bind (wpAny_setField_rec e2 (show _ by simp) λ h3 e3 b3=>?_);have b3:Heap.SameBut it h2 h3:=b3;have e3:IsItemIter h3 it d (i+1) es.size ep es[i].key v0:=e3;refine wpAny_bind (wpAny_setField_rec e3 (show _ by simp) λ h4 e4 b4=>?_);have b4:Heap.SameBut it h3 h4:=b4;have e4:IsItemIter h4 it d (i+1) es.size ep es[i].key es[i].val:=e4;refine wpAny_bind (wpAny_setField_rec e4 (show _ by simp) λ h5 e5 b5=>?_);have b5:Heap.SameBut it h4 h5:=b5;have e5:IsItemIterOut h5 it d (i+1) es.size ep es[i].key es[i].val hp.objs.size:=e5;refine wpAny_bind (wpAny_setField_rec e5 (show _ by simp) λ h6 e6 b6=>?_);have b6:Heap.SameBut it h5 h6:=b6;have e6:IsItemIterOut h6 it d (i+1) es.size ep es[i].key es[i].val hp.objs.size:=e6;have kp6:∀ b ob,b≠it->h2.get? b=some ob->h6.get? b=some ob:=λ b ob nb eb=>b6.extBut b ob nb (b5.extBut b ob nb (b4.extBut b ob nb (b3.extBut b ob nb eb)));refine wpAny_bind (wpAny_letGo (wpAny_pure (wpAny_pure ⟨_,rfl,wpAny_pure (q h6 e6 (kp6 _ _ (ne_of_gt il) t2) ?_ λ b ob nb eb=>kp6 b ob nb (kp2 b ob nb eb))⟩)));show h6.objs.size=hp.objs.size+1;rw [b6.1,b5.1,b4.1,b3.1,sz2]
theorem Lr {Q:Option Value->Shared->Prop}(hh:A.handled=none)(hi:IsItemIter s.heap it d i es.size ep k0 v0)(ho:s.heap.get? d=some o)(hd:o.data=.dict es ep)(ge:es.size<=i)
  (q:∀ h',Heap.ExtBut it s.heap h'->Q none { s with heap:=h' }):wpAny (model P w) A (pyNext (.ref it)) Q E s:=by
 have ty:s.TypeIs (.ref it) "dict_itemiterator" := ⟨_,hi,rfl⟩;have own:Builtin.Dict_items.ownsTuple "dict_itemiterator" = true:=by decide
 have nn:¬ ((Value.ref d == Value.none)=true):=Bool.false_ne_true;have n0:¬ ((i:Int) < 0):=by omega
 unfold pyNext;refine wpAny_bind (wpAny_attempt (wpAny_callSpecial?_slot (name:=Str.ofString "__next__") ty PySem.F.slot_dict_itemiterator_next (wpAny_call_entry PySem.F.slot_dict_itemiterator_next ty PySem.F.entry_dict_itemiterator_next ?_ (PySem.F.args_dict_itemiterator_next_1 _))));refine wpAny_bind (wpAny_pure (wpAny_bind (wpAny_bind ?_)))
 first
  | refine wpAny_bind (wpAny_typeNameOfWhole_itemiter ty (wpAny_pure (wpAny_bind (wpAny_fieldsOf hi rfl ?_))))
  | refine wpAny_bind (wpAny_typeNameOf_itemiter ty (wpAny_pure (wpAny_bind (wpAny_fieldsOf hi rfl ?_))))
 simp only [own,if_true];show wpAny (model P w) _ (if (Value.ref d == Value.none)=true then _ else _) _ _ s;rw [if_neg nn];refine wpAny_bind (wpAny_pure (wpAny_bind (wpAny_dictEntries ho hd ?_)));rw [if_neg (show ¬ _ by simp)];refine wpAny_bind (wpAny_pure (wpAny_bind (wpAny_dictEpoch ho hd ?_)));rw [if_neg (show ¬ _ by simp)];refine wpAny_pure ?_;simp only [n0,if_false,toNat_natCast,Array.getElem?_eq_none ge];refine wpAny_bind ?_
 first
  | refine wpAny_bind (wpAny_typeNameOfWhole_itemiter ty (wpAny_pure ?_))
  | refine wpAny_bind (wpAny_typeNameOf_itemiter ty (wpAny_pure ?_))
 show wpAny (model P w) _ (setField (.ref it) 2 .none >>= _) _ _ s;refine wpAny_bind (wpAny_setField hi rfl (show _ by simp) ?_);show wpAny (model P w) _ (newExc (.type "StopIteration") [] >>= _) _ _ _;refine wpAny_bind ?_;simp only [newExc,newTuple];refine wpAny_bind (wpAny_newObj_type (wpAny_bind (m:=firstArgMember _ _) (wpAny_of_eq (a:=Value.none) (by first | rfl | (simp only [firstArgMember];rfl)) (wpAny_newObj_type ?_ (by size_fits)))) (by size_fits));simp only [raiseNew];have hn:A.in1.handled=none:=hh;refine wpAny_bind (wpAny_handled (?_));rw [hn];refine wpAny_bind (wpAny_pure (wpAny_throw (?_)));refine wpAny_bind (wpAny_isInstance (b:=true) (T := "StopIteration") ⟨_,get?_push_size _ rfl,rfl⟩ isSubtype_stop (wpAny_pure (q _ (((Heap.SameBut.update ..).extBut.push _).push _))))
end
theorem Hx:entryFor table "dict_itemiterator.__iter__" = some Builtin.«dict_keyiterator.__iter__»:=entryFor_alias (by kernel_rfl) rfl (id' := "dict_keyiterator.__iter__") (by decide +kernel) (by kernel_rfl)
noncomputable def N5 (d:Addr)(o:Obj)(u:HO)(ps:List (Addr×V)):It:=
 ⟨λ i H=>∃ a v,ps[i]?=some (a,v)/\H d=some (.frz o u),λ i H x H'=>∃ T,H T=none/\x=.ref T/\∀ a v,ps[i]?=some (a,v)->H'=upd H T (.tup [.ref a,v]),λ i H=>i=ps.length/\H d=some (.frz o u)⟩
theorem w_ {P:Program}{w:World}{K:PySem.W.Frag}{elts:List Expr}{x1:Nat}{tpos:Pos}(d it:Addr){o:Obj}{u:HO}{es:Array DictEntry}{ep:Nat}{ps:List (Addr×V)}(hd:o.data=.dict es ep)(hl:ps.length=es.size)
  (hp:∀ i a v,ps[i]?=some (a,v)->∀ h:i < es.size,es[i].key=.ref a/\RelV v es[i].val):Turn P w K (.Tuple elts x1 tpos) (N5 d o u ps) [it] it (λ i h=>∃ k0 v0,IsItemIter h it d i es.size ep k0 v0) where
 mem:=by simp
 obj:=λ i h st b hb=>by
  obtain ⟨k0,v0,st⟩:=st;have:b=it:=by simpa using hb
  subst this;exact ⟨_,st,λ v z=>by cases z⟩
 keep:=λ i h h' ⟨k0,v0,st⟩ k=>⟨k0,v0,k it (by simp) _ st⟩
 item:=by
  intro X hP hw hK hc i pins s σ H E I hf st hg;subst hP hw hK;obtain ⟨k0,v0,st⟩:=st;obtain ⟨a,v,hx,hq⟩:=hg;have ho:s.heap.get? d=some o:=(show b_ _ _ H s.heap d (.frz o u) from I.hok d _ hq).1;have lt:i < es.size:=by rw [<- hl];exact (List.getElem?_eq_some_iff.mp hx).1
  obtain ⟨ek,rv⟩:=hp i a v hx lt;refine GY st ho hd lt λ h' hout hT hsz hk=>⟨_,rfl,wpAny_letOwnedTupleGo_items hout λ h2 he2 hs2=>?_⟩;have fT:H s.heap.objs.size=none:=I.hok.fresh (Nat.le_refl _);have hil:it < s.heap.objs.size:=lt_size st;have k2:∀ b ob,b≠it->s.heap.get? b=some ob->h2.get? b=some ob:=λ b ob h1 qb=>hs2.extBut b ob h1 (hk b ob h1 qb);have hT2:h2.get? s.heap.objs.size=some { cls:=.type "tuple",data:=.seq #[es[i].key,es[i].val] }:=hs2.extBut _ _ (ne_of_gt hil) hT;obtain ⟨i0,i1,i2,i3,i4,i5⟩:=hf it (by simp);have nT:∀ b ob,s.heap.get? b=some ob->b≠s.heap.objs.size:=λ b ob qb=>ne_of_lt (lt_size qb);have ne_tr:∀ c y,H c=some y->c≠it:=λ c y qc z=>by rw [z,i0] at qc;cases qc
  have I2:Inv X pins σ (upd H s.heap.objs.size (.tup [.ref a,v])) { s with heap:=h2 }:=by
   refine I.step (g':=s.gens) (d':=s.drawn) (ch:=[it]) (λ b hb=>?_) (λ b ob _ _ hch qb _=>?_) (λ b ob _ _ hch qb _=>?_) (λ b ob hch qb n=>?_) (λ b ob hch qb=>?_) (λ b ys qb=>?_) (λ b ob u' qb=>?_) (λ b ps' qb=>?_) (λ m hm=>?_) (λ b u' qb=>?_) I.bare
   ·have:b=it:=by simpa using hb
    subst this;exact ⟨i3,i1,i4,i5⟩
   ·exact k2 b ob (λ z=>hch (by simp [z])) qb
   ·exact ⟨ob.slots,k2 b ob (λ z=>hch (by simp [z])) qb⟩
   ·rw [aN (nT b ob qb)];exact n
   ·exact ⟨ob,k2 b ob (λ z=>hch (by simp [z])) qb⟩
   ·rw [aN (aW qb fT)];exact qb
   ·rw [aN (aW qb fT)];exact qb
   ·exact ⟨#[],by rw [aN (aW qb fT),qb];simp⟩
   ·obtain ⟨ob,es',ep',hob,r⟩:=hm;exact ⟨ob,es',ep',k2 _ ob (Ne.symm i1) hob,r⟩
   ·by_cases z:b=s.heap.objs.size
    ·subst z;rw [bF] at qb
     cases qb
     exact ⟨by show 2<=sizeLine;decide,[es[i].key,es[i].val],.cons ek (.cons rv .nil),⟨_,hT2,rfl,rfl,0,rfl⟩⟩
    ·rw [aN z] at qb;refine (I.hok b u' qb).stay (λ c y hc q'=>k2 c y ?_ q') (λ c q'=>?_) λ c ys q'=>?_
     ·rcases hc with z | z
      ·rw [z];exact ne_tr b u' qb
      ·exact ne_tr c _ z
     ·rw [aN (aW q' fT)];exact q'
     ·rw [aN (aW q' fT)];exact q'
  refine ⟨.ref s.heap.objs.size,_,I2,rfl,⟨s.heap.objs.size,fT,rfl,λ a' v' hy=>?_⟩,⟨_,_,he2⟩,λ b hb=>?_⟩
  ·rw [hx] at hy
   cases hy
   rfl
  ·have:b=it:=by simpa using hb
   subst this;rw [aN (ne_of_lt hil)];exact i0
 done:=by
  intro X hP hw hK hc i pins s σ H E I hf st hg;subst hP hw hK;obtain ⟨k0,v0,st⟩:=st;obtain ⟨hi,hq⟩:=hg;have ho:s.heap.get? d=some o:=(show b_ _ _ H s.heap d (.frz o u) from I.hok d _ hq).1;refine Lr (I.ok.hd hc) st ho hd (by rw [<- hl];omega) λ h' hx=>⟨rfl,?_⟩;obtain ⟨i0,i1,i2,i3,i4,i5⟩:=hf it (by simp);exact I.turned (t':=s.toks) (λ b ob hb qb=>hx b ob hb qb) i0 i1 i3 i4 i5
 self:=by
  intro A i s Q E st q;obtain ⟨k0,v0,st⟩:=st;have ty:s.TypeIs (.ref it) "dict_itemiterator" := ⟨_,st,rfl⟩;exact wpAny_pyIter_slot ty PySem.F.slot_dict_itemiterator_iter (wpAny_call_entry PySem.F.slot_dict_itemiterator_iter ty Hx (wpAny_pure ⟨_,rfl, "dict_itemiterator",_,ty,PySem.F.slot_dict_itemiterator_next.lookup,q⟩) (PySem.F.args_dict_itemiterator_iter_1 _))
section
variable {X:Cx}
theorem vN {A:Around}{E:Value->Shared->Prop}{s:Shared}{d:Addr}{Q:Value->Shared->Prop}(ty:s.TypeIs (.ref d) "dict")(hd:(d == sysModules)=false)
  (q:Q (.ref s.heap.objs.size) { s with heap:=s.heap.push { cls:=.type "dict_items",data:=.fields #[.ref d] } }):wpAny (model X.prog X.w) A (call (.builtin "dict.items") [.ref d]) Q E s:=by
 refine wpAny_call_entry PySem.F.slot_dict_items ty PySem.F.entry_dict_items ?_ (PySem.F.args_dict_items_1 _);delta Builtin.«dict.items»;refine wpAny_bind ?_;delta Builtin.Dict.noArgs;refine wpAny_bind (wpAny_notOrdered_dict ty ?_);show wpAny (model X.prog X.w) _ (pure d) _ _ s;refine wpAny_pure ?_;show wpAny (model X.prog X.w) _ (Builtin.Dict.showsAll d >>= _) _ _ s;delta Builtin.Dict.showsAll;have nd:¬ ((d == sysModules)=true):=by rw [hd];exact Bool.false_ne_true
 rw [if_neg nd];exact wpAny_bind (wpAny_pure (wpAny_bind (wpAny_newObj_type (wpAny_pure ⟨_,rfl,q⟩))))
theorem uV {A:Around}{E:Value->Shared->Prop}{s:Shared}{v d:Addr}{o:Obj}{es:Array DictEntry}{ep:Nat}{Q:Value->Shared->Prop}(hv:s.heap.IsItemsView v d)(ho:s.heap.get? d=some o)(hd:o.data=.dict es ep)
  (q:Q (.ref s.heap.objs.size) { s with heap:=s.heap.push { cls:=.type "dict_itemiterator",data:=.fields #[.none,.bool false,.ref d,.int 0 0,.int es.size 0,.int ep 0,.none,.none] } }) :
  wpAny (model X.prog X.w) A (pyIter (.ref v)) Q E s:=by
 obtain ⟨ov,hov,hcv,hdv⟩:=id hv;have own:Builtin.Dict_items.ownsTuple "dict_itemiterator" = true:=by decide
 refine wpAny_pyIter_slot hv.typeIs PySem.F.slot_dict_items_iter (wpAny_call_entry PySem.F.slot_dict_items_iter hv.typeIs PySem.F.entry_dict_items_iter ?_ (PySem.F.args_dict_items_iter_1 _));delta Builtin.«dict_items.__iter__»;refine wpAny_bind (wpAny_pure (wpAny_bind ?_));delta Builtin.Dict_items.dictOf;refine wpAny_bind (wpAny_field hov hdv (x:=.ref d) rfl (wpAny_pure (wpAny_bind ?_)));delta Builtin.Dict_items.newIterator;refine wpAny_bind (wpAny_dictEntries ho hd (wpAny_bind (wpAny_dictEpoch ho hd ?_)));simp only [own,if_true];refine wpAny_newObj_type (wpAny_pure ⟨_,rfl, "dict_itemiterator",_,⟨_,get?_push_size _ rfl,rfl⟩,PySem.F.slot_dict_itemiterator_next.lookup,?_⟩) (by simp only [sizeOk,Builtin.Dict_items.ownedTupleFields,size_toArray,length_append,length_cons,length_nil,sizeLine_eq];omega);simpa [rawInt,Builtin.Dict_items.ownedTupleFields] using q
end
section
variable {X:Cx}
theorem kt_at {H:Hp}:∀ {kvs:List (List Key×V)} {xs:List (List Key×Addr×Value)},KT H kvs xs->kvs.length=xs.length/\∀ (i:Nat) (p:List Key×V),kvs[i]?=some p->∃ y:List Key×Addr×Value,xs[i]?=some y/\p.1=y.1/\H y.2.1=some (.tup (p.1.map kV))/\RelV p.2 y.2.2
 | [],[],_=>⟨rfl,λ i p h=>by simp at h⟩
 | [],_::_,r=>nomatch r
 | _::_,[],r=>nomatch r
 | a::kvs,b::xs,.cons z r=>by
  obtain ⟨l,q⟩:=kt_at r;refine ⟨by simp [l],λ i p h=>?_⟩
  cases i with
  | zero=>
   have:a=p:=by simpa using h
   subst this;exact ⟨b,rfl,z⟩
  | succ i=>exact q i p (by simpa using h)
noncomputable def Kg (to:TE):TI:=λ σ H R=>to σ H λ x H1=>∃ d kvs,x=.ref d/\H1 d=some (.dT kvs)/\∀ (o:Obj) (ps:List (Addr×V)),ps.length=kvs.length->(∀ (i:Nat) a v,ps[i]?=some (a,v)->∃ ks:List Key,kvs[i]?=some (ks,v)/\H1 a=some (.tup (ks.map kV)))->R (N5 d o (.dT kvs) ps) (upd H1 d (.frz o (.dT kvs)))
theorem Fc {elts:List Expr}{x1:Nat}{tpos apos cpos:Pos}{e:Expr}{to:TE}(he:PE X e to)(hbase:attributeBase e "items" X.env (eval e X.env)=eval e X.env:=by rfl)(hline:(apos.endLine == cpos.line)=true:=by rfl) :
  PI X (.Tuple elts x1 tpos) (.Call (.Attribute e "items" apos) [] [] cpos) (Kg to):=by
 intro pins s σ H R I h;refine wpAny_Call_method0_late hbase hline (cj (he pins s σ H _ I h) λ v s1 ⟨x,H1,I1,r1,d,kvs,ex,ed,q1⟩=>?_);subst ex
 cases r1
 obtain ⟨z,hd,xs,rel,dd⟩:=uN I1.hok ed;have ty:=dd.typeIs (s:=s1);obtain ⟨ob,es,ep,g1,g2,g3,g4,g5,g6⟩:=id dd;obtain ⟨kl,kt⟩:=kt_at rel;refine ⟨"dict", "dict.items",PySem.F.plainAttrs_dict,PySem.F.slot_dict_items,PySem.F.type_dict_items,ty,λ a ea=>?_,Calls.callWith_builtin rfl (PySem.evalArgs_none (vN ty hd ?_))⟩
 ·cases ea
  exact ⟨ob,g1,g2.2.1⟩
 have g1':(s1.heap.push { cls:=.type "dict_items",data:=.fields #[.ref d] }).get? d=some ob:=get?_push_of_some _ g1;refine uV (o:=ob) (es:=es) (ep:=ep) ⟨_,get?_push_size _ rfl,rfl,rfl⟩ g1' g3 ?_;have I2:Inv X pins σ H1 { s1 with heap:=(s1.heap.push { cls:=.type "dict_items",data:=.fields #[.ref d] }).push { cls:=.type "dict_itemiterator",data:=.fields #[.none,.bool false,.ref d,.int 0 0,.int es.size 0,.int ep 0,.none,.none] } }:=
  I1.kept (t':=s1.toks) λ b o eb=>get?_push_of_some _ (get?_push_of_some _ eb)
 have hnd:∀ b ys,H1 b=some (.tup ys)->upd H1 d (.frz ob (.dT kvs)) b=some (.tup ys):=λ b ys eb=>by
  rw [aN (Ae eb ed (λ z=>nomatch z))];exact eb
 have I3:Inv X pins σ (upd H1 d (.frz ob (.dT kvs))) _:=lY (t':=s1.toks) (ob:=.frz ob (.dT kvs)) I2 (by rw [ed];exact True.intro) ⟨rfl,λ _ _=>rfl⟩ ⟨ob,get?_push_of_some _ g1'⟩ ⟨get?_push_of_some _ g1',z,hd,xs,rel.keeps hnd,ob,es,ep,get?_push_of_some _ g1',g2,g3,g4,g6⟩;have hes:es.size=xs.length:=by have:=congrArg List.length g4;simpa using this
 obtain ⟨ps,hps⟩:∃ ps:List (Addr×V),ps=(List.range kvs.length).map λ i=>((xs.getD i ([],0,.none)).2.1,(kvs.getD i ([],.non)).2):=⟨_,rfl⟩;have pl:ps.length=kvs.length:=by rw [hps];simp
 have pat:∀ (i:Nat) a v,ps[i]?=some (a,v)->∃ (ks:List Key) (y:List Key×Addr×Value),kvs[i]?=some (ks,v)/\xs[i]?=some y/\y.2.1=a/\H1 a=some (.tup (ks.map kV))/\RelV v y.2.2:=λ i a v e=>by
  have hi:i < kvs.length:=by rw [<- pl];exact (List.getElem?_eq_some_iff.mp e).1
  obtain ⟨y,h1,h2,h3,h4⟩:=kt i kvs[i] (List.getElem?_eq_getElem hi);rw [hps,List.getElem?_map,getElem?_range hi] at e;have e':((xs.getD i ([],0,.none)).2.1,(kvs.getD i ([],.non)).2)=(a,v):=Option.some.inj e;rw [getD_eq_getElem?_getD,getD_eq_getElem?_getD,h1,List.getElem?_eq_getElem hi] at e';have ea:y.2.1=a:=congrArg Prod.fst e';have ev:kvs[i].2=v:=congrArg Prod.snd e';exact ⟨kvs[i].1,y,by rw [List.getElem?_eq_getElem hi,<- ev],h1,ea,by rw [<- ea];exact h3,by rw [<- ev];exact h4⟩
 refine ⟨(s1.heap.push { cls:=.type "dict_items",data:=.fields #[.ref d] }).objs.size,[(s1.heap.push { cls:=.type "dict_items",data:=.fields #[.ref d] }).objs.size],_,N5 d ob (.dT kvs) ps,_,rfl,I3,w_ d _ g3 (by rw [pl,kl,hes]) (λ i a v e hlt=>?_),⟨.none,.none,get?_push_size _ rfl⟩,λ b hb=>?_,q1 ob ps pl λ i a v e=>?_⟩
 ·obtain ⟨ks,y,h1,h2,h3,h4,h5⟩:=pat i a v e;have:es.toList[i]?=some (entryOfKey (tupleKind (cH X.prog X.w)) y):=by rw [g4,List.getElem?_map,h2];rfl
  have e2:es[i]=entryOfKey (tupleKind (cH X.prog X.w)) y:=by
   rw [getElem?_toList,Array.getElem?_eq_getElem hlt] at this;exact Option.some.inj this
  rw [e2,<- h3];exact ⟨rfl,h5⟩
 ·have eb:b=(s1.heap.push { cls:=.type "dict_items",data:=.fields #[.ref d] }).objs.size:=by simpa using hb
  have le:s1.heap.objs.size<=b:=by rw [eb,size_push];exact Nat.le_succ _
  refine I1.wZ le ?_;have nd:b≠d:=λ w=>absurd (lt_size g1) (by rw [<- w];exact Nat.not_lt.mpr le);rw [aN nd];exact I1.hok.fresh le
 ·obtain ⟨ks,y,h1,_,_,h4,_⟩:=pat i a v e;exact ⟨ks,h1,h4⟩
end
noncomputable def C0 (e:Addr)(h:Heap):Prop:=∃ o vs,h.get? e=some o/\o.data=.fields vs/\vs[2]?=some .none/\o.dict=none
section
variable {e:Addr} {α β:Type}
end
structure Fly (l:List Env)(g:Heap)(pn:List (Addr×Obj))(H:Hp)(e:Addr)(cls:Value)(h:Heap):Prop where
 ex:∃ (B:Heap) (a0:Value),Heap.FlyingW B l e cls a0 h/\(∀ a u,H a=some u->∃ o,B.get? a=some o)/\(∀ b o,g.get? b=some o->b∉frs l->∃ o',B.get? b=some o')/\(∀ p∈pn,∃ o',B.get? p.1=some o')/\C0 e h
structure Made (X:Cx)(H:Hp)(e:Addr)(cls:Value)(g:Heap)(h:Heap):Prop where
 ex:∃ (g':Heap) (vs:List Value),Heap.MadeExcOf g' h e cls vs/\g'.FunFrames X.base X.stack/\(∀ a u,H a=some u->∃ o,g'.get? a=some o)/\(∀ b o,g.get? b=some o->∃ o',g'.get? b=some o')/\(∀ p∈X.pn,∃ o',g'.get? p.1=some o')
noncomputable def J5 (X:Cx)(H:Hp)(e:Addr)(cls:Value)(s':Shared):Prop:=Made X H e cls X.s₀.heap s'.heap\/Fly X.stack X.s₀.heap X.pn H e cls s'.heap
section
variable {X:Cx} {pins:List (Addr×Obj)} {σ:L2.St} {H:Hp} {s':Shared} {e:Addr} {cls:Value}
end
section
variable {P:Program} {w:World} {K:PySem.W.Frag} {mg:Str->Option Value} {base:Heap} {N:List Str} {qual:Str} {scope:Scope} {f:Addr} {cd:Value} {A:Around} {outer:List Env} {s:Shared} {H:Hp} {E:XK}
noncomputable def EX (X:Cx):XK:=λ cls _ H'=>X.ex=[]/\∀ pins σ' s' e,Inv X pins σ' H' s'->J5 X H' e cls s'->X.xe (.ref e) s'
end
inductive FParts (X:Cx):List Expr->List (Str ⊕ TE)->Prop
 | nil:FParts X [] []
 | txt {x:Str} {j pos} {es:List Expr} {ps:List (Str ⊕ TE)} (h:FParts X es ps):FParts X (.Constant (.str x) j pos::es) (.inl x::ps)
 | val {e:Expr} {pos:Pos} {t:TE} {es:List Expr} {ps:List (Str ⊕ TE)} (he:PE X e t) (h:FParts X es ps):FParts X (.FormattedValue e (-1) none pos::es) (.inr t::ps)
noncomputable def xu:HO:=.ext λ _=>True
structure XO (C:Addr)(o:Obj):Prop where
 cls:o.cls=.ref C
 dict:o.dict=none
 ctx:∃ vs,o.data=.fields vs/\vs[2]?=some .none
structure Fr0 (X:Cx)(e:Addr):Prop where
 no:∀ o,X.s₀.heap.get? e≠some o
 tup:∀ xs,X.H₀ e≠some (.tup xs)
 frz:∀ o u,X.H₀ e≠some (.frz o u)
 tbl:∀ ps,X.H₀ e≠some (.tbl ps)
section
variable {X:Cx} {pins:List (Addr×Obj)} {σ:L2.St} {H:Hp} {s':Shared} {e:Addr} {cls:Value}
end
section
variable {X:Cx} {pn' pins:List (Addr×Obj)} {xe':Value->Shared->Prop} {σ:L2.St} {H:Hp} {s':Shared} {e C:Addr} {B h6:Heap} {a0:Value}
end
section
variable {X:Cx} {pins:List (Addr×Obj)} {σ:L2.St} {H:Hp} {s:Shared}
end
section
variable {M:Model} {A:Around} {E:Value->Shared->Prop} {h:Heap} {g:Array GenState} {d:Drawn} {t:Nat} {os:OsState} {C N D N':Addr} {nm q nm' q':Str} {bs bm bs' bm':List Value} {hdct hdct':Bool} {sn sn':List Str} {sub sub':List Value} {ab ab':Bool} {col col':Option Bool} {dd dd':Option Addr} {k0 k1 k2 k3 k5 k0' k1' k2' k3' k5':Option Value} {newId newId':String}
end
noncomputable def mroIn (K:PySem.W.Frag)(C:Addr):Option (List Value):=match K.lookup C with
 | some ⟨.type "type",_,.cls cd,sl⟩=>(match cd.mro,sl.toList with
  | .ref C'::bm,[_,_,_,_,some (.builtin _),_]=>if C'=C/\cd.hasDel=false then some bm else none
  | _,_=>none)
 | _=>none
structure ClsAt (h:Heap)(C:Addr)(bm:List Value):Prop where
 ex:∃ nm q N bs hdct sn sub ab col dd k0 k1 k2 k3 k5 newId,h.get? C=some (excClassObj nm q C N bs bm hdct sn sub ab col dd k0 k1 k2 k3 k5 newId)
section
variable {X:Cx} {pins pins':List (Addr×Obj)} {xe':Value->Shared->Prop} {σ:L2.St} {H:Hp} {s':Shared} {e C Dc:Addr} {bm bmD:List Value} {x n:Str} {i:Nat} {De:Ends} {b0:Stmt} {suite:List Stmt} {np hp:Pos}
end
open PySem.W in
structure XCls (K:PySem.W.Frag)(C:Addr):Prop where
 ga:findIn K (.ref C) "__getattribute__" = some (some (.builtin "BaseException.__getattribute__"))
 gt:findIn K (.ref C) "__getattr__" = some none
 fc:findObj K C none "__class__" = some (.bind (.builtin "getset_descriptor.__get__") (.builtin "object.__class__"))
 ob:PySem.W.mroIn K C (.type "object")=some true
 bs:subIn K (.ref C) (.type "BaseException")=some true
section
open PySem.W
variable {K:PySem.W.Frag} {C a:Addr} {ox:Obj} {prog:Program} {w:World} {A:Around} {E:Value->Shared->Prop} {h:Heap} {g:Array GenState} {d:Drawn} {t:Nat} {os:OsState}
end
section
variable {X:Cx} {C:Addr} {pins:List (Addr×Obj)} {σ:L2.St} {H:Hp} {s:Shared}
end
end L2
namespace L2
open PySem PySem.Spec PyProof.Rows
section
variable {prog:Program} {w:World} {A:Around} {E:Value->Shared->Prop} {s:Shared} {e n:Addr} {oe on:Obj} {vs ns:Array Value}
end
section
variable {X:Cx} {e C:Addr} {oe:Obj}
end
noncomputable def KH (A:Around):Around:={ A with handled:=none }
noncomputable def MW (k:Nat)(A:Around):Prop:=Room k (KH A)
structure Hnd (A:Around)(H:Hp)(e:Addr)(oe:Obj)(C:Addr):Prop where
 hh:A.handled=some (.ref e)
 h0:H e=some (.frz oe xu)
 xo:XO C oe
structure FnOkH (P:Program)(w:World)(K:PySem.W.Frag)(mg:Str->Option Value)(base:Heap)(k:Nat)(f:Addr)(fd:FuncData)(ps:List Str)(sp:Sp):Prop where
 len:∀ vs H Q E,sp vs H Q E->vs.length=ps.length
 run:∀ (A:Around) (outer:List Env) (s:Shared) (H:Hp) (args:Args) (us:List Value) (vs:List V) (Q:VK) (e:Addr) (oe:Obj) (C:Addr),MW k A->Hnd A H e oe C->Env0 P w K mg base A outer s H->BindsTo s fd args (ps.zip us)->Vals vs us->sp vs H Q E0 ->
  codeAny (model P w) A (.call (.ref f) args) (CR j9 outer P w H s Q E0) s
end L2
namespace L2
open PySem PySem.Spec PyProof.Rows PySem.SeqAt
section
variable {X:Cx}
end
section
variable {X:Cx} {pos:Pos} {a b:Expr}
end
section
variable {X:Cx}
end
section
variable {prog:Program} {w:World} {A:Around} {E:Value->Shared->Prop} {s:Shared}
end
section
variable {prog:Program} {w:World} {A:Around} {E:Value->Shared->Prop} {s:Shared}
end
section
variable {X:Cx}
end
end L2
namespace L2
open PySem PySem.Spec PyProof.Rows
section
variable {X:Cx}
end
theorem E9 {X:Cx}{i:Nat}{y:Str}{py spos:Pos}{tg iter elt:Expr}{ifs:List Expr}{scope:Scope}{pos:Pos}{N:List Str}{cap:List (Option Nat)}{wi:TI}{g:TG}{tc:TT}{te:TE}
  (hN:X.N.Nodup) (hi':X.N[i]?=some y) (hx:Loc X.env.scope y) (hc:X.calm=true) (S:CpScope X scope N cap) (hi:PI X tg iter wi)
  (hg:∀ C s₀ H₀ ex,PG (bZ X scope N C s₀ H₀ ex) tg g) (ht:∀ C s₀ H₀ ex,Ft (bZ X scope N C s₀ H₀ ex) ifs tc) (he:∀ C s₀ H₀ ex,PE (bZ X scope N C s₀ H₀ ex) elt te)
  (hsw:swapsWith (.ListComp elt [⟨tg,iter,ifs,0⟩] scope pos) (some (.Name y py)) spos.line X.env=pure true)
  (hf:X.fn y=true\/X.env.scope.names.lookup y=some .local) (hs:∀ x,foldedSetIterable iter X.env x=pure x:=by intro _;rfl) :
  PS X (.Assign [.Name y py] (.ListComp elt [⟨tg,iter,ifs,0⟩] scope pos) spos) (G8 (Nd cap wi g tc te) (EC i)):=by
 intro pins s σ H D I h;rw [exec_Assign_Name_used _ _ _ _ hsw];refine wpAny_bind (wpAny_standAt (wpAny_bind ?_));show wpAny _ X.A (do let _ <- comprehension (.ListComp elt [⟨tg,iter,ifs,0⟩] scope pos) scope X.env (firstIterPos [⟨tg,iter,ifs,0⟩] pos) (newList []) (firstAsync [⟨tg,iter,ifs,0⟩]) (firstIter [⟨tg,iter,ifs,0⟩] X.env) (some (assign (.Name y py) X.env))) _ _ s;refine wpAny_bind (wpAny_mono (x_ (ok:=λ Y=>Y.calm=true) (Q':=λ _ s'=>SP X pins D .next s') S (λ _ _ _ _ _=>hc) (PI.g hi) hg ht he hs pins s σ H _ I h ?_) (λ _ s' hq=>wpAny_pure (wpAny_pure hq)) λ _ _ e=>e);intro s6 C Dd H5 m hn fk inv q v;have Ia:=inv s6.heap (Heap.SameBut.refl _ _);obtain ⟨oC,hoC⟩:∃ o,s6.heap.get? C=some o/\∀ v,o.data≠.cell v:=by
  obtain ⟨o,es,ep,e,d,_⟩:=hn;exact ⟨o,e,λ v z=>by rw [d] at z;cases z⟩
 have Ip:=Ia.pinned (fp:=[C]) (λ b hb=>by rw [mem_singleton] at hb;rw [hb];exact fk) (λ b hb=>by rw [mem_singleton] at hb;rw [hb];exact ⟨oC,hoC⟩);show wpAny _ X.A (assign (.Name y py) X.env (.ref Dd)) _ _ s6;refine cj (yR hN hi' hx hf _ s6 σ H5 (.ref Dd) (.ref Dd) _ Ip rfl q) λ _ s7 h9=>?_;obtain ⟨σ7,H7,I7,q7⟩:=h9;have hp:=I7.pin (C,oC) (mem_append_right _ (mem_append_right _ (cP (mem_singleton.mpr rfl) hoC.1)));refine ⟨m,hn.at' λ o e=>by rw [hoC.1] at e;cases e;exact hp.1,λ h' sb=>?_⟩;have nC:∀ c v,H7 c=some v->c≠C:=λ c v e z=>by rw [z,hp.2.1] at e;cases e
 refine ⟨σ7,H7,?_,q7⟩;refine I7.gJ.E3 (ch:=[C]) rfl ⟨λ b o e n hb hx=>?_,λ b o e n hb hx=>?_,λ b o e n hx=>n,λ b o e hx=>?_,λ _ _ e=>e,λ _ _ _ e=>e,λ _ _ e=>⟨#[],by rw [Array.append_empty];exact e⟩⟩ ?_ I7.bare ?_
 ·exact sb.extBut b o (by simpa using hx) e
 ·exact ⟨o.slots,sb.extBut b o (by simpa using hx) e⟩
 ·exact ⟨o,sb.extBut b o (by simpa using hx) e⟩
 ·intro b o e;refine (I7.hok b o e).stay (λ c v hc q=>sb.extBut c v ?_ q) (λ _ q=>q) λ _ _ q=>q
  rcases hc with z | z
  ·rw [z];exact nC b o e
  ·exact nC c _ z
 ·intro b hb;rw [mem_singleton] at hb;rw [hb];exact ⟨fk.2.2.2.1,fk.2.1,fk.2.2.2.2.1,fk.2.2.2.2.2⟩
section
variable {X:Cx} {tg:Expr}
end
section
variable {prog:Program} {w:World} {A:Around} {E:Value->Shared->Prop} {s:Shared}
end
section
variable {X:Cx} {o e:Expr} {to:TE} {tl:TO} {p2 spos pos:Pos}
end
end L2
namespace Sx
open PySem PyProof.Rows
structure Ord where
 lt:Nat->Nat->Bool
 Ho:∀ i,lt i i=false
 tr:∀ i j k,lt i j=true->lt j k=true->lt i k=true
 neg:∀ i j k,lt i k=true->lt i j=true\/lt j k=true
noncomputable def P (o:Ord)(i j:Nat):Prop:=o.lt i j=true\/(o.lt j i=false/\i < j)
theorem Ord.Ol (o:Ord){i j:Nat}(h:o.lt i j=true):o.lt j i=false:=by
 cases e:o.lt j i with
 | false=>rfl
 | true=>have:=o.tr _ _ _ h e;rw [o.Ho] at this;cases this
theorem P.Ho {o:Ord}{i:Nat}(h:P o i i):False:=by
 rcases h with h | ⟨_,h⟩
 ·rw [o.Ho] at h;cases h
 ·omega
theorem P.trans {o:Ord}{i j k:Nat}(a:P o i j)(b:P o j k):P o i k:=by
 rcases a with a | ⟨a,a'⟩
 ·rcases b with b | ⟨b,b'⟩
  ·exact .inl (o.tr _ _ _ a b)
  ·rcases o.neg i k j a with z | z
   ·exact .inl z
   ·rw [b] at z;cases z
 ·rcases b with b | ⟨b,b'⟩
  ·rcases o.neg j i k b with z | z
   ·rw [a] at z;cases z
   ·exact .inl z
  ·refine .inr ⟨?_,by omega⟩
   cases e:o.lt k i with
   | false=>rfl
   | true=>
    rcases o.neg k j i e with z | z
    ·rw [b] at z;cases z
    ·rw [a] at z;cases z
theorem P.of_lt {o:Ord}{i j:Nat}(h:o.lt i j=true):P o i j:=.inl h
theorem P.nO {o:Ord}{i j:Nat}(h:o.lt j i=false)(hij:i < j):P o i j:=.inr ⟨h,hij⟩
theorem P.lt {o:Ord}{i j:Nat}(h:P o i j)(hij:j < i):o.lt i j=true:=by
 rcases h with h | ⟨_,h⟩
 ·exact h
 ·omega
theorem P.ge {o:Ord}{i j:Nat}(h:P o i j):o.lt j i=false:=by
 rcases h with h | ⟨h,_⟩
 ·exact o.Ol h
 ·exact h
noncomputable def So (o:Ord)(g:Nat->Nat)(a b:Nat):Prop:=∀ i j,a<=i->i < j->j < b->P o (g i) (g j)
noncomputable def Cl (g:Nat->Nat)(a b:Nat):Prop:=∀ i,a<=i->i < b->a<=g i/\g i < b
noncomputable def rev (g:Nat->Nat)(i j:Nat):Nat->Nat:=λ k=>if i<=k/\k < j then g (i+j - 1 - k) else g k
noncomputable def mv (g:Nat->Nat)(src dst:Nat):Nat->Nat:=λ k=>if k=dst then g src else if dst < k/\k<=src then g (k - 1) else g k
theorem p_ {g:Nat->Nat}{i j k:Nat}(h:i<=k)(h2:k < j):rev g i j k=g (i+j - 1 - k):=if_pos ⟨h,h2⟩
theorem gp {g:Nat->Nat}{i j k:Nat}(h:k < i\/j<=k):rev g i j k=g k:=if_neg (by omega)
theorem DK {g:Nat->Nat}{s d:Nat}:mv g s d d=g s:=if_pos rfl
theorem ue {g:Nat->Nat}{s d k:Nat}(h:d < k)(h2:k<=s):mv g s d k=g (k - 1):=by
 unfold mv;rw [if_neg (by omega),if_pos ⟨h,h2⟩]
theorem tF {g:Nat->Nat}{s d k:Nat}(hd:d<=s)(h:k < d\/s < k):mv g s d k=g k:=by
 unfold mv;rw [if_neg (by omega),if_neg (by omega)]
section
variable {prog:Program} {w:World} {A:Around} {E:Value->Shared->Prop} {s:Shared} {o:Ord} {N:Nat} {f:Nat->Keyed} {kd:SortKind} {g:Nat->Nat} {p:Array (Nat×Nat×Nat)} {st:SortSt}
noncomputable def rz (prog:Program)(w:World)(A:Around)(s:Shared)(o:Ord)(N:Nat)(f:Nat->Keyed)(kd:SortKind):Prop:=
 ∀ i j,i < N->j < N->∀ (E':Value->Shared->Prop) (Q:Bool->Shared->Prop),Q (o.lt i j) s->wpAny (model prog w) A (keyLt' kd (f i).1 (f j).1) Q E' s
structure Sg (N:Nat)(f:Nat->Keyed)(kd:SortKind)(g:Nat->Nat)(p:Array (Nat×Nat×Nat))(st:SortSt):Prop where
 size:(arrOf st).size=N
 get:∀ i,i < N->(arrOf st)[i]?=some (f (g i))
 lt:∀ i,i < N->g i < N
 kind:kindOf st=kd
 failed:failedOf st=none
 pend:pendingOf st=p
theorem o5 (C:rz prog w A s o N f kd)(hk:kindOf st=kd){i j:Nat}(hi:i < N)(hj:j < N){Q:Option Bool->SortSt->Prop}(q:Q (some (o.lt i j)) st):wpS (model prog w) A E s (lt' (f i) (f j)) Q st:=by
 rw [lt'_eq];refine wpS_bind (wpS_get ?_);rw [hk];refine wpS_bind (wpS_lift (wpAny_attempt (C i j hi hj _ _ ⟨rfl,?_⟩)));exact wpS_pure q
theorem bz {xs:Array Keyed}{i:Nat}{x:Keyed}(e:xs[i]?=some x){Q:Keyed->SortSt->Prop}(q:Q x st):wpS (model prog w) A E s (elem' xs i) Q st:=by
 rw [elem'_eq,e];exact wpS_pure q
theorem mE (C:rz prog w A s o N f kd)(h:Sg N f kd g p st){i j:Nat}(hi:i < N)(hj:j < N){Q:Option Bool->SortSt->Prop}(q:Q (some (o.lt (g i) (g j))) st):wpS (model prog w) A E s (ltAt' i j) Q st:=by
 rw [ltAt'_eq];refine wpS_bind (wpS_get ?_);show wpS _ _ _ _ (do let u <- elem' (arrOf st) i;let v <- elem' (arrOf st) j;lt' u v) Q st;exact wpS_bind (bz (h.get i hi) (wpS_bind (bz (h.get j hj) (o5 C h.kind (h.lt i hi) (h.lt j hj) q))))
theorem Sg.arr (h:Sg N f kd g p st){xs:Array Keyed}{g':Nat->Nat}(hs:xs.size=N)(hg:∀ i,i < N->xs[i]?=some (f (g' i)))(hl:∀ i,i < N->g' i < N):Sg N f kd g' p (setArr st xs):=⟨hs,hg,hl,h.kind,h.failed,h.pend⟩
theorem oh (h:Sg N f kd g p st){i j:Nat}(hj:j<=N){Q:Unit->SortSt->Prop}(q:∀ st',Sg N f kd (rev g i j) p st'->Q () st'):wpS (model prog w) A E s (reverseSlice' i j) Q st:=by
 rw [reverseSlice'_eq];refine wpS_modify (q _ (h.arr (by rw [mirror_size];exact h.size) (λ k hk=>?_) λ k hk=>?_))
 ·rw [getElem?_mirror_all (by rw [h.size];exact hj)];unfold rev;by_cases c:i<=k/\k < j
  ·rw [if_pos c,if_pos c];exact h.get _ (by omega)
  ·rw [if_neg c,if_neg c];exact h.get _ hk
 ·unfold rev;by_cases c:i<=k/\k < j
  ·rw [if_pos c];exact h.lt _ (by omega)
  ·rw [if_neg c];exact h.lt _ hk
theorem KD (h:Sg N f kd g p st){a b:Nat}(ha:a < N)(hb:b<=a){Q:Unit->SortSt->Prop}(q:∀ st',Sg N f kd (mv g a b) p st'->Q () st'):wpS (model prog w) A E s (moveDown' a b) Q st:=by
 rw [moveDown'_eq];refine wpS_modify (q _ (h.arr (by rw [bubble_size];exact h.size) (λ k hk=>?_) λ k hk=>?_))
 ·rw [getElem?_bubble (by rw [h.size];exact ha) _ (by omega),show a - (a - b)=b by omega];unfold mv;by_cases c:k=b
  ·rw [if_pos c,if_pos c];exact h.get _ ha
  ·rw [if_neg c,if_neg c];by_cases c2:b < k/\k<=a
   ·rw [if_pos c2,if_pos c2];exact h.get _ (by omega)
   ·rw [if_neg c2,if_neg c2];exact h.get _ hk
 ·unfold mv;by_cases c:k=b
  ·rw [if_pos c];exact h.lt _ ha
  ·rw [if_neg c];by_cases c2:b < k/\k<=a
   ·rw [if_pos c2];exact h.lt _ (by omega)
   ·rw [if_neg c2];exact h.lt _ hk
structure Rn (o:Ord)(g0 g:Nat->Nat)(a b:Nat):Prop where
 out:∀ i,i < a\/b<=i->g i=g0 i
 cl:Cl g a b
 so:So o g a b
theorem JC {g0:Nat->Nat}{lo k l:Nat}(R:Rn o g0 g lo (lo+k))(hk:g (lo+k)=lo+k)(hl:l<=k)(h1:∀ i,i < l->P o (g (lo+i)) (lo+k))(h2:∀ i,l<=i->i < k->P o (lo+k) (g (lo+i))):Rn o g0 (mv g (lo+k) (lo+l)) lo (lo+(k+1)) where
 out i hi:=by rw [tF (by omega) (by omega)];exact R.out i (by omega)
 cl i a b:=by
  by_cases c:i=lo+l
  ·subst c;rw [DK,hk];omega
  ·by_cases c2:lo+l < i
   ·rw [ue c2 (by omega)];have:=R.cl (i - 1) (by omega) (by omega);omega
   ·rw [tF (by omega) (by omega)];have:=R.cl i (by omega) (by omega);omega
 so i j a b d:=by
  by_cases c:i=lo+l
  ·subst c;rw [DK,ue b (by omega),hk];have:=h2 (j - 1 - lo) (by omega) (by omega)
   rwa [show lo+(j - 1 - lo)=j - 1 by omega] at this
  ·by_cases c2:lo+l < i
   ·rw [ue c2 (by omega),ue (by omega) (by omega)];exact R.so _ _ (by omega) (by omega) (by omega)
   ·rw [tF (k:=i) (by omega) (by omega)];by_cases c3:j=lo+l
    ·subst c3;rw [DK,hk];have:=h1 (i - lo) (by omega)
     rwa [show lo+(i - lo)=i by omega] at this
    ·by_cases c4:lo+l < j
     ·rw [ue c4 (by omega)];exact R.so _ _ (by omega) (by omega) (by omega)
     ·rw [tF (by omega) (by omega)];exact R.so _ _ (by omega) (by omega) (by omega)
theorem K4 (C:rz prog w A s o N f kd){g0:Nat->Nat}{lo n ok:Nat}(h:Sg N f kd g p st)(hn:lo+n<=N)(h1:1<=ok)(hok:ok<=n)(R:Rn o g0 g lo (lo+ok))(hid:∀ i,lo+ok<=i->i < lo+n->g0 i=i)
  {Q:Bool->SortSt->Prop} (q:∀ g' st',Sg N f kd g' p st'->Rn o g0 g' lo (lo+n)->Q true st'):wpS (model prog w) A E s (binarySort' lo n ok) Q st:=by
 rw [binarySort'_eq,show max ok 1=ok by omega];refine wpS_bind (wpS_mono (wpS_forRange (I:=λ k c st'=>c=(none,())/\∃ g',Sg N f kd g' p st'/\Rn o g0 g' lo (lo+min k n))
  (Q:=λ c st'=>c=(none,())/\∃ g',Sg N f kd g' p st'/\Rn o g0 g' lo (lo+n)) ?step ?fin ?init) ?post)
 case post=>
  rintro c st' ⟨rfl,g',h',R'⟩;exact wpS_pure (q g' st' h' R')
 case init=>exact ⟨rfl,g,h,by rw [show min ok n=ok by omega];exact R⟩
 case fin=>
  rintro c st' ⟨hc,g',h',R'⟩;exact ⟨hc,g',h',by rwa [show min (max ok n) n=n by omega] at R'⟩
 case step=>
  rintro k c st' hak hkn ⟨rfl,g',h',R'⟩;rw [show min k n=k by omega] at R';have gk:g' (lo+k)=lo+k:=by rw [R'.out _ (by omega)];exact hid _ (by omega) (by omega)
  refine wpS_bind (wpS_mono (wpS_forRange (I:=λ x c s2=>s2=st'/\∃ u v,c=(none,u,v)/\u<=v/\v<=k/\v - u<=k - x /\
    (∀ i,i < u->P o (g' (lo+i)) (lo+k))/\(∀ i,v<=i->i < k->P o (lo+k) (g' (lo+i))))
   (Q:=λ c s2=>s2=st'/\∃ u v,c=(none,u,v)/\u<=k /\
    (∀ i,i < u->P o (g' (lo+i)) (lo+k))/\(∀ i,u<=i->i < k->P o (lo+k) (g' (lo+i)))) ?istep ?ifin ?iinit) ?ipost)
  case iinit=>exact ⟨rfl,0,k,rfl,by omega,by omega,by omega,λ i hi=>by omega,λ i h1 h2=>by omega⟩
  case ifin=>
   rintro c s2 ⟨rfl,u,v,rfl,huv,hvk,hm,low,top⟩;have:u=v:=by omega
   subst this;exact ⟨rfl,u,u,rfl,hvk,low,top⟩
  case istep=>
   rintro x c s2 _ hxk ⟨rfl,u,v,rfl,huv,hvk,hm,low,top⟩;dsimp only;by_cases hge:u>=v
   ·rw [if_pos hge];have:u=v:=by omega
    subst this;exact wpS_pure ⟨rfl,u,u,rfl,hvk,low,top⟩
   ·rw [if_neg hge];have hmk:(u+v) / 2 < k:=by omega
    have gm:=R'.cl (lo+(u+v) / 2) (by omega) (by omega);refine wpS_bind (mE C h' (by omega) (by omega) ?_);rw [gk]
    cases hless:o.lt (lo+k) (g' (lo+(u+v) / 2))
    case true=>
     simp only [if_true];refine wpS_pure ⟨rfl,u,(u+v) / 2,rfl,by omega,by omega,by omega,low,λ i h1 h2=>?_⟩;by_cases c:i=(u+v) / 2
     ·subst c;exact .inl hless
     ·exact (P.of_lt hless).trans (R'.so _ _ (by omega) (by omega) (by omega))
    case false=>
     simp only [false_eq_true,if_false];refine wpS_pure ⟨rfl,(u+v) / 2+1,v,rfl,by omega,by omega,by omega,λ i h1=>?_,top⟩;have last:=P.nO hless gm.2;by_cases c:i=(u+v) / 2
     ·subst c;exact last
     ·exact (R'.so _ _ (by omega) (by omega) (by omega)).trans last
  case ipost=>
   rintro c s2 ⟨rfl,u,v,rfl,huk,low,top⟩;dsimp only;refine wpS_bind (KD h' (by omega) (by omega) λ st3 h3=>?_);refine wpS_pure ⟨rfl,_,h3,?_⟩;rw [show min (k+1) n=k+1 by omega];exact JC R' gk huk low top
end
noncomputable abbrev As:=Option (Option Nat)×Nat
noncomputable abbrev Ds:=Option (Option Nat)×Nat×Nat
noncomputable def Cp (lo a nrem:Nat):StateT SortSt Sem As:=
 forIn [a:nrem] ((none,a):As) λ _ c=>do
  let x <- ltAt' (lo+c.2) (lo+c.2 - 1)
  match x with
  | some b=>if b=true then pure (ForInStep.done (none,c.2)) else pure (ForInStep.yield (none,c.2+1))
  | _=>pure (ForInStep.done (some none,c.2))
noncomputable def u_ (lo n nrem:Nat):StateT SortSt Sem (Option Nat):=do
 reverseSlice' lo (lo+n)
 let c <- Cp lo n nrem
 match c.1 with
 | some r=>pure r
 | none=>pure (some c.2)
noncomputable def Hs (lo n nrem:Nat):StateT SortSt Sem Ds:=
 forIn [n:nrem] ((none,n,0):Ds) λ _ c=>do
  let x <- ltAt' (lo+c.2.1) (lo+c.2.1 - 1)
  match x with
  | some b=>
   if b=true then
    if c.2.2 > 0 then do
     reverseSlice' (lo+c.2.1 - (c.2.2+1)) (lo+c.2.1)
     pure (ForInStep.yield (none,c.2.1+1,0))
    else pure (ForInStep.yield (none,c.2.1+1,0))
   else do
    let x <- ltAt' (lo+c.2.1 - 1) (lo+c.2.1)
    match x with
    | some b=>
     if b=true then pure (ForInStep.done (none,c.2.1,c.2.2))
     else pure (ForInStep.yield (none,c.2.1+1,c.2.2+1))
    | _=>pure (ForInStep.done (some none,c.2.1,c.2.2))
  | _=>pure (ForInStep.done (some none,c.2.1,c.2.2))
noncomputable def BG (lo n nrem:Nat):StateT SortSt Sem (Option Nat):=do
 liftM (rule "list.sort.descending-run")
 let c <- Hs lo (n+1) nrem
 match c.1 with
 | some r=>pure r
 | none=>
  if c.2.2 > 0 then do
   reverseSlice' (lo+c.2.1 - (c.2.2+1)) (lo+c.2.1)
   u_ lo c.2.1 nrem
  else u_ lo c.2.1 nrem
theorem count_eq (lo nrem:Nat):countRun' lo nrem=(do
  let c <- Cp lo 1 nrem
  match c.1 with
  | some r=>pure r
  | none=>
   if (c.2 == nrem)=true then pure (some c.2)
   else if c.2 > 1 then do
    let x <- ltAt' lo (lo+c.2 - 1)
    match x with
    | some b=>if b=true then pure (some c.2) else do
      reverseSlice' lo (lo+c.2)
      BG lo c.2 nrem
    | _=>pure none
   else BG lo c.2 nrem):=by
 rw [countRun'_eq];dsimp only;unfold BG u_ Hs Cp;congr 1
 funext c
 obtain ⟨r,n⟩:=c
 cases r with
 | some r=>rfl
 | none=>
  dsimp only;split
  ·rfl
  ·split
   ·congr 1
    funext x
    cases x with
    | none=>rfl
    | some b=>
     dsimp only;split
     ·rfl
     ·congr 1
      funext _r
      congr 1
      funext _u
      congr 1;congr 1
      funext s2
      obtain ⟨r2,n2,q2⟩:=s2
      cases r2 with
      | some r2=>rfl
      | none=>
       dsimp only;split
       ·congr 1
        funext _v
        congr 1
        funext _w
        congr 1
        funext s3
        obtain ⟨r3,n3⟩:=s3
        cases r3 <;> rfl
       ·congr 1
        funext _w
        congr 1
        funext s3
        obtain ⟨r3,n3⟩:=s3
        cases r3 <;> rfl
   ·congr 1
    funext _u
    congr 1;congr 1
    funext s2
    obtain ⟨r2,n2,q2⟩:=s2
    cases r2 with
    | some r2=>rfl
    | none=>
     dsimp only;split
     ·congr 1
      funext _v
      congr 1
      funext _w
      congr 1
      funext s3
      obtain ⟨r3,n3⟩:=s3
      cases r3 <;> rfl
     ·congr 1
      funext _w
      congr 1
      funext s3
      obtain ⟨r3,n3⟩:=s3
      cases r3 <;> rfl
section
variable {prog:Program} {w:World} {A:Around} {E:Value->Shared->Prop} {s:Shared} {o:Ord} {N:Nat} {f:Nat->Keyed} {kd:SortKind} {g g0:Nat->Nat} {p:Array (Nat×Nat×Nat)} {st:SortSt}
theorem Rn.snoc {a b:Nat}(R:Rn o g0 g a b)(hab:a < b)(hb:g b=b)(h:o.lt b (g (b - 1))=false):Rn o g0 g a (b+1) where
 out i hi:=R.out i (by omega)
 cl i h1 h2:=by
  by_cases c:i=b
  ·subst c;omega
  ·have:=R.cl i h1 (by omega);omega
 so i j h1 h2 h3:=by
  by_cases c:j=b
  ·subst c;rw [hb];have l:=R.cl (j - 1) (by omega) (by omega);have last:P o (g (j - 1)) j:=P.nO h l.2;by_cases c2:i=j - 1
   ·subst c2;exact last
   ·exact (R.so i (j - 1) h1 (by omega) (by omega)).trans last
  ·exact R.so i j h1 h2 (by omega)
theorem E1 (C:rz prog w A s o N f kd){lo a nrem:Nat}(h:Sg N f kd g p st)(hn:lo+nrem<=N)(h1:1<=a)(han:a<=nrem)(R:Rn o g0 g lo (lo+a))(hid:∀ i,lo+a<=i->i < lo+nrem->g0 i=i)
  {Q:As->SortSt->Prop} (q:∀ n,a<=n->n<=nrem->Rn o g0 g lo (lo+n)->(n=nrem\/o.lt (lo+n) (g (lo+n - 1))=true)->Q (none,n) st):wpS (model prog w) A E s (Cp lo a nrem) Q st:=by
 unfold Cp;refine wpS_forRange (I:=λ x c st'=>st'=st/\c=(none,x)/\Rn o g0 g lo (lo+x)) ?step ?fin ⟨rfl,rfl,R⟩
 case fin=>
  rintro c st' ⟨rfl,rfl,R'⟩;rw [show max a nrem=nrem by omega] at R' ⊢;exact q nrem han (Nat.le_refl _) R' (.inl rfl)
 case step=>
  rintro x c st' hax hxn ⟨rfl,rfl,R'⟩;dsimp only;have gx:g (lo+x)=lo+x:=by rw [R'.out _ (by omega)];exact hid _ (by omega) (by omega)
  refine wpS_bind (mE C h (by omega) (by omega) ?_);rw [gx]
  cases hl:o.lt (lo+x) (g (lo+x - 1))
  case true=>
   simp only [if_true];exact wpS_pure (q x hax (by omega) R' (.inr hl))
  case false=>
   simp only [false_eq_true,if_false];exact wpS_pure ⟨rfl,rfl,R'.snoc (by omega) gx hl⟩
structure Dc (o:Ord)(g0 g:Nat->Nat)(a b q:Nat):Prop where
 out:∀ i,i < a\/b<=i->g i=g0 i
 cl:Cl g a b
 few:a+(q+1)<=b
 dn:∀ i j,a<=i->i < j->j < b->i < b - (q+1)->P o (g j) (g i)
 id:∀ i,b - (q+1)<=i->i < b->g i=i
 al:∀ i j,b - (q+1)<=i->i < b->b - (q+1)<=j->j < b->o.lt i j=false
theorem Dc.turn {a b q:Nat}(D:Dc o g0 g a b q):(∀ i,i < a\/b<=i->rev g (b - (q+1)) b i=g0 i)/\Cl (rev g (b - (q+1)) b) a b/\(∀ i j,a<=i->i < j->j < b->P o (rev g (b - (q+1)) b j) (rev g (b - (q+1)) b i))/\(∀ i,b - (q+1)<=i->i < b->∃ k,rev g (b - (q+1)) b i=k/\b - (q+1)<=k/\k < b):=by
 have few:=D.few;have inn:∀ i,b - (q+1)<=i->i < b->rev g (b - (q+1)) b i=b - (q+1)+b - 1 - i:=λ i h1 h2=>by
  rw [p_ h1 h2];exact D.id _ (by omega) (by omega)
 refine ⟨λ i hi=>?_,λ i h1 h2=>?_,λ i j h1 h2 h3=>?_,λ i h1 h2=>⟨_,inn i h1 h2,by omega,by omega⟩⟩
 ·rw [gp (by omega)];exact D.out i hi
 ·by_cases c:i < b - (q+1)
  ·rw [gp (by omega)];exact D.cl i h1 h2
  ·rw [inn i (by omega) h2];omega
 ·by_cases c:i < b - (q+1)
  ·rw [gp (k:=i) (by omega)];by_cases c2:j < b - (q+1)
   ·rw [gp (by omega)];exact D.dn i j h1 h2 h3 c
   ·rw [inn j (by omega) h3];have:=D.dn i (b - (q+1)+b - 1 - j) h1 (by omega) (by omega) c
    rwa [D.id _ (by omega) (by omega)] at this
  ·rw [inn i (by omega) (by omega),inn j (by omega) h3];exact P.nO (D.al _ _ (by omega) (by omega) (by omega) (by omega)) (by omega)
noncomputable def Fin (o:Ord)(g0 g:Nat->Nat)(a b:Nat):Prop:=(∀ i,i < a\/b<=i->g i=g0 i)/\Cl g a b/\(∀ i j,a<=i->i < j->j < b->P o (g j) (g i))
theorem Dc.vm {a b:Nat}(D:Dc o g0 g a b 0):Fin o g0 g a b:=⟨D.out,D.cl,λ i j h1 h2 h3=>D.dn i j h1 h2 h3 (by omega)⟩
theorem Fin.rn {a b:Nat}(D:Fin o g0 g a b):Rn o g0 (rev g a b) a b where
 out i hi:=by rw [gp hi];exact D.1 i hi
 cl i h1 h2:=by
  rw [p_ h1 h2];exact D.2.1 _ (by omega) (by omega)
 so i j h1 h2 h3:=by
  rw [p_ h1 (by omega),p_ (by omega) h3];exact D.2.2 _ _ (by omega) (by omega) (by omega)
theorem Fin.add {a b:Nat}(D:Fin o g0 g a b)(hb:g b=b)(hab:a < b)(h:∀ i,a<=i->i < b->P o b (g i)):Dc o g0 g a (b+1) 0 where
 out i hi:=D.1 i (by omega)
 cl i h1 h2:=by
  by_cases c:i=b
  ·subst c;omega
  ·have:=D.2.1 i h1 (by omega);omega
 few:=by omega
 dn i j h1 h2 h3 _:=by
  by_cases c:j=b
  ·subst c;rw [hb];exact h i h1 h2
  ·exact D.2.2 i j h1 h2 (by omega)
 id i h1 h2:=by
  have:i=b:=by omega
  rw [this,hb]
 al i j h1 h2 h3 h4:=by
  have:i=j:=by omega
  rw [this];exact o.Ho _
theorem xU (C:rz prog w A s o N f kd){lo n nrem:Nat}(h:Sg N f kd g p st)(hn:lo+nrem<=N)(h1:1<=n)(han:n<=nrem)(D:Fin o g0 g lo (lo+n))(hid:∀ i,lo<=i->i < lo+nrem->g0 i=i)
  {Q:Option Nat->SortSt->Prop} (q:∀ m g' st',Sg N f kd g' p st'->1<=m->m<=nrem->Rn o g0 g' lo (lo+m)->Q (some m) st'):wpS (model prog w) A E s (u_ lo n nrem) Q st:=by
 unfold u_;refine wpS_bind (oh h (by omega) λ st2 h2=>?_);exact wpS_bind (E1 C h2 hn h1 han D.rn (λ i a b=>hid i (by omega) b) λ m hm1 hm2 R _=>wpS_pure (q m _ _ h2 (by omega) hm2 R))
theorem Kr (C:rz prog w A s o N f kd){lo n nrem:Nat}(h:Sg N f kd g p st)(hn:lo+nrem<=N)(h1:1<=n)(han:n<=nrem)(D:Dc o g0 g lo (lo+n) 0)(hid:∀ i,lo<=i->i < lo+nrem->g0 i=i)
  {Q:Ds->SortSt->Prop} (q:∀ m e g' st',Sg N f kd g' p st'->1<=m->m<=nrem->Dc o g0 g' lo (lo+m) e->Q (none,m,e) st'):wpS (model prog w) A E s (Hs lo n nrem) Q st:=by
 unfold Hs;refine wpS_forRange (I:=λ x c st'=>∃ e g',c=(none,x,e)/\Sg N f kd g' p st'/\Dc o g0 g' lo (lo+x) e) ?step ?fin ⟨0,g,rfl,h,D⟩
 case fin=>
  rintro c st' ⟨e,g',rfl,h',D'⟩;rw [show max n nrem=nrem by omega] at D' ⊢;exact q nrem e g' st' h' (by omega) (Nat.le_refl _) D'
 case step=>
  rintro x c st' hax hxn ⟨e,g',rfl,h',D'⟩;dsimp only;have few:=D'.few;have gx:g' (lo+x)=lo+x:=by rw [D'.out _ (by omega)];exact hid _ (by omega) (by omega)
  have gy:g' (lo+x - 1)=lo+x - 1:=D'.id _ (by omega) (by omega);refine wpS_bind (mE C h' (by omega) (by omega) ?_);rw [gx,gy]
  cases hl:o.lt (lo+x) (lo+x - 1)
  case true=>
   simp only [if_true];by_cases he:e > 0
   ·rw [if_pos he];obtain ⟨t1,t2,t3,t4⟩:=D'.turn;refine wpS_bind (oh h' (by omega) λ st2 h2=>wpS_pure ⟨0,_,rfl,h2,?_⟩);refine Fin.add (b:=lo+x) ⟨t1,t2,t3⟩ (by rw [gp (by omega)];exact gx) (by omega) λ i a b=>?_;by_cases c:lo+x - (e+1)<=i
    ·obtain ⟨k,ek,k1,k2⟩:=t4 i c b;rw [ek]
     rcases o.neg _ k _ hl with z | z
     ·exact .inl z
     ·rw [D'.al _ _ k1 k2 (by omega) (by omega)] at z;cases z
    ·rw [gp (by omega)];have:=D'.dn i (lo+x - 1) a (by omega) (by omega) (by omega);rw [gy] at this;exact (P.of_lt hl).trans this
   ·rw [if_neg he];have:e=0:=by omega
    subst this;refine wpS_pure ⟨0,_,rfl,h',Fin.add (b:=lo+x) D'.vm gx (by omega) λ i a b=>?_⟩;by_cases c:i=lo+x - 1
    ·subst c;rw [gy];exact .inl hl
    ·have:=D'.dn i (lo+x - 1) a (by omega) (by omega) (by omega);rw [gy] at this;exact (P.of_lt hl).trans this
  case false=>
   simp only [false_eq_true,if_false];refine wpS_bind (mE C h' (by omega) (by omega) ?_);rw [gx,gy]
   cases hg:o.lt (lo+x - 1) (lo+x)
   case true=>
    simp only [if_true];exact wpS_pure (q x e g' st' h' (by omega) (by omega) D')
   case false=>
    simp only [false_eq_true,if_false];refine wpS_pure ⟨e+1,g',rfl,h',?_⟩;have eq1:∀ i,lo+x - (e+1)<=i->i < lo+x->o.lt i (lo+x)=false/\o.lt (lo+x) i=false:=λ i a b=>by
     constructor
     ·cases z:o.lt i (lo+x) with
      | false=>rfl
      | true=>
       rcases o.neg _ (lo+x - 1) _ z with y | y
       ·rw [D'.al _ _ a b (by omega) (by omega)] at y;cases y
       ·rw [hg] at y;cases y
     ·cases z:o.lt (lo+x) i with
      | false=>rfl
      | true=>
       rcases o.neg _ (lo+x - 1) _ z with y | y
       ·rw [hl] at y;cases y
       ·rw [D'.al _ _ (by omega) (by omega) a b] at y;cases y
    exact {
     out:=λ i hi=>D'.out i (by omega)
     cl:=λ i a b=>by
      by_cases c:i=lo+x
      ·subst c;omega
      ·have:=D'.cl i a (by omega);omega
     few:=by omega
     dn:=λ i j a b c d=>by
      by_cases z:j=lo+x
      ·subst z;rw [gx];have y:=D'.dn i (lo+x - 1) a (by omega) (by omega) (by omega);rw [gy] at y;have gi:=D'.cl i a (by omega)
       rcases y with y | ⟨_,y⟩
       ·rcases o.neg _ (lo+x) _ y with v | v
        ·rw [hg] at v;cases v
        ·exact .inl v
       ·omega
      ·exact D'.dn i j a b (by omega) (by omega)
     id:=λ i a b=>by
      by_cases z:i=lo+x
      ·subst z;exact gx
      ·exact D'.id i (by omega) (by omega)
     al:=λ i j a b c d=>by
      by_cases z:i=lo+x
      ·subst z;by_cases y:j=lo+x
       ·subst y;exact o.Ho _
       ·exact (eq1 j (by omega) (by omega)).2
      ·by_cases y:j=lo+x
       ·subst y;exact (eq1 i (by omega) (by omega)).1
       ·exact D'.al i j (by omega) (by omega) (by omega) (by omega) }
theorem yt (C:rz prog w A s o N f kd){lo n nrem:Nat}(h:Sg N f kd g p st)(hn:lo+nrem<=N)(han:n+1<=nrem)(D:Dc o g0 g lo (lo+(n+1)) 0)(hid:∀ i,lo<=i->i < lo+nrem->g0 i=i)
  {Q:Option Nat->SortSt->Prop} (q:∀ m g' st',Sg N f kd g' p st'->1<=m->m<=nrem->Rn o g0 g' lo (lo+m)->Q (some m) st'):wpS (model prog w) A E s (BG lo n nrem) Q st:=by
 unfold BG;refine wpS_bind (wpS_lift (wpAny_rule ⟨rfl,?_⟩));refine wpS_bind (Kr C h hn (by omega) han D hid λ m e g' st' h' m1 m2 D'=>?_);dsimp only;by_cases he:e > 0
 ·rw [if_pos he];obtain ⟨t1,t2,t3,_⟩:=D'.turn;exact wpS_bind (oh h' (by omega) λ st2 h2=>xU C h2 hn m1 m2 ⟨t1,t2,t3⟩ hid q)
 ·rw [if_neg he];have:e=0:=by omega
  subst this;exact xU C h' hn m1 m2 D'.vm hid q
theorem Du (C:rz prog w A s o N f kd){lo nrem:Nat}(h:Sg N f kd g p st)(hn:lo+nrem<=N)(h1:1<=nrem)(hid:∀ i,lo<=i->i < lo+nrem->g i=i)
  {Q:Option Nat->SortSt->Prop} (q:∀ m g' st',Sg N f kd g' p st'->1<=m->m<=nrem->Rn o g g' lo (lo+m)->Q (some m) st'):wpS (model prog w) A E s (countRun' lo nrem) Q st:=by
 rw [count_eq];refine wpS_bind (E1 C h hn (Nat.le_refl 1) h1 (g0:=g) ⟨λ _ _=>rfl,λ i a b=>?_,λ i j a b c=>by omega⟩ (λ i a b=>hid i (by omega) b) λ n n1 n2 R hor=>?_)
 ·have:i=lo:=by omega
  subst this;rw [hid i (Nat.le_refl _) (by omega)];omega
 dsimp only;by_cases hnn:n=nrem
 ·rw [if_pos (by simpa using hnn)];exact wpS_pure (q n g st h n1 n2 R)
 ·rw [if_neg (by simpa using hnn)];have hlt:=hor.resolve_left hnn;rw [hid (lo+n - 1) (by omega) (by omega)] at hlt;have gn:g (lo+n)=lo+n:=hid _ (by omega) (by omega);by_cases hgt:n > 1
  ·rw [if_pos hgt];refine wpS_bind (mE C h (by omega) (by omega) ?_);rw [hid lo (by omega) (by omega),hid (lo+n - 1) (by omega) (by omega)]
   cases hr:o.lt lo (lo+n - 1)
   case true=>
    simp only [if_true];exact wpS_pure (q n g st h n1 n2 R)
   case false=>
    simp only [false_eq_true,if_false];have id':∀ i,lo<=i->i < lo+n->g i=i:=λ i a b=>hid i a (by omega);have pp:∀ i j,lo<=i->i < j->j < lo+n->o.lt i j=false/\o.lt j i=false:=λ i j a b c=>by
     have r:=R.so i j a b c;rw [id' i a (by omega),id' j (by omega) c] at r;refine ⟨?_,r.ge⟩
     cases z:o.lt i j with
     | false=>rfl
     | true=>
      rcases o.neg _ lo _ z with y | y
      ·by_cases x:i=lo
       ·subst x;rw [o.Ho] at y;cases y
       ·have r2:=R.so lo i (by omega) (by omega) (by omega);rw [id' i a (by omega),id' lo (by omega) (by omega)] at r2;rw [r2.ge] at y;cases y
      ·rcases o.neg _ (lo+n - 1) _ y with x | x
       ·rw [hr] at x;cases x
       ·by_cases v:j=lo+n - 1
        ·subst v;rw [o.Ho] at x;cases x
        ·have r2:=R.so j (lo+n - 1) (by omega) (by omega) (by omega);rw [id' j (by omega) c,id' (lo+n - 1) (by omega) (by omega)] at r2;rw [r2.ge] at x;cases x
    refine wpS_bind (oh h (by omega) λ st2 h2=>yt C h2 hn (by omega) ?_ hid q);have rin:∀ i,lo<=i->i < lo+n->rev g lo (lo+n) i=lo+(lo+n) - 1 - i:=λ i a b=>by rw [p_ a b];exact id' _ (by omega) (by omega)
    refine Fin.add (b:=lo+n) ⟨λ i hi=>gp hi,λ i a b=>by rw [rin i a b];omega,λ i j a b c=>?_⟩ (by rw [gp (by omega)];exact gn) (by omega) λ i a b=>?_
    ·rw [rin i a (by omega),rin j (by omega) c];exact P.nO (pp _ _ (by omega) (by omega) (by omega)).2 (by omega)
    ·rw [rin i a b];by_cases x:lo+(lo+n) - 1 - i=lo+n - 1
     ·rw [x];exact .inl hlt
     ·rcases o.neg _ (lo+(lo+n) - 1 - i) _ hlt with z | z
      ·exact .inl z
      ·rw [(pp _ _ (by omega) (by omega) (by omega)).1] at z;cases z
  ·rw [if_neg hgt];have:n=1:=by omega
   subst this;refine yt C h hn (by omega) ?_ hid q;refine Fin.add (b:=lo+1) ⟨λ i hi=>rfl,R.cl,λ i j a b c=>by omega⟩ gn (by omega) λ i a b=>?_;have:i=lo:=by omega
   subst this;rw [hid i (by omega) (by omega)];rw [show i+1 - 1=i by omega] at hlt;exact .inl hlt
end
noncomputable def dP:Bool->Keyed->Array Keyed->Nat->Nat->Nat->StateT SortSt Sem (Option Nat):=sortPriv% PySem.Builtin.gallop
noncomputable def Lp (ask:Nat->StateT SortSt Sem (Option Bool))(n at0:Nat):StateT SortSt Sem (Option Nat):=do
 let mut was:=0
 let mut far:=1
 let mut low:=0
 let mut top:=0
 let some yes <- ask at0 | return none
 if yes then
  let most:=n - at0
  for _ in [0:n] do
   if far>=most then break
   let some ok <- ask (at0+far) | return none
   if !ok then break
   was:=far
   far:=2 * far+1
  low:=at0+was+1
  top:=at0+min far most
 else
  let most:=at0+1
  for _ in [0:n] do
   if far>=most then break
   let some hit <- ask (at0 - far) | return none
   if hit then break
   was:=far
   far:=2 * far+1
  low:=at0+1 - min far most
  top:=at0 - was
 for _ in [0:n] do
  if low>=top then break
  let m:=low+(top - low) / 2
  let some ok <- ask m | return none
  if ok then low:=m+1 else top:=m
 return some top
theorem qZ (left:Bool)(key:Keyed)(arr:Array Keyed)(base n hint:Nat):dP left key arr base n hint=Lp (λ i=>do
  let x <- elem' arr (base+i)
  if left then lt' x key else return (<- lt' key x).map (!·)) n hint:=rfl
section
variable {prog:Program} {w:World} {A:Around} {E:Value->Shared->Prop} {s:Shared} {st:SortSt}
noncomputable def NS (be:Nat->StateT SortSt Sem (Option Bool))(n l0 h0:Nat):StateT SortSt Sem (Option Nat):=do
 let mut low:=l0
 let mut top:=h0
 for _ in [0:n] do
  if low>=top then break
  let m:=low+(top - low) / 2
  let some ok <- be m | return none
  if ok then low:=m+1 else top:=m
 return some top
theorem Iq {be:Nat->StateT SortSt Sem (Option Bool)}{n l0 h0:Nat}(b:Nat->Bool)(hbe:∀ i,i < n->∀ Q:Option Bool->SortSt->Prop,Q (some (b i)) st->wpS (model prog w) A E s (be i) Q st)(hb:∀ i j,i<=j->j < n->b j=true->b i=true)
  (hlh:l0<=h0) (hn:h0<=n) (hl:∀ i,i < l0->b i=true) (hh:∀ i,h0<=i->i < n->b i=false)
  {Q:Option Nat->SortSt->Prop} (q:∀ k,k<=n->(∀ i,i < k->b i=true)->(∀ i,k<=i->i < n->b i=false)->Q (some k) st):wpS (model prog w) A E s (NS be n l0 h0) Q st:=by
 unfold NS;refine wpS_bind (wpS_mono (wpS_forRange (I:=λ x c st'=>st'=st/\∃ lo hi,c=(none,lo,hi)/\lo<=hi/\hi<=n/\hi - lo<=n - x/\(∀ i,i < lo->b i=true)/\(∀ i,hi<=i->i < n->b i=false))
  (Q:=λ c st'=>st'=st/\∃ k,c=(none,k,k)/\k<=n/\(∀ i,i < k->b i=true)/\(∀ i,k<=i->i < n->b i=false)) ?step ?fin ⟨rfl,l0,h0,rfl,hlh,hn,by omega,hl,hh⟩) ?post)
 case post=>
  rintro c st' ⟨rfl,k,rfl,h1,h2,h3⟩;exact wpS_pure (q k h1 h2 h3)
 case fin=>
  rintro c st' ⟨rfl,lo,hi,rfl,h1,h2,h3,h4,h5⟩;have:lo=hi:=by omega
  subst this;exact ⟨rfl,lo,rfl,h2,h4,h5⟩
 case step=>
  rintro x c st' _ hx ⟨rfl,lo,hi,rfl,h1,h2,h3,h4,h5⟩;dsimp only;by_cases hge:lo>=hi
  ·rw [if_pos hge];have:lo=hi:=by omega
   subst this;exact wpS_pure ⟨rfl,lo,rfl,h2,h4,h5⟩
  ·rw [if_neg hge];have hm:lo+(hi - lo) / 2 < hi:=by omega
   obtain ⟨m,hm'⟩:∃ m,m=lo+(hi - lo) / 2:=⟨_,rfl⟩;rw [<- hm'] at hm ⊢;refine wpS_bind (hbe m (by omega) _ ?_)
   cases hv:b m
   ·simp only [false_eq_true,if_false];refine wpS_pure ⟨rfl,lo,m,rfl,by omega,by omega,by omega,h4,λ i a c=>?_⟩
    cases z:b i with
    | false=>rfl
    | true=>rw [hb m i a c z] at hv;cases hv
   ·simp only [if_true];exact wpS_pure ⟨rfl,m+1,hi,rfl,by omega,h2,by omega,λ i a=>hb i m (by omega) (by omega) hv,h5⟩
theorem zR {be:Nat->StateT SortSt Sem (Option Bool)}{n hint:Nat}(b:Nat->Bool)(hbe:∀ i,i < n->∀ Q:Option Bool->SortSt->Prop,Q (some (b i)) st->wpS (model prog w) A E s (be i) Q st)(hb:∀ i j,i<=j->j < n->b j=true->b i=true)(hh:hint < n)
  {Q:Option Nat->SortSt->Prop} (q:∀ k,k<=n->(∀ i,i < k->b i=true)->(∀ i,k<=i->i < n->b i=false)->Q (some k) st):wpS (model prog w) A E s (Lp be n hint) Q st:=by
 unfold Lp;have hb':∀ i j,i<=j->j < n->b i=false->b j=false:=λ i j a c d=>by
  cases z:b j with
  | false=>rfl
  | true=>rw [hb i j a c z] at d;cases d
 refine wpS_bind (hbe hint hh _ ?_)
 cases hr:b hint
 ·dsimp only;simp only [false_eq_true,if_false];refine wpS_bind (wpS_mono (wpS_forRange (I:=λ x c st'=>st'=st/\∃ l u,c=(none,l,u)/\x+1<=u/\l < u/\l<=hint/\b (hint - l)=false)
   (Q:=λ c st'=>st'=st/\∃ l u,c=(none,l,u)/\l < u/\l<=hint/\b (hint - l)=false/\(u>=hint+1\/b (hint - u)=true)) ?step ?fin ⟨rfl,0,1,rfl,by omega,by omega,by omega,hr⟩) ?post)
  case post=>
   rintro c st' ⟨rfl,l,u,rfl,h1,h2,h3,h4⟩;dsimp only;refine (Iq b hbe hb (l0:=hint+1 - min u (hint+1)) (h0:=hint - l) (by omega) (by omega) (λ i a=>?_) (λ i a c=>hb' _ _ a c h3) q:wpS (model prog w) A E s (NS be n _ _) Q st')
   rcases h4 with h4 | h4
   ·omega
   ·exact hb i (hint - u) (by omega) (by omega) h4
  case fin=>
   rintro c st' ⟨rfl,l,u,rfl,h1,h2,h3,h4⟩;exact ⟨rfl,l,u,rfl,h2,h3,h4,.inl (by omega)⟩
  case step=>
   rintro x c st' _ hx ⟨rfl,l,u,rfl,h1,h2,h3,h4⟩;dsimp only;by_cases hge:u>=hint+1
   ·rw [if_pos hge];exact wpS_pure ⟨rfl,l,u,rfl,h2,h3,h4,.inl hge⟩
   ·rw [if_neg hge];refine wpS_bind (hbe _ (by omega) _ ?_)
    cases hv:b (hint - u)
    ·simp only [false_eq_true,if_false];exact wpS_pure ⟨rfl,u,2 * u+1,rfl,by omega,by omega,by omega,hv⟩
    ·simp only [if_true];exact wpS_pure ⟨rfl,l,u,rfl,h2,h3,h4,.inr hv⟩
 ·dsimp only;simp only [if_true];refine wpS_bind (wpS_mono (wpS_forRange (I:=λ x c st'=>st'=st/\∃ l u,c=(none,l,u)/\x+1<=u/\l < u/\hint+l < n/\b (hint+l)=true)
   (Q:=λ c st'=>st'=st/\∃ l u,c=(none,l,u)/\l < u/\hint+l < n/\b (hint+l)=true/\(u>=n - hint\/b (hint+u)=false)) ?DH ?fin2 ⟨rfl,0,1,rfl,by omega,by omega,by omega,hr⟩) ?post2)
  case post2=>
   rintro c st' ⟨rfl,l,u,rfl,h1,h2,h3,h4⟩;dsimp only;refine (Iq b hbe hb (l0:=hint+l+1) (h0:=hint+min u (n - hint)) (by omega) (by omega) (λ i a=>hb i _ (by omega) h2 h3) (λ i a c=>?_) q:wpS (model prog w) A E s (NS be n _ _) Q st')
   rcases h4 with h4 | h4
   ·omega
   ·exact hb' (hint+u) i (by omega) c h4
  case fin2=>
   rintro c st' ⟨rfl,l,u,rfl,h1,h2,h3,h4⟩;exact ⟨rfl,l,u,rfl,h2,h3,h4,.inl (by omega)⟩
  case DH=>
   rintro x c st' _ hx ⟨rfl,l,u,rfl,h1,h2,h3,h4⟩;dsimp only;by_cases hge:u>=n - hint
   ·rw [if_pos hge];exact wpS_pure ⟨rfl,l,u,rfl,h2,h3,h4,.inl hge⟩
   ·rw [if_neg hge];refine wpS_bind (hbe _ (by omega) _ ?_)
    cases hv:b (hint+u)
    ·simp only [Bool.not_false,if_true];exact wpS_pure ⟨rfl,l,u,rfl,h2,h3,h4,.inr hv⟩
    ·simp only [Bool.not_true,false_eq_true,if_false];exact wpS_pure ⟨rfl,u,2 * u+1,rfl,by omega,by omega,by omega,hv⟩
end
section
variable {prog:Program} {w:World} {A:Around} {E:Value->Shared->Prop} {s:Shared} {o:Ord} {N:Nat} {f:Nat->Keyed} {kd:SortKind} {st:SortSt}
theorem Cq (C:rz prog w A s o N f kd)(hk:kindOf st=kd){key base n hint:Nat}{arr:Array Keyed}{h:Nat->Nat}(ha:∀ i,i < n->arr[base+i]?=some (f (h i)))(hN:∀ i,i < n->h i < key)(hkN:key < N)(so:So o h 0 n)(hh:hint < n)
  {Q:Option Nat->SortSt->Prop} (q:∀ k,k<=n->(∀ i,i < k->P o (h i) key)->(∀ i,k<=i->i < n->P o key (h i))->Q (some k) st):wpS (model prog w) A E s (dP false (f key) arr base n hint) Q st:=by
 rw [qZ];refine zR (λ i=>!o.lt key (h i)) (λ i hi Q' q'=>?_) (λ i j a b c=>?_) hh λ k h1 h2 h3=>q k h1 (λ i a=>?_) λ i a b=>?_
 ·refine wpS_bind (bz (ha i hi) ?_);simp only [false_eq_true,if_false];exact wpS_bind (o5 C hk hkN (by have:=hN i hi;omega) (wpS_pure q'))
 ·by_cases z:i=j
  ·subst z;exact c
  ·have r:=so i j (zero_le _) (by omega) b;have c':o.lt key (h j)=false:=by simpa using c
   cases e:o.lt key (h i) with
   | false=>rfl
   | true=>
    have:=(P.of_lt e).trans r;rw [this.lt (hN j b)] at c';cases c'
 ·have:=h2 i a;exact P.nO (by simpa using this) (hN i (by omega))
 ·have:=h3 i a b;exact .inl (by simpa using this)
theorem CH (C:rz prog w A s o N f kd)(hk:kindOf st=kd){key base n hint:Nat}{arr:Array Keyed}{h:Nat->Nat}(ha:∀ i,i < n->arr[base+i]?=some (f (h i)))(hN:∀ i,i < n->key < h i/\h i < N)(so:So o h 0 n)(hh:hint < n)
  {Q:Option Nat->SortSt->Prop} (q:∀ k,k<=n->(∀ i,i < k->P o (h i) key)->(∀ i,k<=i->i < n->P o key (h i))->Q (some k) st):wpS (model prog w) A E s (dP true (f key) arr base n hint) Q st:=by
 rw [qZ];refine zR (λ i=>o.lt (h i) key) (λ i hi Q' q'=>?_) (λ i j a b c=>?_) hh λ k h1 h2 h3=>q k h1 (λ i a=>?_) λ i a b=>?_
 ·refine wpS_bind (bz (ha i hi) ?_);simp only [if_true];exact o5 C hk (hN i hi).2 (by have:=hN i hi;omega) q'
 ·by_cases z:i=j
  ·subst z;exact c
  ·have r:=so i j (zero_le _) (by omega) b;exact (r.trans (P.of_lt c)).lt (hN i (by omega)).1
 ·exact .inl (h2 i a)
 ·exact P.nO (h3 i a b) (hN i b).1
end
noncomputable def oN:Array Keyed->Array Keyed->StateT SortSt Sem (Array Keyed):=sortPriv% PySem.Builtin.mergeLo
noncomputable def pM:Array Keyed->Array Keyed->StateT SortSt Sem (Array Keyed):=sortPriv% PySem.Builtin.mergeHi
noncomputable def nP:Nat->StateT SortSt Sem Unit:=sortPriv% PySem.Builtin.setMinGallop
theorem FW (m:Nat):nP m=modify λ s=>SortSt.mk' (kindOf s) (arrOf s) (pendingOf s) m (failedOf s):=rfl
theorem wL (a b:Array Keyed):oN a b=(do
 rule "list.sort.merge-lo"
 let all_:=a.size+b.size
 let end1 (acc:Array Keyed) (p q:Nat):=acc++a.extract p a.size++b.extract q b.size
 let end2 (acc:Array Keyed) (p q:Nat):=acc++b.extract q b.size++a.extract p a.size
 let mut acc:Array Keyed:=#[<- elem' b 0]
 let mut p:=0
 let mut q:=1
 if q == b.size then return end1 acc p q
 if p+1 == a.size then return end2 acc p q
 let mut mg:=gallopOf (<- get)
 for _ in [0:all_] do
  let mut ca:=0
  let mut cb:=0
  for _ in [0:all_] do
   let some won <- lt' (<- elem' b q) (<- elem' a p) | return end1 acc p q
   if won then
    acc:=acc.push (<- elem' b q);q:=q+1;cb:=cb+1;ca:=0
    if q == b.size then return end1 acc p q
    if cb>=mg then break
   else
    acc:=acc.push (<- elem' a p);p:=p+1;ca:=ca+1;cb:=0
    if p+1 == a.size then return end2 acc p q
    if ca>=mg then break
  rule "list.sort.gallop"
  mg:=mg+1
  for _ in [0:all_] do
   if mg > 1 then mg:=mg - 1
   nP mg
   let some k <- dP false (<- elem' b q) a p (a.size - p) 0 | return end1 acc p q
   ca:=k
   if k > 0 then
    acc:=acc++a.extract p (p+k);p:=p+k
    if p+1 == a.size then return end2 acc p q
    if p == a.size then return end1 acc p q
   acc:=acc.push (<- elem' b q);q:=q+1
   if q == b.size then return end1 acc p q
   let some k <- dP true (<- elem' a p) b q (b.size - q) 0 | return end1 acc p q
   cb:=k
   if k > 0 then
    acc:=acc++b.extract q (q+k);q:=q+k
    if q == b.size then return end1 acc p q
   acc:=acc.push (<- elem' a p);p:=p+1
   if p+1 == a.size then return end2 acc p q
   if ca < 7 && cb < 7 then break
  mg:=mg+1
  nP mg
 unsupported "internal:list.sort.merge-bound"):=rfl
section
variable {o:Ord} {N:Nat} {f:Nat->Keyed} {A B hs:List Nat} {ia ib:Nat}
noncomputable def fa (f:Nat->Keyed)(l:List Nat):Array Keyed:=(l.map f).toArray
theorem j7 (l:List Nat):(fa f l).size=l.length:=by unfold fa;rw [size_toArray,length_map]
theorem CZ (l:List Nat)(i:Nat):(fa f l)[i]?=(l[i]?).map f:=by unfold fa;rw [getElem?_toArray,List.getElem?_map]
theorem dQ {l:List Nat}{i x:Nat}(h:l[i]?=some x):(fa f l)[i]?=some (f x):=by rw [CZ,h];rfl
theorem mO (l:List Nat)(x:Nat):(fa f l).push (f x)=fa f (l++[x]):=by
 unfold fa;rw [List.push_toArray,map_append];rfl
theorem gM (l m:List Nat):fa f l++fa f m=fa f (l++m):=by
 unfold fa;rw [List.append_toArray,map_append]
theorem m8 (l:List Nat)(i j:Nat):(fa f l).extract i j=fa f ((l.drop i).take (j - i)):=by
 unfold fa;rw [List.extract_toArray,List.extract_eq_take_drop,map_take,map_drop]
theorem om (l:List Nat)(i:Nat):(fa f l).extract i l.length=fa f (l.drop i):=by
 rw [m8,take_of_length_le (by rw [length_drop];omega)]
structure Ab (o:Ord)(N:Nat)(A B:List Nat):Prop where
 sa:A.Pairwise (P o)
 sb:B.Pairwise (P o)
 lt:∀ x∈A,∀ y∈B,x < y
 nb:∀ y∈B,y < N
 na:∀ x∈A,x < N
structure Mg (o:Ord)(A B hs:List Nat)(ia ib:Nat):Prop where
 la:ia<=A.length
 lb:ib<=B.length
 len:hs.length=ia+ib
 so:hs.Pairwise (P o)
 mem:∀ x∈hs,x∈A\/x∈B
 ua:∀ x∈hs,∀ y∈A.drop ia,P o x y
 ub:∀ x∈hs,∀ y∈B.drop ib,P o x y
noncomputable def Res (o:Ord)(f:Nat->Keyed)(A B:List Nat)(out:Array Keyed):Prop:=∃ hs:List Nat,out=fa f hs/\hs.length=A.length+B.length/\hs.Pairwise (P o)/\∀ x∈hs,x∈A\/x∈B
theorem jL {l:List Nat}(h:l.Pairwise (P o)){i j x y:Nat}(hx:l[i]?=some x)(hy:l[j]?=some y)(hij:i < j):P o x y:=by
 obtain ⟨h1,e1⟩:=List.getElem?_eq_some_iff.mp hx;obtain ⟨h2,e2⟩:=List.getElem?_eq_some_iff.mp hy;rw [<- e1,<- e2];exact pairwise_iff_getElem.mp h i j h1 h2 hij
theorem lG {l:List Nat}{i y:Nat}(h:y∈l.drop i):∃ j,i<=j/\l[j]?=some y:=by
 obtain ⟨k,hk⟩:=getElem?_of_mem h;rw [getElem?_drop] at hk;exact ⟨i+k,by omega,hk⟩
theorem Mg.nQ (ab:Ab o N A B)(m:Mg o A B hs ia ib){x:Nat}(hx:A[ia]?=some x)(h:∀ y∈B.drop ib,P o x y):Mg o A B (hs++[x]) (ia+1) ib:=by
 obtain ⟨h1,e1⟩:=List.getElem?_eq_some_iff.mp hx;have hd:A.drop ia=x::A.drop (ia+1):=by rw [<- e1];exact drop_eq_getElem_cons h1
 refine ⟨by omega,m.lb,by rw [length_append,m.len];show ia+ib+1=_;omega,?_,λ z hz=>?_,λ z hz y hy=>?_,λ z hz y hy=>?_⟩
 ·rw [pairwise_append];exact ⟨m.so,pairwise_singleton ..,λ a ha b hb=>by rw [mem_singleton.mp hb];exact m.ua a ha x (by rw [hd];exact mem_cons_self ..)⟩
 ·rcases mem_append.mp hz with z' | z'
  ·exact m.mem z z'
  ·rw [mem_singleton.mp z'];exact .inl (mem_of_getElem? hx)
 ·rcases mem_append.mp hz with z' | z'
  ·exact m.ua z z' y (by rw [hd];exact mem_cons_of_mem _ hy)
  ·rw [mem_singleton.mp z'];obtain ⟨j,hj,ej⟩:=lG hy;exact jL ab.sa hx ej (by omega)
 ·rcases mem_append.mp hz with z' | z'
  ·exact m.ub z z' y hy
  ·rw [mem_singleton.mp z'];exact h y hy
theorem Ab.nZ (ab:Ab o N A B)(m:Mg o A B hs ia ib){x:Nat}(hx:B[ib]?=some x)(h:∀ y∈A.drop ia,P o x y):Mg o A B (hs++[x]) ia (ib+1):=by
 obtain ⟨h1,e1⟩:=List.getElem?_eq_some_iff.mp hx;have hd:B.drop ib=x::B.drop (ib+1):=by rw [<- e1];exact drop_eq_getElem_cons h1
 refine ⟨m.la,by omega,by rw [length_append,m.len];rfl,?_,λ z hz=>?_,λ z hz y hy=>?_,λ z hz y hy=>?_⟩
 ·rw [pairwise_append];exact ⟨m.so,pairwise_singleton ..,λ a ha b hb=>by rw [mem_singleton.mp hb];exact m.ub a ha x (by rw [hd];exact mem_cons_self ..)⟩
 ·rcases mem_append.mp hz with z' | z'
  ·exact m.mem z z'
  ·rw [mem_singleton.mp z'];exact .inr (mem_of_getElem? hx)
 ·rcases mem_append.mp hz with z' | z'
  ·exact m.ua z z' y hy
  ·rw [mem_singleton.mp z'];exact h y hy
 ·rcases mem_append.mp hz with z' | z'
  ·exact m.ub z z' y (by rw [hd];exact mem_cons_of_mem _ hy)
  ·rw [mem_singleton.mp z'];obtain ⟨j,hj,ej⟩:=lG hy;exact jL ab.sb hx ej (by omega)
theorem iT {l:List Nat}(h:l.Pairwise (P o)){i x y:Nat}(hx:l[i]?=some x)(hxy:P o y x):∀ z∈l.drop i,P o y z:=λ z hz=>by
 obtain ⟨j,hj,ej⟩:=lG hz;by_cases c:j=i
 ·subst c;rw [hx] at ej;cases ej;exact hxy
 ·exact hxy.trans (jL h hx ej (by omega))
theorem take_snoc {l:List Nat}{i k x:Nat}(h:l[i+k]?=some x):(l.drop i).take (k+1)=(l.drop i).take k++[x]:=by
 have h':(l.drop i)[k]?=some x:=by rw [getElem?_drop];exact h
 obtain ⟨h1,e1⟩:=List.getElem?_eq_some_iff.mp h';rw [List.take_succ_eq_append_getElem h1,e1]
theorem Mg.pT (ab:Ab o N A B)(m:Mg o A B hs ia ib){y:Nat}(hy:B[ib]?=some y):∀ k,ia+k<=A.length->(∀ i x,i < k->A[ia+i]?=some x->P o x y)->Mg o A B (hs++(A.drop ia).take k) (ia+k) ib
 | 0,_,_=>by rw [take_zero,append_nil];exact m
 | k+1,hk,h=>by
  have ih:=Mg.pT ab m hy k (by omega) λ i x hi=>h i x (by omega);have hx:A[ia+k]?=some (A[ia+k]'(by omega)):=List.getElem?_eq_getElem _;rw [take_snoc hx,<- List.append_assoc];exact ih.nQ ab hx (iT ab.sb hy (h k _ (by omega) hx))
theorem Mg.pV (ab:Ab o N A B)(m:Mg o A B hs ia ib){y:Nat}(hy:A[ia]?=some y):∀ k,ib+k<=B.length->(∀ i x,i < k->B[ib+i]?=some x->P o x y)->Mg o A B (hs++(B.drop ib).take k) ia (ib+k)
 | 0,_,_=>by rw [take_zero,append_nil];exact m
 | k+1,hk,h=>by
  have ih:=Mg.pV ab m hy k (by omega) λ i x hi=>h i x (by omega);have hx:B[ib+k]?=some (B[ib+k]'(by omega)):=List.getElem?_eq_getElem _;rw [take_snoc hx,<- List.append_assoc];exact ab.nZ ih hx (iT ab.sa hy (h k _ (by omega) hx))
theorem nY {l:List Nat}(h:l.Pairwise (P o))(i:Nat):(l.drop i).Pairwise (P o):=h.sublist (List.drop_sublist ..)
theorem Mg.fin (ab:Ab o N A B)(m:Mg o A B hs ia ib)(h:∀ x∈A.drop ia,∀ y∈B.drop ib,P o x y):Res o f A B (fa f hs++(fa f A).extract ia A.length++(fa f B).extract ib B.length):=by
 rw [om,om,gM,gM];have la:=m.la;have lb:=m.lb;refine ⟨_,rfl,by rw [length_append,length_append,m.len,length_drop,length_drop];omega,?_,λ x hx=>?_⟩
 ·rw [pairwise_append,pairwise_append];refine ⟨⟨m.so,nY ab.sa _,m.ua⟩,nY ab.sb _,λ x hx y hy=>?_⟩
  rcases mem_append.mp hx with z | z
  ·exact m.ub x z y hy
  ·exact h x z y hy
 ·rcases mem_append.mp hx with z | z
  ·rcases mem_append.mp z with z | z
   ·exact m.mem x z
   ·exact .inl (mem_of_mem_drop z)
  ·exact .inr (mem_of_mem_drop z)
theorem Mg.Kl (ab:Ab o N A B)(m:Mg o A B hs ia ib)(h:∀ x∈A.drop ia,∀ y∈B.drop ib,P o y x):Res o f A B (fa f hs++(fa f B).extract ib B.length++(fa f A).extract ia A.length):=by
 rw [om,om,gM,gM];have la:=m.la;have lb:=m.lb;refine ⟨_,rfl,by rw [length_append,length_append,m.len,length_drop,length_drop];omega,?_,λ x hx=>?_⟩
 ·rw [pairwise_append,pairwise_append];refine ⟨⟨m.so,nY ab.sb _,m.ub⟩,nY ab.sa _,λ x hx y hy=>?_⟩
  rcases mem_append.mp hx with z | z
  ·exact m.ua x z y hy
  ·exact h y hy x z
 ·rcases mem_append.mp hx with z | z
  ·rcases mem_append.mp z with z | z
   ·exact m.mem x z
   ·exact .inr (mem_of_mem_drop z)
  ·exact .inl (mem_of_mem_drop z)
theorem drop_nil {l:List Nat}{i:Nat}(h:l.length<=i):l.drop i=[]:=List.drop_eq_nil_of_le h
theorem xV {l:List Nat}(h:l.Pairwise (P o))(b n:Nat)(hn:b+n<=l.length):So o (λ i=>l.getD (b+i) 0) 0 n:=λ i j _ hij hj=>
 jL h (i:=b+i) (j:=b+j) (by show _=some (l.getD (b+i) 0);rw [getD_eq_getElem?_getD,List.getElem?_eq_getElem (show b+i < l.length by omega)];rfl) (by show _=some (l.getD (b+j) 0);rw [getD_eq_getElem?_getD,List.getElem?_eq_getElem (show b+j < l.length by omega)];rfl) (by omega)
theorem getD_at {l:List Nat}{i:Nat}(h:i < l.length):l[i]?=some (l.getD i 0):=by
 rw [getD_eq_getElem?_getD,List.getElem?_eq_getElem h];rfl
end
structure Sm (st st':SortSt):Prop where
 a:arrOf st'=arrOf st
 k:kindOf st'=kindOf st
 p:pendingOf st'=pendingOf st
 f:failedOf st'=failedOf st
theorem Sm.refl {st:SortSt}:Sm st st:=⟨rfl,rfl,rfl,rfl⟩
theorem Sm.trans {st st' st'':SortSt}(a:Sm st st')(b:Sm st' st''):Sm st st'':=⟨b.a.trans a.a,b.k.trans a.k,b.p.trans a.p,b.f.trans a.f⟩
noncomputable abbrev G:=Option (Array Keyed)×Array Keyed×Nat×Nat×Nat×Nat×Nat
noncomputable def T3 (a b out:Array Keyed)(ia ib mg ac bc:Nat):StateT SortSt Sem (ForInStep G):=do
 let x <- elem' a ia
 if (ia+1+1 == a.size)=true then pure (ForInStep.done (some (out.push x++b.extract ib b.size++a.extract (ia+1) a.size),out.push x,ia+1,ib,mg,ac,bc))
 else if (decide (ac < 7) && decide (bc < 7))=true then pure (ForInStep.done (none,out.push x,ia+1,ib,mg,ac,bc))
 else pure (ForInStep.yield (none,out.push x,ia+1,ib,mg,ac,bc))
noncomputable def T2 (a b out:Array Keyed)(ia ib mg ac bc:Nat):StateT SortSt Sem (ForInStep G):=do
 let x <- elem' b ib
 if (ib+1 == b.size)=true then pure (ForInStep.done (some (out.push x++a.extract ia a.size++b.extract (ib+1) b.size),out.push x,ia,ib+1,mg,ac,bc))
 else
  let y <- elem' a ia
  let r <- dP true y b (ib+1) (b.size - (ib+1)) 0
  match r with
  | some k=>
   if k > 0 then
    if (ib+1+k == b.size)=true then pure (ForInStep.done (some (out.push x++b.extract (ib+1) (ib+1+k)++a.extract ia a.size++b.extract (ib+1+k) b.size),out.push x++b.extract (ib+1) (ib+1+k),ia,ib+1+k,mg,ac,k))
    else T3 a b (out.push x++b.extract (ib+1) (ib+1+k)) ia (ib+1+k) mg ac k
   else T3 a b (out.push x) ia (ib+1) mg ac k
  | _=>pure (ForInStep.done (some (out.push x++a.extract ia a.size++b.extract (ib+1) b.size),out.push x,ia,ib+1,mg,ac,bc))
noncomputable def T1 (a b out:Array Keyed)(ia ib mg ac bc:Nat):StateT SortSt Sem (ForInStep G):=do
 nP mg
 let x <- elem' b ib
 let r <- dP false x a ia (a.size - ia) 0
 match r with
 | some k=>
  if k > 0 then
   if (ia+k+1 == a.size)=true then pure (ForInStep.done (some (out++a.extract ia (ia+k)++b.extract ib b.size++a.extract (ia+k) a.size),out++a.extract ia (ia+k),ia+k,ib,mg,k,bc))
   else if (ia+k == a.size)=true then pure (ForInStep.done (some (out++a.extract ia (ia+k)++a.extract (ia+k) a.size++b.extract ib b.size),out++a.extract ia (ia+k),ia+k,ib,mg,k,bc))
   else T2 a b (out++a.extract ia (ia+k)) (ia+k) ib mg k bc
  else T2 a b out ia ib mg k bc
 | _=>pure (ForInStep.done (some (out++a.extract ia a.size++b.extract ib b.size),out,ia,ib,mg,ac,bc))
section
variable {prog:Program} {w:World} {A:Around} {E:Value->Shared->Prop} {s:Shared} {o:Ord} {N:Nat} {f:Nat->Keyed} {kd:SortKind} {st st0:SortSt} {X Y hs:List Nat} {ia ib:Nat}
theorem mq {m:Nat}(h:Sm st0 st){Q:Unit->SortSt->Prop}(q:∀ st',Sm st0 st'->Q () st'):wpS (model prog w) A E s (nP m) Q st:=by
 rw [FW];exact wpS_modify (q _ (h.trans ⟨rfl,rfl,rfl,rfl⟩))
noncomputable def On (o:Ord)(f:Nat->Keyed)(X Y:List Nat)(n:Nat)(hs:List Nat)(ia ib:Nat):Prop:=Mg o X Y hs ia ib/\ia+1 < X.length/\ib < Y.length/\n<=ia+ib
noncomputable def G2 (o:Ord)(f:Nat->Keyed)(X Y:List Nat)(n:Nat)(st0:SortSt):ForInStep G->SortSt->Prop:=λ r st'=>Sm st0 st'/\match r with
 | .done c=>(∃ r z,c=(some r,z)/\Res o f X Y r)\/∃ hs ia ib mg ac bc,c=(none,fa f hs,ia,ib,mg,ac,bc)/\On o f X Y n hs ia ib
 | .yield c=>∃ hs ia ib mg ac bc,c=(none,fa f hs,ia,ib,mg,ac,bc)/\On o f X Y n hs ia ib
noncomputable def Top (o:Ord)(X Y:List Nat):Prop:=∀ i x,X[i]?=some x->i+1=X.length->∀ y∈Y,P o y x
theorem Pq {α β γ δ κ:Type}{S:Prop}{g:α->β->γ->δ->κ}{O:α->β->γ->δ->Prop}{T:κ->Prop}(k:S->∀ a b c d,O a b c d->T (g a b c d)):∀ q,(S/\∃ a b c d,q=g a b c d/\O a b c d)->T q:=by
 rintro q ⟨s,a,b,c,d,rfl,o⟩;exact k s a b c d o
theorem Py {α β γ δ ε κ:Type}{S:Prop}{g:α->β->γ->δ->ε->κ}{O:α->β->γ->δ->ε->Prop}{T:κ->Prop}(k:S->∀ a b c d e,O a b c d e->T (g a b c d e)):∀ q,(S/\∃ a b c d e,q=g a b c d e/\O a b c d e)->T q:=by
 rintro q ⟨s,a,b,c,d,e,rfl,o⟩;exact k s a b c d e o
theorem PC {α β γ δ ε ζ κ:Type}{S:Prop}{g:α->β->γ->δ->ε->ζ->κ}{O:α->β->γ->δ->ε->ζ->Prop}{T:κ->Prop}(k:S->∀ a b c d e f,O a b c d e f->T (g a b c d e f)):∀ q,(S/\∃ a b c d e f,q=g a b c d e f/\O a b c d e f)->T q:=by
 rintro q ⟨s,a,b,c,d,e,f,rfl,o⟩;exact k s a b c d e f o
theorem Pu {α β γ δ ε κ ρ σ:Type}{S:Prop}{j:ρ->σ->κ}{R:ρ->Prop}{g:α->β->γ->δ->ε->κ}{O:α->β->γ->δ->ε->Prop}{T:κ->Prop}(k1:S->∀ r z,R r->T (j r z))(k:S->∀ a b c d e,O a b c d e->T (g a b c d e)):∀ q,(S/\((∃ r z,q=j r z/\R r)\/∃ a b c d e,q=g a b c d e/\O a b c d e))->T q:=by
 rintro q ⟨s,⟨r,z,rfl,hr⟩ | ⟨a,b,c,d,e,rfl,o⟩⟩
 ·exact k1 s r z hr
 ·exact k s a b c d e o
theorem Pj {α β γ δ ε ζ κ ρ σ:Type}{S:Prop}{j:ρ->σ->κ}{R:ρ->Prop}{g:α->β->γ->δ->ε->ζ->κ}{O:α->β->γ->δ->ε->ζ->Prop}{T:κ->Prop}(k1:S->∀ r z,R r->T (j r z))(k:S->∀ a b c d e f,O a b c d e f->T (g a b c d e f)):∀ q,(S/\((∃ r z,q=j r z/\R r)\/∃ a b c d e f,q=g a b c d e f/\O a b c d e f))->T q:=by
 rintro q ⟨s,⟨r,z,rfl,hr⟩ | ⟨a,b,c,d,e,f,rfl,o⟩⟩
 ·exact k1 s r z hr
 ·exact k s a b c d e f o
theorem mh (ab:Ab o N X Y)(tp:Top o X Y)(m:Mg o X Y hs ia ib)(h:ia+1=X.length):Res o f X Y (fa f hs++(fa f Y).extract ib Y.length++(fa f X).extract ia X.length):=
 m.Kl ab λ x hx y hy=>by
  obtain ⟨j,hj,ej⟩:=lG hx;have:=(List.getElem?_eq_some_iff.mp ej).1;exact tp j x ej (by omega) y (mem_of_mem_drop hy)
theorem HN (ab:Ab o N X Y)(tp:Top o X Y)(hm:Sm st0 st){n mg ac bc x y:Nat}(m:Mg o X Y hs ia ib)(ha:ia+1 < X.length)(hb:ib < Y.length)(hn:n<=ia+ib)(hx:X[ia]?=some x)(hy:Y[ib]?=some y)(hxy:P o x y) :
  wpS (model prog w) A E s (T3 (fa f X) (fa f Y) (fa f hs) ia ib mg ac bc) (G2 o f X Y n st0) st:=by
 unfold T3;simp only [j7];refine wpS_bind (bz (dQ hx) ?_);have m2:=m.nQ ab hx (iT ab.sb hy hxy);rw [mO];by_cases c:ia+1+1=X.length
 ·rw [if_pos (by rw [c];exact beq_self_eq_true _)];exact wpS_pure ⟨hm,.inl ⟨_,_,rfl,mh ab tp m2 c⟩⟩
 ·rw [if_neg (by simpa using c)];by_cases c2:(decide (ac < 7) && decide (bc < 7))=true
  ·rw [if_pos c2];exact wpS_pure ⟨hm,.inr ⟨_,_,_,_,_,_,rfl,m2,by omega,hb,by omega⟩⟩
  ·rw [if_neg c2];exact wpS_pure ⟨hm,⟨_,_,_,_,_,_,rfl,m2,by omega,hb,by omega⟩⟩
theorem IC (C:rz prog w A s o N f kd)(hk:kindOf st=kd)(ab:Ab o N X Y)(tp:Top o X Y)(hm:Sm st0 st){n mg ac bc x y:Nat}(m:Mg o X Y hs ia ib)(ha:ia+1 < X.length)(hb:ib < Y.length)(hn:n<=ia+ib)(hx:X[ia]?=some x)(hy:Y[ib]?=some y)(hxy:P o y x) :
  wpS (model prog w) A E s (T2 (fa f X) (fa f Y) (fa f hs) ia ib mg ac bc) (G2 o f X Y n st0) st:=by
 unfold T2;simp only [j7];refine wpS_bind (bz (dQ hy) ?_);have m2:=ab.nZ m hy (iT ab.sa hx hxy);rw [mO];by_cases c:ib+1=Y.length
 ·rw [if_pos (by rw [c];exact beq_self_eq_true _)];exact wpS_pure ⟨hm,.inl ⟨_,_,rfl,m2.fin ab λ x _ y hy=>by rw [drop_nil (by omega)] at hy;cases hy⟩⟩
 ·rw [if_neg (by simpa using c)];refine wpS_bind (bz (dQ hx) ?_);refine wpS_bind (CH C hk (h:=λ i=>Y.getD (ib+1+i) 0) (λ i hi=>dQ (getD_at (by omega))) (λ i hi=>?_) (xV ab.sb _ _ (by omega)) (by omega) λ k k1 k2 k3=>?_)
  ·have:=mem_of_getElem? (getD_at (l:=Y) (i:=ib+1+i) (by omega));exact ⟨ab.lt x (mem_of_getElem? hx) _ this,ab.nb _ this⟩
  ·dsimp only;have m3:=m2.pV ab hx k (by omega) λ i z hi ez=>by
    have:=k2 i hi;rw [getD_eq_getElem?_getD,ez] at this;exact this
   by_cases c2:k > 0
   ·rw [if_pos c2,m8,show ib+1+k - (ib+1)=k by omega,gM];by_cases c3:ib+1+k=Y.length
    ·rw [if_pos (by rw [c3];exact beq_self_eq_true _)];exact wpS_pure ⟨hm,.inl ⟨_,_,rfl,m3.fin ab λ x _ y hy=>by rw [drop_nil (by omega)] at hy;cases hy⟩⟩
    ·rw [if_neg (by simpa using c3)];exact HN ab tp hm m3 ha (by omega) (by omega) hx (getD_at (by omega)) (k3 k (Nat.le_refl _) (by omega))
   ·rw [if_neg c2];have:k=0:=by omega
    subst this;exact HN ab tp hm m2 ha (by omega) (by omega) hx (getD_at (by omega)) (k3 0 (Nat.le_refl _) (by omega))
theorem NG (C:rz prog w A s o N f kd)(hk:kindOf st0=kd)(ab:Ab o N X Y)(tp:Top o X Y)(hm:Sm st0 st){n mg ac bc:Nat}(m:Mg o X Y hs ia ib)(ha:ia+1 < X.length)(hb:ib < Y.length)(hn:n<=ia+ib) :
  wpS (model prog w) A E s (T1 (fa f X) (fa f Y) (fa f hs) ia ib mg ac bc) (G2 o f X Y n st0) st:=by
 unfold T1;simp only [j7];refine wpS_bind (mq hm λ st1 hm1=>?_);have hy:=getD_at (l:=Y) (i:=ib) hb;have yB:=mem_of_getElem? hy;refine wpS_bind (bz (dQ hy) ?_);refine wpS_bind (Cq C (by rw [hm1.k];exact hk) (h:=λ i=>X.getD (ia+i) 0) (λ i hi=>dQ (getD_at (by omega))) (λ i hi=>ab.lt _ (mem_of_getElem? (getD_at (l:=X) (i:=ia+i) (by omega))) _ yB) (ab.nb _ yB) (xV ab.sa _ _ (by omega)) (by omega) λ k k1 k2 k3=>?_);dsimp only;have m3:=m.pT ab hy k (by omega) λ i z hi ez=>by
  have:=k2 i hi;rw [getD_eq_getElem?_getD,ez] at this;exact this
 by_cases c2:k > 0
 ·rw [if_pos c2,m8,show ia+k - ia=k by omega,gM];by_cases c3:ia+k+1=X.length
  ·rw [if_pos (by rw [c3];exact beq_self_eq_true _)];exact wpS_pure ⟨hm1,.inl ⟨_,_,rfl,mh ab tp m3 c3⟩⟩
  ·rw [if_neg (by simpa using c3)];by_cases c4:ia+k=X.length
   ·rw [if_pos (by rw [c4];exact beq_self_eq_true _)];exact wpS_pure ⟨hm1,.inl ⟨_,_,rfl,m3.fin ab λ x hx y _=>by rw [drop_nil (by omega)] at hx;cases hx⟩⟩
   ·rw [if_neg (by simpa using c4)];exact IC C (by rw [hm1.k];exact hk) ab tp hm1 m3 (by omega) hb (by omega) (getD_at (by omega)) hy (k3 k (Nat.le_refl _) (by omega))
 ·rw [if_neg c2];have:k=0:=by omega
  subst this;exact IC C (by rw [hm1.k];exact hk) ab tp hm1 m ha hb hn (getD_at (by omega)) hy (k3 0 (Nat.le_refl _) (by omega))
theorem MK (C:rz prog w A s o N f kd)(hk:kindOf st=kd)(ab:Ab o N X Y)(tp:Top o X Y)(h1:1<=X.length){y0:Nat}(hy0:Y[0]?=some y0)(h0:∀ x∈X,P o y0 x)
  {Q:Array Keyed->SortSt->Prop} (q:∀ out st',Sm st st'->Res o f X Y out->Q out st'):wpS (model prog w) A E s (oN (fa f X) (fa f Y)) Q st:=by
 rw [wL];refine wpS_bind (wpS_lift (wpAny_rule ⟨rfl,?_⟩));dsimp only;simp only [j7];have hY:=(List.getElem?_eq_some_iff.mp hy0).1;refine wpS_bind (bz (dQ hy0) ?_);have m0:Mg o X Y [] 0 0:=⟨zero_le _,zero_le _,rfl,List.Pairwise.nil,(λ _ h=>nomatch h),(λ _ h=>nomatch h),(λ _ h=>nomatch h)⟩;have m1:Mg o X Y [y0] 0 1:=ab.nZ m0 hy0 h0;have e1:(#[f y0]:Array Keyed)=fa f [y0]:=rfl;rw [e1];by_cases c:1=Y.length
 ·rw [if_pos (by rw [<- c];rfl)];exact wpS_pure (q _ _ Sm.refl (m1.fin ab λ x _ y hy=>by rw [drop_nil (by omega)] at hy;cases hy))
 ·rw [if_neg (by simpa using c)];by_cases c2:0+1=X.length
  ·rw [if_pos (by rw [<- c2];rfl)];exact wpS_pure (q _ _ Sm.refl (mh ab tp m1 c2))
  ·rw [if_neg (by simpa using c2)];refine wpS_bind (wpS_get ?_);refine wpS_bind (wpS_mono (wpS_forRange (I:=λ x c st'=>Sm st st'/\∃ hs ia ib mg,c=(none,fa f hs,ia,ib,mg)/\On o f X Y (x+1) hs ia ib)
    (Q:=λ c st'=>Sm st st'/\∃ r z,c=(some r,z)/\Res o f X Y r) ?step ?fin ⟨Sm.refl,_,_,_,_,rfl,m1,by omega,by omega,Nat.le_refl _⟩) ?post)
   case post=>
    rintro c st' ⟨hm,r,z,rfl,hr⟩;exact wpS_pure (q _ _ hm hr)
   case fin=>
    rintro c st' ⟨hm,hs,ia,ib,mg,rfl,m,a1,a2,a3⟩;exfalso;omega
   case step=>
    intro x c st' _ hx hh;revert hh;revert c;refine Pq λ hm hs ia ib mg ho=>?_;have m:=ho.1;have a1:=ho.2.1;have a2:=ho.2.2.1;have a3:=ho.2.2.2;clear ho;dsimp only;refine wpS_bind (wpS_mono (wpS_forRange (I:=λ x' c st''=>Sm st st''/\∃ hs ia ib ac bc,c=(none,fa f hs,ia,ib,ac,bc)/\On o f X Y (x+1+min x' 1) hs ia ib)
     (Q:=λ c st''=>Sm st st''/\((∃ r z,c=(some r,z)/\Res o f X Y r)\/∃ hs ia ib ac bc,c=(none,fa f hs,ia,ib,ac,bc)/\On o f X Y (x+1+1) hs ia ib)) ?istep ?ifin ⟨hm,_,_,_,_,_,rfl,m,a1,a2,a3⟩) ?ipost)
    case ifin=>
     rintro c st'' ⟨hm',hs,ia,ib,ac,bc,rfl,m,a1,a2,a3⟩;exact ⟨hm',.inr ⟨_,_,_,_,_,rfl,m,a1,a2,by omega⟩⟩
    case istep=>
     intro x' c st'' _ hx' hh;revert hh;revert c;refine Py λ hm' hs ia ib ac bc ho=>?_;have m:=ho.1;have a1:=ho.2.1;have a2:=ho.2.2.1;have a3:=ho.2.2.2;clear ho;dsimp only;have hy:=getD_at (l:=Y) (i:=ib) a2;have hxx:=getD_at (l:=X) (i:=ia) (by omega);have yB:=mem_of_getElem? hy;have xA:=mem_of_getElem? hxx;have lt:=ab.lt _ xA _ yB;refine wpS_bind (bz (dQ hy) ?_);refine wpS_bind (bz (dQ hxx) ?_);refine wpS_bind (o5 C (by rw [hm'.k];exact hk) (ab.nb _ yB) (ab.na _ xA) ?_)
     cases hl:o.lt (Y.getD ib 0) (X.getD ia 0)
     ·simp only [false_eq_true,if_false];refine wpS_bind (bz (dQ hxx) ?_);have m2:=m.nQ ab hxx (iT ab.sb hy (P.nO hl lt));rw [mO];by_cases c3:ia+1+1=X.length
      ·rw [if_pos (by rw [c3];exact beq_self_eq_true _)];exact wpS_pure ⟨hm',.inl ⟨_,_,rfl,mh ab tp m2 c3⟩⟩
      ·rw [if_neg (by simpa using c3)];by_cases c4:ac+1>=mg
       ·rw [if_pos c4];exact wpS_pure ⟨hm',.inr ⟨_,_,_,_,_,rfl,m2,by omega,a2,by omega⟩⟩
       ·rw [if_neg c4];exact wpS_pure ⟨hm',_,_,_,_,_,rfl,m2,by omega,a2,by omega⟩
     ·simp only [if_true];refine wpS_bind (bz (dQ hy) ?_);have m2:=ab.nZ m hy (iT ab.sa hxx (P.of_lt hl));rw [mO];by_cases c3:ib+1=Y.length
      ·rw [if_pos (by rw [c3];exact beq_self_eq_true _)];exact wpS_pure ⟨hm',.inl ⟨_,_,rfl,m2.fin ab λ x _ y hy=>by rw [drop_nil (by omega)] at hy;cases hy⟩⟩
      ·rw [if_neg (by simpa using c3)];by_cases c4:bc+1>=mg
       ·rw [if_pos c4];exact wpS_pure ⟨hm',.inr ⟨_,_,_,_,_,rfl,m2,a1,by omega,by omega⟩⟩
       ·rw [if_neg c4];exact wpS_pure ⟨hm',_,_,_,_,_,rfl,m2,a1,by omega,by omega⟩
    case ipost=>
     intro c st'' hh;revert hh;revert c;refine Pu (λ hm' r z hr=>?_) λ hm' hs ia ib ac bc ho=>?_
     ·dsimp only;exact wpS_pure ⟨hm',r,_,rfl,hr⟩
     ·have m:=ho.1;have a1:=ho.2.1;have a2:=ho.2.2.1;have a3:=ho.2.2.2;clear ho;dsimp only;refine wpS_bind (wpS_lift (wpAny_rule ⟨rfl,?_⟩));refine wpS_bind (wpS_mono (wpS_forRange (I:=λ x' c st''=>Sm st st''/\∃ hs ia ib mg ac bc,c=(none,fa f hs,ia,ib,mg,ac,bc)/\On o f X Y (x+1+1) hs ia ib)
       (Q:=λ c st''=>Sm st st''/\((∃ r z,c=(some r,z)/\Res o f X Y r)\/∃ hs ia ib mg ac bc,c=(none,fa f hs,ia,ib,mg,ac,bc)/\On o f X Y (x+1+1) hs ia ib)) ?jstep ?jfin ⟨hm',_,_,_,_,_,_,rfl,m,a1,a2,a3⟩) ?jpost)
      case jfin=>
       rintro c st3 ⟨hm3,hh⟩;exact ⟨hm3,.inr hh⟩
      case jstep=>
       intro x' c st3 _ hx' hh;revert hh;revert c;refine PC λ hm3 hs ia ib mg ac bc ho=>?_;have m:=ho.1;have a1:=ho.2.1;have a2:=ho.2.2.1;have a3:=ho.2.2.2;clear ho;dsimp only;have t1:=λ mg=>NG (n:=x+1+1) (mg:=mg) (ac:=ac) (bc:=bc) (E:=E) C hk ab tp hm3 m a1 a2 a3;unfold T1 T2 T3 at t1;simp only [j7] at t1;refine wpS_mono (Q:=G2 o f X Y (x+1+1) st) ?_ ?_
       ·by_cases c3:mg > 1
        ·rw [if_pos c3];exact t1 (mg - 1)
        ·rw [if_neg c3];exact t1 mg
       ·rintro r st4 ⟨hm4,hr⟩
        cases r with
        | done c=>exact ⟨hm4,hr⟩
        | yield c=>exact ⟨hm4,hr⟩
      case jpost=>
       intro c st3 hh;revert hh;revert c;refine Pj (λ hm3 r z hr=>?_) λ hm3 hs ia ib mg ac bc ho=>?_
       ·dsimp only;exact wpS_pure ⟨hm3,r,_,rfl,hr⟩
       ·have m:=ho.1;have a1:=ho.2.1;have a2:=ho.2.2.1;have a3:=ho.2.2.2;clear ho;dsimp only;refine wpS_bind (mq hm3 λ st4 hm4=>?_);exact wpS_pure ⟨hm4,_,_,_,_,rfl,m,a1,a2,a3⟩
end
theorem wz (a b:Array Keyed):pM a b=(do
 rule "list.sort.merge-hi"
 let all_:=a.size+b.size
 let end1 (acc:Array Keyed) (p q:Nat):=a.extract 0 p++b.extract 0 q++acc.reverse
 let end2 (acc:Array Keyed) (p q:Nat):=b.extract 0 q++a.extract 0 p++acc.reverse
 let mut p:=a.size - 1
 let mut q:=b.size
 let mut acc:Array Keyed:=#[<- elem' a p]
 if p == 0 then return end1 acc p q
 if q == 1 then return end2 acc p q
 let mut mg:=gallopOf (<- get)
 for _ in [0:all_] do
  let mut ca:=0
  let mut cb:=0
  for _ in [0:all_] do
   let some won <- lt' (<- elem' b (q - 1)) (<- elem' a (p - 1)) | return end1 acc p q
   if won then
    p:=p - 1;acc:=acc.push (<- elem' a p);ca:=ca+1;cb:=0
    if p == 0 then return end1 acc p q
    if ca>=mg then break
   else
    q:=q - 1;acc:=acc.push (<- elem' b q);cb:=cb+1;ca:=0
    if q == 1 then return end2 acc p q
    if cb>=mg then break
  rule "list.sort.gallop"
  mg:=mg+1
  for _ in [0:all_] do
   if mg > 1 then mg:=mg - 1
   nP mg
   let some t <- dP false (<- elem' b (q - 1)) a 0 p (p - 1) | return end1 acc p q
   let k:=p - t
   ca:=k
   if k > 0 then
    acc:=acc++(a.extract t p).reverse;p:=t
    if p == 0 then return end1 acc p q
   q:=q - 1;acc:=acc.push (<- elem' b q)
   if q == 1 then return end2 acc p q
   let some t <- dP true (<- elem' a (p - 1)) b 0 q (q - 1) | return end1 acc p q
   let k:=q - t
   cb:=k
   if k > 0 then
    acc:=acc++(b.extract t q).reverse;q:=t
    if q == 1 then return end2 acc p q
    if q == 0 then return end1 acc p q
   p:=p - 1;acc:=acc.push (<- elem' a p)
   if p == 0 then return end1 acc p q
   if ca < 7 && cb < 7 then break
  mg:=mg+1
  nP mg
 unsupported "internal:list.sort.merge-bound"):=rfl
section
variable {o:Ord} {N:Nat} {f:Nat->Keyed} {A B ts:List Nat} {na nb:Nat}
theorem Di (l:List Nat):(fa f l).reverse=fa f l.reverse:=by
 unfold fa;rw [List.reverse_toArray,List.map_reverse]
theorem n6 (l:List Nat)(i:Nat):(fa f l).extract 0 i=fa f (l.take i):=by
 rw [m8,drop_zero,Nat.sub_zero]
structure Mh (o:Ord)(A B ts:List Nat)(na nb:Nat):Prop where
 la:na<=A.length
 lb:nb<=B.length
 len:ts.length+na+nb=A.length+B.length
 so:ts.Pairwise (P o)
 mem:∀ x∈ts,x∈A\/x∈B
 ua:∀ y∈A.take na,∀ x∈ts,P o y x
 ub:∀ y∈B.take nb,∀ x∈ts,P o y x
theorem lV {l:List Nat}{i y:Nat}(h:y∈l.take i):∃ j,j < i/\l[j]?=some y:=by
 obtain ⟨k,hk⟩:=getElem?_of_mem h;have:=(List.getElem?_eq_some_iff.mp hk).1;rw [length_take] at this;rw [getElem?_take_of_lt (by omega)] at hk;exact ⟨k,by omega,hk⟩
theorem take_one {l:List Nat}{i x:Nat}(h:l[i]?=some x):l.take (i+1)=l.take i++[x]:=by
 obtain ⟨h1,e1⟩:=List.getElem?_eq_some_iff.mp h;rw [List.take_succ_eq_append_getElem h1,e1]
theorem Mh.nQ (ab:Ab o N A B)(m:Mh o A B ts (na+1) nb){x:Nat}(hx:A[na]?=some x)(h:∀ y∈B.take nb,P o y x):Mh o A B (x::ts) na nb:=by
 have la:=m.la;have len:=m.len;have ht:=take_one hx;have xin:x∈A.take (na+1):=by rw [ht];exact mem_append_right _ (mem_singleton.mpr rfl)
 refine ⟨by omega,m.lb,by rw [length_cons];omega,pairwise_cons.mpr ⟨λ y hy=>m.ua x xin y hy,m.so⟩,λ z hz=>?_,λ y hy z hz=>?_,λ y hy z hz=>?_⟩
 ·rcases mem_cons.mp hz with rfl | z'
  ·exact .inl (mem_of_getElem? hx)
  ·exact m.mem z z'
 ·rcases mem_cons.mp hz with rfl | z'
  ·obtain ⟨j,hj,ej⟩:=lV hy;exact jL ab.sa ej hx hj
  ·exact m.ua y (by rw [ht];exact mem_append_left _ hy) z z'
 ·rcases mem_cons.mp hz with rfl | z'
  ·exact h y hy
  ·exact m.ub y hy z z'
theorem Mh.BY (ab:Ab o N A B)(m:Mh o A B ts na (nb+1)){x:Nat}(hx:B[nb]?=some x)(h:∀ y∈A.take na,P o y x):Mh o A B (x::ts) na nb:=by
 have lb:=m.lb;have len:=m.len;have ht:=take_one hx;have xin:x∈B.take (nb+1):=by rw [ht];exact mem_append_right _ (mem_singleton.mpr rfl)
 refine ⟨m.la,by omega,by rw [length_cons];omega,pairwise_cons.mpr ⟨λ y hy=>m.ub x xin y hy,m.so⟩,λ z hz=>?_,λ y hy z hz=>?_,λ y hy z hz=>?_⟩
 ·rcases mem_cons.mp hz with rfl | z'
  ·exact .inr (mem_of_getElem? hx)
  ·exact m.mem z z'
 ·rcases mem_cons.mp hz with rfl | z'
  ·exact h y hy
  ·exact m.ua y hy z z'
 ·rcases mem_cons.mp hz with rfl | z'
  ·obtain ⟨j,hj,ej⟩:=lV hy;exact jL ab.sb ej hx hj
  ·exact m.ub y (by rw [ht];exact mem_append_left _ hy) z z'
theorem iY {l:List Nat}(h:l.Pairwise (P o)){i x y:Nat}(hx:l[i]?=some x)(hxy:P o x y):∀ z∈l.take (i+1),P o z y:=λ z hz=>by
 obtain ⟨j,hj,ej⟩:=lV hz;by_cases c:j=i
 ·subst c;rw [hx] at ej;cases ej;exact hxy
 ·exact (jL h ej hx (by omega)).trans hxy
theorem Mh.pT (ab:Ab o N A B){y:Nat}{mb:Nat}(hy:B[mb]?=some y):∀ (k:Nat) {ts:List Nat} {at_:Nat},Mh o A B ts (at_+k) (mb+1)->(∀ i x,at_<=i->i < at_+k->A[i]?=some x->P o y x)->Mh o A B ((A.drop at_).take k++ts) at_ (mb+1)
 | 0,ts,at_,m,_=>by rw [take_zero];exact m
 | k+1,ts,at_,m,h=>by
  have la:=m.la;have hx:A[at_+k]?=some (A[at_+k]'(by omega)):=List.getElem?_eq_getElem _;have m2:=Mh.nQ ab (show Mh o A B ts (at_+k+1) (mb+1) from m) hx (iY ab.sb hy (h _ _ (by omega) (by omega) hx));have m3:=Mh.pT ab hy k m2 λ i x h1 h2=>h i x h1 (by omega);rw [take_snoc hx,List.append_assoc];exact m3
theorem Mh.pV (ab:Ab o N A B){y:Nat}{ma:Nat}(hy:A[ma]?=some y):∀ (k:Nat) {ts:List Nat} {at_:Nat},Mh o A B ts (ma+1) (at_+k)->(∀ i x,at_<=i->i < at_+k->B[i]?=some x->P o y x)->Mh o A B ((B.drop at_).take k++ts) (ma+1) at_
 | 0,ts,at_,m,_=>by rw [take_zero];exact m
 | k+1,ts,at_,m,h=>by
  have lb:=m.lb;have hx:B[at_+k]?=some (B[at_+k]'(by omega)):=List.getElem?_eq_getElem _;have m2:=Mh.BY ab (show Mh o A B ts (ma+1) (at_+k+1) from m) hx (iY ab.sa hy (h _ _ (by omega) (by omega) hx));have m3:=Mh.pV ab hy k m2 λ i x h1 h2=>h i x h1 (by omega);rw [take_snoc hx,List.append_assoc];exact m3
theorem n_ {l:List Nat}(h:l.Pairwise (P o))(i:Nat):(l.take i).Pairwise (P o):=h.sublist (List.take_sublist ..)
theorem Mh.fin (ab:Ab o N A B)(m:Mh o A B ts na nb)(h:∀ x∈A.take na,∀ y∈B.take nb,P o x y):Res o f A B ((fa f A).extract 0 na++(fa f B).extract 0 nb++fa f ts):=by
 rw [n6,n6,gM,gM];have la:=m.la;have lb:=m.lb;have len:=m.len;refine ⟨_,rfl,by rw [length_append,length_append,length_take,length_take];omega,?_,λ x hx=>?_⟩
 ·rw [pairwise_append,pairwise_append];refine ⟨⟨n_ ab.sa _,n_ ab.sb _,h⟩,m.so,λ x hx y hy=>?_⟩
  rcases mem_append.mp hx with z | z
  ·exact m.ua x z y hy
  ·exact m.ub x z y hy
 ·rcases mem_append.mp hx with z | z
  ·rcases mem_append.mp z with z | z
   ·exact .inl (mem_of_mem_take z)
   ·exact .inr (mem_of_mem_take z)
  ·exact m.mem x z
theorem Mh.Kl (ab:Ab o N A B)(m:Mh o A B ts na nb)(h:∀ x∈A.take na,∀ y∈B.take nb,P o y x):Res o f A B ((fa f B).extract 0 nb++(fa f A).extract 0 na++fa f ts):=by
 rw [n6,n6,gM,gM];have la:=m.la;have lb:=m.lb;have len:=m.len;refine ⟨_,rfl,by rw [length_append,length_append,length_take,length_take];omega,?_,λ x hx=>?_⟩
 ·rw [pairwise_append,pairwise_append];refine ⟨⟨n_ ab.sb _,n_ ab.sa _,λ x hx y hy=>h y hy x hx⟩,m.so,λ x hx y hy=>?_⟩
  rcases mem_append.mp hx with z | z
  ·exact m.ub x z y hy
  ·exact m.ua x z y hy
 ·rcases mem_append.mp hx with z | z
  ·rcases mem_append.mp z with z | z
   ·exact .inr (mem_of_mem_take z)
   ·exact .inl (mem_of_mem_take z)
  ·exact m.mem x z
noncomputable def Me (o:Ord)(X Y:List Nat):Prop:=∀ y,Y[0]?=some y->∀ x∈X,P o y x
theorem j_ (ab:Ab o N A B)(bt:Me o A B)(m:Mh o A B ts na nb)(h:nb=1):Res o f A B ((fa f B).extract 0 nb++(fa f A).extract 0 na++fa f ts):=
 m.Kl ab λ x hx y hy=>by
  obtain ⟨j,hj,ej⟩:=lV hy;have:j=0:=by omega
  subst this;exact bt y ej x (mem_of_mem_take hx)
theorem Mh.vm (ab:Ab o N A B)(m:Mh o A B ts na nb)(h:na=0\/nb=0):Res o f A B ((fa f A).extract 0 na++(fa f B).extract 0 nb++fa f ts):=
 m.fin ab λ x hx y hy=>by
  rcases h with rfl | rfl
  ·rw [take_zero] at hx;cases hx
  ·rw [take_zero] at hy;cases hy
theorem oq (l:List Nat)(x:Nat):(fa f l.reverse).push (f x)=fa f (x::l).reverse:=by rw [mO,reverse_cons]
theorem BL (l m:List Nat):fa f l.reverse++(fa f m).reverse=fa f (m++l).reverse:=by rw [Di,gM,List.reverse_append]
theorem kR (l:List Nat):(fa f l.reverse).reverse=fa f l:=by rw [Di,List.reverse_reverse]
end
noncomputable abbrev H:=Option (Array Keyed)×Nat×Nat×Array Keyed×Nat×Nat×Nat
noncomputable def U3 (a b out:Array Keyed)(na nb mg ac bc:Nat):StateT SortSt Sem (ForInStep H):=do
 let x <- elem' a (na - 1)
 if (na - 1 == 0)=true then pure (ForInStep.done (some (a.extract 0 (na - 1)++b.extract 0 nb++(out.push x).reverse),na - 1,nb,out.push x,mg,ac,bc))
 else if (decide (ac < 7) && decide (bc < 7))=true then pure (ForInStep.done (none,na - 1,nb,out.push x,mg,ac,bc))
 else pure (ForInStep.yield (none,na - 1,nb,out.push x,mg,ac,bc))
noncomputable def U2 (a b out:Array Keyed)(na nb mg ac bc:Nat):StateT SortSt Sem (ForInStep H):=do
 let x <- elem' b (nb - 1)
 if (nb - 1 == 1)=true then pure (ForInStep.done (some (b.extract 0 (nb - 1)++a.extract 0 na++(out.push x).reverse),na,nb - 1,out.push x,mg,ac,bc))
 else
  let y <- elem' a (na - 1)
  let r <- dP true y b 0 (nb - 1) (nb - 1 - 1)
  match r with
  | some t=>
   if nb - 1 - t > 0 then
    if (t == 1)=true then pure (ForInStep.done (some (b.extract 0 t++a.extract 0 na++(out.push x++(b.extract t (nb - 1)).reverse).reverse),na,t,out.push x++(b.extract t (nb - 1)).reverse,mg,ac,nb - 1 - t))
    else if (t == 0)=true then pure (ForInStep.done (some (a.extract 0 na++b.extract 0 t++(out.push x++(b.extract t (nb - 1)).reverse).reverse),na,t,out.push x++(b.extract t (nb - 1)).reverse,mg,ac,nb - 1 - t))
    else U3 a b (out.push x++(b.extract t (nb - 1)).reverse) na t mg ac (nb - 1 - t)
   else U3 a b (out.push x) na (nb - 1) mg ac (nb - 1 - t)
  | _=>pure (ForInStep.done (some (a.extract 0 na++b.extract 0 (nb - 1)++(out.push x).reverse),na,nb - 1,out.push x,mg,ac,bc))
noncomputable def U1 (a b out:Array Keyed)(na nb mg ac bc:Nat):StateT SortSt Sem (ForInStep H):=do
 nP mg
 let x <- elem' b (nb - 1)
 let r <- dP false x a 0 na (na - 1)
 match r with
 | some t=>
  if na - t > 0 then
   if (t == 0)=true then pure (ForInStep.done (some (a.extract 0 t++b.extract 0 nb++(out++(a.extract t na).reverse).reverse),t,nb,out++(a.extract t na).reverse,mg,na - t,bc))
   else U2 a b (out++(a.extract t na).reverse) t nb mg (na - t) bc
  else U2 a b out na nb mg (na - t) bc
 | _=>pure (ForInStep.done (some (a.extract 0 na++b.extract 0 nb++out.reverse),na,nb,out,mg,ac,bc))
section
variable {prog:Program} {w:World} {A:Around} {E:Value->Shared->Prop} {s:Shared} {o:Ord} {N:Nat} {f:Nat->Keyed} {kd:SortKind} {st st0:SortSt} {X Y ts:List Nat} {na nb:Nat}
noncomputable def Oh (o:Ord)(X Y:List Nat)(n:Nat)(ts:List Nat)(na nb:Nat):Prop:=Mh o X Y ts na nb/\1<=na/\2<=nb/\na+nb+n<=X.length+Y.length
noncomputable def H2 (o:Ord)(f:Nat->Keyed)(X Y:List Nat)(n:Nat)(st0:SortSt):ForInStep H->SortSt->Prop:=λ r st'=>Sm st0 st'/\match r with
 | .done c=>(∃ r z,c=(some r,z)/\Res o f X Y r)\/∃ ts na nb mg ac bc,c=(none,na,nb,fa f ts.reverse,mg,ac,bc)/\Oh o X Y n ts na nb
 | .yield c=>∃ ts na nb mg ac bc,c=(none,na,nb,fa f ts.reverse,mg,ac,bc)/\Oh o X Y n ts na nb
theorem Jb (ab:Ab o N X Y)(hm:Sm st0 st){n mg ac bc x y:Nat}(m:Mh o X Y ts (na+1) (nb+1))(hb:1<=nb)(hn:na+1+(nb+1)+n<=X.length+Y.length)(hx:X[na]?=some x)(hy:Y[nb]?=some y)(hxy:P o y x) :
  wpS (model prog w) A E s (U3 (fa f X) (fa f Y) (fa f ts.reverse) (na+1) (nb+1) mg ac bc) (H2 o f X Y n st0) st:=by
 unfold U3;rw [show na+1 - 1=na by omega];refine wpS_bind (bz (dQ hx) ?_);have m2:=m.nQ ab hx (iY ab.sb hy hxy);rw [oq,kR];by_cases c:na=0
 ·rw [if_pos (by rw [c];rfl)];exact wpS_pure ⟨hm,.inl ⟨_,_,rfl,m2.vm ab (.inl c)⟩⟩
 ·rw [if_neg (by simpa using c)];by_cases c2:(decide (ac < 7) && decide (bc < 7))=true
  ·rw [if_pos c2];exact wpS_pure ⟨hm,.inr ⟨_,_,_,_,_,_,rfl,m2,by omega,by omega,by omega⟩⟩
  ·rw [if_neg c2];exact wpS_pure ⟨hm,⟨_,_,_,_,_,_,rfl,m2,by omega,by omega,by omega⟩⟩
theorem HV (C:rz prog w A s o N f kd)(hk:kindOf st=kd)(ab:Ab o N X Y)(bt:Me o X Y)(hm:Sm st0 st){n mg ac bc x y:Nat}(m:Mh o X Y ts (na+1) (nb+1))(hb:1<=nb)(hn:na+1+(nb+1)+n<=X.length+Y.length)(hx:X[na]?=some x)(hy:Y[nb]?=some y)(hxy:P o x y) :
  wpS (model prog w) A E s (U2 (fa f X) (fa f Y) (fa f ts.reverse) (na+1) (nb+1) mg ac bc) (H2 o f X Y n st0) st:=by
 unfold U2;rw [show nb+1 - 1=nb by omega,show na+1 - 1=na by omega];refine wpS_bind (bz (dQ hy) ?_);have m2:=m.BY ab hy (iY ab.sa hx hxy);have lb:=m.lb;rw [oq,kR];by_cases c:nb=1
 ·rw [if_pos (by rw [c];rfl)];exact wpS_pure ⟨hm,.inl ⟨_,_,rfl,j_ ab bt m2 c⟩⟩
 ·rw [if_neg (by simpa using c)];refine wpS_bind (bz (dQ hx) ?_);refine wpS_bind (CH C hk (h:=λ i=>Y.getD (0+i) 0) (λ i hi=>dQ (getD_at (by omega))) (λ i hi=>?_) (xV ab.sb _ _ (by omega)) (by omega) λ t t1 t2 t3=>?_)
  ·have:=mem_of_getElem? (getD_at (l:=Y) (i:=0+i) (by omega));exact ⟨ab.lt x (mem_of_getElem? hx) _ this,ab.nb _ this⟩
  ·dsimp only;have m3:=Mh.pV ab hx (nb - t) (at_:=t) (by rw [show t+(nb - t)=nb by omega];exact m2) λ i z hi1 hi2 ez=>by
    have:=t3 i hi1 (by omega);rw [zero_add,getD_eq_getElem?_getD (l:=Y),ez] at this;exact this
   by_cases c2:nb - t > 0
   ·rw [if_pos c2,m8 Y t nb,BL,kR];by_cases c3:t=1
    ·rw [if_pos (by rw [c3];rfl)];exact wpS_pure ⟨hm,.inl ⟨_,_,rfl,j_ ab bt m3 c3⟩⟩
    ·rw [if_neg (by simpa using c3)];by_cases c4:t=0
     ·rw [if_pos (by rw [c4];rfl)];exact wpS_pure ⟨hm,.inl ⟨_,_,rfl,m3.vm ab (.inr c4)⟩⟩
     ·rw [if_neg (by simpa using c4)];obtain ⟨u,rfl⟩:∃ u,t=u+1:=⟨t - 1,by omega⟩;have:=t2 u (by omega);rw [zero_add] at this;exact Jb ab hm m3 (by omega) (by omega) hx (getD_at (by omega)) this
   ·rw [if_neg c2];have:t=nb:=by omega
    subst this;obtain ⟨u,rfl⟩:∃ u,t=u+1:=⟨t - 1,by omega⟩;have:=t2 u (by omega);rw [zero_add] at this;exact Jb ab hm m2 (by omega) (by omega) hx (getD_at (by omega)) this
theorem M5 (C:rz prog w A s o N f kd)(hk:kindOf st0=kd)(ab:Ab o N X Y)(bt:Me o X Y)(hm:Sm st0 st){n mg ac bc:Nat}(m:Mh o X Y ts (na+1) (nb+1))(hb:1<=nb)(hn:na+1+(nb+1)+n<=X.length+Y.length) :
  wpS (model prog w) A E s (U1 (fa f X) (fa f Y) (fa f ts.reverse) (na+1) (nb+1) mg ac bc) (H2 o f X Y n st0) st:=by
 unfold U1;refine wpS_bind (mq hm λ st1 hm1=>?_);have lb:=m.lb;have la:=m.la;rw [show nb+1 - 1=nb by omega,show na+1 - 1=na by omega];have hy:=getD_at (l:=Y) (i:=nb) (by omega);have yB:=mem_of_getElem? hy;refine wpS_bind (bz (dQ hy) ?_);refine wpS_bind (Cq C (by rw [hm1.k];exact hk) (h:=λ i=>X.getD (0+i) 0) (λ i hi=>dQ (getD_at (by omega))) (λ i hi=>ab.lt _ (mem_of_getElem? (getD_at (l:=X) (i:=0+i) (by omega))) _ yB) (ab.nb _ yB) (xV ab.sa _ _ (by omega)) (by omega) λ t t1 t2 t3=>?_);dsimp only;have m3:=Mh.pT ab hy (na+1 - t) (at_:=t) (by rw [show t+(na+1 - t)=na+1 by omega];exact m) λ i z hi1 hi2 ez=>by
  have:=t3 i hi1 (by omega);rw [zero_add,getD_eq_getElem?_getD (l:=X),ez] at this;exact this
 by_cases c2:na+1 - t > 0
 ·rw [if_pos c2,m8 X t (na+1),BL,kR];by_cases c4:t=0
  ·rw [if_pos (by rw [c4];rfl)];exact wpS_pure ⟨hm1,.inl ⟨_,_,rfl,m3.vm ab (.inl c4)⟩⟩
  ·rw [if_neg (by simpa using c4)];obtain ⟨u,rfl⟩:∃ u,t=u+1:=⟨t - 1,by omega⟩;have:=t2 u (by omega);rw [zero_add] at this;exact HV C (by rw [hm1.k];exact hk) ab bt hm1 m3 hb (by omega) (getD_at (by omega)) hy this
 ·rw [if_neg c2];have:t=na+1:=by omega
  subst this;have:=t2 na (by omega);rw [zero_add] at this;exact HV C (by rw [hm1.k];exact hk) ab bt hm1 m hb hn (getD_at (by omega)) hy this
theorem MU (C:rz prog w A s o N f kd)(hk:kindOf st=kd)(ab:Ab o N X Y)(tp:Top o X Y)(bt:Me o X Y)(h1:1<=X.length)(h2:1<=Y.length)
  {Q:Array Keyed->SortSt->Prop} (q:∀ out st',Sm st st'->Res o f X Y out->Q out st'):wpS (model prog w) A E s (pM (fa f X) (fa f Y)) Q st:=by
 rw [wz];refine wpS_bind (wpS_lift (wpAny_rule ⟨rfl,?_⟩));dsimp only;simp only [j7];have hx0:=getD_at (l:=X) (i:=X.length - 1) (by omega);refine wpS_bind (bz (dQ hx0) ?_);have m0:Mh o X Y [] (X.length - 1+1) Y.length:=⟨by omega,Nat.le_refl _,by rw [length_nil];omega,List.Pairwise.nil,(λ _ h=>nomatch h),(λ _ _ _ h=>nomatch h),(λ _ _ _ h=>nomatch h)⟩;have m1:=m0.nQ ab hx0 λ y hy=>tp _ _ hx0 (by omega) y (mem_of_mem_take hy);obtain ⟨x0,ex0⟩:∃ x0,x0=X.getD (X.length - 1) 0:=⟨_,rfl⟩;rw [<- ex0] at m1 ⊢;have e1:(#[f x0]:Array Keyed)=fa f [x0].reverse:=rfl;rw [e1,kR];by_cases c:X.length - 1=0
 ·rw [if_pos (by rw [c];rfl)];exact wpS_pure (q _ _ Sm.refl (m1.vm ab (.inl c)))
 ·rw [if_neg (by simpa using c)];by_cases c2:Y.length=1
  ·rw [if_pos (by rw [c2];rfl)];exact wpS_pure (q _ _ Sm.refl (j_ ab bt m1 c2))
  ·rw [if_neg (by simpa using c2)];refine wpS_bind (wpS_get ?_);refine wpS_bind (wpS_mono (wpS_forRange (I:=λ x c st'=>Sm st st'/\∃ ts na nb mg,c=(none,na,nb,fa f ts.reverse,mg)/\Oh o X Y (x+1) ts na nb)
    (Q:=λ c st'=>Sm st st'/\∃ r z,c=(some r,z)/\Res o f X Y r) ?step ?fin ⟨Sm.refl,_,_,_,_,rfl,m1,by omega,by omega,by omega⟩) ?post)
   case post=>
    rintro c st' ⟨hm,r,z,rfl,hr⟩;exact wpS_pure (q _ _ hm hr)
   case fin=>
    rintro c st' ⟨hm,ts,na,nb,mg,rfl,m,a1,a2,a3⟩;exfalso;omega
   case step=>
    intro x c st' _ hx hh;revert hh;revert c;refine Pq λ hm ts na nb mg ho=>?_;have m:=ho.1;have a1:=ho.2.1;have a2:=ho.2.2.1;have a3:=ho.2.2.2;clear ho;dsimp only;refine wpS_bind (wpS_mono (wpS_forRange (I:=λ x' c st''=>Sm st st''/\∃ ts na nb ac bc,c=(none,na,nb,fa f ts.reverse,ac,bc)/\Oh o X Y (x+1+min x' 1) ts na nb)
     (Q:=λ c st''=>Sm st st''/\((∃ r z,c=(some r,z)/\Res o f X Y r)\/∃ ts na nb ac bc,c=(none,na,nb,fa f ts.reverse,ac,bc)/\Oh o X Y (x+1+1) ts na nb)) ?istep ?ifin ⟨hm,_,_,_,_,_,rfl,m,a1,a2,a3⟩) ?ipost)
    case ifin=>
     rintro c st'' ⟨hm',ts,na,nb,ac,bc,rfl,m,a1,a2,a3⟩;exact ⟨hm',.inr ⟨_,_,_,_,_,rfl,m,a1,a2,by omega⟩⟩
    case istep=>
     intro x' c st'' _ hx' hh;revert hh;revert c;refine Py λ hm' ts na nb ac bc ho=>?_;have m:=ho.1;have a1:=ho.2.1;have a2:=ho.2.2.1;have a3:=ho.2.2.2;clear ho;dsimp only;obtain ⟨u,rfl⟩:∃ u,na=u+1:=⟨na - 1,by omega⟩;obtain ⟨v,rfl⟩:∃ v,nb=v+1:=⟨nb - 1,by omega⟩;have la:=m.la;have lb:=m.lb;rw [show u+1 - 1=u by omega,show v+1 - 1=v by omega];have hy:=getD_at (l:=Y) (i:=v) (by omega);have hxx:=getD_at (l:=X) (i:=u) (by omega);have yB:=mem_of_getElem? hy;have xA:=mem_of_getElem? hxx;have lt:=ab.lt _ xA _ yB;refine wpS_bind (bz (dQ hy) ?_);refine wpS_bind (bz (dQ hxx) ?_);refine wpS_bind (o5 C (by rw [hm'.k];exact hk) (ab.nb _ yB) (ab.na _ xA) ?_)
     cases hl:o.lt (Y.getD v 0) (X.getD u 0)
     ·simp only [false_eq_true,if_false];refine wpS_bind (bz (dQ hy) ?_);have m2:=m.BY ab hy (iY ab.sa hxx (P.nO hl lt));rw [oq,kR];by_cases c3:v=1
      ·rw [if_pos (by rw [c3];rfl)];exact wpS_pure ⟨hm',.inl ⟨_,_,rfl,j_ ab bt m2 c3⟩⟩
      ·rw [if_neg (by simpa using c3)];by_cases c4:bc+1>=mg
       ·rw [if_pos c4];exact wpS_pure ⟨hm',.inr ⟨_,_,_,_,_,rfl,m2,a1,by omega,by omega⟩⟩
       ·rw [if_neg c4];exact wpS_pure ⟨hm',_,_,_,_,_,rfl,m2,a1,by omega,by omega⟩
     ·simp only [if_true];refine wpS_bind (bz (dQ hxx) ?_);have m2:=m.nQ ab hxx (iY ab.sb hy (P.of_lt hl));rw [oq,kR];by_cases c3:u=0
      ·rw [if_pos (by rw [c3];rfl)];exact wpS_pure ⟨hm',.inl ⟨_,_,rfl,m2.vm ab (.inl c3)⟩⟩
      ·rw [if_neg (by simpa using c3)];by_cases c4:ac+1>=mg
       ·rw [if_pos c4];exact wpS_pure ⟨hm',.inr ⟨_,_,_,_,_,rfl,m2,by omega,a2,by omega⟩⟩
       ·rw [if_neg c4];exact wpS_pure ⟨hm',_,_,_,_,_,rfl,m2,by omega,a2,by omega⟩
    case ipost=>
     intro c st'' hh;revert hh;revert c;refine Pu (λ hm' r z hr=>?_) λ hm' ts na nb ac bc ho=>?_
     ·dsimp only;exact wpS_pure ⟨hm',r,_,rfl,hr⟩
     ·have m:=ho.1;have a1:=ho.2.1;have a2:=ho.2.2.1;have a3:=ho.2.2.2;clear ho;dsimp only;refine wpS_bind (wpS_lift (wpAny_rule ⟨rfl,?_⟩));refine wpS_bind (wpS_mono (wpS_forRange (I:=λ x' c st''=>Sm st st''/\∃ ts na nb mg ac bc,c=(none,na,nb,fa f ts.reverse,mg,ac,bc)/\Oh o X Y (x+1+1) ts na nb)
       (Q:=λ c st''=>Sm st st''/\((∃ r z,c=(some r,z)/\Res o f X Y r)\/∃ ts na nb mg ac bc,c=(none,na,nb,fa f ts.reverse,mg,ac,bc)/\Oh o X Y (x+1+1) ts na nb)) ?jstep ?jfin ⟨hm',_,_,_,_,_,_,rfl,m,a1,a2,a3⟩) ?jpost)
      case jfin=>
       rintro c st3 ⟨hm3,hh⟩;exact ⟨hm3,.inr hh⟩
      case jstep=>
       intro x' c st3 _ hx' hh;revert hh;revert c;refine PC λ hm3 ts na nb mg ac bc ho=>?_;have m:=ho.1;have a1:=ho.2.1;have a2:=ho.2.2.1;have a3:=ho.2.2.2;clear ho;dsimp only;obtain ⟨u,rfl⟩:∃ u,na=u+1:=⟨na - 1,by omega⟩;obtain ⟨v,rfl⟩:∃ v,nb=v+1:=⟨nb - 1,by omega⟩;have t1:=λ mg=>M5 (n:=x+1+1) (mg:=mg) (ac:=ac) (bc:=bc) (E:=E) C hk ab bt hm3 m (by omega) a3;unfold U1 U2 U3 at t1;refine wpS_mono (Q:=H2 o f X Y (x+1+1) st) ?_ ?_
       ·by_cases c3:mg > 1
        ·rw [if_pos c3];exact t1 (mg - 1)
        ·rw [if_neg c3];exact t1 mg
       ·rintro r st4 ⟨hm4,hr⟩
        cases r with
        | done c=>exact ⟨hm4,hr⟩
        | yield c=>exact ⟨hm4,hr⟩
      case jpost=>
       intro c st3 hh;revert hh;revert c;refine Pj (λ hm3 r z hr=>?_) λ hm3 ts na nb mg ac bc ho=>?_
       ·dsimp only;exact wpS_pure ⟨hm3,r,_,rfl,hr⟩
       ·have m:=ho.1;have a1:=ho.2.1;have a2:=ho.2.2.1;have a3:=ho.2.2.2;clear ho;dsimp only;refine wpS_bind (mq hm3 λ st4 hm4=>?_);exact wpS_pure ⟨hm4,_,_,_,_,rfl,m,a1,a2,a3⟩
end
theorem w6 (i:Nat):mergeAt' i=(do
 let s <- get
 let (some (a1,n1,pw),some (a2,n2,_)):=((pendingOf s)[i]?,(pendingOf s)[i+1]?) | unsupported "internal:list.sort.pending"
 set (setPending s (((pendingOf s).setIfInBounds i (a1,n1+n2,pw)).eraseIdxIfInBounds (i+1)))
 let some k <- dP false (<- elem' (arrOf s) a2) (arrOf s) a1 n1 0 | return false
 let (a1,n1):=(a1+k,n1 - k)
 if n1 == 0 then return true
 let some n2 <- dP true (<- elem' (arrOf s) (a1+n1 - 1)) (arrOf s) a2 n2 (n2 - 1) | return false
 if n2 == 0 then return true
 let x:=(arrOf s).extract a1 a2
 let y:=(arrOf s).extract a2 (a2+n2)
 let both <- if n1<=n2 then oN x y else pM x y
 modify λ s=>setArr s (both.toList.zipIdx.foldl (λ a (p,j)=>a.setIfInBounds (a1+j) p) (arrOf s))
 return (failedOf (<- get)).isNone):=rfl
noncomputable def seg (g:Nat->Nat)(a n:Nat):List Nat:=(List.range n).map λ i=>g (a+i)
section
variable {o:Ord} {N:Nat} {f:Nat->Keyed} {g:Nat->Nat}
theorem fK (g:Nat->Nat)(a n:Nat):(seg g a n).length=n:=by unfold seg;rw [length_map,length_range]
theorem jy {a n i:Nat}(h:i < n):(seg g a n)[i]?=some (g (a+i)):=by unfold seg;rw [List.getElem?_map,getElem?_range h];rfl
theorem iu {a n x:Nat}(h:x∈seg g a n):∃ i,i < n/\x=g (a+i):=by
 obtain ⟨i,hi,rfl⟩:=mem_map.mp h;exact ⟨i,mem_range.mp hi,rfl⟩
theorem Ej {a n:Nat}(h:So o g a (a+n)):(seg g a n).Pairwise (P o):=by
 rw [pairwise_iff_getElem];intro i j hi hj hij;rw [fK] at hi hj;have e1:=jy (g:=g) (a:=a) hi;have e2:=jy (g:=g) (a:=a) hj;rw [List.getElem?_eq_getElem (by rw [fK];exact hi)] at e1;rw [List.getElem?_eq_getElem (by rw [fK];exact hj)] at e2;rw [Option.some.inj e1,Option.some.inj e2];exact h _ _ (by omega) (by omega) (by omega)
theorem yU {arr:Array Keyed}(hs:arr.size=N)(hg:∀ i,i < N->arr[i]?=some (f (g i))){a n:Nat}(h:a+n<=N):arr.extract a (a+n)=fa f (seg g a n):=by
 apply Array.ext_getElem?;intro i;rw [CZ,Array.getElem?_extract];by_cases c:i < n
 ·rw [if_pos (by omega),jy c,hg _ (by omega)];rfl
 ·rw [if_neg (by omega),List.getElem?_eq_none (by rw [fK];omega)];rfl
theorem rD {α:Type}(b:Nat):∀ (l:List α) (n:Nat) (arr:Array α),((l.zipIdx n).foldl (λ a (p,j)=>a.setIfInBounds (b+j) p) arr).size=arr.size
 | [],_,_=>rfl
 | x::l,n,arr=>by
  rw [zipIdx_cons,foldl_cons,rD b l (n+1)];exact Array.size_setIfInBounds ..
theorem uQ {α:Type}(b:Nat):∀ (l:List α) (n:Nat) (arr:Array α) (k:Nat),b+n+l.length<=arr.size->((l.zipIdx n).foldl (λ a (p,j)=>a.setIfInBounds (b+j) p) arr)[k]?=if b+n<=k/\k < b+n+l.length then l[k - (b+n)]? else arr[k]?
 | [],n,arr,k,h=>by rw [if_neg (by rw [length_nil];omega)];rfl
 | x::l,n,arr,k,h=>by
  rw [length_cons] at h;rw [zipIdx_cons,foldl_cons,uQ b l (n+1) _ k (by rw [Array.size_setIfInBounds];omega),length_cons];by_cases c:k=b+n
  ·subst c;rw [if_neg (by omega),if_pos (by omega),sub_self];show (arr.setIfInBounds (b+n) x)[b+n]?=some x;rw [Array.getElem?_setIfInBounds_self_of_lt (by omega)]
  ·by_cases c2:b+n<=k/\k < b+n+(l.length+1)
   ·rw [if_pos (by omega),if_pos c2,show k - (b+n)=k - (b+(n+1))+1 by omega,List.getElem?_cons_succ]
   ·rw [if_neg (by omega),if_neg c2];show (arr.setIfInBounds (b+n) x)[k]?=arr[k]?;rw [Array.getElem?_setIfInBounds_ne (by omega)]
end
section
variable {prog:Program} {w:World} {A:Around} {E:Value->Shared->Prop} {s:Shared} {o:Ord} {N:Nat} {f:Nat->Keyed} {kd:SortKind} {g:Nat->Nat} {st:SortSt}
theorem Gr {st':SortSt}{Q:PUnit->SortSt->Prop}(h:Q ⟨⟩ st'):wpS (model prog w) A E s (set st':StateT SortSt Sem PUnit) Q st:=by
 unfold wpS;rw [StateT.run_set];exact wpAny_pure ⟨rfl,h⟩
theorem MX (C:rz prog w A s o N f kd){l1 l2:List (Nat×Nat×Nat)}{sa na nb pw pv:Nat}(h:Sg N f kd g (l1++(sa,na,pw)::(sa+na,nb,pv)::l2).toArray st)(ha:1<=na)(hb:1<=nb)(hN:sa+na+nb<=N)
  (c1:Cl g sa (sa+na)) (s1:So o g sa (sa+na)) (c2:Cl g (sa+na) (sa+na+nb)) (s2:So o g (sa+na) (sa+na+nb))
  {Q:Bool->SortSt->Prop} (q:∀ g' st',Sg N f kd g' (l1++(sa,na+nb,pw)::l2).toArray st'->Rn o g g' sa (sa+na+nb)->Q true st'):wpS (model prog w) A E s (mergeAt' l1.length) Q st:=by
 rw [w6];refine wpS_bind (wpS_get ?_);have e1:(pendingOf st)[l1.length]?=some (sa,na,pw):=by rw [h.pend];simp
 have e2:(pendingOf st)[l1.length+1]?=some (sa+na,nb,pv):=by rw [h.pend];simp
 have e3:((pendingOf st).setIfInBounds l1.length (sa,na+nb,pw)).eraseIdxIfInBounds (l1.length+1)=(l1++(sa,na+nb,pw)::l2).toArray:=by
  rw [h.pend,List.setIfInBounds_toArray,List.eraseIdxIfInBounds_toArray];congr 1;rw [set_append_right _ _ (Nat.le_refl _),sub_self,List.eraseIdx_append_of_length_le (by omega),show l1.length+1 - l1.length=1 by omega];rfl
 rw [e1,e2];dsimp only;rw [e3];refine wpS_bind (Gr ?_);have h':Sg N f kd g (l1++(sa,na+nb,pw)::l2).toArray (setPending st (l1++(sa,na+nb,pw)::l2).toArray):=⟨h.size,h.get,h.lt,h.kind,h.failed,rfl⟩;obtain ⟨st1,hst1⟩:∃ st1,st1=setPending st (l1++(sa,na+nb,pw)::l2).toArray:=⟨_,rfl⟩;rw [<- hst1] at h' ⊢;refine wpS_bind (bz (h.get (sa+na) (by omega)) ?_);have b0:=c2 (sa+na) (by omega) (by omega);refine wpS_bind (Cq C h'.kind (h:=λ i=>g (sa+i)) (λ i hi=>h.get _ (by omega)) (λ i hi=>by have:=c1 (sa+i) (by omega) (by omega);omega) (by omega) (λ i j _ a b=>s1 _ _ (by omega) (by omega) (by omega)) (by omega) λ k k1 k2 k3=>?_);dsimp only;by_cases cz:na - k=0
 ·rw [if_pos (by rw [cz];rfl)];refine wpS_pure (q g st1 h' ⟨λ _ _=>rfl,λ i a b=>?_,λ i j a b c=>?_⟩)
  ·by_cases d:i < sa+na
   ·have:=c1 i a d;omega
   ·have:=c2 i (by omega) b;omega
  ·by_cases d:j < sa+na
   ·exact s1 i j a b d
   ·by_cases d2:sa+na<=i
    ·exact s2 i j d2 b c
    ·have r:=k2 (i - sa) (by omega);rw [show sa+(i - sa)=i by omega] at r;by_cases d3:j=sa+na
     ·subst d3;exact r
     ·exact r.trans (s2 _ _ (by omega) (by omega) c)
 ·rw [if_neg (by simpa using cz)];have hlast:sa+k+(na - k) - 1=sa+na - 1:=by omega
  rw [hlast];refine wpS_bind (bz (h.get (sa+na - 1) (by omega)) ?_);have a0:=c1 (sa+na - 1) (by omega) (by omega);refine wpS_bind (CH C h'.kind (h:=λ i=>g (sa+na+i)) (λ i hi=>h.get _ (by omega)) (λ i hi=>by have:=c2 (sa+na+i) (by omega) (by omega);omega) (λ i j _ a b=>s2 _ _ (by omega) (by omega) (by omega)) (by omega) λ t t1 t2 t3=>?_);dsimp only;by_cases cy:t=0
  ·rw [if_pos (by rw [cy];rfl)];subst cy;refine wpS_pure (q g st1 h' ⟨λ _ _=>rfl,λ i a b=>?_,λ i j a b c=>?_⟩)
   ·by_cases d:i < sa+na
    ·have:=c1 i a d;omega
    ·have:=c2 i (by omega) b;omega
   ·by_cases d:j < sa+na
    ·exact s1 i j a b d
    ·by_cases d2:sa+na<=i
     ·exact s2 i j d2 b c
     ·have r:=t3 (j - (sa+na)) (by omega) (by omega);rw [show sa+na+(j - (sa+na))=j by omega] at r;by_cases d3:i=sa+na - 1
      ·subst d3;exact r
      ·exact (s1 i (sa+na - 1) a (by omega) (by omega)).trans r
  ·rw [if_neg (by simpa using cy)];have x1:(arrOf st).extract (sa+k) (sa+na)=fa f (seg g (sa+k) (na - k)):=by
    have:=yU (f:=f) (g:=g) h.size h.get (a:=sa+k) (n:=na - k) (by omega)
    rwa [show sa+k+(na - k)=sa+na by omega] at this
   have x2:(arrOf st).extract (sa+na) (sa+na+t)=fa f (seg g (sa+na) t):=yU h.size h.get (by omega);rw [x1,x2];have sx:So o g (sa+k) (sa+k+(na - k)):=λ i j a b c=>s1 i j (by omega) b (by omega);have sy:So o g (sa+na) (sa+na+t):=λ i j a b c=>s2 i j a b (by omega);have ab:Ab o N (seg g (sa+k) (na - k)) (seg g (sa+na) t):={
    sa:=Ej sx
    sb:=Ej sy
    lt:=λ x hx y hy=>by
     obtain ⟨i,hi,rfl⟩:=iu hx;obtain ⟨j,hj,rfl⟩:=iu hy;have:=c1 (sa+k+i) (by omega) (by omega);have:=c2 (sa+na+j) (by omega) (by omega);omega
    nb:=λ y hy=>by
     obtain ⟨j,hj,rfl⟩:=iu hy;exact h.lt _ (by omega)
    na:=λ y hy=>by
     obtain ⟨j,hj,rfl⟩:=iu hy;exact h.lt _ (by omega) }
   have tp:Top o (seg g (sa+k) (na - k)) (seg g (sa+na) t):=λ i x hx hi y hy=>by
    rw [fK] at hi;rw [jy (by omega)] at hx
    cases hx
    obtain ⟨j,hj,rfl⟩:=iu hy;rw [show sa+k+i=sa+na - 1 by omega];exact t2 j hj
   have bt:Me o (seg g (sa+k) (na - k)) (seg g (sa+na) t):=λ y hy x hx=>by
    rw [jy (by omega)] at hy
    cases hy
    obtain ⟨i,hi,rfl⟩:=iu hx;have:=k3 (k+i) (by omega) (by omega)
    rwa [<- add_assoc] at this
   have fin:∀ out st2,Sm st1 st2->Res o f (seg g (sa+k) (na - k)) (seg g (sa+na) t) out->wpS (model prog w) A E s (do
     modify λ s=>setArr s (out.toList.zipIdx.foldl (λ a (p,j)=>a.setIfInBounds (sa+k+j) p) (arrOf s))
     let s <- get
     pure (failedOf s).isNone) Q st2:=by
    rintro out st2 hm ⟨hs,rfl,hlen,hso,hmem⟩;rw [fK,fK] at hlen;refine wpS_bind (wpS_modify (wpS_bind (wpS_get ?_)));have hf:(failedOf st2)=none:=by rw [hm.f];exact h'.failed
    have hmx:∀ j x,hs[j]?=some x->(∃ i,i < na - k/\x=g (sa+k+i))\/∃ i,i < t/\x=g (sa+na+i):=λ j x e=>by
     rcases hmem x (mem_of_getElem? e) with z | z
     ·exact .inl (iu z)
     ·exact .inr (iu z)
    have ez:(fa f hs).toList=hs.map f:=by unfold fa;rfl
    have hsz:sa+k+0+(hs.map f).length<=(arrOf st2).size:=by rw [length_map,hlen,hm.a,h'.size];omega
    refine wpS_pure ?_;show Q (failedOf st2).isNone _;rw [hf];refine q (λ i=>if sa+k<=i/\i < sa+k+(na - k+t) then hs.getD (i - (sa+k)) 0 else g i) _ ⟨?_,λ i hi=>?_,λ i hi=>?_,by rw [show kindOf (setArr st2 _)=kindOf st2 from rfl,hm.k];exact h'.kind,hf,by rw [show pendingOf (setArr st2 _)=pendingOf st2 from rfl,hm.p];exact h'.pend⟩ ?_
    ·have:=rD (sa+k) (fa f hs).toList 0 (arrOf st2);rw [hm.a,h'.size] at this;rw [<- this,<- hm.a]
    ·show (List.foldl _ _ _)[i]?=_;rw [ez,uQ _ _ _ _ _ hsz,length_map,hlen,hm.a];by_cases d:sa+k<=i/\i < sa+k+(na - k+t)
     ·rw [if_pos (by omega),if_pos d,List.getElem?_map,Nat.add_zero,getD_at (l:=hs) (by omega)];rfl
     ·rw [if_neg (by omega),if_neg d];exact h'.get i hi
    ·by_cases d:sa+k<=i/\i < sa+k+(na - k+t)
     ·rw [if_pos d]
      rcases hmx _ _ (getD_at (l:=hs) (i:=i - (sa+k)) (by omega)) with ⟨j,hj,e⟩ | ⟨j,hj,e⟩
      ·rw [e];exact h.lt _ (by omega)
      ·rw [e];exact h.lt _ (by omega)
     ·rw [if_neg d];exact h.lt i hi
    ·have gin:∀ i,sa+k<=i->i < sa+na+t->(if sa+k<=i/\i < sa+k+(na - k+t) then hs.getD (i - (sa+k)) 0 else g i)=hs.getD (i - (sa+k)) 0:=λ i a b=>if_pos (by omega);have gout:∀ i,i < sa+k\/sa+na+t<=i->(if sa+k<=i/\i < sa+k+(na - k+t) then hs.getD (i - (sa+k)) 0 else g i)=g i:=λ i a=>if_neg (by omega);refine ⟨λ i hi=>gout i (by omega),λ i a b=>?_,λ i j a b c=>?_⟩
     ·by_cases d:sa+k<=i/\i < sa+na+t
      ·show _<=ite _ _ _/\ite _ _ _ < _;rw [gin i d.1 d.2]
       rcases hmx _ _ (getD_at (l:=hs) (i:=i - (sa+k)) (by omega)) with ⟨j,hj,e⟩ | ⟨j,hj,e⟩
       ·rw [e];have:=c1 (sa+k+j) (by omega) (by omega);omega
       ·rw [e];have:=c2 (sa+na+j) (by omega) (by omega);omega
      ·show _<=ite _ _ _/\ite _ _ _ < _;rw [gout i (by omega)];by_cases d2:i < sa+na
       ·have:=c1 i a d2;omega
       ·have:=c2 i (by omega) b;omega
     ·show P o (ite _ _ _) (ite _ _ _);by_cases d1:i < sa+k
      ·rw [gout i (.inl d1)];have r:=k2 (i - sa) (by omega);rw [show sa+(i - sa)=i by omega] at r;by_cases d2:j < sa+k
       ·rw [gout j (.inl d2)];exact s1 i j a b (by omega)
       ·by_cases d3:j < sa+na+t
        ·rw [gin j (by omega) d3]
         rcases hmx _ _ (getD_at (l:=hs) (i:=j - (sa+k)) (by omega)) with ⟨v,hv,e⟩ | ⟨v,hv,e⟩
         ·rw [e];exact s1 _ _ a (by omega) (by omega)
         ·rw [e];by_cases d4:v=0
          ·subst d4;exact r
          ·exact r.trans (s2 _ _ (by omega) (by omega) (by omega))
        ·rw [gout j (by omega)];exact r.trans (s2 _ _ (by omega) (by omega) c)
      ·by_cases d2:i < sa+na+t
       ·rw [gin i (by omega) d2];by_cases d3:j < sa+na+t
        ·rw [gin j (by omega) d3];exact jL hso (getD_at (by omega)) (getD_at (by omega)) (by omega)
        ·rw [gout j (by omega)]
         rcases hmx _ _ (getD_at (l:=hs) (i:=i - (sa+k)) (by omega)) with ⟨v,hv,e⟩ | ⟨v,hv,e⟩
         ·rw [e];have r:=t3 (j - (sa+na)) (by omega) (by omega);rw [show sa+na+(j - (sa+na))=j by omega] at r;by_cases d4:sa+k+v=sa+na - 1
          ·rw [d4];exact r
          ·exact (s1 _ (sa+na - 1) (by omega) (by omega) (by omega)).trans r
         ·rw [e];exact s2 _ _ (by omega) (by omega) c
       ·rw [gout i (by omega),gout j (by omega)];exact s2 i j (by omega) b c
   by_cases cl:na - k<=t
   ·rw [if_pos cl];exact wpS_bind (MK C h'.kind ab tp (by rw [fK];omega) (jy (by omega)) (bt _ (jy (by omega))) fin)
   ·rw [if_neg cl];exact wpS_bind (MU C h'.kind ab tp bt (by rw [fK];omega) (by rw [fK];omega) fin)
end
noncomputable abbrev pr (x:Nat×Nat×Nat):Nat×Nat:=(x.1,x.2.1)
noncomputable def iU (o:Ord)(g:Nat->Nat):List (Nat×Nat)->Nat->Nat->Prop
 | [],a,b=>a=b
 | x::l,a,b=>x.1=a/\1<=x.2/\Cl g a (a+x.2)/\So o g a (a+x.2)/\iU o g l (a+x.2) b
noncomputable def PA (o:Ord)(g:Nat->Nat)(p:Array (Nat×Nat×Nat))(b:Nat):Prop:=iU o g (p.toList.map pr) 0 b
section
variable {o:Ord} {g:Nat->Nat}
theorem iU.le:∀ {l:List (Nat×Nat)} {a b:Nat},iU o g l a b->a+l.length<=b
 | [],a,b,h=>by have h:a=b:=h;rw [length_nil];omega
 | x::l,a,b,h=>by
  have:=h.2.2.2.2.le;have:=h.2.1;rw [length_cons];omega
theorem iU.congr {g':Nat->Nat}:∀ {l:List (Nat×Nat)} {a b:Nat},iU o g l a b->(∀ i,a<=i->i < b->g' i=g i)->iU o g' l a b
 | [],a,b,h,_=>h
 | x::l,a,b,h,e=>by
  have hb:=h.2.2.2.2.le;refine ⟨h.1,h.2.1,λ i h1 h2=>?_,λ i j h1 h2 h3=>?_,h.2.2.2.2.congr λ i h1 h2=>e i (by omega) h2⟩
  ·rw [e i h1 (by omega)];exact h.2.2.1 i h1 h2
  ·rw [e i h1 (by omega),e j (by omega) (by omega)];exact h.2.2.2.1 i j h1 h2 h3
theorem iU.app:∀ {l m:List (Nat×Nat)} {a b:Nat},iU o g (l++m) a b ↔ ∃ c,iU o g l a c/\iU o g m c b
 | [],m,a,b=>⟨λ h=>⟨a,rfl,h⟩,λ ⟨c,h1,h2⟩=>by have h1:a=c:=h1;subst h1;exact h2⟩
 | x::l,m,a,b=>by
  constructor
  ·rintro ⟨h1,h2,h3,h4,h5⟩;obtain ⟨c,h6,h7⟩:=iU.app.mp h5;exact ⟨c,⟨h1,h2,h3,h4,h6⟩,h7⟩
  ·rintro ⟨c,⟨h1,h2,h3,h4,h5⟩,h6⟩;exact ⟨h1,h2,h3,h4,iU.app.mpr ⟨c,h5,h6⟩⟩
theorem Km {p:Array (Nat×Nat×Nat)}{i:Nat}(h:i+1 < p.size):∃ l1 x y l2,p=(l1++x::y::l2).toArray/\l1.length=i:=by
 have h':i+1 < p.toList.length:=h;refine ⟨p.toList.take i,p.toList[i],p.toList[i+1],p.toList.drop (i+2),?_,by rw [length_take];omega⟩;apply Array.toList_inj.mp;show p.toList=_
 conv=>lhs;rw [<- take_append_drop i p.toList,drop_eq_getElem_cons (show i < p.toList.length by omega),drop_eq_getElem_cons h']
end
section
variable {prog:Program} {w:World} {A:Around} {E:Value->Shared->Prop} {s:Shared} {o:Ord} {N:Nat} {f:Nat->Keyed} {kd:SortKind} {g:Nat->Nat} {p:Array (Nat×Nat×Nat)} {st:SortSt}
theorem vW (C:rz prog w A s o N f kd)(h:Sg N f kd g p st){lo i:Nat}(hp:PA o g p lo)(hlo:lo<=N)(hi:i+1 < p.size)
  {Q:Bool->SortSt->Prop} (q:∀ g' p' st',Sg N f kd g' p' st'->PA o g' p' lo->p'.size+1=p.size->(∀ k,lo<=k->g' k=g k)->Q true st'):wpS (model prog w) A E s (mergeAt' i) Q st:=by
 obtain ⟨l1,⟨sa,na,pw⟩,⟨sb,nb,pv⟩,l2,rfl,rfl⟩:=Km hi;unfold PA at hp;rw [show (l1++(sa,na,pw)::(sb,nb,pv)::l2).toArray.toList=l1++(sa,na,pw)::(sb,nb,pv)::l2 from rfl,map_append] at hp;obtain ⟨c,h1,h2⟩:=iU.app.mp hp;obtain ⟨e1,n1,cl1,so1,e2,n2,cl2,so2,rest⟩:=h2;have e1:sa=c:=e1;subst e1;have e2:sb=sa+na:=e2;subst e2;have l2b:=rest.le;have n1:1<=na:=n1;have n2:1<=nb:=n2;have l2b:sa+na+nb<=lo:=by
  have:sa+na+nb+(List.map pr l2).length<=lo:=l2b;omega
 refine MX C h n1 n2 (by omega) cl1 so1 cl2 so2 λ g' st' h' R=>q g' _ st' h' ?_ (by simp;omega) λ k hk=>R.out k (by omega);unfold PA;rw [show (l1++(sa,na+nb,pw)::l2).toArray.toList=l1++(sa,na+nb,pw)::l2 from rfl,map_append];refine iU.app.mpr ⟨sa,h1.congr λ i a b=>R.out i (by omega),rfl,by show 1<=na+nb;omega,?_,?_,?_⟩
 ·show Cl g' sa (sa+(na+nb));rw [<- add_assoc];exact R.cl
 ·show So o g' sa (sa+(na+nb));rw [<- add_assoc];exact R.so
 ·show iU o g' _ (sa+(na+nb)) lo;rw [<- add_assoc];exact rest.congr λ i a b=>R.out i (.inr a)
theorem qO {p:Array (Nat×Nat×Nat)}{i lo:Nat}{u:Nat×Nat×Nat->Nat×Nat×Nat}(hu:∀ x,pr (u x)=pr x)(h:PA o g p lo):PA o g (p.modify i u) lo:=by
 unfold PA at h ⊢;have:(p.modify i u).toList.map pr=p.toList.map pr:=by
  rw [Array.toList_modify];apply List.ext_getElem?;intro k;rw [List.getElem?_map,List.getElem?_map,List.getElem?_modify]
  cases p.toList[k]? with
  | none=>rfl
  | some x=>
   show some (pr (if i=k then u x else x))=some (pr x);by_cases c:i=k
   ·rw [if_pos c,hu x]
   ·rw [if_neg c]
 rw [this];exact h
theorem oF {p:Array (Nat×Nat×Nat)}{lo n v:Nat}(h:PA o g p lo)(hn:1<=n)(c:Cl g lo (lo+n))(d:So o g lo (lo+n)):PA o g (p.push (lo,n,v)) (lo+n):=by
 unfold PA at h ⊢;rw [Array.toList_push,map_append];exact iU.app.mpr ⟨lo,h,rfl,hn,c,d,rfl⟩
theorem Sg.LV (h:Sg N f kd g p st)(p':Array (Nat×Nat×Nat)):Sg N f kd g p' (setPending st p'):=⟨h.size,h.get,h.lt,h.kind,h.failed,rfl⟩
theorem G4 (C:rz prog w A s o N f kd)(h:Sg N f kd (λ i=>i) #[] st)(hN:1<=N)
  {Q:Unit->SortSt->Prop} (q:∀ g' p' st',Sg N f kd g' p' st'->Cl g' 0 N->So o g' 0 N->Q () st'):wpS (model prog w) A E s sortRuns' Q st:=by
 rw [sortRuns'_eq];refine wpS_bind (wpS_get ?_);dsimp only;rw [h.size];refine wpS_bind (wpS_mono (wpS_forRange
  (I:=λ x c st'=>∃ lo g p,c=(none,lo)/\lo<=N/\(x<=lo\/lo=N)/\Sg N f kd g p st'/\PA o g p lo/\(∀ i,lo<=i->g i=i))
  (Q:=λ c st'=>∃ g p,c=(none,N)/\Sg N f kd g p st'/\PA o g p N) ?step ?fin ⟨0,_,_,rfl,zero_le _,.inl (Nat.le_refl _),h,rfl,λ _ _=>rfl⟩) ?post)
 case fin=>
  rintro c st' ⟨lo,g,p,rfl,h1,h2,h3,h4,h5⟩;have:lo=N:=by omega
  subst this;exact ⟨g,p,rfl,h3,h4⟩
 case step=>
  rintro x c st' _ hx ⟨lo,g,p,rfl,h1,h2,h3,h4,h5⟩;dsimp only;by_cases hge:lo>=N
  ·rw [if_pos hge];have:lo=N:=by omega
   subst this;exact wpS_pure ⟨g,p,rfl,h3,h4⟩
  ·rw [if_neg hge];refine wpS_bind (Du C h3 (by omega) (by omega) (λ i a b=>h5 i a) λ m g1 st1 s1 m1 m2 R1=>?_);dsimp only;by_cases c2:m < minRun' N N 0
   ·rw [if_pos c2];refine wpS_bind (wpS_lift (wpAny_rule ⟨rfl,?_⟩));refine wpS_bind (K4 C s1 (by omega) m1 (by omega) R1 (λ i a b=>h5 i (by omega)) λ g2 st2 s2 R2=>?_);rw [if_neg (by decide)];have n2:1<=min (N - lo) (minRun' N N 0):=by omega
    have n3:lo+min (N - lo) (minRun' N N 0)<=N:=by omega
    refine wpS_bind (wpS_get ?_);rw [s2.pend];have hp2:=iU.congr h4 λ i a b=>R2.out i (.inl b)
    cases e:p.back? with
    | none=>
     dsimp only;refine wpS_bind (wpS_modify (wpS_pure ⟨_,_,_,rfl,n3,by omega,s2.LV _,?_,λ i hi=>by rw [R2.out i (.inr hi),h5 i (by omega)]⟩));rw [s2.pend];exact oF hp2 n2 R2.cl R2.so
    | some y=>
     obtain ⟨y1,y2,y3⟩:=y;dsimp only;refine wpS_bind (wpS_mono (wpS_forRange (I:=λ _ c st'=>c=(none,())/\∃ g' p',Sg N f kd g' p' st'/\PA o g' p' lo/\(∀ k,lo<=k->g' k=g2 k)) (Q:=λ c st'=>c=(none,())/\∃ g' p',Sg N f kd g' p' st'/\PA o g' p' lo/\(∀ k,lo<=k->g' k=g2 k)) ?vstep (λ _ _ h=>h) ⟨rfl,_,_,s2,hp2,λ _ _=>rfl⟩) ?vpost)
     case vstep=>
      rintro x c st' _ hx ⟨rfl,g',p',h1,h2,h3⟩;refine wpS_bind (wpS_get ?_);rw [h1.pend];by_cases c:p'.size > 1
      ·rw [if_pos c]
       cases e:p'[p'.size - 2]? with
       | none=>exact wpS_pure ⟨rfl,g',p',h1,h2,h3⟩
       | some y=>
        obtain ⟨y1,y2,y3⟩:=y;dsimp only;split
        ·exact wpS_pure ⟨rfl,g',p',h1,h2,h3⟩
        ·refine wpS_bind (vW C h1 h2 (by omega) (by omega) λ g3 p3 st3 s3 q3 _ z3=>?_);exact wpS_pure ⟨rfl,g3,p3,s3,q3,λ k hk=>by rw [z3 k hk,h3 k hk]⟩
      ·rw [if_neg c];exact wpS_pure ⟨rfl,g',p',h1,h2,h3⟩
     case vpost=>
      rintro c st' ⟨rfl,g',p',h1,h2,h3⟩;dsimp only;refine wpS_bind (wpS_modify (wpS_bind (wpS_modify (wpS_pure ⟨_,_,_,rfl,n3,by omega,(h1.LV _).LV _,?_,λ i hi=>by rw [h3 i (by omega),R2.out i (.inr hi),h5 i (by omega)]⟩))));show PA o g' (((pendingOf st').modify _ _).push _) _;rw [h1.pend];exact oF (qO (λ _=>rfl) h2) n2 (λ i a b=>by rw [h3 i a];exact R2.cl i a b) (λ i j a b c=>by rw [h3 i a,h3 j (by omega)];exact R2.so i j a b c)
   ·rw [if_neg c2];have n3:lo+m<=N:=by omega
    obtain ⟨g2,hg2⟩:∃ g2,g2=g1:=⟨_,rfl⟩;rw [<- hg2] at R1 s1;have R2:=R1;have s2:=s1;have n2:=m1;refine wpS_bind (wpS_get ?_);rw [s2.pend];have hp2:=iU.congr h4 λ i a b=>R2.out i (.inl b)
    cases e:p.back? with
    | none=>
     dsimp only;refine wpS_bind (wpS_modify (wpS_pure ⟨_,_,_,rfl,n3,by omega,s2.LV _,?_,λ i hi=>by rw [R2.out i (.inr hi),h5 i (by omega)]⟩));rw [s2.pend];exact oF hp2 n2 R2.cl R2.so
    | some y=>
     obtain ⟨y1,y2,y3⟩:=y;dsimp only;refine wpS_bind (wpS_mono (wpS_forRange (I:=λ _ c st'=>c=(none,())/\∃ g' p',Sg N f kd g' p' st'/\PA o g' p' lo/\(∀ k,lo<=k->g' k=g2 k)) (Q:=λ c st'=>c=(none,())/\∃ g' p',Sg N f kd g' p' st'/\PA o g' p' lo/\(∀ k,lo<=k->g' k=g2 k)) ?vstep (λ _ _ h=>h) ⟨rfl,_,_,s2,hp2,λ _ _=>rfl⟩) ?vpost)
     case vstep=>
      rintro x c st' _ hx ⟨rfl,g',p',h1,h2,h3⟩;refine wpS_bind (wpS_get ?_);rw [h1.pend];by_cases c:p'.size > 1
      ·rw [if_pos c]
       cases e:p'[p'.size - 2]? with
       | none=>exact wpS_pure ⟨rfl,g',p',h1,h2,h3⟩
       | some y=>
        obtain ⟨y1,y2,y3⟩:=y;dsimp only;split
        ·exact wpS_pure ⟨rfl,g',p',h1,h2,h3⟩
        ·refine wpS_bind (vW C h1 h2 (by omega) (by omega) λ g3 p3 st3 s3 q3 _ z3=>?_);exact wpS_pure ⟨rfl,g3,p3,s3,q3,λ k hk=>by rw [z3 k hk,h3 k hk]⟩
      ·rw [if_neg c];exact wpS_pure ⟨rfl,g',p',h1,h2,h3⟩
     case vpost=>
      rintro c st' ⟨rfl,g',p',h1,h2,h3⟩;dsimp only;refine wpS_bind (wpS_modify (wpS_bind (wpS_modify (wpS_pure ⟨_,_,_,rfl,n3,by omega,(h1.LV _).LV _,?_,λ i hi=>by rw [h3 i (by omega),R2.out i (.inr hi),h5 i (by omega)]⟩))));show PA o g' (((pendingOf st').modify _ _).push _) _;rw [h1.pend];exact oF (qO (λ _=>rfl) h2) n2 (λ i a b=>by rw [h3 i a];exact R2.cl i a b) (λ i j a b c=>by rw [h3 i a,h3 j (by omega)];exact R2.so i j a b c)
 case post=>
  rintro c st' ⟨g,p,rfl,h1,h2⟩;dsimp only;refine wpS_bind (wpS_mono (wpS_forRange
   (I:=λ x c st''=>c=(none,())/\∃ g p,Sg N f kd g p st''/\PA o g p N/\(p.size<=1\/p.size+x<=N))
   (Q:=λ c st''=>c=(none,())/\∃ g p,Sg N f kd g p st''/\PA o g p N/\p.size<=1) ?fstep ?ffin ⟨rfl,g,p,h1,h2,.inr ?finit⟩) ?fpost)
  case finit=>
   have:=iU.le h2;rw [length_map] at this;show p.toList.length+0<=N;omega
  case ffin=>
   rintro c st'' ⟨rfl,g,p,h1,h2,h3⟩;exact ⟨rfl,g,p,h1,h2,by omega⟩
  case fstep=>
   rintro x c st'' _ hx ⟨rfl,g,p,h1,h2,h3⟩;refine wpS_bind (wpS_get ?_);rw [h1.pend];by_cases c:p.size<=1
   ·rw [if_pos c];exact wpS_pure ⟨rfl,g,p,h1,h2,c⟩
   ·rw [if_neg c];have il:∀ (d:Prop) [Decidable d],(if d then p.size - 2 - 1 else p.size - 2)+1 < p.size:=λ d _=>by
     by_cases hd:d
     ·rw [if_pos hd];omega
     ·rw [if_neg hd];omega
    refine wpS_bind (vW C h1 h2 (Nat.le_refl _) (il _) λ g' p' st3 s3 q3 z3 _=>?_);exact wpS_pure ⟨rfl,g',p',s3,q3,by omega⟩
  case fpost=>
   rintro c st'' ⟨rfl,g,p,h1,h2,h3⟩;dsimp only;refine wpS_pure ?_;unfold PA at h2;have h3:p.toList.length<=1:=h3
   match hl:p.toList,h3 with
   | [],_=>
    rw [hl] at h2;have:0=N:=h2;omega
   | [x],_=>
    rw [hl] at h2;obtain ⟨e1,e2,e3,e4,e5⟩:=h2;have e5:0+x.2.1=N:=e5;have e3:Cl g 0 (0+x.2.1):=e3;have e4:So o g 0 (0+x.2.1):=e4;rw [e5] at e3 e4;exact q g p st'' h1 e3 e4
end
noncomputable abbrev xm (h:Heap)(a:Addr)(vs:List Value):Heap:=((h.update a (Obj.mapSeq λ _=>#[])).push (seqObj "tuple" vs.toArray 0)).push (seqObj "list" #[] 0)
theorem Hr {h:Heap}{a b:Addr}{vs:List Value}(hb:b≠a)(hlt:b < h.objs.size):(xm h a vs).get? b=h.get? b:=by
 rw [get?_push_ne _ _ _ (by rw [size_push',size_update];exact ne_of_lt (lt_succ_of_lt hlt)),
  get?_push_ne _ _ _ (by rw [size_update];exact ne_of_lt hlt),Heap.get?_update_ne _ _ _ _ hb]
noncomputable abbrev vv (vs:List Value)(i:Nat):Keyed:=(vs.getD i .none,vs.getD i .none)
theorem zip_get (vs:List Value){i:Nat}(h:i < vs.length):(vs.toArray.zip vs.toArray)[i]?=some (vv vs i):=by
 have e:vs[i]?=some (vs.getD i .none):=by rw [getD_eq_getElem?_getD,List.getElem?_eq_getElem h];rfl
 rw [Array.getElem?_zip_eq_some];exact ⟨by rw [getElem?_toArray];exact e,by rw [getElem?_toArray];exact e⟩
section
variable {prog:Program} {w:World} {A:Around} {E:Value->Shared->Prop} {s:Shared} {o:Ord} {kd:SortKind}
theorem A8 {a:Addr}{vs:List Value}{n:Nat}{P:PySem.Fin->Shared->Prop}(hL:s.heap.get? a=some (seqObj "list" vs.toArray n))(hsz:vs.length<=sizeLine)
  (hkk:2<=vs.length->∀ Q:SortKind->Shared->Prop,Q kd { s with heap:=xm s.heap a vs }->wpAny (model prog w) A (keyKind' vs.toArray) Q E { s with heap:=xm s.heap a vs })
  (C:2<=vs.length->rz prog w A { s with heap:=xm s.heap a vs } o vs.length (vv vs) kd)
  (h:∀ g,Cl g 0 vs.length->So o g 0 vs.length->P (.done (.ret .none)) { s with heap:=sortedHeap s.heap a vs ((List.range vs.length).map λ i=>vs.getD (g i) .none).toArray }) :
  wpAny (model prog w) A (Builtin.«list.sort» ⟨[.ref a],[]⟩) P E s:=by
 rw [list_sort_plain];have lta:a < s.heap.objs.size:=lt_size hL;refine wpAny_bind (listItems_at hL rfl ?_);refine wpAny_bind (listUpdate_at hL rfl ?_ (by rw [size_toArray];exact hsz) (zero_le _));obtain ⟨ep,hL1⟩:∃ ep,(s.heap.update a (Obj.mapSeq λ _=>#[])).get? a=some (seqObj "list" #[] ep):=⟨_,get?_update_seq hL (λ _=>#[])⟩;refine wpAny_bind (seqEpoch_at hL1 rfl ?_);refine wpAny_bind (wpAny_newTuple ?_);refine wpAny_bind (wpAny_newList ?_);refine wpAny_holding ?_;have hL6:(xm s.heap a vs).get? a=some (seqObj "list" #[] ep):=by
  rw [get?_push_ne _ _ _ (by rw [size_push',size_update];exact ne_of_lt (lt_succ_of_lt lta)),get?_push_ne _ _ _ (by rw [size_update];exact ne_of_lt lta)];exact hL1
 show wpAny (model prog w) A _ P E { s with heap:=xm s.heap a vs };dsimp only;have hz:vs.toArray.size=vs.length:=by simp
 have getE:∀ i,i < vs.length->vs[i]?=some (vs.getD i .none):=λ i hi=>by rw [getD_eq_getElem?_getD,List.getElem?_eq_getElem hi];rfl
 have outE:∀ (arr:Array Keyed) (g:Nat->Nat),arr.size=vs.length->(∀ i,i < vs.length->arr[i]?=some (vv vs (g i)))->arr.map (·.2)=((List.range vs.length).map λ i=>vs.getD (g i) .none).toArray:=λ arr g h1 two=>by
  apply Array.ext_getElem?;intro i;have e0:((List.range vs.length).map λ i=>vs.getD (g i) Value.none).toArray[i]?=((List.range vs.length).map λ i=>vs.getD (g i) Value.none)[i]?:=getElem?_toArray ..;rw [Array.getElem?_map,e0,List.getElem?_map];by_cases c:i < vs.length
  ·rw [two i c,getElem?_range c];rfl
  ·rw [Array.getElem?_eq_none (by omega),List.getElem?_eq_none (by rw [length_range];omega)];rfl
 by_cases two:vs.toArray.size < 2
 ·rw [if_pos two,if_pos two];refine wpAny_bind (wpAny_pure ?_);rw [StateT.run_pure];refine wpAny_bind (wpAny_pure ?_);dsimp only;refine wpAny_bind (seqEpoch_at hL6 rfl ?_);have oe:=outE (vs.toArray.zip vs.toArray) (λ i=>i) (by rw [size_zip,hz];omega) λ i hi=>zip_get vs hi;refine wpAny_bind (listUpdate_at hL6 rfl ?_ (by simp) (hsz2:=by rw [size_map];show (vs.toArray.zip vs.toArray).size<=_;rw [size_zip,hz];omega));simp only [bne_self_eq_false,false_eq_true,if_false];refine wpAny_pure ?_;have:=h (λ i=>i) (λ i a b=>⟨a,b⟩) (λ i j a b c=>by omega);rw [<- oe] at this;exact this
 ·rw [if_neg two,if_neg two];have h2':2<=vs.length:=by omega
  refine wpAny_bind (hkk h2' _ ?_);refine wpAny_bind (wpAny_mono (G4 (f:=vv vs) (N:=vs.length) (C h2') (st:=SortSt.mk' kd (vs.toArray.zip vs.toArray) #[] 7 none)
   (Q:=λ _ st'=>∃ g p,Sg vs.length (vv vs) kd g p st'/\Cl g 0 vs.length/\So o g 0 vs.length)
   ⟨by show (vs.toArray.zip vs.toArray).size=_;rw [size_zip,hz];omega,λ i hi=>zip_get vs hi,λ i hi=>hi,rfl,rfl,rfl⟩ (by omega) λ g' p' st' a1 a2 a3=>⟨g',p',a1,a2,a3⟩) ?_ λ _ _ e=>e)
  rintro ⟨⟨⟩,st'⟩ s' ⟨rfl,g,p,hS,hc,hso⟩;dsimp only;refine wpAny_bind (seqEpoch_at hL6 rfl ?_);have oe:=outE (arrOf st') g hS.size hS.get;refine wpAny_bind (listUpdate_at hL6 rfl ?_ (by simp) (hsz2:=by have hh:(arrOf st').size=vs.length:=hS.size;show ((arrOf st').map (·.2)).size<=_;rw [size_map,hh];omega));rw [hS.failed];simp only [bne_self_eq_false,false_eq_true,if_false];have:=h g hc hso;rw [<- oe] at this;exact wpAny_pure this
end
section
variable {prog:Program} {w:World} {A:Around} {E:Value->Shared->Prop} {s:Shared}
theorem AK (b:Bool)(x y:Value):keyLt' (tuples' b) x y=(do
  let us <- Builtin.List.listItems x
  let vs <- Builtin.List.listItems y
  for ((u,v),k) in (us.toList.zip vs.toList).zipIdx do
   if !(<- eqBool u v) then return <- oneLt' (b && k == 0) u v
  return us.size < vs.size):=rfl
theorem GZ (b:Bool){x y:Int}{t u:Tok}{Q:Bool->Shared->Prop}(h:Q (decide (x < y)) s):wpAny (model prog w) A (oneLt' b (.int x t) (.int y u)) Q E s:=by
 cases b with
 | true=>exact oneLt_int h
 | false=>
  rw [oneLt'_eq];simp only [false_eq_true,if_false];exact wpAny_bind (PySem.P.lt_int (wpAny_truthy_bool h))
theorem v_ (b:Bool){l k:Addr}{xs ys:List Value}{ns ms:List Int}{Q:Bool->Shared->Prop}(hl:IsTup s.heap l xs.toArray)(hk:IsTup s.heap k ys.toArray)(hi:IntsAre xs ns)(hj:IntsAre ys ms)(h:Q (HT.lexLt ns ms) s) :
  wpAny (model prog w) A (keyLt' (tuples' b) (.ref l) (.ref k)) Q E s:=by
 rw [AK];obtain ⟨o1,ho1,_,n1,hd1⟩:=hl;obtain ⟨o2,ho2,_,n2,hd2⟩:=hk;refine wpAny_bind (listItems_at ho1 hd1 ?_);refine wpAny_bind (listItems_at ho2 hd2 ?_);have key:∀ (xs ys:List Value) (ns ms:List Int) (n:Nat),IntsAre xs ns->IntsAre ys ms->∀ Q':Option Bool×Unit->Shared->Prop,(∀ r,(r=some (HT.lexLt ns ms)\/(r=none/\HT.lexLt ns ms=decide (xs.length < ys.length)))->Q' (r,()) s) ->
   wpAny (model prog w) A (forIn ((xs.zip ys).zipIdx n) ((none,()):Option Bool×Unit) λ x c=>match x with
      | ((p,q),i)=>do
       let e <- eqBool p q
       if (!e)=true then do
         let r <- oneLt' (b && i == 0) p q
         pure (ForInStep.done (some r,()))
        else pure (ForInStep.yield (none,()))) Q' E s:=by
  intro xs
  induction xs with
  | nil=>
   intro ys ns ms n h1 h2 Q' q
   cases h1
   rw [List.zip_nil_left,List.zipIdx_nil,forIn_nil];refine wpAny_pure (q none (.inr ⟨rfl,?_⟩))
   cases h2 with
   | nil=>rw [HT.iH];rfl
   | cons a t h2=>rw [HT.eZ,decide_eq_true (by simp)]
  | cons v vs ih=>
   intro ys ns ms n h1 h2 Q' q
   cases h1 with
   | cons a t h1=>
    cases h2 with
    | nil=>
     rw [List.zip_nil_right,List.zipIdx_nil,forIn_nil];exact wpAny_pure (q none (.inr ⟨rfl,by rw [HT.gW,decide_eq_false (by simp)]⟩))
    | cons c u h2=>
     rw [List.zip_cons_cons,zipIdx_cons,forIn_cons];rw [HT.ee] at q;dsimp only;refine wpAny_bind (wpAny_bind (wpAny_eqBool_int ?_));by_cases e:a=c
     ·rw [if_pos e] at q;subst e;simp only [beq_self_eq_true,Bool.not_true,false_eq_true,if_false];refine wpAny_pure (ih _ _ _ _ h1 h2 _ λ r hr=>q r ?_)
      rcases hr with hr | ⟨hr,hz⟩
      ·exact .inl hr
      ·exact .inr ⟨hr,by rw [hz];simp⟩
     ·rw [if_neg e] at q;have e':(a == c)=false:=by simpa using e
      simp only [e',Bool.not_false,if_true];exact wpAny_bind (GZ _ (wpAny_pure (wpAny_pure (q _ (.inl rfl)))))
 refine wpAny_bind (key xs ys ns ms 0 hi hj _ λ r hr=>?_)
 rcases hr with rfl | ⟨rfl,hz⟩
 ·exact wpAny_pure h
 ·dsimp only;rw [size_toArray,size_toArray,<- hz];exact wpAny_pure h
end
theorem jj:∀ a:List Int,HT.lexLt a a=false
 | []=>HT.iH
 | x::a=>by rw [HT.ee,if_pos rfl];exact jj a
theorem pI:∀ {a b c:List Int},HT.lexLt a b=true->HT.lexLt b c=true->HT.lexLt a c=true
 | [],[],_,h,_=>by rw [HT.iH] at h;cases h
 | x::a,[],_,h,_=>by rw [HT.gW] at h;cases h
 | _,y::b,[],_,h=>by rw [HT.gW] at h;cases h
 | [],y::b,z::c,_,_=>HT.eZ ..
 | x::a,y::b,z::c,h1,h2=>by
  rw [HT.ee] at h1 h2 ⊢;by_cases e1:x=y
  ·rw [if_pos e1] at h1;by_cases e2:y=z
   ·rw [if_pos e2] at h2;rw [if_pos (e1.trans e2)];exact pI h1 h2
   ·rw [if_neg e2] at h2;have:=of_decide_eq_true h2;rw [if_neg (by omega)];exact decide_eq_true (by omega)
  ·rw [if_neg e1] at h1;have l1:=of_decide_eq_true h1;by_cases e2:y=z
   ·rw [if_neg (by omega)];exact decide_eq_true (by omega)
   ·rw [if_neg e2] at h2;have:=of_decide_eq_true h2;rw [if_neg (by omega)];exact decide_eq_true (by omega)
theorem sL:∀ {a b:List Int},HT.lexLt a b=false->HT.lexLt b a=false->a=b
 | [],[],_,_=>rfl
 | [],y::b,h,_=>by rw [HT.eZ] at h;cases h
 | x::a,[],_,h=>by rw [HT.eZ] at h;cases h
 | x::a,y::b,h1,h2=>by
  rw [HT.ee] at h1 h2;by_cases e:x=y
  ·rw [if_pos e] at h1;rw [if_pos e.symm] at h2;rw [e,sL h1 h2]
  ·rw [if_neg e] at h1;rw [if_neg (λ z=>e z.symm)] at h2;have:=of_decide_eq_false h1;have:=of_decide_eq_false h2;omega
theorem zc {a b c:List Int}(h:HT.lexLt a c=true):HT.lexLt a b=true\/HT.lexLt b c=true:=by
 cases e:HT.lexLt a b with
 | true=>exact .inl rfl
 | false=>
  right
  cases e2:HT.lexLt b a with
  | true=>exact pI e2 h
  | false=>rw [<- sL e e2];exact h
noncomputable def A3 (kss:List (List Int)):Ord where
 lt i j:=HT.lexLt (kss.getD i []) (kss.getD j [])
 Ho i:=jj _
 tr i j k:=pI
 neg i j k:=zc
section
variable {prog:Program} {w:World} {A:Around} {E:Value->Shared->Prop} {s:Shared}
theorem zq {α β:Type}{M:Model}{f:α->Sem β}(r:α->β):∀ (l:List α),(∀ a∈l,∀ Q:β->Shared->Prop,Q (r a) s->wpAny M A (f a) Q E s)->∀ Q:List β->Shared->Prop,Q (l.map r) s->wpAny M A (l.mapM f) Q E s
 | [],_,Q,q=>by rw [List.mapM_nil];exact wpAny_pure q
 | a::l,h,Q,q=>by
  rw [List.mapM_cons];refine wpAny_bind (h a (mem_cons_self ..) _ (wpAny_bind (zq r l (λ b hb=>h b (mem_cons_of_mem _ hb)) _ (wpAny_pure q))))
theorem yG {α β:Type}{M:Model}{f:α->Sem β}(r:α->β)(l:List α)(h:∀ a∈l,∀ Q:β->Shared->Prop,Q (r a) s->wpAny M A (f a) Q E s)(Q:Array β->Shared->Prop)(q:Q (l.map r).toArray s):wpAny M A (l.toArray.mapM f) Q E s:=by
 rw [List.mapM_toArray,map_eq_pure_bind];exact wpAny_bind (zq r l h _ (wpAny_pure q))
theorem Fi (u:Value):firstOfTuple' u=(do
  if (<- typeOf u) != .type "tuple" then return none
  return (<- Builtin.List.listItems u)[0]?):=rfl
theorem AM {vs:List Value}(h0:vs≠[])(ht:∀ v∈vs,∃ (l:Addr) (xs:List Value) (n:Int) (t:Tok),v=.ref l/\IsTup s.heap l (.int n t::xs).toArray){Q:SortKind->Shared->Prop}(q:Q (tuples' true) s) :
  wpAny (model prog w) A (keyKind' vs.toArray) Q E s:=by
 have ch:∀ v,∃ x:Int×Tok,v∈vs->∃ (l:Addr) (xs:List Value),v=.ref l/\IsTup s.heap l (.int x.1 x.2::xs).toArray:=λ v=>by
  by_cases c:v∈vs
  ·obtain ⟨l,xs,n,t,e1,e2⟩:=ht v c;exact ⟨(n,t),λ _=>⟨l,xs,e1,e2⟩⟩
  ·exact ⟨(0,0),λ z=>absurd z c⟩
 obtain ⟨F,hF⟩:=Classical.axiomOfChoice ch;rw [keyKind'_eq];refine wpAny_bind (yG (λ v=>some (Value.int (F v).1 (F v).2)) vs (λ v hv Q' q'=>?_) _ ?_)
 ·obtain ⟨l,xs,rfl,o,ho,hc,n,hd⟩:=hF v hv;rw [Fi];refine wpAny_bind (wpAny_typeOf (T := "tuple") ⟨o,ho,hc⟩ ?_);rw [if_neg (by decide)];exact wpAny_bind (listItems_at ho hd (wpAny_pure q'))
 ·rw [if_pos (by simp)];refine wpAny_bind (wpAny_rule ?_);have e1:(vs.map λ v=>some (Value.int (F v).1 (F v).2)).toArray.filterMap id=(vs.map λ v=>Value.int (F v).1 (F v).2).toArray:=by
   rw [List.filterMap_toArray,filterMap_map];congr 1;rw [show (id ∘ λ v=>some (Value.int (F v).1 (F v).2))=λ v=>some (Value.int (F v).1 (F v).2) from rfl];exact congrFun List.filterMap_eq_map' vs
  rw [e1,oneTypeOnly'_eq];refine wpAny_bind (wpAny_bind (yG (λ _=>Value.type "int") _ (λ v hv Q' q'=>?_) _ ?_))
  ·obtain ⟨u,_,rfl⟩:=mem_map.mp hv;exact wpAny_pure q'
  ·rw [List.map_map];obtain ⟨v0,vs',rfl⟩:∃ v0 vs',vs=v0::vs':=by
    cases vs with
    | nil=>exact absurd rfl h0
    | cons a b=>exact ⟨a,b,rfl⟩
   have ha:((List.map ((λ _=>Value.type "int") ∘ λ v=>Value.int (F v).1 (F v).2) (v0::vs')).toArray.all λ x=>x == Value.type "int")=true:=by
    simp only [List.all_toArray,all_map,all_eq_true];intro _ _;rfl
   have hz:(List.map ((λ _=>Value.type "int") ∘ λ v=>Value.int (F v).1 (F v).2) (v0::vs')).toArray[0]?=some (Value.type "int"):=by simp
   rw [hz];simp only [ha,if_true];exact wpAny_pure (wpAny_pure q)
end
end Sx
namespace L2
open PySem PySem.Spec PyProof.Rows
section
variable {X:Cx}
theorem qT:∀ {rs:List Addr} {its:List Value},Vals (rs.map V.ref) its->its=rs.map Value.ref
 | [],_,r=>by cases r;rfl
 | a::rs,_,r=>by
  cases r with
  | cons h t=>
   have e:_=Value.ref a:=h;rw [e,qT t];rfl
theorem qL:∀ (rs:List Addr),Vals (rs.map V.ref) (rs.map Value.ref)
 | []=>.nil
 | a::rs=>.cons (show RelV (.ref a) (.ref a) from rfl) (qL rs)
theorem qY {pins:List (Addr×Obj)}{s:Shared}{σ:St}{H:Hp}{Q:VK}{h':Heap}{tk:Nat}{rs:List Addr}{kss:List (List Int)}(I1:Inv X pins σ H { s with heap:=h',toks:=tk })(hlen:rs.length=kss.length)(hz:rs.length<=sizeLine)
  (hT:∀ (i:Nat) (r:Addr) (ks:List Int),rs[i]?=some r->kss[i]?=some ks->fS X.K H r (ks.map V.int)/\ks≠[])
  (q:∀ l g,H l=none->Sx.Cl g 0 kss.length->Sx.So (Sx.A3 kss) g 0 kss.length->Q (.ref l) (upd H l (.lst (((List.range kss.length).map λ i=>rs.getD (g i) 0).map V.ref)))) :
  wpAny (model X.prog X.w) X.A.in1 (do
   let l <- newList (rs.map Value.ref)
   let _ <- holding [l] (call (Value.builtin "list.sort") [l] [])
   ret l) (λ fin s'=>∃ v,fin=Fin.done (Flow.ret v)/\EP X pins σ Q v s') X.xe { s with heap:=h',toks:=tk }:=by
 have hN:(rs.map Value.ref).length=kss.length:=by rw [length_map,hlen]
 refine wpAny_bind (wpAny_newList ?_);have hoL:(h'.push (seqObj "list" (rs.map Value.ref).toArray 0)).get? h'.objs.size=some (seqObj "list" (rs.map Value.ref).toArray 0):=get?_push_size _ rfl;show wpAny _ _ _ _ _ { s with toks:=tk,heap:=h'.push (seqObj "list" (rs.map Value.ref).toArray 0) };have tup:∀ (i:Nat) (r:Addr) (ks:List Int),rs[i]?=some r->kss[i]?=some ks->∃ its:List Value,IntsAre its ks/\IsTup (Sx.xm (h'.push (seqObj "list" (rs.map Value.ref).toArray 0)) h'.objs.size (rs.map Value.ref)) r its.toArray:=λ i r ks e1 e2=>by
  obtain ⟨its,rv,⟨o,ho,hc,n,hd⟩,_⟩:=I1.tuple (hT i r ks e1 e2).1;refine ⟨its,intsAre_of rv,o,?_,hc,n,hd⟩;have lt:r < h'.objs.size:=lt_size ho;rw [Sx.Hr (ne_of_lt lt) (by rw [size_push];exact lt_succ_of_lt lt)];exact get?_push_of_some _ ho
 refine wpAny_bind (wpAny_holding (wpAny_call_entry slot_list_sort ⟨_,hoL,rfl⟩ entry_list_sort (Sx.A8 (o:=Sx.A3 kss) (kd:=tuples' true) hoL (by rw [hN];omega) (λ h2 Q' q'=>?_) (λ h2 i j hi hj E' Q' q'=>?_) λ g hc hs=>⟨_,rfl,?_⟩) (args_list_sort _)))
 ·refine Sx.AM (λ z=>by rw [z] at h2;simp at h2) (λ v hv=>?_) q';obtain ⟨i,hi⟩:=getElem?_of_mem hv;rw [List.getElem?_map] at hi;obtain ⟨r,hr,rfl⟩:=map_eq_some_iff.mp hi;have lt:=(List.getElem?_eq_some_iff.mp hr).1;have e2:kss[i]?=some kss[i]:=List.getElem?_eq_getElem (by omega);obtain ⟨its,h1,h3⟩:=tup i r _ hr e2;have hne:=(hT i r _ hr e2).2;generalize kss[i]=ks at h1 hne
  cases h1 with
  | nil=>exact absurd rfl hne
  | cons a t h1=>exact ⟨r,_,a,t,rfl,h3⟩
 ·rw [hN] at hi hj;have e1:rs[i]?=some (rs[i]'(by omega)):=List.getElem?_eq_getElem _;have e2:rs[j]?=some (rs[j]'(by omega)):=List.getElem?_eq_getElem _;have k1:kss[i]?=some kss[i]:=List.getElem?_eq_getElem hi;have k2:kss[j]?=some kss[j]:=List.getElem?_eq_getElem hj;obtain ⟨x1,a1,b1⟩:=tup i _ _ e1 k1;obtain ⟨x2,a2,b2⟩:=tup j _ _ e2 k2;have v1:(rs.map Value.ref).getD i .none=.ref (rs[i]'(by omega)):=by rw [getD_eq_getElem?_getD,List.getElem?_map,e1];rfl
  have v2:(rs.map Value.ref).getD j .none=.ref (rs[j]'(by omega)):=by rw [getD_eq_getElem?_getD,List.getElem?_map,e2];rfl
  show wpAny _ _ (keyLt' (tuples' true) ((rs.map Value.ref).getD i .none) ((rs.map Value.ref).getD j .none)) Q' E' _;rw [v1,v2];refine Sx.v_ true b1 b2 a1 a2 ?_;have d1:kss.getD i []=kss[i]:=by rw [getD_eq_getElem?_getD,k1];rfl
  have d2:kss.getD j []=kss[j]:=by rw [getD_eq_getElem?_getD,k2];rfl
  have:(Sx.A3 kss).lt i j=HT.lexLt kss[i] kss[j]:=by show HT.lexLt _ _=_;rw [d1,d2]
  rw [<- this];exact q'
 ·rw [hN] at hc hs ⊢;obtain ⟨e,he⟩:=sortedHeap_at (out:=((List.range kss.length).map λ i=>(rs.map Value.ref).getD (g i) .none).toArray) hoL;have old:∀ b ob,h'.get? b=some ob->(sortedHeap (h'.push (seqObj "list" (rs.map Value.ref).toArray 0)) h'.objs.size (rs.map Value.ref) ((List.range kss.length).map λ i=>(rs.map Value.ref).getD (g i) .none).toArray).get? b=some ob:=λ b ob eb=>by
   rw [sortedHeap_old (ne_of_lt (lt_size eb)) (by rw [size_push];exact lt_succ_of_lt (lt_size eb))];exact get?_push_of_some _ eb
  refine wpAny_pure ⟨_,rfl,.ref h'.objs.size,_,I1.laid (t':=tk) (o:=.lst (((List.range kss.length).map λ i=>rs.getD (g i) 0).map V.ref)) old (Nat.le_refl _) ?_,rfl,q _ g (I1.hok.fresh (Nat.le_refl _)) hc hs⟩;refine ⟨by rw [length_map,length_map,length_range];omega,((List.range kss.length).map λ i=>rs.getD (g i) 0).map Value.ref,e,qL _,?_⟩;rw [he];congr 2;rw [List.map_map];congr 1;refine map_congr_left λ i hi=>?_;have:=(hc i (zero_le _) (mem_range.mp hi)).2;have lt:g i < rs.length:=by omega
  show (rs.map Value.ref).getD (g i) .none=Value.ref (rs.getD (g i) 0);rw [getD_eq_getElem?_getD,List.getElem?_map,List.getElem?_eq_getElem lt,getD_eq_getElem?_getD,List.getElem?_eq_getElem lt];rfl
theorem tR:bB X (.builtin "sorted") (λ xs H Q=>∃ (p:Addr) (rs:List Addr) (kss:List (List Int)),xs=[.ref p]/\f_ X.K H p (rs.map V.ref)/\rs.length=kss.length /\
  (∀ (i:Nat) (r:Addr) (ks:List Int),rs[i]?=some r->kss[i]?=some ks->fS X.K H r (ks.map V.int)/\ks≠[]) /\
  ∀ l g,H l=none->Sx.Cl g 0 kss.length->Sx.So (Sx.A3 kss) g 0 kss.length->Q (.ref l) (upd H l (.lst (((List.range kss.length).map λ i=>rs.getD (g i) 0).map V.ref)))):=by
 intro pins s σ H xs us Q I r h;obtain ⟨p,rs,kss,rfl,hq,hlen,hT,q⟩:=h;obtain ⟨u,rfl,rx⟩:=vals1 r
 cases rx
 obtain ⟨its,rv,pl,hz⟩:=I.list hq;have ei:=qT rv;subst ei;obtain ⟨o,ho,hcl,n,hd⟩:=pl.isList;rw [length_map] at hz;have hN:(rs.map Value.ref).length=kss.length:=by rw [length_map,hlen]
 refine Calls.call_function_entry kind_sorted plain_sorted entry_sorted (args_sorted1 _) ?_;unfold Builtin.«sorted»;refine wpAny_bind (m:=checkCount "sorted" 1 1 _) (wpAny_pure ?_);refine wpAny_bind (wpAny_collect_seq p (.inl rfl) ho hcl hd (λ h' hk=>qY (s:=s) (I.kept (t':=s.toks) hk) hlen hz hT q) (by rw [size_toArray,hN];omega))
end
end L2
namespace Sx
open PySem PyProof.Rows
open PySem.AutoSeq1 (wpAny_loadPart')
open PySem.MeetsSeq PySem.MeetsSeq2 PySem.MeetsSeq3
section
variable {prog:Program} {w:World} {A:Around} {E:Value->Shared->Prop} {s:Shared}
end
end Sx
namespace L2
open PySem PySem.Spec PyProof.Rows
section
variable {X:Cx}
end
end L2
namespace Am
open PySem
inductive A where
 | unb | non | bl (b:Bool) | int (i:Int) | str (x:Str) | tup (xs:List A) | frz (xs:List A) | rng (lo hi:Int) | ref (n:Nat) | exn (c:Str) | ty (n:String)
inductive O where
 | lst (xs:List A) | dct (kvs:List (List Int×A)) | dki (kvs:List (Int×A)) | ins (c:Str) (fs:List (Str×A))
noncomputable abbrev aE:=List O
inductive R (α:Type) where
 | ok (a:α) (S:aE) | ex (c:Str) (S:aE) | no
noncomputable def R.bind {α β:Type}(r:R α)(f:α->aE->R β):R β:=match r with
 | .ok a S=>f a S
 | .ex c S=>.ex c S
 | .no=>.no
noncomputable def R.post {α:Type}(r:R α)(P:α->aE->Prop)(E:Str->aE->Prop):Prop:=match r with
 | .ok a S=>P a S
 | .ex c S=>E c S
 | .no=>False
theorem aK {α β:Type}{r:R α}{f:α->aE->R β}{P:β->aE->Prop}{E:Str->aE->Prop}(h:(r.bind f).post P E):r.post (λ a S=>(f a S).post P E) E:=by
 cases r <;> exact h
theorem A6 {α:Type}{r:R α}{P P':α->aE->Prop}{E E':Str->aE->Prop}(h:r.post P E)(hp:∀ a S,P a S->P' a S)(he:∀ c S,E c S->E' c S):r.post P' E':=by
 cases r with
 | ok a S=>exact hp _ _ h
 | ex c S=>exact he _ _ h
 | no=>exact h.elim
noncomputable def gd {α:Type}(c:Prop)[Decidable c](r:R α):R α:=if c then r else .no
noncomputable def opt {α β:Type}(o:Option β)(f:β->R α):R α:=match o with
 | some b=>f b
 | none=>.no
theorem bA {α:Type}{c:Prop}[Decidable c]{r:R α}{P:α->aE->Prop}{E:Str->aE->Prop}(h:(gd c r).post P E):c/\r.post P E:=by
 unfold gd at h;by_cases hc:c
 ·rw [if_pos hc] at h;exact ⟨hc,h⟩
 ·rw [if_neg hc] at h;exact h.elim
theorem aM {α β:Type}{o:Option β}{f:β->R α}{P:α->aE->Prop}{E:Str->aE->Prop}(h:(opt o f).post P E):∃ b,o=some b/\(f b).post P E:=by
 cases o with
 | none=>exact h.elim
 | some b=>exact ⟨b,rfl,h⟩
theorem K9 {α:Type}{c:Prop}[Decidable c]{r:R α}(h:c):gd c r=r:=if_pos h
noncomputable def ak (S:aE)(n:Nat):Option (List A):=match S[n]? with
 | some (.lst xs)=>some xs
 | _=>none
theorem aT {S:aE}{n:Nat}{xs:List A}(h:ak S n=some xs):S[n]?=some (.lst xs):=by
 unfold ak at h;split at h
 ·rename_i e;cases h;exact e
 ·cases h
theorem mH {S:aE}{n:Nat}{xs:List A}(h:S[n]?=some (.lst xs)):ak S n=some xs:=by
 unfold ak;rw [h]
inductive RS where
 | nx (τ:List A) (S:aE) | rt (a:A) (S:aE) | bk (τ:List A) (S:aE) | ct (τ:List A) (S:aE) | ex (c:Str) (S:aE) | no
noncomputable abbrev Ex:=List A->aE->R A
noncomputable abbrev jB:=List A->aE->R (List A)
noncomputable abbrev Te:=List A->aE->R Bool
noncomputable abbrev Sm:=List A->aE->RS
noncomputable abbrev Tg:=A->List A->aE->R (List A)
end Am
namespace Am
open PySem L2
section
variable (K:PySem.W.Frag) (ρ:List Addr) (H:Hp)
noncomputable def OG (K:PySem.W.Frag)(c:Str)(C:Addr):Prop:=PySem.W.nsIn K mainGlobals c=some (some (.ref C))
noncomputable def Fz (K:PySem.W.Frag)(H:Hp)(a:Addr)(vs:List V):Prop:=
 (∃ o,H a=some (.frz o (.lst vs)))\/∃ (o:Obj) (its:Array Value) (n:Nat),K.lookup a=some o/\o.cls=.type "list" /\ o.dict=none/\o.data=.seq its n/\its.size<=sizeLine/\Vals vs its.toList
mutual
inductive AV:A->V->Prop
 | non:AV .non .non
 | bl (b:Bool):AV (.bl b) (.bl b)
 | int (i:Int):AV (.int i) (.int i)
 | str (x:Str):AV (.str x) (.str x)
 | ty (n:String):AV (.ty n) (.ty n)
 | tup {a:Addr} {xs:List A} {vs:List V} (h:H a=some (.tup vs)) (r:AVs xs vs):AV (.tup xs) (.ref a)
 | frz {a:Addr} {xs:List A} {vs:List V} (h:Fz K H a vs) (r:AVs xs vs):AV (.frz xs) (.ref a)
 | rng {a:Addr} {lo hi:Int} (h:H a=some (.rng lo hi)):AV (.rng lo hi) (.ref a)
 | ref {a:Addr} {n:Nat} (h:ρ[n]?=some a):AV (.ref n) (.ref a)
 | exn {a C:Addr} {c:Str} {oe:Obj} (n:OG K c C) (h:H a=some (.frz oe xu)) (x:XO C oe):AV (.exn c) (.ref a)
inductive AVs:List A->List V->Prop
 | nil:AVs [] []
 | cons {x:A} {v:V} {xs:List A} {vs:List V} (h:AV x v) (t:AVs xs vs):AVs (x::xs) (v::vs)
end
noncomputable def DV:List (List Int×A)->List (List Key×V)->Prop
 | [],[]=>True
 | p::r,q::r'=>(q.1=p.1.map Sum.inl/\AV K ρ H p.2 q.2)/\DV r r'
 | _,_=>False
noncomputable def DI:List (Int×A)->List (Key×V)->Prop
 | [],[]=>True
 | p::r,q::r'=>(q.1=Sum.inl p.1/\AV K ρ H p.2 q.2)/\DI r r'
 | _,_=>False
noncomputable def OR (a:Addr):O->Prop
 | .lst xs=>∃ vs,H a=some (.lst vs)/\AVs K ρ H xs vs
 | .dct kvs=>∃ ks,H a=some (.dT ks)/\DV K ρ H kvs ks
 | .dki kvs=>∃ ks,H a=some (.dK ks)/\DI K ρ H kvs ks
 | .ins _ _=>∃ o u,H a=some (.frz o u)
structure Rel (S:aE):Prop where
 len:ρ.length=S.length
 nd:ρ.Nodup
 «at»:∀ (n:Nat) (a:Addr) (o:O),ρ[n]?=some a->S[n]?=some o->OR K ρ H a o
end
noncomputable def P0:HO->Prop
 | .tup _=>True
 | .rng _ _=>True
 | .frz _ _=>True
 | _=>False
structure Ext0 (ρ ρ':List Addr)(H H':Hp):Prop where
 pre:ρ <+: ρ'
 im:∀ a u,P0 u->H a=some u->H' a=some u
structure Ext (ρ ρ':List Addr)(H H':Hp):Prop extends Ext0 ρ ρ' H H' where
 fr:∀ a u,H a=some u->a∉ρ->H' a=some u
 nw:∀ a,a∈ρ'->a∈ρ\/H a=none
theorem Ext.refl {ρ:List Addr}{H:Hp}:Ext ρ ρ H H:=⟨⟨prefix_refl _,λ _ _ _ h=>h⟩,λ _ _ h _=>h,λ _ h=>.inl h⟩
theorem Ext.trans {ρ ρ1 ρ2:List Addr}{H H1 H2:Hp}(a:Ext ρ ρ1 H H1)(b:Ext ρ1 ρ2 H1 H2):Ext ρ ρ2 H H2:=⟨⟨a.pre.trans b.pre,λ x u i h=>b.im x u i (a.im x u i h)⟩,λ x u h n=>b.fr x u (a.fr x u h n) λ z=>(a.nw x z).elim n λ z=>by (rw [z] at h;cases h),λ x h=>by
 by_cases hx:x∈ρ
 ·exact .inl hx
 ·right
  cases q:H x with
  | none=>rfl
  | some u=>
   rcases b.nw x h with z | z
   ·exact ((a.nw x z).elim hx λ z=>by (rw [z] at q;cases q)).elim
   ·rw [a.fr x u q hx] at z;cases z⟩
theorem Ext0.get {ρ ρ':List Addr}{H H':Hp}(e:Ext0 ρ ρ' H H'){n:Nat}{a:Addr}(h:ρ[n]?=some a):ρ'[n]?=some a:=by
 obtain ⟨t,rfl⟩:=e.pre;rw [getElem?_append_left (List.getElem?_eq_some_iff.mp h).1];exact h
section
variable {K:PySem.W.Frag} {ρ ρ':List Addr} {H H':Hp}
theorem Ext0.Px (e:Ext0 ρ ρ' H H'){a:Addr}{vs:List V}(h:fS K H a vs):fS K H' a vs:=by
 rcases h with (h | ⟨o,h⟩) | h
 ·exact .inl (.inl (e.im _ _ trivial h))
 ·exact .inl (.inr ⟨o,e.im _ _ trivial h⟩)
 ·exact .inr h
theorem Ext0.fz (e:Ext0 ρ ρ' H H'){a:Addr}{vs:List V}(h:Fz K H a vs):Fz K H' a vs:=by
 rcases h with ⟨o,h⟩ | h
 ·exact .inl ⟨o,e.im _ _ trivial h⟩
 ·exact .inr h
theorem Fz.Hh {a:Addr}{vs:List V}(h:Fz K H a vs):f_ K H a vs:=by
 rcases h with ⟨o,h⟩ | h
 ·exact .inl (.inr ⟨o,h⟩)
 ·exact .inr h
mutual
theorem AV.dO (e:Ext0 ρ ρ' H H'):∀ {x:A} {v:V},AV K ρ H x v->AV K ρ' H' x v
 | _,_,.non=>.non
 | _,_,.bl b=>.bl b
 | _,_,.int i=>.int i
 | _,_,.str x=>.str x
 | _,_,.ty x=>.ty x
 | _,_,.tup h r=>.tup (e.im _ _ trivial h) (AVs.dO e r)
 | _,_,.frz h r=>.frz (e.fz h) (AVs.dO e r)
 | _,_,.rng h=>.rng (e.im _ _ trivial h)
 | _,_,.ref h=>.ref (e.get h)
 | _,_,.exn n h x=>.exn n (e.im _ _ trivial h) x
theorem AVs.dO (e:Ext0 ρ ρ' H H'):∀ {xs:List A} {vs:List V},AVs K ρ H xs vs->AVs K ρ' H' xs vs
 | _,_,.nil=>.nil
 | _,_,.cons h t=>.cons (AV.dO e h) (AVs.dO e t)
end
theorem DV.dO (e:Ext0 ρ ρ' H H'):∀ {xs:List (List Int×A)} {vs:List (List Key×V)},DV K ρ H xs vs->DV K ρ' H' xs vs
 | [],[],_=>trivial
 | _::_,_::_,⟨⟨a,b⟩,r⟩=>⟨⟨a,AV.dO e b⟩,DV.dO e r⟩
theorem DV.ext {x:List (List Int×A)}{v:List (List Key×V)}(h:DV K ρ H x v)(e:Ext ρ ρ' H H'):DV K ρ' H' x v:=DV.dO e.toExt0 h
theorem DI.dO (e:Ext0 ρ ρ' H H'):∀ {xs:List (Int×A)} {vs:List (Key×V)},DI K ρ H xs vs->DI K ρ' H' xs vs
 | [],[],_=>trivial
 | _::_,_::_,⟨⟨a,b⟩,r⟩=>⟨⟨a,AV.dO e b⟩,DI.dO e r⟩
theorem DI.ext {x:List (Int×A)}{v:List (Key×V)}(h:DI K ρ H x v)(e:Ext ρ ρ' H H'):DI K ρ' H' x v:=DI.dO e.toExt0 h
theorem AV.ext {x:A}{v:V}(h:AV K ρ H x v)(e:Ext ρ ρ' H H'):AV K ρ' H' x v:=AV.dO e.toExt0 h
theorem AVs.ext {x:List A}{v:List V}(h:AVs K ρ H x v)(e:Ext ρ ρ' H H'):AVs K ρ' H' x v:=AVs.dO e.toExt0 h
theorem AVs.length:∀ {xs:List A} {vs:List V},AVs K ρ H xs vs->xs.length=vs.length
 | _,_,.nil=>rfl
 | _,_,.cons _ t=>congrArg (·+1) (AVs.length t)
theorem AVs.append:∀ {xs ys:List A} {vs ws:List V},AVs K ρ H xs vs->AVs K ρ H ys ws->AVs K ρ H (xs++ys) (vs++ws)
 | _,_,_,_,.nil,s=>s
 | _,_,_,_,.cons h t,s=>.cons h (AVs.append t s)
theorem AVs.take:∀ {xs:List A} {vs:List V} (n:Nat),AVs K ρ H xs vs->AVs K ρ H (xs.take n) (vs.take n)
 | _,_,0,_=>.nil
 | _,_,_+1,.nil=>.nil
 | _,_,n+1,.cons h t=>.cons h (AVs.take n t)
theorem AVs.drop:∀ {xs:List A} {vs:List V} (n:Nat),AVs K ρ H xs vs->AVs K ρ H (xs.drop n) (vs.drop n)
 | _,_,0,r=>r
 | _,_,_+1,.nil=>.nil
 | _,_,n+1,.cons _ t=>AVs.drop n t
theorem AVs.reverse:∀ {xs:List A} {vs:List V},AVs K ρ H xs vs->AVs K ρ H xs.reverse vs.reverse
 | _,_,.nil=>.nil
 | _,_,.cons h t=>by rw [reverse_cons,reverse_cons];exact (AVs.reverse t).append (.cons h .nil)
theorem AVs.get:∀ {xs:List A} {vs:List V} {i:Nat} {x:A},AVs K ρ H xs vs->xs[i]?=some x->∃ v,vs[i]?=some v/\AV K ρ H x v
 | _,_,_,_,.nil,e=>by simp at e
 | _,_,0,_,.cons h _,e=>by simp at e;subst e;exact ⟨_,rfl,h⟩
 | _,_,i+1,x,.cons _ t,e=>by
  obtain ⟨u,h1,h2⟩:=AVs.get (i:=i) (x:=x) t (by simpa using e);exact ⟨u,by simpa using h1,h2⟩
theorem AVs.set {x:A}{v:V}(h:AV K ρ H x v):∀ {xs:List A} {vs:List V} (i:Nat),AVs K ρ H xs vs->AVs K ρ H (xs.set i x) (vs.set i v)
 | _,_,_,.nil=>.nil
 | _,_,0,.cons _ t=>.cons h t
 | _,_,i+1,.cons q t=>.cons q (AVs.set h i t)
theorem AVs.one {x:A}{v:V}(h:AV K ρ H x v):AVs K ρ H [x] [v]:=.cons h .nil
theorem fQ:∀ (ns:List Int),AVs K ρ H (ns.map .int) (ns.map .int)
 | []=>.nil
 | n::ns=>.cons (.int n) (fQ ns)
theorem Rel.lay {S:aE}{p:Addr}{xs:List A}{vs:List V}(R:Rel K ρ H S)(hp:H p=none)(r:AVs K ρ H xs vs):Ext ρ (ρ++[p]) H (upd H p (.lst vs))/\Rel K (ρ++[p]) (upd H p (.lst vs)) (S++[.lst xs])/\(ρ++[p])[S.length]?=some p:=by
 have ex:Ext ρ (ρ++[p]) H (upd H p (.lst vs)):=⟨⟨prefix_append _ _,λ a u _ h=>by rw [aN (aW h hp)];exact h⟩,λ a u h _=>by rw [aN (aW h hp)];exact h,λ a h=>by
  rcases mem_append.mp h with z | z
  ·exact .inl z
  ·have e:a=p:=by simpa using z
   rw [e];exact .inr hp⟩
 have np:∀ (n:Nat) (a:Addr),ρ[n]?=some a->a≠p:=by
  intro n a e z;subst z;have hn:n < S.length:=by rw [<- R.len];exact (List.getElem?_eq_some_iff.mp e).1
  have:=R.at n a S[n] e (List.getElem?_eq_getElem hn)
  cases ho:S[n] with
  | lst xs=>rw [ho] at this;obtain ⟨vs,h,_⟩:=this;rw [hp] at h;cases h
  | dct _ | dki _=>rw [ho] at this;obtain ⟨vs,h,_⟩:=this;rw [hp] at h;cases h
  | ins _ _=>rw [ho] at this;obtain ⟨_,_,h⟩:=this;rw [hp] at h;cases h
 have last:(ρ++[p])[S.length]?=some p:=by rw [<- R.len];simp
 refine ⟨ex,⟨by simp [R.len],?_,?_⟩,last⟩
 ·rw [nodup_append];refine ⟨R.nd,by simp,λ a ha b hb e=>?_⟩;have:b=p:=by simpa using hb
  obtain ⟨n,hn,e'⟩:=List.mem_iff_getElem.mp ha;exact np n a (by rw [List.getElem?_eq_getElem hn,e']) (e.trans this)
 ·intro n a o h1 h2;by_cases hn:n < S.length
  ·rw [getElem?_append_left (by rw [R.len];exact hn)] at h1;rw [getElem?_append_left hn] at h2;have:=R.at n a o h1 h2
   cases o with
   | lst ys=>obtain ⟨ws,e,q⟩:=this;exact ⟨ws,by rw [aN (np n a h1)];exact e,q.ext ex⟩
   | dct _ | dki _=>obtain ⟨ws,e,q⟩:=this;exact ⟨ws,by rw [aN (np n a h1)];exact e,q.ext ex⟩
   | ins _ _=>obtain ⟨oo,uu,e⟩:=this;exact ⟨oo,uu,by rw [aN (np n a h1)];exact e⟩
  ·have e:n=S.length:=by
    have:=(List.getElem?_eq_some_iff.mp h2).1;simp at this;omega
   subst e;rw [last] at h1
   cases h1
   simp at h2;subst h2;exact ⟨vs,bF,r.ext ex⟩
theorem Rel.im {S:aE}{p:Addr}{u:HO}(R:Rel K ρ H S)(hp:H p=none):Ext ρ ρ H (upd H p u)/\Rel K ρ (upd H p u) S:=by
 have ex:Ext ρ ρ H (upd H p u):=⟨⟨prefix_refl _,λ a u _ h=>by rw [aN (aW h hp)];exact h⟩,λ a u h _=>by rw [aN (aW h hp)];exact h,λ _ h=>.inl h⟩;refine ⟨ex,R.len,R.nd,λ n a o h1 h2=>?_⟩;have:=R.at n a o h1 h2
 cases o with
 | lst ys=>obtain ⟨ws,e,q⟩:=this;exact ⟨ws,by rw [aN (aW e hp)];exact e,q.ext ex⟩
 | dct _ | dki _=>obtain ⟨ws,e,q⟩:=this;exact ⟨ws,by rw [aN (aW e hp)];exact e,q.ext ex⟩
 | ins _ _=>obtain ⟨oo,uu,e⟩:=this;exact ⟨oo,uu,by rw [aN (aW e hp)];exact e⟩
theorem Rel.put {S:aE}{n:Nat}{a:Addr}{xs ys:List A}{ws:List V}(R:Rel K ρ H S)(ha:ρ[n]?=some a)(hS:S[n]?=some (.lst xs))(r:AVs K ρ H ys ws):Ext ρ ρ H (upd H a (.lst ws))/\Rel K ρ (upd H a (.lst ws)) (S.set n (.lst ys)):=by
 obtain ⟨vs,e,_⟩:=R.at n a _ ha hS;have ex:Ext ρ ρ H (upd H a (.lst ws)):=⟨⟨prefix_refl _,λ b u i h=>by
  have:b≠a:=by
   intro z;subst z;rw [e] at h;cases h;exact i
  rw [aN this];exact h⟩,λ b u h n=>by
  rw [aN (λ z=>n (by rw [z];exact mem_of_getElem? ha))];exact h,λ _ h=>.inl h⟩
 refine ⟨ex,by rw [length_set];exact R.len,R.nd,λ m b o h1 h2=>?_⟩;by_cases hm:m=n
 ·subst hm;rw [ha] at h1;cases h1;rw [getElem?_set_self (List.getElem?_eq_some_iff.mp hS).1] at h2
  cases h2
  exact ⟨ws,bF,r.ext ex⟩
 ·rw [getElem?_set_ne (Ne.symm hm)] at h2;have nb:b≠a:=λ z=>by
   subst z;obtain ⟨l1,e1⟩:=List.getElem?_eq_some_iff.mp ha;obtain ⟨l2,e2⟩:=List.getElem?_eq_some_iff.mp h1;exact hm ((getElem_inj R.nd).mp (e2.trans e1.symm))
  have:=R.at m b o h1 h2
  cases o with
  | lst ys=>obtain ⟨ws',e',q⟩:=this;exact ⟨ws',by rw [aN nb];exact e',q.ext ex⟩
  | dct _ | dki _=>obtain ⟨ws',e',q⟩:=this;exact ⟨ws',by rw [aN nb];exact e',q.ext ex⟩
  | ins _ _=>obtain ⟨oo,uu,e'⟩:=this;exact ⟨oo,uu,by rw [aN nb];exact e'⟩
theorem Rel.lst {S:aE}{n:Nat}{a:Addr}{xs:List A}(R:Rel K ρ H S)(ha:ρ[n]?=some a)(hS:S[n]?=some (.lst xs)):∃ vs,H a=some (.lst vs)/\AVs K ρ H xs vs:=R.at n a _ ha hS
structure SR (K:PySem.W.Frag)(ρ:List Addr)(H:Hp)(τ:List A)(σ:St):Prop where
 len:τ.length=σ.length
 «at»:∀ (i:Nat) (a:A),τ[i]?=some a->a=.unb\/∃ v,σ[i]?=some (some v)/\AV K ρ H a v
theorem SR.dO {τ:List A}{σ:St}(s:SR K ρ H τ σ)(e:Ext0 ρ ρ' H H'):SR K ρ' H' τ σ:=⟨s.len,λ i a h=>by
 rcases s.at i a h with z | ⟨v,h1,h2⟩
 ·exact .inl z
 ·exact .inr ⟨v,h1,AV.dO e h2⟩⟩
theorem SR.ext {τ:List A}{σ:St}(s:SR K ρ H τ σ)(e:Ext ρ ρ' H H'):SR K ρ' H' τ σ:=s.dO e.toExt0
theorem Rel.out {S:aE}{D:Addr}{vs ws:List V}(R:Rel K ρ H S)(hD:H D=some (.lst vs))(hn:D∉ρ):Ext0 ρ ρ H (upd H D (.lst ws))/\Rel K ρ (upd H D (.lst ws)) S:=by
 have ex:Ext0 ρ ρ H (upd H D (.lst ws)):=⟨prefix_refl _,λ b u i h=>by
  have:b≠D:=by
   intro z;subst z;rw [hD] at h;cases h;exact i
  rw [aN this];exact h⟩
 refine ⟨ex,R.len,R.nd,λ n a o h1 h2=>?_⟩;have na:a≠D:=λ z=>hn (by rw [<- z];exact mem_of_getElem? h1);have:=R.at n a o h1 h2
 cases o with
 | lst ys=>obtain ⟨ws',e,q⟩:=this;exact ⟨ws',by rw [aN na];exact e,AVs.dO ex q⟩
 | dct _ | dki _=>obtain ⟨ws',e,q⟩:=this;exact ⟨ws',by rw [aN na];exact e,q.dO ex⟩
 | ins _ _=>obtain ⟨oo,uu,e⟩:=this;exact ⟨oo,uu,by rw [aN na];exact e⟩
theorem Rel.take {S:aE}{D:Addr}{xs:List A}{vs:List V}(R:Rel K ρ H S)(hD:H D=some (.lst vs))(hn:D∉ρ)(r:AVs K ρ H xs vs):Rel K (ρ++[D]) H (S++[.lst xs])/\(ρ++[D])[S.length]?=some D:=by
 have ex:Ext0 ρ (ρ++[D]) H H:=⟨prefix_append _ _,λ _ _ _ h=>h⟩;have last:(ρ++[D])[S.length]?=some D:=by rw [<- R.len];simp
 refine ⟨⟨by simp [R.len],?_,λ n a o h1 h2=>?_⟩,last⟩
 ·rw [nodup_append];refine ⟨R.nd,by simp,λ a ha b hb e=>?_⟩;have:b=D:=by simpa using hb
  exact hn (by rw [<- this,<- e];exact ha)
 ·by_cases hs:n < S.length
  ·rw [getElem?_append_left (by rw [R.len];exact hs)] at h1;rw [getElem?_append_left hs] at h2;have:=R.at n a o h1 h2
   cases o with
   | lst ys=>obtain ⟨ws,e,q⟩:=this;exact ⟨ws,e,AVs.dO ex q⟩
   | dct _ | dki _=>obtain ⟨ws,e,q⟩:=this;exact ⟨ws,e,q.dO ex⟩
   | ins _ _=>obtain ⟨oo,uu,e⟩:=this;exact ⟨oo,uu,e⟩
  ·have e:n=S.length:=by
    have:=(List.getElem?_eq_some_iff.mp h2).1;simp at this;omega
   subst e;rw [last] at h1
   cases h1
   simp at h2;subst h2;exact ⟨vs,hD,AVs.dO ex r⟩
theorem SR.set {τ:List A}{σ:St}{i:Nat}{a:A}{v:V}(s:SR K ρ H τ σ)(h:AV K ρ H a v):SR K ρ H (τ.set i a) (σ.set i (some v)):=by
 refine ⟨by simp [s.len],λ j b e=>?_⟩;by_cases hj:j=i
 ·subst hj;have hl:j < τ.length:=by
   have:=(List.getElem?_eq_some_iff.mp e).1;simpa using this
  rw [getElem?_set_self hl] at e
  cases e
  exact .inr ⟨v,getElem?_set_self (by rw [<- s.len];exact hl),h⟩
 ·rw [getElem?_set_ne (Ne.symm hj)] at e;rw [getElem?_set_ne (Ne.symm hj)];exact s.at j b e
end
end Am
namespace Am
open PySem PySem.Spec PyProof.Rows L2
noncomputable def XE (X:Cx)(ρ:List Addr)(H:Hp):Str->aE->Prop:=λ c S'=>∀ (C:Addr) (ρ':List Addr) (H':Hp),OG X.K c C->Ext ρ ρ' H H'->Rel X.K ρ' H' S'->EX X (.ref C) none H'
theorem XE.ext {X:Cx}{ρ ρ':List Addr}{H H':Hp}{c:Str}{S:aE}(h:XE X ρ H c S)(e:Ext ρ ρ' H H'):XE X ρ' H' c S:=λ C ρ2 H2 n e2=>h C ρ2 H2 n (e.trans e2)
noncomputable def oB (X:Cx)(ρ:List Addr)(H:Hp)(Q:VK):A->aE->Prop:=λ a S'=>∀ ρ' H' v,Ext ρ ρ' H H'->Rel X.K ρ' H' S'->AV X.K ρ' H' a v->Q v H'
noncomputable def NX (X:Cx)(ρ:List Addr)(H:Hp)(Q:Bool->Hp->Prop):Bool->aE->Prop:=λ b S'=>∀ ρ' H',Ext ρ ρ' H H'->Rel X.K ρ' H' S'->Q b H'
noncomputable def P5 (X:Cx)(ρ:List Addr)(H:Hp)(Q:List V->Hp->Prop):List A->aE->Prop:=λ as S'=>∀ ρ' H' vs,Ext ρ ρ' H H'->Rel X.K ρ' H' S'->AVs X.K ρ' H' as vs->Q vs H'
theorem oB.ext {X:Cx}{ρ ρ':List Addr}{H H':Hp}{Q:VK}{a:A}{S:aE}(h:oB X ρ H Q a S)(e:Ext ρ ρ' H H'):oB X ρ' H' Q a S:=λ ρ2 H2 v e2=>h ρ2 H2 v (e.trans e2)
theorem NX.ext {X:Cx}{ρ ρ':List Addr}{H H':Hp}{Q:Bool->Hp->Prop}{a:Bool}{S:aE}(h:NX X ρ H Q a S)(e:Ext ρ ρ' H H'):NX X ρ' H' Q a S:=λ ρ2 H2 e2=>h ρ2 H2 (e.trans e2)
theorem aF {α:Type}{X:Cx}{ρ ρ':List Addr}{H H':Hp}{r:R α}{P P':α->aE->Prop}(h:r.post P (XE X ρ H))(e:Ext ρ ρ' H H')(hp:∀ a S,P a S->P' a S):r.post P' (XE X ρ' H'):=A6 h hp λ _ _ z=>z.ext e
noncomputable def tE (X:Cx)(c:Ex):TE:=λ σ H Q=>∃ ρ S τ,Rel X.K ρ H S/\SR X.K ρ H τ σ/\(c τ S).post (oB X ρ H Q) (XE X ρ H)
noncomputable def tT (X:Cx)(c:Te):TT:=λ σ H Q=>∃ ρ S τ,Rel X.K ρ H S/\SR X.K ρ H τ σ/\(c τ S).post (NX X ρ H Q) (XE X ρ H)
noncomputable def tL (X:Cx)(c:jB):TA:=λ σ H Q=>∃ ρ S τ,Rel X.K ρ H S/\SR X.K ρ H τ σ/\(c τ S).post (P5 X ρ H Q) (XE X ρ H)
noncomputable def AE (X:Cx)(e:Expr)(c:Ex):Prop:=PE X e (tE X c)
noncomputable def AT (X:Cx)(e:Expr)(c:Te):Prop:=PT X e (tT X c)
noncomputable def AW (X:Cx)(e:Expr)(c:Te):Prop:=PW X e (tT X c)
noncomputable def AL (X:Cx)(es:List Expr)(c:jB):Prop:=PA X es (tL X c)
theorem PE.imp {X:Cx}{e:Expr}{t t':TE}(h:PE X e t)(i:∀ σ H Q,t' σ H Q->t σ H Q):PE X e t':=λ pins s σ H Q I q=>h pins s σ H Q I (i σ H Q q)
theorem PT.imp {X:Cx}{e:Expr}{t t':TT}(h:PT X e t)(i:∀ σ H Q,t' σ H Q->t σ H Q):PT X e t':=λ pins s σ H Q I q=>h pins s σ H Q I (i σ H Q q)
theorem PW.imp {X:Cx}{e:Expr}{t t':TT}(h:PW X e t)(i:∀ σ H Q,t' σ H Q->t σ H Q):PW X e t':=λ w pins s σ H Q I q=>h w pins s σ H Q I (i σ H Q q)
theorem PA.imp {X:Cx}{e:List Expr}{t t':TA}(h:PA X e t)(i:∀ σ H Q,t' σ H Q->t σ H Q):PA X e t':=λ p pins s σ H Q I q=>h p pins s σ H Q I (i σ H Q q)
theorem AW.at {X:Cx}{e:Expr}{c:Te}(h:AW X e c):AT X e c:=h _
noncomputable def A.eU:A->Bool
 | .unb=>true
 | _=>false
noncomputable def ah (i:Nat):Ex:=λ τ S=>if (τ.getD i .unb).eU then .no else .ok (τ.getD i .unb) S
noncomputable def eC (a:A):Ex:=λ _ S=>.ok a S
section
variable {X:Cx} {pos:Pos} {a b:Expr}
theorem aa (i:Nat){x:Str}(hN:X.N[i]?=some x:=by rfl)(hv:LR X.env.scope x:=by first | exact Or.inl rfl | exact Or.inr (Or.inl rfl) | exact Or.inr (Or.inr rfl))(hd:(x == ("__debug__" : Str))=false:=by decide)
  (hcd:(x == ("__classdict__" : Str))=false:=by decide):AE X (.Name x pos) (ah i):=PE.imp (EV hN hv hd hcd) λ σ H Q h9=>by
 obtain ⟨ρ,S,τ,R,r,h⟩:=h9;unfold ah at h
 cases hi:τ[i]? with
 | none=>
  rw [getD_eq_getElem?_getD,hi] at h;exact h.elim
 | some x=>
  rw [getD_eq_getElem?_getD,hi] at h
  rcases r.at i x hi with z | ⟨v,e,q⟩
  ·subst z;exact h.elim
  ·refine ⟨v,e,?_⟩
   cases x <;> first | (exact h ρ H v .refl R q) | exact h.elim
theorem aI {i:Int}{j pos}:AE X (.Constant (.int i) j pos) (eC (.int i)):=PE.imp xg λ σ H Q ⟨ρ,S,τ,R,r,h⟩=>h ρ H _ .refl R (.int i)
theorem rH {i:Bool}{j pos}:AE X (.Constant (.bool i) j pos) (eC (.bl i)):=PE.imp MR λ σ H Q ⟨ρ,S,τ,R,r,h⟩=>h ρ H _ .refl R (.bl i)
theorem se {j pos}:AE X (.Constant .none j pos) (eC .non):=PE.imp LF λ σ H Q ⟨ρ,S,τ,R,r,h⟩=>h ρ H _ .refl R .non
theorem qw {x:Str}{i:Int}{t:Tok}(hm:X.mg x=some (.int i t))(hg:Gl X x:=by rfl)(hd:(x == ("__debug__" : Str))=false:=by decide):AE X (.Name x pos) (eC (.int i)):=
 PE.imp (FF (v:=.int i) hg hm ⟨t,rfl⟩ hd) λ σ H Q ⟨ρ,S,τ,R,r,h⟩=>h ρ H _ .refl R (.int i)
noncomputable def aG (f:A->A->aE->R A)(ca cb:Ex):Ex:=λ τ S=>(ca τ S).bind λ a S1=>(cb τ S1).bind λ b S2=>f a b S2
noncomputable def r2 (X:Cx)(f:A->A->aE->R A):R2:=λ x y H Q=>∃ ρ S a b,Rel X.K ρ H S/\AV X.K ρ H a x/\AV X.K ρ H b y/\(f a b S).post (oB X ρ H Q) (XE X ρ H)
noncomputable def r1 (X:Cx)(f:A->aE->R A):V->Hp->VK->Prop:=λ x H Q=>∃ ρ S a,Rel X.K ρ H S/\AV X.K ρ H a x/\(f a S).post (oB X ρ H Q) (XE X ρ H)
noncomputable def rN (X:Cx)(f:List A->aE->R A):List V->Hp->VK->Prop:=λ xs H Q=>∃ ρ S as,Rel X.K ρ H S/\AVs X.K ρ H as xs/\(f as S).post (oB X ρ H Q) (XE X ρ H)
theorem e_.imp {f:Value->Value->Sem Value}{r r':R2}(h:e_ X f r)(i:∀ x y H Q,r' x y H Q->r x y H Q):e_ X f r':=λ pins s σ H x y v u Q I rx ry q=>h pins s σ H x y v u Q I rx ry (i _ _ _ _ q)
theorem bB.imp {f:Value}{r r':List V->Hp->VK->Prop}(h:bB X f r)(i:∀ x H Q,r' x H Q->r x H Q):bB X f r':=λ pins s σ H x v Q I rx q=>h pins s σ H x v Q I rx (i _ _ _ q)
theorem mC {f:A->A->aE->R A}{ca cb:Ex}{σ:L2.St}{H:Hp}{Q:VK}(h:tE X (aG f ca cb) σ H Q):Nv (r2 X f) (tE X ca) (tE X cb) σ H Q:=by
 obtain ⟨ρ,S,τ,R,r,h⟩:=h;refine ⟨ρ,S,τ,R,r,aF (aK h) .refl λ a S1 h1 ρ1 H1 x e1 R1 v1=>⟨ρ1,S1,τ,R1,r.ext e1,aF (aK h1) e1 λ b S2 h2 ρ2 H2 y e2 R2 v2=>?_⟩⟩;exact ⟨ρ2,S2,a,b,R2,v1.ext e2,v2,aF h2 (e1.trans e2) λ c S3 h3=>h3.ext (e1.trans e2)⟩
theorem aP {op:Operator}{f:A->A->aE->R A}{ca cb:Ex}(ho:e_ X (binaryOp op) (r2 X f))(ha:AE X a ca)(hb:AE X b cb):AE X (.BinOp a op b pos) (aG f ca cb):=
 PE.imp (My ho ha hb) λ σ H Q h=>mC h
theorem jP {op:CmpOp}{f:A->A->aE->R A}{ca cb:Ex}(ho:e_ X (compareOp op) (r2 X f))(ha:AE X a ca)(hb:AE X b cb)(hm:behindInMarks op b=false:=by first | exact D5 _ | with_unfolding_all rfl):AE X (.Compare a [op] [b] pos) (aG f ca cb):=
 PE.imp (GN ho ha hb hm) λ σ H Q h=>mC h
noncomputable def A.LC:A->aE->Option Bool
 | .non,_=>some false
 | .bl b,_=>some b
 | .int i,_=>some (i != 0)
 | .str x,_=>if x.length<=sizeLine then some ((x.length:Int) != 0) else none
 | .tup xs,_=>some (!xs.isEmpty)
 | .frz xs,_=>some (!xs.isEmpty)
 | .ref n,S=>(ak S n).map λ xs=>!xs.isEmpty
 | _,_=>none
noncomputable def jk (c:Ex):Te:=λ τ S=>(c τ S).bind λ a S1=>opt (a.LC S1) λ b=>.ok b S1
noncomputable def iS (c:Ex):Te:=λ τ S=>(c τ S).bind λ a S1=>match a with
 | .bl b=>.ok b S1
 | _=>.no
theorem rq {K:PySem.W.Frag}{ρ:List Addr}{H:Hp}{b:Bool}{v:V}(h:AV K ρ H (.bl b) v):v=.bl b:=by cases h;rfl
theorem bR {op:CmpOp}{f:A->A->aE->R A}{ca cb:Ex}(ho:e_ X (compareOp op) (r2 X f))(ha:AE X a ca)(hb:AE X b cb)(hm:behindInMarks op b=false:=by first | exact D5 _ | with_unfolding_all rfl):AT X (.Compare a [op] [b] pos) (iS (aG f ca cb)):=
 PT.imp (FZ ho ha hb hm) λ σ H Q h9=>by
  obtain ⟨ρ,S,τ,R,r,h⟩:=h9;refine mC ⟨ρ,S,τ,R,r,aF (aK h) .refl λ c S1 h1 ρ1 H1 x e1 R1 v1=>?_⟩
  cases c with
  | bl k=>cases rq v1;exact ⟨k,rfl,h1 ρ1 H1 e1 R1⟩
  | _=>exact h1.elim
theorem Li {K:PySem.W.Frag}{ρ:List Addr}{H:Hp}{S:aE}{x:A}{v:V}{b:Bool}(R:Rel K ρ H S)(h:AV K ρ H x v)(e:x.LC S=some b):LN K v H b:=by
 have emp:∀ {xs:List A} {vs:List V},AVs K ρ H xs vs->(!xs.isEmpty)=!vs.isEmpty:=λ r=>by cases r <;> rfl
 cases h with
 | non=>exact (Option.some.inj e).symm
 | bl b=>exact (Option.some.inj e).symm
 | int i=>exact (Option.some.inj e).symm
 | str x=>
  by_cases hx:x.length<=sizeLine
  ·exact ⟨hx,by have:=(if_pos hx).symm.trans e;exact (Option.some.inj this).symm⟩
  ·have:=(if_neg hx).symm.trans e;cases this
 | tup h r=>exact .inr (.inl ⟨_,fS.of h,by rw [<- emp r];exact (Option.some.inj e).symm⟩)
 | frz h r=>exact .inl ⟨_,h.Hh,by rw [<- emp r];exact (Option.some.inj e).symm⟩
 | rng h=>cases e
 | ty n=>cases e
 | exn n h x=>cases e
 | @ref a n h=>
  have e:(ak S n).map (λ xs=>!xs.isEmpty)=some b:=e;obtain ⟨xs,hn,e⟩:=map_eq_some_iff.mp e;obtain ⟨vs,h1,h2⟩:=R.lst h (aT hn);exact .inl ⟨vs,f_.of h1,by rw [<- emp h2];exact e.symm⟩
theorem gR {ca:Ex}(ha:AE X a ca)(he:∀ whole,isTrue a X.env whole=(do let v <- whole;standAt a.pos;holding [v] (truthy v)):=by intro _;rfl):AT X a (jk ca):=
 PT.imp (B9 ha he) λ σ H Q ⟨ρ,S,τ,R,r,h⟩=>⟨ρ,S,τ,R,r,aF (aK h) .refl λ c S1 h1 ρ1 H1 x e1 R1 v1=>by
  obtain ⟨b,hb,h1⟩:=aM h1;exact ⟨b,Li R1 v1 hb,h1 ρ1 H1 e1 R1⟩⟩
noncomputable def sN (c:Te):Te:=λ τ S=>(c τ S).bind λ b S1=>.ok (!b) S1
noncomputable def C7 (c d:Te):Te:=λ τ S=>(c τ S).bind λ b S1=>match b with | true=>d τ S1 | false=>.ok false S1
noncomputable def Ir (c d:Te):Te:=λ τ S=>(c τ S).bind λ b S1=>match b with | true=>.ok true S1 | false=>d τ S1
theorem kQ {c:Te}(h:AT X a c):AT X (.UnaryOp .Not a pos) (sN c):=PT.imp (Ln h) λ σ H Q ⟨ρ,S,τ,R,r,h⟩=>⟨ρ,S,τ,R,r,aF (aK h) .refl λ b S1 h1=>h1⟩
theorem and_imp {c d:Te}{σ:L2.St}{H:Hp}{Q:Bool->Hp->Prop}(h:tT X (C7 c d) σ H Q):Mr (tT X c) (tT X d) σ H Q:=by
 obtain ⟨ρ,S,τ,R,r,h⟩:=h;refine ⟨ρ,S,τ,R,r,aF (aK h) .refl λ b S1 h1 ρ1 H1 e1 R1=>?_⟩
 cases b with
 | true=>
  rw [if_pos rfl];exact ⟨ρ1,S1,τ,R1,r.ext e1,aF h1 e1 λ _ _ z=>z.ext e1⟩
 | false=>
  rw [if_neg Bool.false_ne_true];exact h1 ρ1 H1 e1 R1
theorem or_imp {c d:Te}{σ:L2.St}{H:Hp}{Q:Bool->Hp->Prop}(h:tT X (Ir c d) σ H Q):Pz (tT X c) (tT X d) σ H Q:=by
 obtain ⟨ρ,S,τ,R,r,h⟩:=h;refine ⟨ρ,S,τ,R,r,aF (aK h) .refl λ b S1 h1 ρ1 H1 e1 R1=>?_⟩
 cases b with
 | false=>
  rw [if_neg Bool.false_ne_true];exact ⟨ρ1,S1,τ,R1,r.ext e1,aF h1 e1 λ _ _ z=>z.ext e1⟩
 | true=>
  rw [if_pos rfl];exact h1 ρ1 H1 e1 R1
variable {rest:List Expr}
theorem yI {c:Te}(h:AT X a c):AW X (.BoolOp .And [a] pos) c:=G5 h
theorem vZ {c:Te}(h:AT X a c):AW X (.BoolOp .Or [a] pos) c:=JS h
theorem DL {c d:Te}(h:AT X a c)(h2:AW X (.BoolOp .And (b::rest) pos) d):AW X (.BoolOp .And (a::b::rest) pos) (C7 c d):=PW.imp (Lw h h2) λ _ _ _ q=>and_imp q
theorem vL {c d:Te}(h:AT X a c)(h2:AW X (.BoolOp .Or (b::rest) pos) d):AW X (.BoolOp .Or (a::b::rest) pos) (Ir c d):=PW.imp (Nz h h2) λ _ _ _ q=>or_imp q
noncomputable def ML (c d:Ex):Ex:=λ τ S=>(c τ S).bind λ a S1=>match a with | .bl true=>d τ S1 | .bl false=>.ok (.bl false) S1 | _=>.no
noncomputable def LQ (c d:Ex):Ex:=λ τ S=>(c τ S).bind λ a S1=>match a with | .bl true=>.ok (.bl true) S1 | .bl false=>d τ S1 | _=>.no
noncomputable def JQ (c:Ex):Ex:=λ τ S=>(c τ S).bind λ a S1=>match a with | .bl b=>.ok (.bl !b) S1 | _=>.no
theorem DP {op}{c:Ex}(h:AE X a c):AE X (.BoolOp op [a] pos) c:=KU h
theorem I_ {c d:Ex}(h:AE X a c)(h2:AE X (.BoolOp .Or (b::rest) pos) d):AE X (.BoolOp .Or (a::b::rest) pos) (LQ c d):=PE.imp (MI h h2) λ σ H Q h9=>by
 obtain ⟨ρ,S,τ,R,r,h⟩:=h9;refine ⟨ρ,S,τ,R,r,aF (aK h) .refl λ b S1 h1 ρ1 H1 x e1 R1 v1=>?_⟩
 cases b with
 | bl k=>
  cases rq v1
  refine ⟨k,rfl,?_⟩
  cases k with
  | false=>
   rw [if_neg Bool.false_ne_true];exact ⟨ρ1,S1,τ,R1,r.ext e1,aF h1 e1 λ _ _ z=>z.ext e1⟩
  | true=>
   rw [if_pos rfl];exact h1 ρ1 H1 _ e1 R1 (.bl true)
 | _=>exact h1.elim
theorem Kx {c:Ex}(h:AE X a c):AE X (.UnaryOp .Not a pos) (JQ c):=PE.imp (JB h) λ σ H Q h9=>by
 obtain ⟨ρ,S,τ,R,r,h⟩:=h9;refine ⟨ρ,S,τ,R,r,aF (aK h) .refl λ b S1 h1 ρ1 H1 x e1 R1 v1=>?_⟩
 cases b with
 | bl k=>
  cases rq v1
  exact ⟨k,rfl,h1 ρ1 H1 _ e1 R1 (.bl _)⟩
 | _=>exact h1.elim
noncomputable def PY (t:Te)(c d:Ex):Ex:=λ τ S=>(t τ S).bind λ b S1=>match b with | true=>c τ S1 | false=>d τ S1
noncomputable def aJ:jB:=λ _ S=>.ok [] S
noncomputable def aj (c:Ex)(d:jB):jB:=λ τ S=>(c τ S).bind λ a S1=>(d τ S1).bind λ as S2=>.ok (a::as) S2
theorem aA:AL X [] aJ:=PA.imp vY λ σ H Q ⟨ρ,S,τ,R,r,h⟩=>h ρ H _ .refl R .nil
theorem af {e:Expr}{es:List Expr}{c:Ex}{d:jB}(ha:AE X e c)(hr:AL X es d)(hs:starEach (e::es) X.env=(false,eval e X.env)::starEach es X.env:=by rfl):AL X (e::es) (aj c d):=
 PA.imp (n8 ha hr hs) λ σ H Q h9=>by
  obtain ⟨ρ,S,τ,R,r,h⟩:=h9;refine ⟨ρ,S,τ,R,r,aF (aK h) .refl λ a S1 h1 ρ1 H1 x e1 R1 v1=>⟨ρ1,S1,τ,R1,r.ext e1,aF (aK h1) e1 λ as S2 h2 ρ2 H2 xs e2 R2 v2=>?_⟩⟩;exact h2 ρ2 H2 _ (e1.trans e2) R2 (.cons (v1.ext e2) v2)
noncomputable def jF (d:jB):Ex:=λ τ S=>(d τ S).bind λ as S1=>gd (as.length<=sizeLine) (.ok (.tup as) S1)
noncomputable def newL (as:List A)(S:aE):R A:=gd (as.length<=sizeLine) (.ok (.ref S.length) (S++[.lst as]))
noncomputable def kB (d:jB):Ex:=λ τ S=>(d τ S).bind λ as S1=>newL as S1
theorem jx {ρ ρ0:List Addr}{H H0:Hp}{S:aE}{as:List A}{vs:List V}{Q:VK}(R:Rel X.K ρ H S)(r:AVs X.K ρ H as vs)(e:Ext ρ0 ρ H0 H)(h:oB X ρ0 H0 Q (.tup as) S):∀ p,H p=none->Q (.ref p) (upd H p (.tup vs)):=λ p hp=>by
 obtain ⟨ex,R'⟩:=R.im (u:=.tup vs) hp;exact h ρ _ _ (e.trans ex) R' (.tup bF (r.ext ex))
theorem d7 {ρ ρ0:List Addr}{H H0:Hp}{S:aE}{as:List A}{vs:List V}{Q:VK}(R:Rel X.K ρ H S)(r:AVs X.K ρ H as vs)(e:Ext ρ0 ρ H0 H)(h:oB X ρ0 H0 Q (.ref S.length) (S++[.lst as])):∀ p,H p=none->Q (.ref p) (upd H p (.lst vs)):=λ p hp=>by
 obtain ⟨ex,R',g⟩:=R.lay hp r;exact h _ _ _ (e.trans ex) R' (.ref g)
theorem Hg {ρ ρ0:List Addr}{H H0:Hp}{S:aE}{as:List A}{vs:List V}{Q:VK}(R:Rel X.K ρ H S)(r:AVs X.K ρ H as vs)(e:Ext ρ0 ρ H0 H)(h:(newL as S).post (oB X ρ0 H0 Q) (XE X ρ0 H0)):vs.length<=sizeLine/\∀ p,H p=none->Q (.ref p) (upd H p (.lst vs)):=by
 obtain ⟨hl,h⟩:=bA h;exact ⟨by rw [<- r.length];exact hl,d7 R r e h⟩
theorem jo {es:List Expr}{d:jB}{x1}(h:AL X es d):AE X (.Tuple es x1 pos) (jF d):=PE.imp (J7 h) λ σ H Q h9=>by
 obtain ⟨ρ,S,τ,R,r,h⟩:=h9;refine ⟨ρ,S,τ,R,r,aF (aK h) .refl λ as S1 h1 ρ1 H1 xs e1 R1 v1=>?_⟩;obtain ⟨hl,h1⟩:=bA h1;exact ⟨by rw [<- v1.length];exact hl,jx R1 v1 e1 h1⟩
theorem fZ {es:List Expr}{d:jB}(h:AL X es d):AE X (.List es pos) (kB d):=PE.imp (K_ h) λ σ H Q ⟨ρ,S,τ,R,r,h⟩=>
 ⟨ρ,S,τ,R,r,aF (aK h) .refl λ as S1 h1 ρ1 H1 xs e1 R1 v1=>Hg R1 v1 e1 h1⟩
end
section
variable {X:Cx} {pos:Pos} {a b:Expr}
noncomputable def aSub (a b:A)(S:aE):R A:=match a,b with
 | .int i,.int j=>.ok (.int (i - j)) S
 | _,_=>.no
theorem fN:e_ X (binaryOp .Sub) (r2 X aSub):=e_.imp LL λ x y H Q h9=>by
 obtain ⟨ρ,S,a,b,R,va,vb,h⟩:=h9
 cases va <;> first | exact h.elim | (cases vb <;> first | exact h.elim | exact ⟨_,_,rfl,rfl,h _ _ _ .refl R (.int _)⟩)
noncomputable def vD (i j:Int):Bool:=(decide (-(2 ^ 64) < i) && decide (i < 2 ^ 64)) || (decide (-(2 ^ 64) < j) && decide (j < 2 ^ 64))
theorem mulOk_of {i j:Int}(h:vD i j=true):GV i j:=by
 unfold vD at h;simp only [Bool.or_eq_true,and_eq_true,decide_eq_true_eq] at h;exact h
noncomputable def gH (a b:A)(S:aE):R A:=match a,b with
 | .int i,.int j=>gd (vD i j) (.ok (.int (i * j)) S)
 | .ref n,.int k=>opt (ak S n) λ xs=>gd (-(2 ^ 63)<=k/\k < 2 ^ 63/\xs.length * k.toNat<=sizeLine) (.ok (.ref S.length) (S++[.lst (List.replicate k.toNat xs).flatten]))
 | _,_=>.no
theorem AVs.rep {K:PySem.W.Frag}{ρ:List Addr}{H:Hp}{xs:List A}{vs:List V}(r:AVs K ρ H xs vs):∀ k:Nat,AVs K ρ H (List.replicate k xs).flatten (List.replicate k vs).flatten
 | 0=>.nil
 | k+1=>by rw [replicate_succ,replicate_succ,flatten_cons,flatten_cons];exact r.append (AVs.rep r k)
theorem kH:e_ X (binaryOp .Mult) (r2 X gH):=λ pins s σ H x y v u Q I rx ry h9=>by
 obtain ⟨ρ,S,a,b,R,va,vb,h⟩:=h9
 cases va with
 | int i=>
  cases vb with
  | int j=>
   obtain ⟨hm,h⟩:=bA h;exact Jz pins s σ H _ _ v u Q I rx ry ⟨i,j,rfl,rfl,mulOk_of hm,h _ _ _ .refl R (.int _)⟩
  | _=>exact h.elim
 | @ref p n hp=>
  cases vb with
  | int k=>
   obtain ⟨xs,hn,h⟩:=aM h;obtain ⟨hc,h⟩:=bA h;obtain ⟨vs,h1,h2⟩:=R.lst hp (aT hn);exact JH pins s σ H _ _ v u Q I rx ry ⟨p,k,vs,rfl,rfl,h1,hc.1,hc.2.1,by rw [<- h2.length];exact hc.2.2,d7 R (h2.rep _) .refl h⟩
  | _=>exact h.elim
 | _=>exact h.elim
noncomputable def uh (a b:A)(S:aE):R A:=match a,b with
 | .int i,.int j=>gd (0 < j/\j < 18446744073709551616) (.ok (.int (i / j)) S)
 | _,_=>.no
theorem xq:e_ X (binaryOp .FloorDiv) (r2 X uh):=e_.imp BF λ x y H Q h9=>by
 obtain ⟨ρ,S,a,b,R,va,vb,h⟩:=h9
 cases va <;> first | exact h.elim | (cases vb <;> first | exact h.elim | exact ⟨_,_,rfl,rfl,(bA h).1,(bA h).2 _ _ _ .refl R (.int _)⟩)
noncomputable def kX (a b:A)(S:aE):R A:=match a,b with
 | .int i,.int j=>gd (0 < j) (.ok (.int (i % j)) S)
 | _,_=>.no
theorem p7:e_ X (binaryOp .Mod) (r2 X kX):=e_.imp Lg λ x y H Q h9=>by
 obtain ⟨ρ,S,a,b,R,va,vb,h⟩:=h9
 cases va <;> first | exact h.elim | (cases vb <;> first | exact h.elim | exact ⟨_,_,rfl,rfl,(bA h).1,(bA h).2 _ _ _ .refl R (.int _)⟩)
noncomputable def G0 (a b:A)(S:aE):R A:=match a,b with
 | .int i,.int j=>gd (0<=j/\j<=1000000/\i.natAbs < 2 ^ 64) (.ok (.int (i ^ j.toNat)) S)
 | _,_=>.no
theorem NN:e_ X (binaryOp .Pow) (r2 X G0):=e_.imp K3 λ x y H Q h9=>by
 obtain ⟨ρ,S,a,b,R,va,vb,h⟩:=h9
 cases va <;> first | exact h.elim | (cases vb <;> first | exact h.elim | exact ⟨_,_,rfl,rfl,(bA h).1,(bA h).2 _ _ _ .refl R (.int _)⟩)
noncomputable def cC (a b:A)(S:aE):R A:=match a,b with
 | .int i,.int j=>.ok (.int (i+j)) S
 | .tup xs,.tup ys=>gd (xs.length+ys.length<=sizeLine) (.ok (.tup (xs++ys)) S)
 | .str x,.str y=>gd (x.length+y.length<=sizeLine) (.ok (.str (x++y)) S)
 | .ref n,.ref m=>opt (ak S n) λ xs=>opt (ak S m) λ ys=>gd (xs.length+ys.length<=sizeLine) (.ok (.ref S.length) (S++[.lst (xs++ys)]))
 | _,_=>.no
theorem AVs.nil_inv {K:PySem.W.Frag}{ρ:List Addr}{H:Hp}{xs:List A}{vs:List V}(r:AVs K ρ H xs vs):xs=[] ↔ vs=[]:=by cases r <;> simp
theorem cL:e_ X (binaryOp .Add) (r2 X cC):=λ pins s σ H x y v u Q I rx ry h9=>by
 obtain ⟨ρ,S,a,b,R,va,vb,h⟩:=h9
 cases va with
 | int i=>
  cases vb with
  | int j=>exact LB pins s σ H _ _ v u Q I rx ry ⟨i,j,rfl,rfl,h _ _ _ .refl R (.int _)⟩
  | _=>exact h.elim
 | str x=>
  cases vb with
  | str y=>
   obtain ⟨hc,h⟩:=bA h;exact wU pins s σ H _ _ v u Q I rx ry ⟨x,y,rfl,rfl,hc,h _ _ _ .refl R (.str _)⟩
  | _=>exact h.elim
 | @tup p xs vs h1 r1=>
  cases vb with
  | @tup q ys ws h2 r2=>
   obtain ⟨hc,h⟩:=bA h;by_cases hv:vs=[]
   ·have hx:=r1.nil_inv.mpr hv;subst hv hx;exact BO pins s σ H _ _ v u Q I rx ry ⟨p,q,ws,rfl,rfl,fS.of h1,fS.of h2,h _ _ _ .refl R (.tup h2 r2)⟩
   ·refine Hj pins s σ H _ _ v u Q I rx ry ⟨p,q,vs,ws,rfl,rfl,fS.of h1,fS.of h2,hv,by rw [<- r1.length,<- r2.length];exact hc,λ e=>?_,λ _=>jx R (r1.append r2) .refl h⟩;have hy:=r2.nil_inv.mpr e;subst hy;rw [append_nil] at h;exact h _ _ _ .refl R (.tup h1 r1)
  | _=>exact h.elim
 | @ref p n hp=>
  cases vb with
  | @ref q m hq=>
   obtain ⟨xs,hn,h⟩:=aM h;obtain ⟨ys,hm,h⟩:=aM h;obtain ⟨hc,h⟩:=bA h;obtain ⟨vs,h1,h2⟩:=R.lst hp (aT hn);obtain ⟨ws,h3,h4⟩:=R.lst hq (aT hm);exact Lj pins s σ H _ _ v u Q I rx ry ⟨p,q,vs,ws,rfl,rfl,h1,h3,by rw [<- h2.length,<- h4.length];exact hc,d7 R (h2.append h4) .refl h⟩
  | _=>exact h.elim
 | _=>exact h.elim
noncomputable def A.ints:List A->Option (List Int)
 | []=>some []
 | .int i::xs=>(A.ints xs).map (i::·)
 | _=>none
theorem mK {K:PySem.W.Frag}{ρ:List Addr}{H:Hp}:∀ {xs:List A} {vs:List V} {bs:List Int},AVs K ρ H xs vs->A.ints xs=some bs->vs=bs.map V.int
 | _,_,_,.nil,e=>by cases e;rfl
 | _,_,_,.cons (x:=.int b) h t,e=>by
  obtain ⟨cs,e1,rfl⟩:=map_eq_some_iff.mp e
  cases h
  rw [mK t e1];rfl
 | _,_,_,.cons (x:=.unb) h t,e=>nomatch e
 | _,_,_,.cons (x:=.non) h t,e=>nomatch e
 | _,_,_,.cons (x:=.bl _) h t,e=>nomatch e
 | _,_,_,.cons (x:=.str _) h t,e=>nomatch e
 | _,_,_,.cons (x:=.tup _) h t,e=>nomatch e
 | _,_,_,.cons (x:=.frz _) h t,e=>nomatch e
 | _,_,_,.cons (x:=.rng _ _) h t,e=>nomatch e
 | _,_,_,.cons (x:=.ref _) h t,e=>nomatch e
 | _,_,_,.cons (x:=.exn _) h t,e=>nomatch e
 | _,_,_,.cons (x:=.ty _) h t,e=>nomatch e
noncomputable def sQ (a b:A)(S:aE):R A:=match a,b with
 | .int i,.int j=>.ok (.bl (decide (i < j))) S
 | _,_=>.no
theorem wj (hu:X.A.units+64 < cLine):e_ X (compareOp .Lt) (r2 X sQ):=λ pins s σ H x y v u Q I rx ry h9=>by
 obtain ⟨ρ,S,a,b,R,va,vb,h⟩:=h9
 cases va with
 | int i=>
  cases vb with
  | int j=>exact Mc pins s σ H _ _ v u Q I rx ry ⟨i,j,rfl,rfl,h _ _ _ .refl R (.bl _)⟩
  | _=>exact h.elim
 | _=>exact h.elim
noncomputable def JX (a b:A)(S:aE):R A:=match a,b with
 | .int i,.int j=>.ok (.bl (decide (i<=j))) S
 | _,_=>.no
theorem F0:e_ X (compareOp .LtE) (r2 X JX):=e_.imp Ms λ x y H Q h9=>by
 obtain ⟨ρ,S,a,b,R,va,vb,h⟩:=h9
 cases va <;> first | exact h.elim | (cases vb <;> first | exact h.elim | exact ⟨_,_,rfl,rfl,h _ _ _ .refl R (.bl _)⟩)
noncomputable def tX (a b:A)(S:aE):R A:=match a,b with
 | .int i,.int j=>.ok (.bl (decide (j < i))) S
 | _,_=>.no
theorem nq (hu:X.A.units+64 < cLine):e_ X (compareOp .Gt) (r2 X tX):=λ pins s σ H x y v u Q I rx ry h9=>by
 obtain ⟨ρ,S,a,b,R,va,vb,h⟩:=h9
 cases va with
 | int i=>
  cases vb with
  | int j=>exact Ml pins s σ H _ _ v u Q I rx ry ⟨i,j,rfl,rfl,h _ _ _ .refl R (.bl _)⟩
  | _=>exact h.elim
 | _=>exact h.elim
noncomputable def LS (a b:A)(S:aE):R A:=match a,b with
 | .int i,.int j=>.ok (.bl (decide (j<=i))) S
 | _,_=>.no
theorem J1:e_ X (compareOp .GtE) (r2 X LS):=e_.imp NI λ x y H Q h9=>by
 obtain ⟨ρ,S,a,b,R,va,vb,h⟩:=h9
 cases va <;> first | exact h.elim | (cases vb <;> first | exact h.elim | exact ⟨_,_,rfl,rfl,h _ _ _ .refl R (.bl _)⟩)
noncomputable def wA (neg:Bool)(a b:A)(S:aE):R A:=match a,b with
 | .bl i,.bl j=>.ok (.bl (if neg then i != j else i == j)) S
 | .non,.non=>.ok (.bl (!neg)) S
 | .unb,.non=>.no
 | .exn _,.non=>.no
 | _,.non=>.ok (.bl neg) S
 | _,_=>.no
theorem Ls {n:Bool}{a b:A}{S:aE}(h1:b≠.non)(h2:∀ j,b≠.bl j):wA n a b S=.no:=by
 unfold wA;split <;> first | rfl | exact absurd rfl h1 | exact absurd rfl (h2 _)
theorem Jl {n:Bool}{a b:A}{S:aE}{F:A->aE->Prop}{G:Str->aE->Prop}(h:(wA n a b S).post F G)(h1:b≠.non)(h2:∀ j,b≠.bl j):False:=by
 rw [Ls h1 h2] at h;exact h
theorem Mm:e_ X (compareOp .Is) (r2 X (wA false)):=λ pins s σ H x y v u Q I rx ry h9=>by
 obtain ⟨ρ,S,a,b,R,va,vb,h⟩:=h9
 cases vb with
 | non=>
  refine JK pins s σ H _ _ v u Q I rx ry ⟨rfl,?_⟩
  cases va <;> first | exact h _ _ _ .refl R (.bl _) | exact h.elim
 | bl j=>
  cases va with
  | bl i=>exact KN pins s σ H _ _ v u Q I rx ry ⟨i,j,rfl,rfl,h _ _ _ .refl R (.bl _)⟩
  | _=>exact h.elim
 | _=>
  exact (Jl h (λ z=>nomatch z) λ _ z=>nomatch z).elim
noncomputable def OT (f:A->aE->R A)(c:Ex):Ex:=λ τ S=>(c τ S).bind λ a S1=>f a S1
noncomputable def OO (a:A)(S:aE):R A:=match a with
 | .int i=>.ok (.int (-i)) S
 | _=>.no
noncomputable def eK (a b:A)(S:aE):R A:=match a,b with
 | .tup xs,.int i=>opt (fL xs i) λ x=>.ok x S
 | .frz xs,.int i=>opt (fL xs i) λ x=>.ok x S
 | .ref n,.int i=>opt (ak S n) λ xs=>opt (fL xs i) λ x=>.ok x S
 | .str z,.int i=>gd (z.length<=sizeLine) (opt (fL z.cps.toList i) λ c=>.ok (.str ⟨#[c]⟩) S)
 | _,_=>.no
theorem AVs.fL {K:PySem.W.Frag}{ρ:List Addr}{H:Hp}{xs:List A}{vs:List V}{i:Int}{x:A}(r:AVs K ρ H xs vs)(h:L2.fL xs i=some x):∃ v,L2.fL vs i=some v/\AV K ρ H x v:=by
 unfold L2.fL at h ⊢;rw [<- r.length]
 cases hj:pQ xs.length i with
 | none=>rw [hj] at h;cases h
 | some j=>
  rw [hj] at h;exact r.get h
theorem MN:JT X (r2 X eK):=λ value slice pins s σ H x y v u Q I rx ry ⟨ρ,S,a,b,R,va,vb,h⟩ hs=>by
 cases va with
 | @tup p xs vs h1 r1=>
  cases vb with
  | int i=>
   obtain ⟨x,hx,h⟩:=aM h;obtain ⟨z,e,q⟩:=r1.fL hx;exact Ky value slice pins s σ H _ _ v u Q I rx ry ⟨p,vs,i,z,rfl,rfl,fS.of h1,e,h _ _ _ .refl R q⟩ hs
  | _=>exact h.elim
 | @frz p xs vs h1 r1=>
  cases vb with
  | int i=>
   obtain ⟨x,hx,h⟩:=aM h;obtain ⟨z,e,q⟩:=r1.fL hx;exact yf value slice pins s σ H _ _ v u Q I rx ry ⟨p,vs,i,z,rfl,rfl,h1.Hh,e,h _ _ _ .refl R q⟩ hs
  | _=>exact h.elim
 | @ref p n hp=>
  cases vb with
  | int i=>
   obtain ⟨xs,hn,h⟩:=aM h;obtain ⟨x,hx,h⟩:=aM h;obtain ⟨vs,h1,r1⟩:=R.lst hp (aT hn);obtain ⟨z,e,q⟩:=r1.fL hx;exact yf value slice pins s σ H _ _ v u Q I rx ry ⟨p,vs,i,z,rfl,rfl,f_.of h1,e,h _ _ _ .refl R q⟩ hs
  | _=>exact h.elim
 | str z=>
  cases vb with
  | int i=>
   obtain ⟨hz,h⟩:=bA h;obtain ⟨c,hc,h⟩:=aM h;exact Kz value slice pins s σ H _ _ v u Q I rx ry ⟨z,i,c,rfl,rfl,hz,hc,h _ _ _ .refl R (.str _)⟩ hs
  | _=>exact h.elim
 | _=>exact h.elim
theorem bN {ca cb:Ex}(ha:AE X a ca)(hb:AE X b cb)(hs:rX b:=by exact λ _ _=>rfl):AE X (.Subscript a b pos) (aG eK ca cb):=PE.imp (Iw MN ha hb hs) λ σ H Q h=>mC h
end
noncomputable def kq (f:A->A->Option Bool):List A->List A->Option Bool
 | [],[]=>some true
 | x::xs,y::ys=>(f x y).bind λ p=>(kq f xs ys).map λ q=>p && q
 | _,_=>some false
inductive Sh
 | non
 | bl (b:Bool)
 | int (i:Int)
 | str (x:Str)
 | tup (xs:List A)
 | lst
noncomputable def JN (S:aE):A->Option Sh
 | .non=>some .non
 | .bl b=>some (.bl b)
 | .int i=>some (.int i)
 | .str x=>some (.str x)
 | .tup xs=>some (.tup xs)
 | .ref i=>(ak S i).map λ _=>.lst
 | _=>none
noncomputable def GL (f:A->A->Option Bool):Sh->Sh->Option Bool
 | .non,.non=>some true
 | .bl x,.bl y=>some (x == y)
 | .bl x,.int y=>some ((if x then 1 else 0) == y)
 | .int x,.bl y=>some (x == (if y then 1 else 0))
 | .int x,.int y=>some (x == y)
 | .str x,.str y=>some (x == y)
 | .tup xs,.tup ys=>kq f xs ys
 | .lst,.lst=>none
 | _,_=>some false
noncomputable def qD (S:aE):Nat->A->A->Option Bool
 | 0,_,_=>none
 | n+1,a,b=>match a,b with
  | .ref i,.ref j=>(ak S i).bind λ xs=>(ak S j).bind λ ys=>kq (qD S n) xs ys
  | _,_=>(JN S a).bind λ x=>(JN S b).bind λ y=>GL (qD S n) x y
section
variable {X:Cx} {pins:List (Addr×Obj)} {σ:L2.St} {H:Hp} {s:Shared} {ρ:List Addr} {S:aE}
inductive KdV (s:Shared):Sh->Value->Prop
 | non:KdV s .non .none
 | bl (b:Bool):KdV s (.bl b) (.bool b)
 | int (i:Int) (t:Tok):KdV s (.int i) (.int i t)
 | str (x:Str) (t:Tok):KdV s (.str x) (.str x t)
 | tup {p:Addr} {us:List Value} (xs:List A) (h:s.heap.IsTuple p us.toArray):KdV s (.tup xs) (.ref p)
 | lst {p:Addr} {us:List Value} (h:s.heap.IsList p us.toArray):KdV s .lst (.ref p)
theorem xR {p:Addr}{us ws:Array Value}(h:s.heap.IsTuple p us)(h':s.heap.IsList p ws):False:=by
 obtain ⟨o,e,c,_⟩:=h;obtain ⟨o',e',c',_⟩:=h';rw [e] at e'
 cases e'
 exact absurd (c.symm.trans c') (by decide)
theorem yo (I:Inv X pins σ H s)(R:Rel X.K ρ H S){a:A}{x:V}{u:Value}{h:Sh}(ha:AV X.K ρ H a x)(r:RelV x u)(e:JN S a=some h):KdV s h u:=by
 cases ha with
 | non=>cases e;cases (show u=Value.none from r);exact .non
 | bl b=>cases e;cases (show u=Value.bool b from r);exact .bl b
 | int i=>cases e;obtain ⟨t,rfl⟩:∃ t,u=Value.int i t:=r;exact .int i t
 | str i=>cases e;obtain ⟨t,rfl⟩:∃ t,u=Value.str i t:=r;exact .str i t
 | tup h1 r1=>cases e;cases (show u=Value.ref _ from r);obtain ⟨us,_,p,_⟩:=I.tuple (fS.of h1);exact .tup _ p
 | ref h1=>
  obtain ⟨xs,e1,rfl⟩:=map_eq_some_iff.mp e
  cases (show u=Value.ref _ from r)
  obtain ⟨vs,h3,r1⟩:=R.lst h1 (aT e1);obtain ⟨us,_,p,_⟩:=I.list (f_.of h3);exact .lst p.isList
 | _=>cases e
noncomputable def Al (B:Around)(s:Shared)(u v:Value)(k:Bool):Prop:=SeqAt.RcAt B s u v k/\SeqAt.EqAt B s u v k/\SeqAt.RcNeAt B s u v (!k)
theorem L_ {B:Around}(hu:B.units < cLine){f:A->A->Option Bool}{h h':Sh}{u v:Value}{k:Bool}(d:KdV s h u)(d':KdV s h' v)(nt:∀ xs ys,h=.tup xs->h'≠.tup ys)(e:GL f h h'=some k):Al B s u v k:=by
 cases d with
 | non=>cases d' with
  | non=>cases e;exact ⟨.none_none,.same _,.none_none⟩
  | bl b=>cases e;exact ⟨.none_bool _,.none_bool _,.none_bool _⟩
  | int i t=>cases e;exact ⟨.none_int _ _,.none_int _ _,.none_int _ _⟩
  | str x t=>cases e;exact ⟨.none_str _ _,.none_str _ _,.none_str _ _⟩
  | tup xs p=>cases e;exact ⟨.none_tuple p hu,.none_tuple p hu,.none_tuple p hu⟩
  | lst p=>cases e;exact ⟨.none_list p hu,.none_list p hu,.none_list p hu⟩
 | bl c=>cases d' with
  | non=>cases e;exact ⟨.bool_none _,.bool_none _,.bool_none _⟩
  | bl b=>cases e;exact ⟨.bool_bool _ _,.bool_bool _ _,.bool_bool _ _⟩
  | int i t=>cases e;exact ⟨.bool_int _ _ _,.bool_int _ _ _,.bool_int _ _ _⟩
  | str x t=>cases e;exact ⟨.bool_str _ _ _,.bool_str _ _ _,.bool_str _ _ _⟩
  | tup xs p=>cases e;exact ⟨.bool_tuple _ p hu,.bool_tuple _ p hu,.bool_tuple _ p hu⟩
  | lst p=>cases e;exact ⟨.bool_list _ p hu,.bool_list _ p hu,.bool_list _ p hu⟩
 | int c t'=>cases d' with
  | non=>cases e;exact ⟨.int_none _ _,.int_none _ _,.int_none _ _⟩
  | bl b=>cases e;exact ⟨.int_bool _ _ _,.int_bool _ _ _,.int_bool _ _ _⟩
  | int i t=>cases e;exact ⟨.int_int _ _ _ _,.int_int _ _ _ _,.int_int _ _ _ _⟩
  | str x t=>cases e;exact ⟨.int_str _ _ _ _,.int_str _ _ _ _,.int_str _ _ _ _⟩
  | tup xs p=>cases e;exact ⟨.int_tuple _ _ p hu,.int_tuple _ _ p hu,.int_tuple _ _ p hu⟩
  | lst p=>cases e;exact ⟨.int_list _ _ p hu,.int_list _ _ p hu,.int_list _ _ p hu⟩
 | str c t'=>cases d' with
  | non=>cases e;exact ⟨.str_none _ _,.str_none _ _,.str_none _ _⟩
  | bl b=>cases e;exact ⟨.str_bool _ _ _,.str_bool _ _ _,.str_bool _ _ _⟩
  | int i t=>cases e;exact ⟨.str_int _ _ _ _,.str_int _ _ _ _,.str_int _ _ _ _⟩
  | str x t=>cases e;exact ⟨.str_str _ _ _ _,.str_str _ _ _ _,.str_str _ _ _ _⟩
  | tup xs p=>cases e;exact ⟨.str_tuple _ _ p hu,.str_tuple _ _ p hu,.str_tuple _ _ p hu⟩
  | lst p=>cases e;exact ⟨.str_list _ _ p hu,.str_list _ _ p hu,.str_list _ _ p hu⟩
 | tup zs p'=>cases d' with
  | non=>cases e;exact ⟨.tuple_none p' hu,.tuple_none p' hu,.tuple_none p' hu⟩
  | bl b=>cases e;exact ⟨.tuple_bool _ p' hu,.tuple_bool _ p' hu,.tuple_bool _ p' hu⟩
  | int i t=>cases e;exact ⟨.tuple_int _ _ p' hu,.tuple_int _ _ p' hu,.tuple_int _ _ p' hu⟩
  | str x t=>cases e;exact ⟨.tuple_str _ _ p' hu,.tuple_str _ _ p' hu,.tuple_str _ _ p' hu⟩
  | tup xs p=>exact absurd rfl (nt _ _ rfl)
  | lst p=>cases e;exact ⟨.tuple_list p' p hu,.of_refs (λ z=>by subst z;exact xR p' p) (.tuple_list p' p hu),.tuple_list p' p hu⟩
 | lst p'=>cases d' with
  | non=>cases e;exact ⟨.list_none p' hu,.list_none p' hu,.list_none p' hu⟩
  | bl b=>cases e;exact ⟨.list_bool _ p' hu,.list_bool _ p' hu,.list_bool _ p' hu⟩
  | int i t=>cases e;exact ⟨.list_int _ _ p' hu,.list_int _ _ p' hu,.list_int _ _ p' hu⟩
  | str x t=>cases e;exact ⟨.list_str _ _ p' hu,.list_str _ _ p' hu,.list_str _ _ p' hu⟩
  | tup xs p=>cases e;exact ⟨.list_tuple p' p hu,.of_refs (λ z=>by subst z;exact xR p p') (.list_tuple p' p hu),.list_tuple p' p hu⟩
  | lst p=>cases e
theorem su {a:A}{x:V}{xs:List A}(h:AV X.K ρ H a x)(e:JN S a=some (.tup xs)):a=.tup xs/\∃ p vs,x=.ref p/\H p=some (.tup vs)/\AVs X.K ρ H xs vs:=by
 cases h with
 | tup h r=>cases e;exact ⟨rfl,_,_,rfl,h,r⟩
 | ref h=>obtain ⟨_,_,z⟩:=map_eq_some_iff.mp e;cases z
 | _=>cases e
theorem tN {i:Nat}{x:V}(h:AV X.K ρ H (.ref i) x):∃ p,x=.ref p/\ρ[i]?=some p:=by
 cases h with
 | ref h=>exact ⟨_,rfl,h⟩
theorem EI {a:A}(e:JN S a=some .lst):∃ i,a=.ref i:=by
 cases a with
 | ref i=>exact ⟨i,rfl⟩
 | _=>cases e
theorem BJ {n:Nat}{a b:A}{k:Bool}(e:qD S (n+1) a b=some k):(∃ i j xs ys,a=.ref i/\b=.ref j/\ak S i=some xs/\ak S j=some ys/\kq (qD S n) xs ys=some k)\/(∃ h h',JN S a=some h/\JN S b=some h'/\GL (qD S n) h h'=some k/\(h=.lst->h'≠.lst)):=by
 unfold qD at e;split at e
 ·obtain ⟨xs,e1,e⟩:=bind_eq_some_iff.mp e;obtain ⟨ys,e2,e⟩:=bind_eq_some_iff.mp e;exact .inl ⟨_,_,xs,ys,rfl,rfl,e1,e2,e⟩
 ·rename_i nr;obtain ⟨h,e1,e⟩:=bind_eq_some_iff.mp e;obtain ⟨h',e2,e⟩:=bind_eq_some_iff.mp e;refine .inr ⟨h,h',e1,e2,e,λ z1 z2=>?_⟩;subst z1 z2;obtain ⟨i,rfl⟩:=EI e1;obtain ⟨j,rfl⟩:=EI e2;exact nr i j rfl rfl
theorem G3 {f:A->A->Option Bool}{h h':Sh}{u:Value}{k:Bool}(d:KdV s h u)(d':KdV s h' u)(nt:∀ xs ys,h=.tup xs->h'≠.tup ys)(e:GL f h h'=some k):k=true:=by
 cases d with
 | non=>cases d';exact (Option.some.inj e).symm
 | bl b=>cases d';exact (Option.some.inj e).symm.trans (beq_self_eq_true b)
 | int b=>cases d';exact (Option.some.inj e).symm.trans (beq_self_eq_true b)
 | str b=>cases d';exact (Option.some.inj e).symm.trans (beq_self_eq_true b)
 | tup xs p=>cases d' with
  | tup=>exact absurd rfl (nt _ _ rfl)
  | lst q=>exact (xR p q).elim
 | lst p=>cases d' with
  | tup _ q=>exact (xR q p).elim
  | lst q=>cases e
theorem uP {f:A->A->Option Bool}(hf:∀ a b x u k,AV X.K ρ H a x->AV X.K ρ H b x->RelV x u->f a b=some k->k=true):∀ {xs ys:List A} {vs:List V} {us:List Value} {k:Bool},AVs X.K ρ H xs vs->AVs X.K ρ H ys vs->Vals vs us->kq f xs ys=some k->k=true:=by
 intro xs ys vs us k h1 h2 q e
 induction q generalizing xs ys k with
 | nil=>cases h1;cases h2;exact (Option.some.inj e).symm
 | cons rv _ ih=>
  cases h1 with
  | cons h t=>cases h2 with
   | cons h' t'=>
    obtain ⟨p,e1,e⟩:=bind_eq_some_iff.mp e;obtain ⟨q,e2,e3⟩:=map_eq_some_iff.mp e;rw [<- e3,hf _ _ _ _ p h h' rv e1,ih t t' e2];rfl
theorem zB (h h':Sh):(∃ xs ys,h=.tup xs/\h'=.tup ys)\/(∀ xs ys,h=.tup xs->h'≠.tup ys):=by
 cases h with
 | tup xs=>cases h' with
  | tup ys=>exact .inl ⟨xs,ys,rfl,rfl⟩
  | _=>exact .inr λ _ _ _ z=>nomatch z
 | _=>exact .inr λ _ _ z=>nomatch z
theorem sq (I:Inv X pins σ H s)(R:Rel X.K ρ H S):∀ (n:Nat) (a b:A) (x:V) (u:Value) (k:Bool),AV X.K ρ H a x->AV X.K ρ H b x->RelV x u->qD S n a b=some k->k=true
 | 0,_,_,_,_,_,_,_,_,e=>nomatch e
 | n+1,a,b,x,u,k,ha,hb,ru,e=>by
  rcases BJ e with ⟨i,j,xs,ys,rfl,rfl,e1,e2,e⟩ | ⟨h,h',e1,e2,e,_⟩
  ·obtain ⟨p,rfl,h1⟩:=tN ha;obtain ⟨q,z,h2⟩:=tN hb
   cases z
   obtain ⟨vs,h3,r1⟩:=R.lst h1 (aT e1);obtain ⟨ws,h4,r2⟩:=R.lst h2 (aT e2);rw [h3] at h4
   cases h4
   obtain ⟨us,q,_⟩:=I.list (f_.of h3);exact uP (λ a b x u k=>sq I R n a b x u k) r1 r2 q e
  ·rcases zB h h' with ⟨xs,ys,rfl,rfl⟩ | nt
   ·obtain ⟨rfl,p,vs,rfl,h3,r1⟩:=su ha e1;obtain ⟨rfl,q,ws,z,h4,r2⟩:=su hb e2
    cases z
    have:=I.qW (fS.of h3) (fS.of h4);subst this;obtain ⟨us,q,_⟩:=I.tuple (fS.of h3);exact uP (λ a b x u k=>sq I R n a b x u k) r1 r2 q e
   ·exact G3 (yo I R ha ru e1) (yo I R hb ru e2) nt e
noncomputable def qC (f:A->A->Option Bool)(xs ys:List A)(j:Nat):Bool:=match xs[j]?,ys[j]? with
 | some x,some y=>(f x y).getD true
 | _,_=>true
theorem nX {f:A->A->Option Bool}:∀ {xs ys:List A} {k:Bool},kq f xs ys=some k->k=((List.range (min xs.length ys.length)).all (qC f xs ys) && xs.length == ys.length)/\∀ j x y,xs[j]?=some x->ys[j]?=some y->f x y=some (qC f xs ys j)
 | [],[],k,e=>⟨(Option.some.inj e).symm,λ j x y h=>by simp at h⟩
 | [],_::_,k,e=>⟨(Option.some.inj e).symm,λ j x y h=>by simp at h⟩
 | _::_,[],k,e=>⟨(Option.some.inj e).symm,λ j x y _ h=>by simp at h⟩
 | x::xs,y::ys,k,e=>by
  unfold kq at e
  cases e1:f x y with
  | none=>rw [e1] at e;cases e
  | some p=>
   rw [e1] at e;obtain ⟨q,e2,e3⟩:=map_eq_some_iff.mp e;obtain ⟨h1,h2⟩:=nX e2;have p0:qC f (x::xs) (y::ys) 0=p:=by simp [qC,e1]
   have ps:∀ j,qC f (x::xs) (y::ys) (j+1)=qC f xs ys j:=λ j=>by simp [qC]
   refine ⟨?_,λ j a b ha hb=>?_⟩
   ·rw [<- e3,h1,length_cons,length_cons,Nat.succ_min_succ,List.range_succ_eq_map,List.all_cons,all_map,p0];have:(qC f (x::xs) (y::ys) ∘ Nat.succ)=qC f xs ys:=funext ps;rw [this,Bool.and_assoc];simp
   ·cases j with
    | zero=>
     simp at ha hb;subst ha hb;rw [p0];exact e1
    | succ j=>rw [ps];exact h2 j a b (by simpa using ha) (by simpa using hb)
theorem n9 {f:A->A->Option Bool}{B:Around}(hf:∀ a b x y u v k,AV X.K ρ H a x->AV X.K ρ H b y->RelV x u->RelV y v->f a b=some k->SeqAt.EqAt B s u v k){xs ys:List A}{vs ws:List V}{us ts:List Value}{k:Bool}
  (r1:AVs X.K ρ H xs vs) (r2:AVs X.K ρ H ys ws) (q1:Vals vs us) (q2:Vals ws ts) (e:kq f xs ys=some k):∀ j (h1:j < us.toArray.size) (h2:j < ts.toArray.size),SeqAt.EqAt B s us.toArray[j] ts.toArray[j] (qC f xs ys j):=by
 intro j h1 h2;have l1:=r1.length;have l2:=r2.length;have l3:=q1.length;have l4:=q2.length;have hx:j < xs.length:=by simp at h1;omega
 have hy:j < ys.length:=by simp at h2;omega
 have e1:xs[j]?=some xs[j]:=List.getElem?_eq_getElem hx;have e2:ys[j]?=some ys[j]:=List.getElem?_eq_getElem hy;obtain ⟨x,ex,ax⟩:=r1.get e1;obtain ⟨y,ey,ay⟩:=r2.get e2;obtain ⟨u,eu,ru⟩:=q1.get ex;obtain ⟨t,et,rt⟩:=q2.get ey;have a1:us.toArray[j]=u:=by
  have:us[j]?=some us.toArray[j]:=by simp at h1;simp [h1]
  rw [eu] at this;exact (Option.some.inj this).symm
 have a2:ts.toArray[j]=t:=by
  have:ts[j]?=some ts.toArray[j]:=by simp at h2;simp [h2]
  rw [et] at this;exact (Option.some.inj this).symm
 rw [a1,a2];exact hf _ _ x y u t _ ax ay ru rt ((nX e).2 j _ _ e1 e2)
theorem in1_units (B:Around):B.in1.units=B.units+1:=rfl
theorem Cf (I:Inv X pins σ H s)(R:Rel X.K ρ H S):∀ (n:Nat) (B:Around) (a b:A) (x y:V) (u v:Value) (k:Bool),B.units+n < cLine->AV X.K ρ H a x->AV X.K ρ H b y->RelV x u->RelV y v->qD S n a b=some k->Al B s u v k
 | 0,_,_,_,_,_,_,_,_,_,_,_,_,_,e=>nomatch e
 | n+1,B,a,b,x,y,u,v,k,hu,ha,hb,rx,ry,e=>by
  have hu0:B.units < cLine:=by omega
  have items:∀ a b x y u v k,AV X.K ρ H a x->AV X.K ρ H b y->RelV x u->RelV y v->qD S n a b=some k->SeqAt.EqAt B.in1 s u v k:=λ a b x y u v k h1 h2 h3 h4 h5=>(Cf I R n B.in1 a b x y u v k (by rw [in1_units];omega) h1 h2 h3 h4 h5).2.1;have same:=λ (z:y=x)=>sq I R (n+1) a b x u k ha (z ▸ hb) rx e;have refs:∀ {p q:Addr},x=.ref p->y=.ref q->u=.ref p->v=.ref q->SeqAt.RcAt B s u v k->SeqAt.EqAt B s u v k:=λ {p q} z1 z2 z3 z4 h=>by
   subst z3 z4;by_cases hp:p=q
   ·subst hp;rw [same (z2.trans z1.symm)];exact .same _
   ·exact .of_refs hp h
  rcases BJ e with ⟨i,j,xs,ys,rfl,rfl,e1,e2,e⟩ | ⟨h,h',e1,e2,e,_⟩
  ·obtain ⟨p,rfl,h1⟩:=tN ha;obtain ⟨q,rfl,h2⟩:=tN hb;obtain ⟨vs,h3,r1⟩:=R.lst h1 (aT e1);obtain ⟨ws,h4,r2⟩:=R.lst h2 (aT e2);obtain ⟨us,q1,p1,_⟩:=I.list (f_.of h3);obtain ⟨ts,q2,p2,_⟩:=I.list (f_.of h4);have ru:=refs rfl rfl rx ry
   cases (show u=Value.ref p from rx)
   cases (show v=Value.ref q from ry)
   have l1:=r1.length;have l2:=r2.length;have l3:=q1.length;have l4:=q2.length;have ek:=(nX e).1;by_cases hl:xs.length=ys.length
   ·rw [<- hl,Nat.min_self,beq_self_eq_true,Bool.and_true] at ek;have eh:us.toArray.size=ts.toArray.size:=by simp;omega
    have z1:=SeqAt.RcAt.lists p1.isList p2.isList eh hu0 (n9 items r1 r2 q1 q2 e);have z2:=SeqAt.RcNeAt.lists p1.isList p2.isList eh hu0 (n9 items r1 r2 q1 q2 e);rw [size_toArray,<- l3,<- l1,<- ek] at z1 z2;exact ⟨z1,ru z1,z2⟩
   ·have:(xs.length == ys.length)=false:=by simpa using hl
    rw [this,Bool.and_false] at ek;subst ek;have eh:(us.toArray.size != ts.toArray.size)=true:=by simp;omega
    have z1:=SeqAt.RcAt.lists_lengths p1.isList p2.isList eh hu0;exact ⟨z1,ru z1,SeqAt.RcNeAt.lists_lengths p1.isList p2.isList eh hu0⟩
  ·rcases zB h h' with ⟨xs,ys,rfl,rfl⟩ | nt
   ·obtain ⟨rfl,p,vs,rfl,h3,r1⟩:=su ha e1;obtain ⟨rfl,q,ws,rfl,h4,r2⟩:=su hb e2;have ru:=refs rfl rfl rx ry
    cases (show u=Value.ref p from rx)
    cases (show v=Value.ref q from ry)
    obtain ⟨us,q1,p1,_⟩:=I.tuple (fS.of h3);obtain ⟨ts,q2,p2,_⟩:=I.tuple (fS.of h4);have ek:=(nX e).1;have z1:=SeqAt.RcAt.tuples p1 p2 hu0 (n9 items r1 r2 q1 q2 e);have z2:=SeqAt.RcNeAt.tuples p1 p2 hu0 (n9 items r1 r2 q1 q2 e);rw [size_toArray,size_toArray,<- q1.length,<- q2.length,<- r1.length,<- r2.length,<- ek] at z1 z2;exact ⟨z1,ru z1,z2⟩
   ·exact L_ hu0 (yo I R ha rx e1) (yo I R hb ry e2) nt e
end
section
variable {X:Cx}
noncomputable def nN (neg:Bool)(a b:A)(S:aE):R A:=opt (qD S 12 a b) λ k=>.ok (.bl (if neg then !k else k)) S
theorem wJ (hu:X.A.units+64 < cLine):e_ X (compareOp .Eq) (r2 X (nN false)):=λ pins s σ H x y v u Q I rx ry h9=>by
 obtain ⟨ρ,S,a,b,R,va,vb,h⟩:=h9;obtain ⟨k,e,h⟩:=aM h;exact (Cf I R 12 X.A a b x y v u k (by omega) va vb rx ry e).1 _ _ _ _ ⟨.bl _,H,I,rfl,h _ _ _ .refl R (.bl _)⟩
theorem Nb (hu:X.A.units+64 < cLine):e_ X (compareOp .NotEq) (r2 X (nN true)):=λ pins s σ H x y v u Q I rx ry h9=>by
 obtain ⟨ρ,S,a,b,R,va,vb,h⟩:=h9;obtain ⟨k,e,h⟩:=aM h;exact (Cf I R 12 X.A a b x y v u k (by omega) va vb rx ry e).2.2 _ _ _ _ ⟨.bl _,H,I,rfl,h _ _ _ .refl R (.bl _)⟩
end
section
variable {X:Cx} {pos:Pos} {a b:Expr}
noncomputable abbrev Pt:=List A->aE->R (Option Int)
noncomputable def yy:Pt:=λ _ S=>.ok none S
noncomputable def jA (c:Ex):Pt:=λ τ S=>(c τ S).bind λ a S1=>match a with
 | .int i=>.ok (some i) S1
 | _=>.no
noncomputable def tO (X:Cx)(c:Pt):TO:=λ σ H Q=>∃ ρ S τ,Rel X.K ρ H S/\SR X.K ρ H τ σ/\(c τ S).post (λ o S'=>∀ ρ' H',Ext ρ ρ' H H'->Rel X.K ρ' H' S'->Q o H') (XE X ρ H)
noncomputable def AO (X:Cx)(e:Option Expr)(c:Pt):Prop:=PO X e (tO X c)
theorem yO:AO X none yy:=λ pins s σ H Q I ⟨ρ,S,τ,R,r,h⟩=>GC pins s σ H Q I (h ρ H .refl R)
theorem j8 {c:Ex}(ha:AE X a c):AO X (some a) (jA c):=λ pins s σ H Q I ⟨ρ,S,τ,R,r,h⟩=>Gg ha pins s σ H Q I ⟨ρ,S,τ,R,r,aF (aK h) .refl λ x S1 h1 ρ1 H1 v e1 R1 v1=>by
 cases v1 <;> first | exact h1.elim | exact ⟨_,rfl,h1 ρ1 H1 e1 R1⟩⟩
noncomputable def jO (xs:List A)(lo hi:Option Int):List A:=(xs.drop (HT.dY xs.length 0 lo)).take (HT.dY xs.length xs.length hi - HT.dY xs.length 0 lo)
theorem AVs.cut {K:PySem.W.Frag}{ρ:List Addr}{H:Hp}{xs:List A}{vs:List V}(r:AVs K ρ H xs vs)(lo hi:Option Int):AVs K ρ H (jO xs lo hi) (u9 vs lo hi):=by
 unfold jO u9;rw [r.length];exact (r.drop _).take _
noncomputable def JJ (a:A)(lo hi:Option Int)(S:aE):R A:=match a with
 | .ref n=>opt (ak S n) λ xs=>.ok (.ref S.length) (S++[.lst (jO xs lo hi)])
 | .frz xs=>.ok (.ref S.length) (S++[.lst (jO xs lo hi)])
 | .tup xs=>gd (¬ (HT.dY xs.length 0 lo=0/\HT.dY xs.length xs.length hi=xs.length)) (.ok (.tup (jO xs lo hi)) S)
 | _=>.no
noncomputable def Io (c:Ex)(lo hi:Pt):Ex:=λ τ S=>(c τ S).bind λ a S1=>(lo τ S1).bind λ l S2=>(hi τ S2).bind λ u S3=>JJ a l u S3
noncomputable def rS (X:Cx):V->Option Int->Option Int->Hp->VK->Prop:=λ x lo hi H Q=>∃ ρ S a,Rel X.K ρ H S/\AV X.K ρ H a x/\(JJ a lo hi S).post (oB X ρ H Q) (XE X ρ H)
theorem KC:NT X (rS X):=λ pins s σ H x v vl vu lo hi sl Q I rx hs pl pu h9=>by
 obtain ⟨ρ,S,a,R,va,h⟩:=h9
 cases va with
 | @tup p xs vs h1 r1=>
  obtain ⟨hc,h⟩:=bA h;exact LP pins s σ H _ v vl vu lo hi sl Q I rx hs pl pu ⟨p,vs,rfl,(fS.of h1),by rw [<- r1.length];exact hc,jx R (r1.cut lo hi) .refl h⟩
 | @frz p xs vs h1 r1=>exact yF pins s σ H _ v vl vu lo hi sl Q I rx hs pl pu ⟨p,vs,rfl,h1.Hh,d7 R (r1.cut lo hi) .refl h⟩
 | @ref p n hp=>
  obtain ⟨xs,hn,h⟩:=aM h;obtain ⟨vs,h1,r1⟩:=R.lst hp (aT hn);exact yF pins s σ H _ v vl vu lo hi sl Q I rx hs pl pu ⟨p,vs,rfl,f_.of h1,d7 R (r1.cut lo hi) .refl h⟩
 | _=>exact h.elim
theorem zf {e:Expr}{lo hi:Option Expr}{p2:Pos}{c:Ex}{cl ch:Pt}(he:AE X e c)(hl:AO X lo cl)(hh:AO X hi ch):AE X (.Subscript e (.Slice lo hi none p2) pos) (Io c cl ch):=PE.imp (EZ KC he hl hh) λ σ H Q h9=>by
 obtain ⟨ρ,S,τ,R,r,h⟩:=h9;refine ⟨ρ,S,τ,R,r,aF (aK h) .refl λ a S1 h1 ρ1 H1 x e1 R1 v1=>⟨ρ1,S1,τ,R1,r.ext e1,aF (aK h1) e1 λ l S2 h2 ρ2 H2 e2 R2=>⟨ρ2,S2,τ,R2,r.ext (e1.trans e2),aF (aK h2) (e1.trans e2) λ u S3 h3 ρ3 H3 e3 R3=>?_⟩⟩⟩;exact ⟨ρ3,S3,a,R3,v1.ext (e2.trans e3),aF h3 (e1.trans (e2.trans e3)) λ _ _ z=>z.ext (e1.trans (e2.trans e3))⟩
noncomputable def C_ (a:A)(S:aE):R A:=match a with
 | .ref n=>opt (ak S n) λ xs=>.ok (.ref S.length) (S++[.lst xs.reverse])
 | .tup xs=>.ok (.tup xs.reverse) S
 | _=>.no
theorem Kv {e:Expr}{p2 up cp:Pos}{kk:Nat}{c:Ex}(he:AE X e c):AE X (.Subscript e (.Slice none none (some (.UnaryOp .USub (.Constant (.int 1) kk cp) up)) p2) pos) (OT C_ c):=λ pins s σ H Q I h9=>by
 obtain ⟨ρ,S,τ,R,r,h⟩:=h9;have hb:=aK h
 cases hc:c τ S with
 | no=>rw [hc] at hb;exact hb.elim
 | ex x S1=>
  rw [hc] at hb;exact zw he pins s σ H Q I ⟨ρ,S,τ,R,r,by rw [hc];exact hb⟩
 | ok a S1=>
  rw [hc] at hb;have hb:(C_ a S1).post (oB X ρ H Q) (XE X ρ H):=hb
  cases a with
  | tup xs=>
   refine zw he pins s σ H Q I ⟨ρ,S,τ,R,r,?_⟩;rw [hc];intro ρ1 H1 x e1 R1 v1
   cases v1 with
   | tup h1 r1=>exact ⟨_,_,rfl,(fS.of h1),jx R1 r1.reverse e1 hb⟩
  | ref n=>
   refine FE he pins s σ H Q I ⟨ρ,S,τ,R,r,?_⟩;rw [hc];intro ρ1 H1 x e1 R1 v1;obtain ⟨xs,hn,h⟩:=aM hb
   cases v1 with
   | ref hp=>
    obtain ⟨vs,h1,r1⟩:=R1.lst hp (aT hn);exact ⟨_,_,rfl,f_.of h1,d7 R1 r1.reverse e1 h⟩
  | _=>exact hb.elim
noncomputable def aS (f:List A->aE->R A)(d:jB):Ex:=λ τ S=>(d τ S).bind λ as S1=>f as S1
theorem vG {f:List A->aE->R A}{d:jB}{σ:L2.St}{H:Hp}{Q:VK}(h:tE X (aS f d) σ H Q):OM (rN X f) (tL X d) σ H Q:=by
 obtain ⟨ρ,S,τ,R,r,h⟩:=h;exact ⟨ρ,S,τ,R,r,aF (aK h) .refl λ as S1 h1 ρ1 H1 vs e1 R1 v1=>⟨ρ1,S1,as,R1,v1,aF h1 e1 λ _ _ z=>z.ext e1⟩⟩
variable {x:Str} {p:Pos} {e:Expr} {es:List Expr} {id T:String} {f:List A->aE->R A} {d:jB}
theorem aO (hc:bB X (.builtin id) (rN X f))(hm:X.mg x=none)(hv:bootBuiltins x=some (.builtin id))(ha:AL X (e::es) d)(hg:Gl X x:=by rfl)(hn:x ≠ "__name__" := by decide)(hdb:(x == ("__debug__" : Str))=false:=by decide)
  (he:starEach (e::es) X.env=(false,eval e X.env)::starEach es X.env:=by rfl) (hpl:(backTo pos (starEach es X.env)).any (·.1)=false:=by rfl):AE X (.Call (.Name x p) (e::es) [] pos) (aS f d):=
 PE.imp (CK hc hg hm hv ha hn hdb he hpl) λ _ _ _ h=>vG h
theorem b7 (hc:bB X (.type T) (rN X f))(hm:X.mg x=none)(hv:bootBuiltins x=some (.type T))(ha:AL X (e::es) d)(hg:Gl X x:=by rfl)(hn:x ≠ "__name__" := by decide)(hdb:(x == ("__debug__" : Str))=false:=by decide)
  (he:starEach (e::es) X.env=(false,eval e X.env)::starEach es X.env:=by rfl) (hpl:(backTo pos (starEach es X.env)).any (·.1)=false:=by rfl):AE X (.Call (.Name x p) (e::es) [] pos) (aS f d):=
 PE.imp (Bv hc hg hm hv ha hn hdb he hpl) λ _ _ _ h=>vG h
theorem IW (hm:X.mg x=none)(hv:bootBuiltins x=some (.type T))(hg:Gl X x:=by rfl)(hn:x ≠ "__name__" := by decide)(hdb:(x == ("__debug__" : Str))=false:=by decide):AE X (.Name x pos) (eC (.ty T)):=
 PE.imp (Hf (v:=.ty T) hg hm hv rfl hn hdb) λ σ H Q ⟨ρ,S,τ,R,r,h⟩=>h ρ H _ .refl R (.ty T)
noncomputable def A.seq (S:aE):A->Option (List A)
 | .tup xs=>some xs
 | .frz xs=>some xs
 | .ref n=>ak S n
 | _=>none
theorem Gs {K:PySem.W.Frag}{ρ:List Addr}{H:Hp}{x:A}{vs:List V}(h:AVs K ρ H [x] vs):∃ v,vs=[v]/\AV K ρ H x v:=by
 cases h with
 | cons h t=>cases t;exact ⟨_,rfl,h⟩
theorem Oj {K:PySem.W.Frag}{ρ:List Addr}{H:Hp}{x y:A}{vs:List V}(h:AVs K ρ H [x,y] vs):∃ v w,vs=[v,w]/\AV K ρ H x v/\AV K ρ H y w:=by
 cases h with
 | cons h t=>obtain ⟨w,rfl,h'⟩:=Gs t;exact ⟨_,_,rfl,h,h'⟩
noncomputable def f1 (g:A->aE->R A):List A->aE->R A:=λ as S=>match as with
 | [x]=>g x S
 | _=>.no
noncomputable def f2 (g:A->A->aE->R A):List A->aE->R A:=λ as S=>match as with
 | [x,y]=>g x y S
 | _=>.no
theorem GU {g:A->aE->R A}{as:List A}{S:aE}{P:A->aE->Prop}{E:Str->aE->Prop}(h:(f1 g as S).post P E):∃ x,as=[x]/\(g x S).post P E:=by
 match as,h with
 | [],h=>exact h.elim
 | [x],h=>exact ⟨x,rfl,h⟩
 | _::_::_,h=>exact h.elim
theorem FO {g:A->A->aE->R A}{as:List A}{S:aE}{P:A->aE->Prop}{E:Str->aE->Prop}(h:(f2 g as S).post P E):∃ x y,as=[x,y]/\(g x y S).post P E:=by
 match as,h with
 | [],h=>exact h.elim
 | [_],h=>exact h.elim
 | [x,y],h=>exact ⟨x,y,rfl,h⟩
 | _::_::_::_,h=>exact h.elim
theorem Fx {g:A->aE->R A}{vs:List V}{H:Hp}{Q:VK}(h:rN X (f1 g) vs H Q):∃ v,vs=[v]/\∃ ρ S x,Rel X.K ρ H S/\AV X.K ρ H x v/\(g x S).post (oB X ρ H Q) (XE X ρ H):=by
 obtain ⟨ρ,S,as,R,v,h⟩:=h;obtain ⟨x,rfl,h⟩:=GU h;obtain ⟨w,rfl,hv⟩:=Gs v;exact ⟨w,rfl,ρ,S,x,R,hv,h⟩
theorem NU {g:A->A->aE->R A}{vs:List V}{H:Hp}{Q:VK}(h:rN X (f2 g) vs H Q):∃ v w,vs=[v,w]/\∃ ρ S x y,Rel X.K ρ H S/\AV X.K ρ H x v/\AV X.K ρ H y w/\(g x y S).post (oB X ρ H Q) (XE X ρ H):=by
 obtain ⟨ρ,S,as,R,v,h⟩:=h;obtain ⟨x,y,rfl,h⟩:=FO h;obtain ⟨w,w',rfl,hv,hv'⟩:=Oj v;exact ⟨w,w',rfl,ρ,S,x,y,R,hv,hv',h⟩
noncomputable def cu (x:A)(S:aE):R A:=match x with
 | .str x=>gd (x.length<=sizeLine) (.ok (.int x.length) S)
 | .tup xs=>.ok (.int xs.length) S
 | .frz xs=>.ok (.int xs.length) S
 | .ref n=>opt (ak S n) λ xs=>.ok (.int xs.length) S
 | _=>.no
theorem bY:bB X (.builtin "len") (rN X (f1 cu)):=bB.imp Dz λ vs H Q h0=>by
 obtain ⟨w,rfl,ρ,S,x,R,hv,h⟩:=Fx h0;clear h0
 cases hv with
 | str z=>
  obtain ⟨hz,h⟩:=bA h;exact ⟨_,_,rfl,⟨hz,rfl⟩,h _ _ _ .refl R (.int _)⟩
 | @tup p xs us h1 r=>exact ⟨_,us.length,rfl,.inr ⟨us,(fS.of h1),rfl⟩,by rw [<- r.length];exact h _ _ _ .refl R (.int _)⟩
 | @frz p xs us h1 r=>exact ⟨_,us.length,rfl,.inl ⟨us,h1.Hh,rfl⟩,by rw [<- r.length];exact h _ _ _ .refl R (.int _)⟩
 | ref hp=>
  obtain ⟨xs,hn,h⟩:=aM h;obtain ⟨us,h1,r⟩:=R.lst hp (aT hn);exact ⟨_,us.length,rfl,.inl ⟨us,f_.of h1,rfl⟩,by rw [<- r.length];exact h _ _ _ .refl R (.int _)⟩
 | _=>exact h.elim
noncomputable def Lc (x:A)(S:aE):R A:=match x with
 | .int i=>.ok (.int (if i < 0 then -i else i)) S
 | _=>.no
theorem MM:bB X (.builtin "abs") (rN X (f1 Lc)):=bB.imp BX λ vs H Q h0=>by
 obtain ⟨w,rfl,ρ,S,x,R,hv,h⟩:=Fx h0;clear h0
 cases hv <;> first | exact h.elim | exact ⟨_,rfl,h _ _ _ .refl R (.int _)⟩
noncomputable def DE (x y:A)(S:aE):R A:=match x,y with
 | .int i,.int j=>.ok (.int (if j > i then j else i)) S
 | _,_=>.no
theorem KZ (hc:X.calm=true):bB X (.builtin "max") (rN X (f2 DE)):=bB.imp (AQ hc) λ vs H Q h0=>by
 obtain ⟨w,w',rfl,ρ,S,x,y,R,hv,hv',h⟩:=NU h0;clear h0
 cases hv <;> first | exact h.elim | (cases hv' <;> first | exact h.elim | exact ⟨_,_,rfl,h _ _ _ .refl R (.int _)⟩)
noncomputable def BR (x y:A)(S:aE):R A:=match x,y with
 | .int i,.int j=>.ok (.int (if j < i then j else i)) S
 | _,_=>.no
theorem LH (hc:X.calm=true):bB X (.builtin "min") (rN X (f2 BR)):=bB.imp (AF hc) λ vs H Q h0=>by
 obtain ⟨w,w',rfl,ρ,S,x,y,R,hv,hv',h⟩:=NU h0;clear h0
 cases hv <;> first | exact h.elim | (cases hv' <;> first | exact h.elim | exact ⟨_,_,rfl,h _ _ _ .refl R (.int _)⟩)
noncomputable def pK (x:A)(S:aE):R A:=match x with
 | .int i=>.ok (.int i) S
 | .bl k=>.ok (.int (if k then 1 else 0)) S
 | .str y=>opt (PySem.intText? y) λ n=>gd (y.length<=640) (.ok (.int n) S)
 | _=>.no
theorem v9:bB X (.type "int") (rN X (f1 pK)):=λ pins s σ H xs us Q I rv h0=>by
 obtain ⟨w,rfl,ρ,S,x,R,hv,h⟩:=Fx h0;clear h0
 cases hv with
 | int i=>exact rK pins s σ H _ us Q I rv (.inl ⟨i,rfl,h _ _ _ .refl R (.int _)⟩)
 | bl k=>exact rK pins s σ H _ us Q I rv (.inr ⟨k,rfl,h _ _ _ .refl R (.int _)⟩)
 | str y=>
  obtain ⟨n,hn,h⟩:=aM h;obtain ⟨hl,h⟩:=bA h;exact A7 pins s σ H _ us Q I rv ⟨y,n,rfl,hl,hn,h _ _ _ .refl R (.int _)⟩
 | _=>exact h.elim
noncomputable def oJ (x y:A)(S:aE):R A:=match x,y with
 | .int i,.int j=>.ok (.rng i j) S
 | _,_=>.no
theorem uW:bB X (.type "range") (rN X (f2 oJ)):=bB.imp rY λ vs H Q h0=>by
 obtain ⟨w,w',rfl,ρ,S,x,y,R,hv,hv',h⟩:=NU h0;clear h0
 cases hv with
 | int i=>
  cases hv' with
  | int j=>
   refine ⟨i,j,rfl,λ p hp=>?_⟩;obtain ⟨ex,R'⟩:=R.im (u:=.rng i j) hp;exact h ρ _ _ ex R' (.rng bF)
  | _=>exact h.elim
 | _=>exact h.elim
noncomputable def rF (i j:Int):Prop:=(-(2 ^ 62)<=i/\i < 2 ^ 62/\-(2 ^ 62)<=j/\j < 2 ^ 62)/\(j - i).toNat<=1000
instance (i j:Int):Decidable (rF i j):=by unfold rF;infer_instance
noncomputable def mP (x:A)(S:aE):R A:=match x with
 | .rng i j=>gd (rF i j) (.ok (.ref S.length) (S++[.lst ((bq i j).map .int)]))
 | .tup xs=>.ok (.ref S.length) (S++[.lst xs])
 | .frz xs=>.ok (.ref S.length) (S++[.lst xs])
 | .ref n=>opt (ak S n) λ xs=>.ok (.ref S.length) (S++[.lst xs])
 | _=>.no
theorem sU (hc:X.calm=true):bB X (.type "list") (rN X (f1 mP)):=λ pins s σ H vs us Q I rx h0=>by
 obtain ⟨w,rfl,ρ,S,x,R,hv,h⟩:=Fx h0;clear h0
 cases hv with
 | @rng p i j hp=>
  obtain ⟨hc',h⟩:=bA h;exact qz hc pins s σ H _ us Q I rx ⟨p,i,j,rfl,hp,hc'.1,hc'.2,d7 R (fQ _) .refl h⟩
 | @tup p xs vs h1 r=>exact jh pins s σ H _ us Q I rx ⟨p,vs,rfl,.inr (fS.of h1),d7 R r .refl h⟩
 | @frz p xs vs h1 r=>exact jh pins s σ H _ us Q I rx ⟨p,vs,rfl,.inl h1.Hh,d7 R r .refl h⟩
 | @ref p n hp=>
  obtain ⟨xs,hn,h⟩:=aM h;obtain ⟨vs,h1,r⟩:=R.lst hp (aT hn);exact jh pins s σ H _ us Q I rx ⟨p,vs,rfl,.inl (f_.of h1),d7 R r .refl h⟩
 | _=>exact h.elim
noncomputable def fm (x:A)(S:aE):R A:=match x with
 | .rng i j=>gd (rF i j) (.ok (.tup ((bq i j).map .int)) S)
 | .tup xs=>.ok (.tup xs) S
 | .frz xs=>.ok (.tup xs) S
 | .ref n=>opt (ak S n) λ xs=>.ok (.tup xs) S
 | _=>.no
theorem kh (hc:X.calm=true):bB X (.type "tuple") (rN X (f1 fm)):=λ pins s σ H vs us Q I rx h0=>by
 obtain ⟨w,rfl,ρ,S,x,R,hv,h⟩:=Fx h0;clear h0
 cases hv with
 | @rng p i j hp=>
  obtain ⟨hc',h⟩:=bA h;exact qh hc pins s σ H _ us Q I rx ⟨p,i,j,rfl,hp,hc'.1,hc'.2,jx R (fQ _) .refl h⟩
 | @tup p xs vs h1 r=>exact iR pins s σ H _ us Q I rx ⟨p,vs,rfl,.inr ⟨(fS.of h1),h _ _ _ .refl R (.tup h1 r)⟩⟩
 | @frz p xs vs h1 r=>exact iR pins s σ H _ us Q I rx ⟨p,vs,rfl,.inl ⟨h1.Hh,jx R r .refl h⟩⟩
 | @ref p n hp=>
  obtain ⟨xs,hn,h⟩:=aM h;obtain ⟨vs,h1,r⟩:=R.lst hp (aT hn);exact iR pins s σ H _ us Q I rx ⟨p,vs,rfl,.inl ⟨f_.of h1,jx R r .refl h⟩⟩
 | _=>exact h.elim
noncomputable def A.BE:List A->Option (List Bool)
 | []=>some []
 | .bl b::xs=>(A.BE xs).map (b::·)
 | _=>none
theorem wD {K:PySem.W.Frag}{ρ:List Addr}{H:Hp}:∀ {xs:List A} {vs:List V} {bs:List Bool},AVs K ρ H xs vs->A.BE xs=some bs->vs=bs.map V.bl
 | _,_,_,.nil,e=>by cases e;rfl
 | _,_,_,.cons (x:=.bl b) h t,e=>by
  obtain ⟨cs,e1,rfl⟩:=map_eq_some_iff.mp e
  cases h
  rw [wD t e1];rfl
 | _,_,_,.cons (x:=.unb) h t,e=>nomatch e
 | _,_,_,.cons (x:=.non) h t,e=>nomatch e
 | _,_,_,.cons (x:=.int _) h t,e=>nomatch e
 | _,_,_,.cons (x:=.str _) h t,e=>nomatch e
 | _,_,_,.cons (x:=.tup _) h t,e=>nomatch e
 | _,_,_,.cons (x:=.frz _) h t,e=>nomatch e
 | _,_,_,.cons (x:=.rng _ _) h t,e=>nomatch e
 | _,_,_,.cons (x:=.ref _) h t,e=>nomatch e
 | _,_,_,.cons (x:=.exn _) h t,e=>nomatch e
 | _,_,_,.cons (x:=.ty _) h t,e=>nomatch e
noncomputable def GP (x:A)(S:aE):R A:=match x with
 | .ref n=>opt (ak S n) λ xs=>opt (A.BE xs) λ bs=>.ok (.bl (bs.all λ b=>b)) S
 | _=>.no
theorem MC (hc:X.calm=true):bB X (.builtin "all") (rN X (f1 GP)):=bB.imp (AX hc) λ vs H Q h0=>by
 obtain ⟨w,rfl,ρ,S,x,R,hv,h⟩:=Fx h0;clear h0
 cases hv with
 | @ref p n hp=>
  obtain ⟨xs,hn,h⟩:=aM h;obtain ⟨bs,hb,h⟩:=aM h;obtain ⟨vs,h1,r⟩:=R.lst hp (aT hn);rw [wD r hb] at h1;exact ⟨p,bs,rfl,f_.of h1,h _ _ _ .refl R (.bl _)⟩
 | _=>exact h.elim
noncomputable def Lq (x:A)(S:aE):R A:=match x with
 | .ref n=>opt (ak S n) λ xs=>opt (A.BE xs) λ bs=>.ok (.bl (bs.any λ b=>b)) S
 | _=>.no
theorem Ni (hc:X.calm=true):bB X (.builtin "any") (rN X (f1 Lq)):=bB.imp (Be hc) λ vs H Q h0=>by
 obtain ⟨w,rfl,ρ,S,x,R,hv,h⟩:=Fx h0;clear h0
 cases hv with
 | @ref p n hp=>
  obtain ⟨xs,hn,h⟩:=aM h;obtain ⟨bs,hb,h⟩:=aM h;obtain ⟨vs,h1,r⟩:=R.lst hp (aT hn);rw [wD r hb] at h1;exact ⟨p,bs,rfl,f_.of h1,h _ _ _ .refl R (.bl _)⟩
 | _=>exact h.elim
noncomputable def maxOf:List Int->Option Int
 | []=>none
 | [x]=>some x
 | x::xs=>(maxOf xs).map λ m=>if m > x then m else x
theorem pN:∀ {ns:List Int} {m:Int},maxOf ns=some m->m∈ns/\∀ a∈ns,a<=m
 | [],_,e=>nomatch e
 | [x],m,e=>by cases e;exact ⟨mem_cons_self,λ a h=>by rw [mem_singleton] at h;omega⟩
 | x::y::xs,m,e=>by
  obtain ⟨m',e1,rfl⟩:=map_eq_some_iff.mp (show (maxOf (y::xs)).map (λ m=>if m > x then m else x)=some m from e);obtain ⟨h1,h2⟩:=pN e1;by_cases hx:m' > x
  ·rw [if_pos hx];exact ⟨mem_cons_of_mem _ h1,λ a h=>(mem_cons.mp h).elim (λ z=>by omega) (h2 a)⟩
  ·rw [if_neg hx];exact ⟨mem_cons_self,λ a h=>(mem_cons.mp h).elim (λ z=>by omega) λ z=>by have:=h2 a z;omega⟩
noncomputable def DQ (x:A)(S:aE):R A:=match x with
 | .ref n=>opt (ak S n) λ xs=>opt (A.ints xs) λ ns=>opt (maxOf ns) λ m=>.ok (.int m) S
 | _=>.no
theorem KA (hc:X.calm=true):bB X (.builtin "max") (rN X (f1 DQ)):=bB.imp (Bk hc) λ vs H Q h0=>by
 obtain ⟨w,rfl,ρ,S,x,R,hv,h⟩:=Fx h0;clear h0
 cases hv with
 | @ref p n hp=>
  obtain ⟨xs,hn,h⟩:=aM h;obtain ⟨ns,hb,h⟩:=aM h;obtain ⟨m,hm,h⟩:=aM h;obtain ⟨vs,h1,r⟩:=R.lst hp (aT hn);rw [mK r hb] at h1;obtain ⟨g1,g2⟩:=pN hm;refine ⟨p,ns,rfl,f_.of h1,List.length_pos_of_mem g1,λ M hM hG=>?_⟩;have:M=m:=Int.le_antisymm (g2 M hM) (hG m g1);rw [this];exact h _ _ _ .refl R (.int _)
 | _=>exact h.elim
noncomputable def A.kd:A->aE->Option Kd
 | .non,_=>some .non
 | .bl _,_=>some .bl
 | .int _,_=>some .int
 | .str _,_=>some .str
 | .tup _,_=>some .tup
 | .ref n,S=>(ak S n).map λ _=>.lst
 | _,_=>none
theorem FL {K:PySem.W.Frag}(k:Kd):PySem.W.kitOne K k.ty (.type "str")=some (decide (k=.str)):=by cases k <;> rfl
noncomputable def w9 (k:Kd)(c:String):Option Bool:=if c = "int" then some (decide (k=.int\/k=.bl)) else if c = "bool" then some (decide (k=.bl)) else if c = "tuple" then some (decide (k=.tup)) else if c = "list" then some (decide (k=.lst)) else if c = "str" then some (decide (k=.str)) else none
theorem zV {K:PySem.W.Frag}{k:Kd}{c:String}{b:Bool}(h:w9 k c=some b):PySem.W.kitOne K k.ty (.type c)=some b:=by
 unfold w9 at h;split at h
 ·rename_i e;subst e;rw [<- h];exact FN k
 ·split at h
  ·rename_i e;subst e;rw [<- h];exact CY k
  ·split at h
   ·rename_i e;subst e;rw [<- h];exact kit_tuple k
   ·split at h
    ·rename_i e;subst e;rw [<- h];exact Eh k
    ·split at h
     ·rename_i e;subst e;rw [<- h];exact FL k
     ·cases h
noncomputable def Es (x y:A)(S:aE):R A:=match y with
 | .ty c=>opt (x.kd S) λ k=>opt (w9 k c) λ b=>.ok (.bl b) S
 | _=>.no
theorem MF {K:PySem.W.Frag}{ρ:List Addr}{H:Hp}{S:aE}{x:A}{v:V}{k:Kd}(R:Rel K ρ H S)(h:AV K ρ H x v)(e:x.kd S=some k):(∃ p vs,v=.ref p/\fS K H p vs/\k=.tup)\/KL H v k:=by
 cases h with
 | non=>cases e;exact .inr rfl
 | bl b=>cases e;exact .inr ⟨b,rfl⟩
 | int i=>cases e;exact .inr ⟨i,rfl⟩
 | str i=>cases e;exact .inr ⟨i,rfl⟩
 | tup h r=>cases e;exact .inl ⟨_,_,rfl,(fS.of h),rfl⟩
 | ref h=>
  obtain ⟨xs,e1,e2⟩:=map_eq_some_iff.mp e;obtain ⟨vs,h1,_⟩:=R.lst h (aT e1)
  cases e2
  exact .inr ⟨_,vs,rfl,h1⟩
 | _=>cases e
theorem HR:bB X (.builtin "isinstance") (rN X (f2 Es)):=λ pins s σ H vs us Q I rx h0=>by
 obtain ⟨w,w',rfl,ρ,S,x,y,R,hv,hv',h⟩:=NU h0;clear h0
 cases hv' with
 | ty c=>
  obtain ⟨k,hk,h⟩:=aM h;obtain ⟨b,hb,hq⟩:=aM h;have hq:oB X ρ H Q (.bl b) S:=hq;clear h
  rcases MF R hv hk with ⟨p,vs,rfl,ht,rfl⟩ | hd
  ·obtain ⟨u1,u2,rfl,r1,r2⟩:=vals2 rx;obtain ⟨its,q,⟨o,h1,h2,_⟩,_⟩:=I.tuple ht
   cases (show _=Value.ref p from r1)
   cases (show _=Value.type c from r2)
   exact PySem.W.kia_one PySem.W.kitx_tuple I.tY ⟨o,h1,h2⟩ (zV hb) (λ z=>nomatch z) λ tk=>⟨.bl b,H,I.tok _,rfl,hq _ _ _ .refl R (.bl _)⟩
  ·exact uI (c:=c) pins s σ H _ us Q I rx ⟨w,_,b,rfl,hd.Og,zV hb,hq _ _ _ .refl R (.bl _)⟩
 | _=>exact h.elim
end
noncomputable def A5 (x:List Int):List (List Int)->List (List Int)
 | []=>[x]
 | y::ys=>if HT.lexLt y x=true then y::A5 x ys else x::y::ys
noncomputable def dR:List (List Int)->List (List Int)
 | []=>[]
 | x::xs=>A5 x (dR xs)
noncomputable def Bj (a b:List Int):Prop:=HT.lexLt b a=false
theorem Bj.trans {a b c:List Int}(h1:Bj a b)(h2:Bj b c):Bj a c:=by
 unfold Bj at *
 cases e:HT.lexLt c a with
 | false=>rfl
 | true=>
  rcases Sx.zc (b:=b) e with z | z
  ·rw [h2] at z;cases z
  ·rw [h1] at z;cases z
theorem mS (x:List Int):∀ ys:List (List Int),(A5 x ys).Perm (x::ys)
 | []=>List.Perm.refl _
 | y::ys=>by
  unfold A5;by_cases h:HT.lexLt y x=true
  ·rw [if_pos h];exact ((mS x ys).cons y).trans (List.Perm.swap x y ys)
  ·rw [if_neg h]
theorem k_:∀ xs:List (List Int),(dR xs).Perm xs
 | []=>List.Perm.refl _
 | x::xs=>(mS x (dR xs)).trans ((k_ xs).cons x)
theorem zO (x:List Int):∀ ys:List (List Int),ys.Pairwise Bj->(A5 x ys).Pairwise Bj
 | [],_=>pairwise_singleton _ _
 | y::ys,h=>by
  unfold A5;obtain ⟨h1,h2⟩:=pairwise_cons.mp h;by_cases hx:HT.lexLt y x=true
  ·rw [if_pos hx];refine pairwise_cons.mpr ⟨λ z hz=>?_,zO x ys h2⟩
   rcases mem_cons.mp ((mS x ys).mem_iff.mp hz) with e | hz
   ·subst e;unfold Bj
    cases e:HT.lexLt z y with
    | false=>rfl
    | true=>have:=Sx.pI hx e;rw [Sx.jj] at this;cases this
   ·exact h1 z hz
  ·rw [if_neg hx];have hx':Bj x y:=by unfold Bj;simpa using hx
   exact pairwise_cons.mpr ⟨λ z hz=>(mem_cons.mp hz).elim (λ e=>e ▸ hx') λ hz=>hx'.trans (h1 z hz),h⟩
theorem t7:∀ xs:List (List Int),(dR xs).Pairwise Bj
 | []=>List.Pairwise.nil
 | x::xs=>zO x _ (t7 xs)
theorem oQ {xs ys:List (List Int)}(p:xs.Perm ys)(h:xs.Pairwise Bj):xs=dR ys:=
 List.Perm.eq_of_pairwise (λ a b _ _ h1 h2=>(Sx.sL h1 h2).symm) h (t7 ys) (p.trans (k_ ys).symm)
theorem Po:∀ (N:Nat) (l:List Nat),l.Nodup->(∀ x∈l,x < N)->l.length<=N
 | 0,l,_,h=>by
  cases l with
  | nil=>exact Nat.le_refl _
  | cons a l=>exact absurd (h a (mem_cons_self ..)) (not_lt_zero _)
 | N+1,l,nd,h=>by
  have h1:=Po N (l.erase N) (nd.erase N) λ x hx=>by
   have:=h x (List.mem_of_mem_erase hx);have:x≠N:=λ z=>by
    subst z;exact (List.Nodup.not_mem_erase nd) hx
   omega
  have:=List.le_length_erase (l:=l) (a:=N);omega
theorem wF {N:Nat}{g:Nat->Nat}(h:∀ i,i < N->g i < N)(inj:∀ i j,i < j->j < N->g i≠g j):((List.range N).map g).Perm (List.range N):=by
 have nd:((List.range N).map g).Nodup:=by
  unfold List.Nodup;rw [pairwise_iff_getElem];intro i j hi hj hij;rw [length_map,length_range] at hi hj;rw [getElem_map,getElem_map,getElem_range,getElem_range];exact inj i j hij hj
 have lt:∀ x∈(List.range N).map g,x < N:=λ x hx=>by
  obtain ⟨i,hi,rfl⟩:=mem_map.mp hx;exact h i (mem_range.mp hi)
 refine (List.perm_ext_iff_of_nodup nd List.nodup_range).mpr λ a=>⟨λ ha=>mem_range.mpr (lt a ha),λ ha=>?_⟩;refine Classical.byContradiction λ hn=>?_;have:=Po N (a::(List.range N).map g) (nodup_cons.mpr ⟨hn,nd⟩) λ x hx=>by
  rcases mem_cons.mp hx with rfl | hx
  ·exact mem_range.mp ha
  ·exact lt x hx
 rw [length_cons,length_map,length_range] at this;omega
theorem range_getD {α:Type}(l:List α)(d:α):(List.range l.length).map (λ i=>l.getD i d)=l:=by
 apply List.ext_getElem?;intro i;rw [List.getElem?_map];by_cases c:i < l.length
 ·rw [getElem?_range c];show some (l.getD i d)=_;rw [getD_eq_getElem?_getD,List.getElem?_eq_getElem c];rfl
 ·rw [List.getElem?_eq_none (by rw [length_range];omega),List.getElem?_eq_none (by omega)];rfl
theorem E5 {kss:List (List Int)}{g:Nat->Nat}(c:Sx.Cl g 0 kss.length)(so:Sx.So (Sx.A3 kss) g 0 kss.length):(List.range kss.length).map (λ i=>kss.getD (g i) [])=dR kss:=by
 refine oQ ?_ ?_
 ·have p:=wF (N:=kss.length) (g:=g) (λ i hi=>(c i (zero_le _) hi).2) λ i j hij hj z=>by
   have:=so i j (zero_le _) hij hj;rw [z] at this;exact this.Ho
  have:=p.map λ i=>kss.getD i [];rw [List.map_map,range_getD] at this;exact this
 ·rw [pairwise_iff_getElem];intro i j hi hj hij;rw [length_map,length_range] at hi hj;rw [getElem_map,getElem_map,getElem_range,getElem_range];exact (so i j (zero_le _) hij hj).ge
noncomputable def LG:List A->Option (List (List Int))
 | []=>some []
 | .tup xs::r=>match A.ints xs with
  | some (k::ks)=>(LG r).map λ rs=>(k::ks)::rs
  | _=>none
 | _=>none
theorem IP {K:PySem.W.Frag}{ρ:List Addr}{H:Hp}:∀ {xs:List A} {vs:List V} {kss:List (List Int)},AVs K ρ H xs vs->LG xs=some kss ->
  ∃ rs:List Addr,vs=rs.map V.ref/\rs.length=kss.length/\∀ (i:Nat) (r:Addr) (ks:List Int),rs[i]?=some r->kss[i]?=some ks->fS K H r (ks.map V.int)/\ks≠[]/\AV K ρ H (.tup (ks.map .int)) (.ref r)
 | [],_,_,.nil,e=>by cases e;exact ⟨[],rfl,rfl,λ i r ks h=>by simp at h⟩
 | x::xs,_,kss,.cons h t,e=>by
  cases h with
  | tup h r=>
   rename_i a ys us;unfold LG at e
   cases e1:A.ints ys with
   | none=>rw [e1] at e;cases e
   | some ks=>
    rw [e1] at e
    cases ks with
    | nil=>cases e
    | cons k ks=>
     obtain ⟨kss',e2,rfl⟩:=map_eq_some_iff.mp e;obtain ⟨rs,rfl,hl,hh⟩:=IP t e2;have ev:=mK r e1;subst ev;refine ⟨a::rs,rfl,by rw [length_cons,length_cons,hl],λ i r' ks' h1 h2=>?_⟩
     cases i with
     | zero=>
      cases h1
      cases h2
      exact ⟨fS.of h,(λ z=>nomatch z),.tup h (fQ _)⟩
     | succ i=>exact hh i r' ks' (by simpa using h1) (by simpa using h2)
  | _=>cases e
theorem wG {K:PySem.W.Frag}{ρ:List Addr}{H:Hp}{α:Type}{f:α->A}{h:α->V}:∀ {l:List α},(∀ a∈l,AV K ρ H (f a) (h a))->AVs K ρ H (l.map f) (l.map h)
 | [],_=>.nil
 | a::l,e=>.cons (e a (mem_cons_self ..)) (wG λ b hb=>e b (mem_cons_of_mem _ hb))
section
variable {X:Cx}
noncomputable def wC (n:Nat)(S:aE):R A:=opt (ak S n) λ xs=>opt (LG xs) λ kss=>.ok (.ref S.length) (S++[.lst ((dR kss).map λ ks=>.tup (ks.map .int))])
noncomputable def mQ (x:A)(S:aE):R A:=match x with
 | .ref n=>wC n S
 | _=>.no
theorem zW:bB X (.builtin "sorted") (rN X (f1 mQ)):=bB.imp tR λ vs H Q h0=>by
 obtain ⟨w,rfl,ρ,S,x,R,hv,h⟩:=Fx h0;clear h0
 cases hv with
 | ref hp=>
  rename_i p n;obtain ⟨xs,hn,h⟩:=aM h;obtain ⟨kss,hb,h⟩:=aM h;obtain ⟨us,h1,r⟩:=R.lst hp (aT hn);obtain ⟨rs,rfl,hl,hh⟩:=IP r hb;refine ⟨p,rs,kss,rfl,f_.of h1,hl,λ i r ks e1 e2=>⟨(hh i r ks e1 e2).1,(hh i r ks e1 e2).2.1⟩,λ l g hl' hc hs=>?_⟩;have av:AVs X.K ρ H ((dR kss).map λ ks=>.tup (ks.map .int)) (((List.range kss.length).map λ i=>rs.getD (g i) 0).map V.ref):=by
   rw [<- E5 hc hs,List.map_map,List.map_map];refine wG λ i hi=>?_;have lt:=(hc i (zero_le _) (mem_range.mp hi)).2;have e1:rs[g i]?=some (rs.getD (g i) 0):=by rw [getD_eq_getElem?_getD,List.getElem?_eq_getElem (by omega)];rfl
   have e2:kss[g i]?=some (kss.getD (g i) []):=by rw [getD_eq_getElem?_getD,List.getElem?_eq_getElem lt];rfl
   exact (hh _ _ _ e1 e2).2.2
  exact d7 R av .refl h l hl'
 | _=>exact h.elim
end
section
variable {X:Cx}
end
noncomputable def RS.post (r:RS)(N:List A->aE->Prop)(T:A->aE->Prop)(B C:List A->aE->Prop)(E:Str->aE->Prop):Prop:=match r with
 | .nx τ S=>N τ S
 | .rt a S=>T a S
 | .bk τ S=>B τ S
 | .ct τ S=>C τ S
 | .ex c S=>E c S
 | .no=>False
noncomputable def RS.of {α:Type}(r:R α)(f:α->aE->RS):RS:=match r with
 | .ok a S=>f a S
 | .ex c S=>.ex c S
 | .no=>.no
theorem of_post {α:Type}{r:R α}{f:α->aE->RS}{N B C:List A->aE->Prop}{T:A->aE->Prop}{E:Str->aE->Prop}(h:(RS.of r f).post N T B C E):r.post (λ a S=>(f a S).post N T B C E) E:=by
 cases r <;> exact h
theorem RS.mono {r:RS}{N B C N' B' C':List A->aE->Prop}{T T':A->aE->Prop}{E E':Str->aE->Prop}(h:r.post N T B C E)(hn:∀ τ S,N τ S->N' τ S)(ht:∀ a S,T a S->T' a S)(hb:∀ τ S,B τ S->B' τ S)(hc:∀ τ S,C τ S->C' τ S)(he:∀ c S,E c S->E' c S):r.post N' T' B' C' E':=by
 cases r with
 | nx τ S=>exact hn _ _ h
 | rt a S=>exact ht _ _ h
 | bk τ S=>exact hb _ _ h
 | ct τ S=>exact hc _ _ h
 | ex c S=>exact he _ _ h
 | no=>exact h.elim
noncomputable def zm (X:Cx)(ρ:List Addr)(H:Hp)(N:L2.St->Hp->Prop):List A->aE->Prop:=λ τ' S'=>∀ ρ' H' σ',Ext ρ ρ' H H'->Rel X.K ρ' H' S'->SR X.K ρ' H' τ' σ'->N σ' H'
theorem zm.ext {X:Cx}{ρ ρ':List Addr}{H H':Hp}{N:L2.St->Hp->Prop}{τ:List A}{S:aE}(h:zm X ρ H N τ S)(e:Ext ρ ρ' H H'):zm X ρ' H' N τ S:=λ ρ2 H2 σ2 e2=>h ρ2 H2 σ2 (e.trans e2)
noncomputable def qF (X:Cx)(ρ:List Addr)(H:Hp)(D:Ends)(r:RS):Prop:=r.post (zm X ρ H D.nx) (oB X ρ H D.rt) (zm X ρ H D.bk) (zm X ρ H D.ct) (XE X ρ H)
theorem qF.ext {X:Cx}{ρ ρ':List Addr}{H H':Hp}{D:Ends}{r:RS}(h:qF X ρ H D r)(e:Ext ρ ρ' H H'):qF X ρ' H' D r:=RS.mono h (λ _ _ z=>z.ext e) (λ _ _ z=>z.ext e) (λ _ _ z=>z.ext e) (λ _ _ z=>z.ext e) λ _ _ z=>z.ext e
noncomputable def tS (X:Cx)(c:Sm):TS:=λ D σ H=>∃ ρ S τ,Rel X.K ρ H S/\SR X.K ρ H τ σ/\qF X ρ H D (c τ S)
noncomputable def AS (X:Cx)(st:Stmt)(c:Sm):Prop:=PS X st (tS X c)
noncomputable def GK (X:Cx)(sts:List Stmt)(c:Sm):Prop:=tB X sts (tS X c)
noncomputable def tG (X:Cx)(g:Tg):TG:=λ v σ H Q=>∃ ρ S τ a,Rel X.K ρ H S/\SR X.K ρ H τ σ/\AV X.K ρ H a v/\(g a τ S).post (zm X ρ H Q) (XE X ρ H)
noncomputable def AG (X:Cx)(e:Expr)(g:Tg):Prop:=PG X e (tG X g)
noncomputable abbrev Fq:=List A->List A->aE->R (List A)
noncomputable def PX (X:Cx)(g:Fq):II:=λ vs σ H Q=>∃ ρ S τ as,Rel X.K ρ H S/\SR X.K ρ H τ σ/\AVs X.K ρ H as vs/\(g as τ S).post (zm X ρ H Q) (XE X ρ H)
noncomputable def NV (X:Cx)(es:List Expr)(g:Fq):Prop:=NB X es (PX X g)
section
variable {X:Cx} {pos:Pos} {a b e:Expr} {st:Stmt} {rest:List Stmt} {c d:Sm}
theorem PS.imp {t t':TS}(h:PS X st t)(i:∀ D σ H,t' D σ H->t D σ H):PS X st t':=λ pins s σ H D I q=>h pins s σ H D I (i D σ H q)
theorem tB.imp {t t':TS}(h:tB X rest t)(i:∀ D σ H,t' D σ H->t D σ H):tB X rest t':=λ pins s σ H D I q=>h pins s σ H D I (i D σ H q)
theorem PG.imp {t t':TG}(h:PG X e t)(i:∀ v σ H Q,t' v σ H Q->t v σ H Q):PG X e t':=λ pins s σ H v u Q I r q=>h pins s σ H v u Q I r (i _ _ _ _ q)
noncomputable def bH (i:Nat):Tg:=λ a τ S=>.ok (τ.set i a) S
theorem aZ {i:Nat}{x:Str}(hN:X.N.Nodup)(hi:X.N[i]?=some x:=by rfl)(hx:Loc X.env.scope x:=by first | exact Or.inl rfl | exact Or.inr rfl)(hf:X.fn x=true\/X.env.scope.names.lookup x=some .local:=by first | exact .inl rfl | exact .inr rfl | assumption):AG X (.Name x pos) (bH i):=
 PG.imp (yR hN hi hx hf) λ v σ H Q ⟨ρ,S,τ,a,R,r,va,h⟩=>h ρ H _ .refl R (r.set va)
noncomputable def qI:Fq:=λ as τ S=>match as with
 | []=>.ok τ S
 | _=>.no
noncomputable def jD (g:Tg)(gs:Fq):Fq:=λ as τ S=>match as with
 | a::as=>(g a τ S).bind λ τ1 S1=>gs as τ1 S1
 | []=>.no
theorem jw:NV X [] qI:=λ pins s σ H vs us Q I r ⟨ρ,S,τ,as,R,sr,va,h⟩=>Gi pins s σ H vs us Q I r (by
 cases va with
 | nil=>exact ⟨rfl,h ρ H σ .refl R sr⟩
 | cons _ _=>exact h.elim)
theorem cF {es:List Expr}{g:Tg}{gs:Fq}(h1:AG X e g)(h2:NV X es gs)(hs:(assignEach (e::es) X.env).map (·.2)=assign e X.env::(assignEach es X.env).map (·.2):=by rfl):NV X (e::es) (jD g gs):=
 λ pins s σ H vs us Q I r ⟨ρ,S,τ,as,R,sr,va,h⟩=>Cc h1 h2 hs pins s σ H vs us Q I r (by
  cases va with
  | nil=>exact h.elim
  | cons ha hr=>exact ⟨_,_,rfl,ρ,S,τ,_,R,sr,ha,aF (aK h) .refl λ τ1 S1 h1 ρ1 H1 σ1 e1 R1 sr1=>⟨ρ1,S1,τ1,_,R1,sr1,hr.ext e1,aF h1 e1 λ _ _ z=>z.ext e1⟩⟩)
noncomputable def qJ (n:Nat)(gs:Fq):Tg:=λ a τ S=>match a with
 | .tup xs=>gd (xs.length=n) (gs xs τ S)
 | _=>.no
theorem kY {es:List Expr}{k n:Nat}{gs:Fq}(hc:X.calm=true)(h:NV X es gs)(hn:(assignEach es X.env).length=n:=by rfl)(hst:(assignEach es X.env).findIdx? (·.1)=none:=by rfl):AG X (.Tuple es k pos) (qJ n gs):=
 PG.imp (JU hc h hn hst) λ v σ H Q h9=>by
  obtain ⟨ρ,S,τ,a,R,r,va,h⟩:=h9
  cases va with
  | tup h1 r1=>
   obtain ⟨hl,h⟩:=bA h;exact ⟨_,_,rfl,fS.of h1,by rw [<- r1.length];exact hl,ρ,S,τ,_,R,r,r1,h⟩
  | _=>exact h.elim
noncomputable def vE (o i v:A)(S:aE):R Unit:=match o,i with
 | .ref n,.int k=>opt (ak S n) λ xs=>opt (pQ xs.length k) λ j=>.ok () (S.set n (.lst (xs.set j v)))
 | _,_=>.no
noncomputable def P1 (X:Cx):wX:=λ o i v H Q=>∃ ρ S ao ai av,Rel X.K ρ H S/\AV X.K ρ H ao o/\AV X.K ρ H ai i/\AV X.K ρ H av v/\(vE ao ai av S).post (λ _ S'=>∀ ρ' H',Ext ρ ρ' H H'->Rel X.K ρ' H' S'->Q H') (XE X ρ H)
theorem xW:A1 X (P1 X):=λ pins s σ H o i v ov iv u Q I ro ri rv h9=>by
 obtain ⟨ρ,S,ao,ai,av,R,h1,h2,h3,h⟩:=h9
 cases h1 with
 | @ref p n hp=>
  cases h2 with
  | int k=>
   obtain ⟨xs,hn,h⟩:=aM h;obtain ⟨j,hj,h⟩:=aM h;obtain ⟨vs,e,r⟩:=R.lst hp (aT hn);obtain ⟨ex,R'⟩:=R.put hp (aT hn) (r.set h3 j);exact set_list pins s σ H _ _ v ov iv u Q I ro ri rv ⟨p,vs,k,j,rfl,rfl,e,by rw [<- r.length];exact hj,h _ _ ex R'⟩
  | _=>exact h.elim
 | _=>exact h.elim
noncomputable def BC (co ci:Ex):Tg:=λ a τ S=>(co τ S).bind λ o S1=>(ci τ S1).bind λ i S2=>(vE o i a S2).bind λ _ S3=>.ok τ S3
theorem iQ {o i:Expr}{co ci:Ex}(ho:AE X o co)(hi:AE X i ci)
  (ha:∀ v,assign (.Subscript o i pos) X.env v=(do
   let ov <- holding [v] (eval o X.env)
   let iv <- holding [v,ov] (eval i X.env)
   standAt pos
   holding [v,ov,iv] (setItem ov iv v)
   release [v,ov,iv] []):=by intro _;rfl):AG X (.Subscript o i pos) (BC co ci):=PG.imp (CL ho hi xW ha) λ v σ H Q h9=>by
 obtain ⟨ρ,S,τ,a,R,r,va,h⟩:=h9;refine ⟨ρ,S,τ,R,r,aF (aK h) .refl λ o S1 h1 ρ1 H1 x e1 R1 v1=>⟨ρ1,S1,τ,R1,r.ext e1,aF (aK h1) e1 λ i S2 h2 ρ2 H2 y e2 R2 v2=>?_⟩⟩;refine ⟨ρ2,S2,o,i,a,R2,v1.ext e2,v2,va.ext (e1.trans e2),aF (aK h2) (e1.trans e2) λ _ S3 h3 ρ3 H3 e3 R3=>?_⟩;exact h3 ρ3 H3 σ ((e1.trans e2).trans e3) R3 (r.ext ((e1.trans e2).trans e3))
noncomputable def g_:Sm:=λ τ S=>.nx τ S
noncomputable def a_ (c d:Sm):Sm:=λ τ S=>match c τ S with
 | .nx τ' S'=>d τ' S'
 | r=>r
theorem bU:GK X [] g_:=tB.imp G_ λ D σ H ⟨ρ,S,τ,R,r,h⟩=>h ρ H σ .refl R r
theorem FY {D:Ends}{σ:L2.St}{H:Hp}(h:tS X (a_ c d) D σ H):L3 (tS X c) (tS X d) D σ H:=by
 obtain ⟨ρ,S,τ,R,r,h⟩:=h;refine ⟨ρ,S,τ,R,r,?_⟩;unfold a_ at h
 cases hc:c τ S with
 | nx τ1 S1=>
  rw [hc] at h;exact λ ρ1 H1 σ1 e1 R1 r1=>⟨ρ1,S1,τ1,R1,r1,qF.ext h e1⟩
 | rt a S1=>rw [hc] at h;exact h
 | bk τ1 S1=>rw [hc] at h;exact h
 | ct τ1 S1=>rw [hc] at h;exact h
 | ex x S1=>rw [hc] at h;exact h
 | no=>rw [hc] at h;exact h
theorem aC (h1:AS X st c)(h2:GK X rest d):GK X (st::rest) (a_ c d):=tB.imp (CM h1 h2) λ D σ H h=>FY h
theorem aL (h1:AS X st c):GK X [st] c:=Ga h1
noncomputable def K1:Sm:=λ τ S=>.bk τ S
noncomputable def MA:Sm:=λ τ S=>.ct τ S
noncomputable def lQ (e:Ex):Sm:=λ τ S=>.of (e τ S) λ _ S1=>.nx τ S1
theorem ju {f:Ex}(he:AE X e f)(hs:swapsWith e none pos.line X.env=pure false:=by rfl):AS X (.Expr e pos) (lQ f):=PS.imp (FG he hs) λ D σ H ⟨ρ,S,τ,R,r,h⟩=>
 ⟨ρ,S,τ,R,r,aF (of_post h) .refl λ a S1 h1 ρ1 H1 x e1 R1 v1=>h1 ρ1 H1 σ e1 R1 (r.ext e1)⟩
noncomputable def cU (e:Ex):Sm:=λ τ S=>.of (e τ S) λ a S1=>.rt a S1
theorem bM {f:Ex}(he:AE X e f):AS X (.Return (some e) pos) (cU f):=PS.imp (LA he) λ D σ H ⟨ρ,S,τ,R,r,h⟩=>⟨ρ,S,τ,R,r,aF (of_post h) .refl λ a S1 h1=>h1⟩
noncomputable def DX:Sm:=λ τ S=>.rt .non S
theorem GQ:AS X (.Return none pos) DX:=PS.imp GR λ D σ H ⟨ρ,S,τ,R,r,h⟩=>h ρ H _ .refl R .non
noncomputable def qy (t:Te)(c d:Sm):Sm:=λ τ S=>.of (t τ S) λ b S1=>match b with | true=>c τ S1 | false=>d τ S1
theorem eG {t:Te}{ca cb:List Stmt}(ht:AT X e t)(ha:GK X ca c)(hb:GK X cb d):AS X (.If e ca cb pos) (qy t c d):=PS.imp (MT ht ha hb) λ D σ H h9=>by
 obtain ⟨ρ,S,τ,R,r,h⟩:=h9;refine ⟨ρ,S,τ,R,r,aF (of_post h) .refl λ b S1 h1 ρ1 H1 e1 R1=>?_⟩
 cases b with
 | true=>rw [if_pos rfl];exact ⟨ρ1,S1,τ,R1,r.ext e1,qF.ext h1 e1⟩
 | false=>rw [if_neg Bool.false_ne_true];exact ⟨ρ1,S1,τ,R1,r.ext e1,qF.ext h1 e1⟩
noncomputable def bG (e:Ex)(g:Tg):Sm:=λ τ S=>.of (e τ S) λ a S1=>.of (g a τ S1) λ τ' S2=>.nx τ' S2
theorem Gk {f:Ex}{g:Tg}{D:Ends}{σ:L2.St}{H:Hp}(h:tS X (bG f g) D σ H):G8 (tE X f) (tG X g) D σ H:=by
 obtain ⟨ρ,S,τ,R,r,h⟩:=h;exact ⟨ρ,S,τ,R,r,aF (of_post h) .refl λ a S1 h1 ρ1 H1 x e1 R1 v1=>⟨ρ1,S1,τ,a,R1,r.ext e1,v1,aF (of_post h1) e1 λ τ2 S2 h2=>zm.ext h2 e1⟩⟩
theorem iM {tg:Expr}{f:Ex}{g:Tg}(he:AE X e f)(hg:AG X tg g)(hs:swapsWithSole [tg] e pos.line X.env=pure false:=by rfl)(hw:swappedStores [tg] e X.env=pure none:=by rfl)
  (h1:(assignEach [tg] X.env).map (·.2)=[assign tg X.env]:=by rfl):AS X (.Assign [tg] e pos) (bG f g):=PS.imp (Jq he hg hs hw h1) λ D σ H h=>Gk h
theorem aX {i:Nat}{x:Str}{f:Ex}{pos':Pos}(hN:X.N.Nodup)(he:AE X e f)(hi:X.N[i]?=some x:=by rfl)(hx:Loc X.env.scope x:=by first | exact Or.inl rfl | exact Or.inr rfl)(hs:swapsWith e (some (.Name x pos')) pos.line X.env=pure false:=by rfl)(hf:X.fn x=true\/X.env.scope.names.lookup x=some .local:=by first | exact .inl rfl | exact .inr rfl | assumption) :
  AS X (.Assign [.Name x pos'] e pos) (bG f (bH i)):=PS.imp (LD hN hi hx he hs hf) λ D σ H ⟨ρ,S,τ,R,r,h⟩=>
 ⟨ρ,S,τ,R,r,aF (of_post h) .refl λ a S1 h1 ρ1 H1 x e1 R1 v1=>h1 ρ1 H1 _ e1 R1 ((r.ext e1).set v1)⟩
noncomputable def N3 (i j:Nat)(c:jB):Sm:=λ τ S=>.of (c τ S) λ as S1=>match as with
 | [a,b]=>.nx ((τ.set i a).set j b) S1
 | _=>.no
noncomputable def ip (X:Cx)(f:A->A->aE->R A):JE:=λ x y H Q=>∃ ρ S a b,Rel X.K ρ H S/\AV X.K ρ H a x/\AV X.K ρ H b y/\(f a b S).post (oB X ρ H Q) (XE X ρ H)
noncomputable def AU (a b:A)(S:aE):R A:=match a,b with
 | .int i,.int j=>.ok (.int (i+j)) S
 | _,_=>.no
theorem yu:IM X .Add (ip X AU):=λ pins s σ H x y v u Q I r1 r2 h9=>by
 obtain ⟨ρ,S,a,b,R,va,vb,h⟩:=h9
 cases va with
 | int i=>
  cases vb with
  | int j=>exact Ko pins s σ H _ _ v u Q I r1 r2 ⟨i,j,rfl,rfl,h _ _ _ .refl R (.int _)⟩
  | _=>exact h.elim
 | _=>exact h.elim
theorem Gd:IM X .Sub (ip X aSub):=λ pins s σ H x y v u Q I r1 r2 h9=>by
 obtain ⟨ρ,S,a,b,R,va,vb,h⟩:=h9
 cases va with
 | int i=>
  cases vb with
  | int j=>exact Jh pins s σ H _ _ v u Q I r1 r2 ⟨i,j,rfl,rfl,h _ _ _ .refl R (.int _)⟩
  | _=>exact h.elim
 | _=>exact h.elim
noncomputable def Ey (i:Nat)(f:A->A->aE->R A)(e:Ex):Sm:=λ τ S=>if (τ.getD i .unb).eU then .no else .of (e τ S) λ b S1=>.of (f (τ.getD i .unb) b S1) λ c S2=>.nx (τ.set i c) S2
theorem Ji {i:Nat}{x:Str}{c:Ex}{op:Operator}{f:A->A->aE->R A}{pos':Pos}(hN:X.N.Nodup)(he:AE X e c)(ho:IM X op (ip X f))(hi:X.N[i]?=some x:=by rfl)(hx:Loc X.env.scope x:=by first | exact Or.inl rfl | exact Or.inr rfl)(hf:X.fn x=true\/X.env.scope.names.lookup x=some .local:=by first | exact .inl rfl | exact .inr rfl | assumption) :
  AS X (.AugAssign (.Name x pos') op e pos) (Ey i f c):=PS.imp (Ju hN hi hx he ho hf) λ D σ H h9=>by
 obtain ⟨ρ,S,τ,R,r,h⟩:=h9;have key:∀ x,τ[i]?=some x->x.eU=false->(RS.of (c τ S) λ b S1=>.of (f x b S1) λ c S2=>.nx (τ.set i c) S2).post (zm X ρ H D.nx) (oB X ρ H D.rt) (zm X ρ H D.bk) (zm X ρ H D.ct) (XE X ρ H) ->
   ∃ x,σ[i]?=some (some x)/\tE X c σ H λ y H1=>ip X f x y H1 λ z H2=>D.nx (σ.set i (some z)) H2:=by
  intro x hi hx h
  rcases r.at i x hi with z | ⟨v,e,q⟩
  ·subst z;cases hx
  ·refine ⟨v,e,ρ,S,τ,R,r,aF (of_post h) .refl λ b S1 h1 ρ1 H1 y e1 R1 v1=>⟨ρ1,S1,x,b,R1,q.ext e1,v1,aF (of_post h1) e1 λ w S2 h2 ρ2 H2 z e2 R2 v2=>?_⟩⟩;exact h2 ρ2 H2 _ (e1.trans e2) R2 ((r.ext (e1.trans e2)).set v2)
 unfold Ey qF at h;rw [getD_eq_getElem?_getD] at h
 cases hi:τ[i]? with
 | none=>rw [hi] at h;exact h.elim
 | some x=>
  rw [hi] at h
  cases hx:x.eU with
  | true=>rw [show (some x).getD .unb=x from rfl,hx] at h;exact h.elim
  | false=>rw [show (some x).getD .unb=x from rfl,hx] at h;exact key x hi hx h
noncomputable def Cg (a b:A)(S:aE):R A:=match a,b with
 | .ref n,.int i=>opt (ak S n) λ xs=>gd (0<=i) (opt (xs[i.toNat]?) λ x=>.ok x S)
 | _,_=>.no
theorem Hi:Ll X (r2 X Cg):=λ pins s σ H o i ov iv Q I ro ri h9=>by
 obtain ⟨ρ,S,a,b,R,va,vb,h⟩:=h9
 cases va with
 | @ref p n hp=>
  cases vb with
  | int k=>
   obtain ⟨xs,hn,h⟩:=aM h;obtain ⟨h0,h⟩:=bA h;obtain ⟨x,hx,h⟩:=aM h;obtain ⟨vs,h1,r1⟩:=R.lst hp (aT hn);obtain ⟨z,e,q⟩:=r1.get hx;exact E7 pins s σ H _ _ ov iv Q I ro ri ⟨p,vs,k,z,rfl,rfl,f_.of h1,h0,e,h _ _ _ .refl R q⟩
  | _=>exact h.elim
 | _=>exact h.elim
noncomputable def qm (co ci ce:Ex)(f:A->A->aE->R A):Sm:=λ τ S=>.of (co τ S) λ o S1=>.of (ci τ S1) λ i S2=>.of (Cg o i S2) λ x S3=>.of (ce τ S3) λ y S4=>.of (f x y S4) λ z S5=>.of (vE o i z S5) λ _ S6=>.nx τ S6
theorem zk {o i:Expr}{co ci ce:Ex}{op:Operator}{f:A->A->aE->R A}{tpos:Pos}(ho:AE X o co)(hi:AE X i ci)(he:AE X e ce)(hp:IM X op (ip X f))
  (ha:∀ ov iv new,augStore i ov iv new=(do holding [new,ov,iv] (setItem ov iv new);release [new,ov,iv] [];pure .next):=by intros;rfl):AS X (.AugAssign (.Subscript o i tpos) op e pos) (qm co ci ce f):=
 PS.imp (Hz ho hi Hi he hp xW ha) λ D σ H h9=>by
  obtain ⟨ρ,S,τ,R,r,h⟩:=h9;refine ⟨ρ,S,τ,R,r,aF (of_post h) .refl λ ao S1 h1 ρ1 H1 vo e1 R1 v1=>⟨ρ1,S1,τ,R1,r.ext e1,aF (of_post h1) e1 λ ai S2 h2 ρ2 H2 vi e2 R2 v2=>?_⟩⟩;refine ⟨ρ2,S2,ao,ai,R2,v1.ext e2,v2,aF (of_post h2) (e1.trans e2) λ ax S3 h3 ρ3 H3 vx e3 R3 v3=>?_⟩;have e13:=(e1.trans e2).trans e3;refine ⟨ρ3,S3,τ,R3,r.ext e13,aF (of_post h3) e13 λ ay S4 h4 ρ4 H4 vy e4 R4 v4=>?_⟩;refine ⟨ρ4,S4,ax,ay,R4,v3.ext e4,v4,aF (of_post h4) (e13.trans e4) λ az S5 h5 ρ5 H5 vz e5 R5 v5=>?_⟩;have e35:=(e3.trans e4).trans e5;refine ⟨ρ5,S5,ao,ai,az,R5,v1.ext (e2.trans e35),v2.ext e35,v5,aF (of_post h5) ((e13.trans e4).trans e5) λ _ S6 h6 ρ6 H6 e6 R6=>?_⟩;have e16:=((e13.trans e4).trans e5).trans e6;exact h6 ρ6 H6 σ e16 R6 (r.ext e16)
noncomputable def dJ (t:Te)(c:Sm):Nat->Sm
 | 0=>λ _ _=>.no
 | n+1=>λ τ S=>.of (t τ S) λ b S1=>match b with
  | false=>.nx τ S1
  | true=>match c τ S1 with
   | .nx τ' S'=>dJ t c n τ' S'
   | .ct τ' S'=>dJ t c n τ' S'
   | .bk τ' S'=>.nx τ' S'
   | r=>r
theorem lJ (n:Nat){t:Te}{body:List Stmt}(hp:PassesOwn (model X.prog X.w) X.A X.env X.xe)(ht:AT X e t)(hb:GK X body c):AS X (.While e body [] pos) (dJ t c n):=PS.imp (Em hp ht hb) λ D σ H h9=>by
 obtain ⟨ρ,S,τ,R,r,h⟩:=h9;refine ⟨λ m σ' H'=>∃ ρ' S' τ',Ext ρ ρ' H H'/\Rel X.K ρ' H' S'/\SR X.K ρ' H' τ' σ'/\qF X ρ' H' D (dJ t c m τ' S'),⟨n,ρ,S,τ,.refl,R,r,h⟩,?_⟩;rintro m σ1 H1 ⟨ρ1,S1,τ1,e1,R1,r1,h1⟩
 cases m with
 | zero=>exact h1.elim
 | succ m=>
  refine ⟨ρ1,S1,τ1,R1,r1,aF (of_post h1) .refl λ b S2 h2 ρ2 H2 e2 R2=>?_⟩
  cases b with
  | false=>rw [if_neg Bool.false_ne_true];exact h2 ρ2 H2 σ1 e2 R2 (r1.ext e2)
  | true=>
   rw [if_pos rfl];refine ⟨λ σ' H'=>∃ ρ' S' τ',Ext ρ ρ' H H'/\Rel X.K ρ' H' S'/\SR X.K ρ' H' τ' σ'/\qF X ρ' H' D (dJ t c m τ' S'),λ σ' H' z=>⟨m,lt_succ_self _,z⟩,ρ2,S2,τ1,R2,r1.ext e2,?_⟩;have h2:qF X ρ1 H1 D (match c τ1 S2 with
    | .nx τ' S'=>dJ t c m τ' S'
    | .ct τ' S'=>dJ t c m τ' S'
    | .bk τ' S'=>.nx τ' S'
    | r=>r):=h2
   cases hc:c τ1 S2 with
   | nx τ3 S3=>rw [hc] at h2;exact λ ρ3 H3 σ3 e3 R3 r3=>⟨ρ3,S3,τ3,(e1.trans e2).trans e3,R3,r3,qF.ext h2 (e2.trans e3)⟩
   | ct τ3 S3=>rw [hc] at h2;exact λ ρ3 H3 σ3 e3 R3 r3=>⟨ρ3,S3,τ3,(e1.trans e2).trans e3,R3,r3,qF.ext h2 (e2.trans e3)⟩
   | bk τ3 S3=>rw [hc] at h2;exact zm.ext h2 e2
   | rt a S3=>rw [hc] at h2;exact oB.ext h2 e2
   | ex x S3=>rw [hc] at h2;exact XE.ext h2 e2
   | no=>rw [hc] at h2;exact h2
end
end Am
namespace L2
open PySem PySem.Spec PyProof.Rows
section
variable {X:Cx}
end
end L2
namespace Am
open PySem PySem.Spec PyProof.Rows L2
section
variable {X:Cx}
end
section
variable {X:Cx} {o e:Expr} {p2 spos pos:Pos} {co ci:Ex}
end
structure Src where
 k:Nat
 get:Nat->aE->Option A
 fin:aE->Bool
structure JR (K:PySem.W.Frag)(s:Src)(J:It)(ρ0:List Addr)(H0:Hp):Prop where
 go:∀ (i:Nat) (S:aE) (H:Hp) (ρ:List Addr) (x:A),Ext0 ρ0 ρ H0 H->Rel K ρ H S->s.get i S=some x->J.go i H/\∀ v H',J.yld i H v H'->Ext ρ ρ H H'/\Rel K ρ H' S/\AV K ρ H' x v
 stop:∀ (S:aE) (H:Hp) (ρ:List Addr),Ext0 ρ0 ρ H0 H->Rel K ρ H S->s.fin S=true->J.stop s.k H
noncomputable abbrev Ic:=List A->aE->R Src
noncomputable def tI (X:Cx)(c:Ic):TI:=λ σ H Q=>∃ ρ S τ,Rel X.K ρ H S/\SR X.K ρ H τ σ/\(c τ S).post (λ s S'=>∀ ρ' H' J,Ext ρ ρ' H H'->Rel X.K ρ' H' S'->JR X.K s J ρ' H'->Q J H') (XE X ρ H)
noncomputable def AI (X:Cx)(tg iter:Expr)(c:Ic):Prop:=PI X tg iter (tI X c)
noncomputable def dG (xs:List A):Src:=⟨xs.length,λ i _=>xs[i]?,λ _=>true⟩
noncomputable def dF (n k:Nat):Src:=⟨k,λ i S=>(ak S n).bind (·[i]?),λ S=>match ak S n with
 | some ys=>decide (ys.length<=k)
 | none=>false⟩
noncomputable def cS (lo hi:Int):Src:=⟨(hi - lo).toNat,λ i _=>if i < (hi - lo).toNat then some (.int (lo+i)) else none,λ _=>true⟩
noncomputable def eT (c:Ex):Ic:=λ τ S=>(c τ S).bind λ a S1=>match a with
 | .tup xs=>.ok (dG xs) S1
 | .frz xs=>.ok (dG xs) S1
 | .ref n=>opt (ak S1 n) λ xs=>.ok (dF n xs.length) S1
 | .str x=>gd (x.cps.all (· < 128)=true) (.ok (dG (x.cps.toList.map λ c=>.str ⟨#[c]⟩)) S1)
 | _=>.no
section
variable {X:Cx} {pos:Pos} {tg e a b:Expr}
theorem Lz {K:PySem.W.Frag}{ρ0:List Addr}{H0:Hp}{p:Addr}{xs:List A}{vs:List V}(h:fS K H0 p vs)(r:AVs K ρ0 H0 xs vs):JR K (dG xs) (N9 K p) ρ0 H0 where
 go:=λ i S H ρ x e R g=>by
  obtain ⟨v,ev,av⟩:=(AVs.dO e r).get g;have hs:=e.Px h;refine ⟨⟨vs,v,hs,ev⟩,λ w H' ⟨e1,y⟩=>?_⟩;subst e1;have:=y vs hs;rw [ev] at this
  cases this
  exact ⟨.refl,R,av⟩
 stop:=λ S H ρ e R _=>⟨vs,e.Px h,by rw [<- r.length];exact Nat.le_refl _⟩
theorem KS {K:PySem.W.Frag}{ρ0:List Addr}{H0:Hp}{p:Addr}{xs:List A}{vs:List V}(h:Fz K H0 p vs)(r:AVs K ρ0 H0 xs vs):JR K (dG xs) (NR K p) ρ0 H0 where
 go:=λ i S H ρ x e R g=>by
  obtain ⟨v,ev,av⟩:=(AVs.dO e r).get g;have hs:=(e.fz h).Hh;refine ⟨⟨vs,v,hs,ev⟩,λ w H' ⟨e1,y⟩=>?_⟩;subst e1;have:=y vs hs;rw [ev] at this
  cases this
  exact ⟨.refl,R,av⟩
 stop:=λ S H ρ e R _=>⟨vs,(e.fz h).Hh,by rw [<- r.length];exact Nat.le_refl _⟩
theorem Js {K:PySem.W.Frag}{ρ0:List Addr}{H0:Hp}{p:Addr}{n k:Nat}(h:ρ0[n]?=some p):JR K (dF n k) (NR K p) ρ0 H0 where
 go:=λ i S H ρ x e R g=>by
  obtain ⟨ys,hn,hx⟩:=bind_eq_some_iff.mp (show (ak S n).bind (·[i]?)=some x from g);obtain ⟨vs,h1,r⟩:=R.lst (e.get h) (aT hn);obtain ⟨v,ev,av⟩:=r.get hx;refine ⟨⟨vs,v,f_.of h1,ev⟩,λ w H' ⟨e1,y⟩=>?_⟩;subst e1;have:=y vs (f_.of h1);rw [ev] at this
  cases this
  exact ⟨.refl,R,av⟩
 stop:=λ S H ρ e R g=>by
  have g:(match ak S n with
   | some ys=>decide (ys.length<=k)
   | none=>false)=true:=g
  cases hn:ak S n with
  | none=>rw [hn] at g;cases g
  | some ys=>
   rw [hn] at g;obtain ⟨vs,h1,r⟩:=R.lst (e.get h) (aT hn);exact ⟨vs,f_.of h1,by rw [<- r.length];exact of_decide_eq_true g⟩
theorem B8 {K:PySem.W.Frag}{ρ0:List Addr}{H0:Hp}{lo hi:Int}:JR K (cS lo hi) (L8 lo (hi - lo).toNat) ρ0 H0 where
 go:=λ i S H ρ x e R g=>by
  have g:(if i < (hi - lo).toNat then some (A.int (lo+i)) else none)=some x:=g;by_cases hi':i < (hi - lo).toNat
  ·rw [if_pos hi'] at g
   cases g
   refine ⟨hi',λ w H' ⟨e1,y⟩=>?_⟩;subst e1 y;exact ⟨.refl,R,.int _⟩
  ·rw [if_neg hi'] at g;cases g
 stop:=λ S H ρ e R _=>Nat.le_refl _
theorem JP {K:PySem.W.Frag}{ρ0:List Addr}{H0:Hp}{x:Str}:JR K (dG (x.cps.toList.map λ c=>A.str ⟨#[c]⟩)) (N8 x) ρ0 H0 where
 go:=λ i S H ρ y e R g=>by
  have g:(x.cps.toList.map λ c=>A.str ⟨#[c]⟩)[i]?=some y:=g;rw [List.getElem?_map] at g;obtain ⟨c,hc,rfl⟩:=map_eq_some_iff.mp g;rw [getElem?_toList] at hc;refine ⟨(Array.getElem?_eq_some_iff.mp hc).1,λ w H' ⟨e1,c',hc',y'⟩=>?_⟩;rw [hc] at hc'
  cases hc'
  subst e1 y';exact ⟨.refl,R,.str _⟩
 stop:=λ S H ρ e R _=>by
  show (x.cps.toList.map λ c=>A.str ⟨#[c]⟩).length=x.cps.size;rw [length_map,length_toList]
theorem fG {c:Ex}(he:AE X e c):AI X tg e (eT c):=λ pins s σ H Q I h9=>by
 obtain ⟨ρ,S,τ,R,r,h⟩:=h9;have hb:=aK h
 cases hc:c τ S with
 | no=>rw [hc] at hb;exact hb.elim
 | ex x S1=>
  rw [hc] at hb;exact DG he pins s σ H Q I ⟨ρ,S,τ,R,r,by rw [hc];exact hb⟩
 | ok a S1=>
  rw [hc] at hb
  cases a with
  | tup xs=>
   refine DG he pins s σ H Q I ⟨ρ,S,τ,R,r,?_⟩;rw [hc];intro ρ1 H1 x e1 R1 v1
   cases v1 with
   | tup h1 r1=>exact ⟨_,rfl,⟨_,(fS.of h1)⟩,hb ρ1 H1 _ e1 R1 (Lz (fS.of h1) r1)⟩
  | frz xs=>
   refine Au he pins s σ H Q I ⟨ρ,S,τ,R,r,?_⟩;rw [hc];intro ρ1 H1 x e1 R1 v1
   cases v1 with
   | frz h1 r1=>exact ⟨_,rfl,⟨_,h1.Hh⟩,hb ρ1 H1 _ e1 R1 (KS h1 r1)⟩
  | ref n=>
   obtain ⟨xs,hn,hb⟩:=aM hb;refine Au he pins s σ H Q I ⟨ρ,S,τ,R,r,?_⟩;rw [hc];intro ρ1 H1 x e1 R1 v1
   cases v1 with
   | ref hp=>
    obtain ⟨vs,h1,r1⟩:=R1.lst hp (aT hn);exact ⟨_,rfl,⟨_,f_.of h1⟩,hb ρ1 H1 _ e1 R1 (Js hp)⟩
  | str x=>
   obtain ⟨ha,hb⟩:=bA hb;refine K0 he pins s σ H Q I ⟨ρ,S,τ,R,r,?_⟩;rw [hc];intro ρ1 H1 v e1 R1 v1
   cases v1 with
   | str=>exact ⟨x,rfl,ha,hb ρ1 H1 _ e1 R1 JP⟩
  | _=>exact hb.elim
noncomputable def bnd (i:Int):Prop:=-(2 ^ 62)<=i/\i < 2 ^ 62
instance (i:Int):Decidable (bnd i):=by unfold bnd;infer_instance
noncomputable def gO (c:Ex):Ic:=λ τ S=>(c τ S).bind λ a S1=>match a with
 | .int j=>gd (bnd j) (.ok (cS 0 j) S1)
 | _=>.no
noncomputable def iB (c d:Ex):Ic:=λ τ S=>(c τ S).bind λ a S1=>(d τ S1).bind λ b S2=>match a,b with
 | .int i,.int j=>gd (bnd i/\bnd j) (.ok (cS i j) S2)
 | _,_=>.no
theorem dw {p:Pos}{c:Ex}(hm:X.mg "range" = none)(ha:AE X a c)(hg:Gl X "range" := by rfl)(hs:starEach [a] X.env=[(false,eval a X.env)]:=by rfl):AI X tg (.Call (.Name "range" p) [a] [] pos) (gO c):=λ pins s σ H Q I h9=>by
 obtain ⟨ρ,S,τ,R,r,h⟩:=h9;refine A0 hg hm (n8 ha vY hs) hs pins s σ H Q I ⟨ρ,S,τ,R,r,aF (aK h) .refl λ x S1 h1 ρ1 H1 v e1 R1 v1=>?_⟩
 cases v1 with
 | int j=>
  obtain ⟨hb,h1⟩:=bA h1;exact ⟨_,rfl,hb.1,hb.2,by have:=h1 ρ1 H1 _ e1 R1 B8;rwa [Int.sub_zero] at this⟩
 | _=>exact h1.elim
theorem jc {p:Pos}{c d:Ex}(hm:X.mg "range" = none)(ha:AE X a c)(hb:AE X b d)(hg:Gl X "range" := by rfl)(hs:starEach [a,b] X.env=[(false,eval a X.env),(false,eval b X.env)]:=by rfl)(hs2:starEach [b] X.env=[(false,eval b X.env)]:=by rfl):AI X tg (.Call (.Name "range" p) [a,b] [] pos) (iB c d):=λ pins s σ H Q I h9=>by
 obtain ⟨ρ,S,τ,R,r,h⟩:=h9;refine AA hg hm (n8 ha (n8 hb vY hs2) (by rw [hs,hs2])) hs hs2 pins s σ H Q I ⟨ρ,S,τ,R,r,aF (aK h) .refl λ x S1 h1 ρ1 H1 v e1 R1 v1=>⟨ρ1,S1,τ,R1,r.ext e1,aF (aK h1) e1 λ y S2 h2 ρ2 H2 w e2 R2 v2=>?_⟩⟩
 cases v1 with
 | int i=>
  cases v2 with
  | int j=>
   obtain ⟨hb,h2⟩:=bA h2;exact ⟨_,_,rfl,⟨hb.1.1,hb.1.2,hb.2.1,hb.2.2⟩,h2 ρ2 H2 _ (e1.trans e2) R2 B8⟩
  | _=>exact h2.elim
 | _=>exact h2.elim
noncomputable def iF (s:Src)(g:Tg)(c:Sm):Nat->Nat->Sm
 | 0,_=>λ τ S=>if s.fin S then .nx τ S else .no
 | k+1,i=>λ τ S=>match s.get i S with
  | none=>.no
  | some x=>.of (g x τ S) λ τ1 S1=>match c τ1 S1 with
   | .nx τ' S'=>iF s g c k (i+1) τ' S'
   | .ct τ' S'=>iF s g c k (i+1) τ' S'
   | .bk τ' S'=>.nx τ' S'
   | r=>r
noncomputable def fH (src:Ic)(g:Tg)(c:Sm):Sm:=λ τ S=>.of (src τ S) λ s S1=>iF s g c s.k 0 τ S1
theorem d_ {iter:Expr}{body:List Stmt}{src:Ic}{g:Tg}{c:Sm}(hp:PassesOwn (model X.prog X.w) X.A X.env X.xe)(hc:X.calm=true)(hi:AI X tg iter src)(hg:AG X tg g)(hb:GK X body c)
  (hs:∀ x,foldedSetIterable iter X.env x=pure x:=by intro _;rfl):AS X (.For tg iter body [] pos) (fH src g c):=PS.imp (Ku hp hc hi hg hb hs) λ D σ H h9=>by
 obtain ⟨ρ,S,τ,R,r,h⟩:=h9;refine ⟨ρ,S,τ,R,r,aF (of_post h) .refl λ s S1 h1 ρ1 H1 J e1 R1 jr=>?_⟩;refine ⟨λ i m σ' H'=>m+i=s.k/\∃ ρ' S' τ',Ext ρ1 ρ' H1 H'/\Rel X.K ρ' H' S'/\SR X.K ρ' H' τ' σ'/\qF X ρ' H' D (iF s g c m i τ' S'),⟨s.k,rfl,ρ1,S1,τ,.refl,R1,r.ext e1,qF.ext h1 e1⟩,?_⟩;rintro i m σ2 H2 ⟨hm,ρ2,S2,τ2,e2,R2,r2,h2⟩
 cases m with
 | zero=>
  left;have h2:qF X ρ2 H2 D (if s.fin S2 then .nx τ2 S2 else .no):=h2
  cases hf:s.fin S2 with
  | false=>rw [hf] at h2;exact h2.elim
  | true=>
   rw [hf] at h2;refine ⟨by rw [show i=s.k by omega];exact jr.stop S2 H2 ρ2 e2.toExt0 R2 hf,h2 ρ2 H2 σ2 .refl R2 r2⟩
 | succ m=>
  right;have h2:qF X ρ2 H2 D (match s.get i S2 with
   | none=>.no
   | some x=>.of (g x τ2 S2) λ τ1 S1=>match c τ1 S1 with
    | .nx τ' S'=>iF s g c m (i+1) τ' S'
    | .ct τ' S'=>iF s g c m (i+1) τ' S'
    | .bk τ' S'=>.nx τ' S'
    | r=>r):=h2
  cases hx:s.get i S2 with
  | none=>rw [hx] at h2;exact h2.elim
  | some x=>
   rw [hx] at h2;obtain ⟨hgo,hy⟩:=jr.go i S2 H2 ρ2 x e2.toExt0 R2 hx;refine ⟨hgo,λ σ' H'=>m+(i+1)=s.k/\∃ ρ' S' τ',Ext ρ1 ρ' H1 H'/\Rel X.K ρ' H' S'/\SR X.K ρ' H' τ' σ'/\qF X ρ' H' D (iF s g c m (i+1) τ' S'),λ σ' H' z=>⟨m,lt_succ_self _,z⟩,λ v H3 y=>?_⟩;obtain ⟨e3,R3,v3⟩:=hy v H3 y;refine ⟨ρ2,S2,τ2,x,R3,r2.ext e3,v3,aF (of_post h2) e3 λ τ4 S4 h4 ρ4 H4 σ4 e4 R4 r4=>⟨ρ4,S4,τ4,R4,r4,?_⟩⟩;have e24:=e3.trans e4
   cases hcc:c τ4 S4 with
   | nx τ5 S5=>rw [hcc] at h4;exact λ ρ5 H5 σ5 e5 R5 r5=>⟨by omega,ρ5,S5,τ5,(e2.trans e24).trans e5,R5,r5,qF.ext h4 (e24.trans e5)⟩
   | ct τ5 S5=>rw [hcc] at h4;exact λ ρ5 H5 σ5 e5 R5 r5=>⟨by omega,ρ5,S5,τ5,(e2.trans e24).trans e5,R5,r5,qF.ext h4 (e24.trans e5)⟩
   | bk τ5 S5=>rw [hcc] at h4;exact zm.ext h4 e24
   | rt x5 S5=>rw [hcc] at h4;exact oB.ext h4 e24
   | ex x5 S5=>rw [hcc] at h4;exact XE.ext h4 e24
   | no=>rw [hcc] at h4;exact h4
end
section
variable {X:Cx} {tg a b c0:Expr} {pos:Pos}
end
noncomputable def R.cV {α β:Type}(r:R α)(f:α->aE->R β):R β:=match r with
 | .ok a S=>f a S
 | _=>.no
theorem cM {α β:Type}{r:R α}{f:α->aE->R β}{b:β}{S2:aE}(h:r.cV f=.ok b S2):∃ a S,r=.ok a S/\f a S=.ok b S2:=by
 cases r with
 | ok a S=>exact ⟨a,S,rfl,h⟩
 | ex _ _=>cases h
 | no=>cases h
theorem pF {α β:Type}{r:R α}{f:α->aE->R β}{P:β->aE->Prop}{E:Str->aE->Prop}(h:(r.cV f).post P E):∃ a S,r=.ok a S/\(f a S).post P E:=by
 cases r with
 | ok a S=>exact ⟨a,S,rfl,h⟩
 | ex _ _=>exact h.elim
 | no=>exact h.elim
theorem wW {α β:Type}{o:Option β}{f:β->R α}{a:α}{S:aE}(h:opt o f=.ok a S):∃ b,o=some b/\f b=.ok a S:=by
 cases o with
 | none=>cases h
 | some b=>exact ⟨b,rfl,h⟩
noncomputable def dS (s:Src)(g:Tg)(t:Te)(e:Ex):Nat->Nat->List A->aE->R (List A)
 | 0,_=>λ _ S=>if s.fin S then .ok [] S else .no
 | k+1,i=>λ τ S=>opt (s.get i S) λ x=>(g x τ S).cV λ τ1 S1=>(t τ1 S1).cV λ b S2=>match b with
  | true=>(e τ1 S2).cV λ y S3=>(dS s g t e k (i+1) τ1 S3).cV λ ys S4=>.ok (y::ys) S4
  | false=>dS s g t e k (i+1) τ1 S2
noncomputable def d8 (cap:List (Option Nat))(τ:List A):List A:=cap.map λ o=>match o with
 | some j=>τ.getD j .unb
 | none=>.unb
noncomputable def bP (cap:List (Option Nat))(src:Ic)(g:Tg)(t:Te)(e:Ex):Ex:=λ τ S=>(src τ S).bind λ s S1=>(dS s g t e s.k 0 (d8 cap τ) S1).cV λ ys S2=>newL ys S2
noncomputable def jN:Te:=λ _ S=>.ok true S
theorem uF {s:Src}{g:Tg}{t:Te}{e:Ex}{k i:Nat}{τ:List A}{S S':aE}{zs:List A}(h:dS s g t e (k+1) i τ S=.ok zs S') :
  ∃ x τ1 S1 b S2,s.get i S=some x/\g x τ S=.ok τ1 S1/\t τ1 S1=.ok b S2/\(b=true->∃ y S3 ws,e τ1 S2=.ok y S3/\dS s g t e k (i+1) τ1 S3=.ok ws S'/\zs=y::ws)/\(b=false->dS s g t e k (i+1) τ1 S2=.ok zs S'):=by
 obtain ⟨x,hx,h⟩:=wW h;obtain ⟨τ1,S1,h1,h⟩:=cM h;obtain ⟨b,S2,h2,h⟩:=cM h;refine ⟨x,τ1,S1,b,S2,hx,h1,h2,λ hb=>?_,λ hb=>?_⟩
 ·subst hb;obtain ⟨y,S3,h3,h⟩:=cM h;obtain ⟨ws,S4,h4,h⟩:=cM h
  cases h
  exact ⟨y,S3,ws,h3,h4,rfl⟩
 ·subst hb;exact h
noncomputable def Ny (K:PySem.W.Frag)(c:Ex):TE:=λ σ H Q=>∃ ρ S τ a S',Rel K ρ H S/\SR K ρ H τ σ/\c τ S=.ok a S'/\∀ ρ' H' v,Ext ρ ρ' H H'->Rel K ρ' H' S'->AV K ρ' H' a v->Q v H'
noncomputable def LM (K:PySem.W.Frag)(c:Te):TT:=λ σ H Q=>∃ ρ S τ a S',Rel K ρ H S/\SR K ρ H τ σ/\c τ S=.ok a S'/\∀ ρ' H',Ext ρ ρ' H H'->Rel K ρ' H' S'->Q a H'
noncomputable def LY (K:PySem.W.Frag)(g:Tg):TG:=λ v σ H Q=>∃ ρ S τ a τ' S',Rel K ρ H S/\SR K ρ H τ σ/\AV K ρ H a v/\g a τ S=.ok τ' S'/\∀ ρ' H' σ',Ext ρ ρ' H H'->Rel K ρ' H' S'->SR K ρ' H' τ' σ'->Q σ' H'
section
variable {X:Cx} {pos:Pos} {tg iter elt e:Expr} {ifs:List Expr} {scope:Scope} {N:List Str} {cap:List (Option Nat)} {src:Ic} {g:Tg} {t:Te} {c:Ex}
theorem AE.e0 {K:PySem.W.Frag}(hK:X.K=K)(h:AE X e c):PE X e (Ny K c):=PE.imp h λ σ H Q ⟨ρ,S,τ,a,S',R,r,hc,q⟩=>⟨ρ,S,τ,by rw [hK];exact R,by rw [hK];exact r,by rw [hc];exact λ ρ' H' v e R' v'=>q ρ' H' v e (by rw [<- hK];exact R') (by rw [<- hK];exact v')⟩
theorem AT.t0 {K:PySem.W.Frag}(hK:X.K=K)(h:AT X e t):PT X e (LM K t):=PT.imp h λ σ H Q ⟨ρ,S,τ,a,S',R,r,hc,q⟩=>⟨ρ,S,τ,by rw [hK];exact R,by rw [hK];exact r,by rw [hc];exact λ ρ' H' e R'=>q ρ' H' e (by rw [<- hK];exact R')⟩
theorem AG.g0 {K:PySem.W.Frag}(hK:X.K=K)(h:AG X e g):PG X e (LY K g):=PG.imp h λ v σ H Q ⟨ρ,S,τ,a,τ',S',R,r,va,hc,q⟩=>⟨ρ,S,τ,a,by rw [hK];exact R,by rw [hK];exact r,by rw [hK];exact va,by rw [hc];exact λ ρ' H' v e R' v'=>q ρ' H' v e (by rw [<- hK];exact R') (by rw [<- hK];exact v')⟩
noncomputable def LW (X:Cx)(ifs:List Expr)(t:Te):Prop:=Ft X ifs (LM X.K t)
theorem jm:LW X [] jN:=λ pins s σ H Q I ⟨ρ,S,τ,a,S',R,r,hc,q⟩=>Hy pins s σ H Q I (by cases hc;exact q ρ H .refl R)
theorem iD (h:AT X e t):LW X [e] t:=GF (h.t0 rfl)
theorem Jf {K:PySem.W.Frag}{ρ:List Addr}{H:Hp}{τ:List A}{σ:L2.St}(r:SR K ρ H τ σ)(cap:List (Option Nat)):SR K ρ H (d8 cap τ) (cap.map (Hq σ)):=by
 refine ⟨by simp [d8],λ i a h=>?_⟩;unfold d8 at h;rw [List.getElem?_map] at h;obtain ⟨o,ho,e⟩:=map_eq_some_iff.mp h
 cases o with
 | none=>exact .inl e.symm
 | some j=>
  have e:τ.getD j .unb=a:=e
  cases hj:τ[j]? with
  | none=>rw [getD_eq_getElem?_getD,hj] at e;exact .inl e.symm
  | some b=>
   rw [getD_eq_getElem?_getD,hj] at e;have e:b=a:=e;subst e
   rcases r.at j b hj with z | ⟨v,h1,h2⟩
   ·exact .inl z
   ·exact .inr ⟨v,by rw [List.getElem?_map,ho];show some ((σ[j]?).getD none)=_;rw [h1];rfl,h2⟩
theorem Rel.yT {K:PySem.W.Frag}{ρ:List Addr}{H:Hp}{S:aE}{p:Addr}(R:Rel K ρ H S)(hp:H p=none):p∉ρ:=λ hm=>by
 obtain ⟨n,hn,e⟩:=List.mem_iff_getElem.mp hm;have hl:n < S.length:=by rw [<- R.len];exact hn
 have:=R.at n p S[n] (by rw [List.getElem?_eq_getElem hn,e]) (List.getElem?_eq_getElem hl)
 cases ho:S[n] with
 | lst xs=>rw [ho] at this;obtain ⟨vs,h,_⟩:=this;rw [hp] at h;cases h
 | dct _ | dki _=>rw [ho] at this;obtain ⟨vs,h,_⟩:=this;rw [hp] at h;cases h
 | ins _ _=>rw [ho] at this;obtain ⟨_,_,h⟩:=this;rw [hp] at h;cases h
theorem vK (σ:L2.St)(H:Hp)(Q:VK)(h:tE X (bP cap src g t c) σ H Q):Nd cap (tI X src) (LY X.K g) (LM X.K t) (Ny X.K c) σ H Q:=by
 obtain ⟨ρ,S,τ,R,r,h⟩:=h;refine ⟨ρ,S,τ,R,r,aF (aK h) .refl λ s S1 h1 ρ1 H1 J e1 R1 jr D hD=>?_⟩;obtain ⟨ys,S2,hcg,h1⟩:=pF h1;obtain ⟨hlen,h1⟩:=bA h1;have h1:oB X ρ H Q (.ref S2.length) (S2++[.lst ys]):=h1;obtain ⟨eD,RD⟩:=R1.im (u:=.lst []) hD;have nD:=R1.yT hD;refine ⟨λ i m σ' H'=>m+i=s.k/\∃ ρ' S' τ' acc zs accV,Ext0 ρ1 ρ' H1 H'/\(∀ a u,a≠D->H1 a=some u->a∉ρ1->H' a=some u)/\(∀ a∈ρ',a∈ρ1\/H1 a=none)/\D∉ρ'/\H' D=some (.lst accV)/\Rel X.K ρ' H' S'/\SR X.K ρ' H' τ' σ'/\AVs X.K ρ' H' acc accV/\dS s g t c m i τ' S'=.ok zs S2/\acc++zs=ys,
  ⟨s.k,rfl,ρ1,S1,d8 cap τ,[],ys,[],eD.toExt0,λ a u na hu _=>by rw [aN na];exact hu,λ a ha=>.inl ha,nD,bF,RD,(Jf ((r.ext e1).ext eD) cap),.nil,hcg,rfl⟩,?_⟩
 rintro i m σ3 H3 ⟨hm,ρ3,S3,τ3,acc,zs,accV,e3,fr3,nw3,nD3,hD3,R3,r3,ac3,cg3,eys⟩
 cases m with
 | zero=>
  left;have cg3:(if s.fin S3 then Am.R.ok [] S3 else .no)=.ok zs S2:=cg3
  cases hf:s.fin S3 with
  | false=>rw [hf] at cg3;cases cg3
  | true=>
   rw [hf] at cg3
   cases cg3
   rw [append_nil] at eys;subst eys;refine ⟨by rw [show i=s.k by omega];exact jr.stop _ H3 ρ3 e3 R3 hf,?_⟩;obtain ⟨RT,gt⟩:=R3.take hD3 nD3 ac3;refine h1 (ρ3++[D]) H3 _ (e1.trans ⟨⟨e3.pre.trans (prefix_append _ _),e3.im⟩,λ a u hu na=>fr3 a u (aW hu hD) hu na,λ a ha=>?_⟩) RT (.ref gt)
   rcases mem_append.mp ha with z | z
   ·exact nw3 a z
   ·have:a=D:=by simpa using z
    rw [this];exact .inr hD
 | succ m=>
  right;obtain ⟨x,τ4,S4,b,S5,hx,hg4,ht5,hT,hF⟩:=uF cg3;obtain ⟨hgo,hy⟩:=jr.go i S3 H3 ρ3 x e3 R3 hx;refine ⟨hgo,λ v H4 y=>?_⟩;obtain ⟨e4,R4,v4⟩:=hy v H4 y;refine ⟨ρ3,S3,τ3,x,τ4,S4,R4,r3.ext e4,v4,hg4,λ ρ5 H5 σ5 e5 R5 r5=>?_⟩;refine ⟨ρ5,S4,τ4,b,S5,R5,r5,ht5,λ ρ6 H6 e6 R6=>?_⟩;have e36:=(e4.trans e5).trans e6;have stay:∀ {ρ7:List Addr} {H7:Hp},Ext ρ3 ρ7 H3 H7->Ext0 ρ1 ρ7 H1 H7/\(∀ a u,a≠D->H1 a=some u->a∉ρ1->H7 a=some u)/\(∀ a∈ρ7,a∈ρ1\/H1 a=none)/\D∉ρ7/\H7 D=some (.lst accV):=λ {ρ7 H7} e7=>by
   refine ⟨⟨e3.pre.trans e7.pre,λ a u i h=>e7.im a u i (e3.im a u i h)⟩,λ a u na hu nr=>e7.fr a u (fr3 a u na hu nr) λ z=>(nw3 a z).elim nr λ z=>by (rw [z] at hu;cases hu),λ a ha=>?_,λ z=>(e7.nw D z).elim nD3 λ z=>by (rw [hD3] at z;cases z),e7.fr D _ hD3 nD3⟩;by_cases hr:a∈ρ1
   ·exact .inl hr
   ·right
    cases q:H1 a with
    | none=>rfl
    | some u=>
     have aD:a≠D:=aW q hD
     rcases e7.nw a ha with z | z
     ·exact ((nw3 a z).elim hr λ z=>by (rw [z] at q;cases q)).elim
     ·rw [fr3 a u aD q hr] at z;cases z
  cases b with
  | false=>
   dsimp only;rw [if_neg Bool.false_ne_true];obtain ⟨g1,g2,g3,g4,g5⟩:=stay e36;exact ⟨m,lt_succ_self _,by omega,ρ6,S5,τ4,acc,zs,accV,g1,g2,g3,g4,g5,R6,r5.ext e6,ac3.ext e36,hF rfl,eys⟩
  | true=>
   dsimp only;rw [if_pos rfl];obtain ⟨y,S6,ws,he6,cg6,ezs⟩:=hT rfl;refine ⟨ρ6,S5,τ4,y,S6,R6,r5.ext e6,he6,λ ρ7 H7 w e7 R7 v7=>?_⟩;obtain ⟨g1,g2,g3,g4,g5⟩:=stay (e36.trans e7);obtain ⟨ex8,R8⟩:=R7.out (ws:=accV++[w]) g5 g4;have l1:=ac3.length;refine ⟨accV,g5,?_,m,lt_succ_self _,by omega,ρ7,S6,τ4,acc++[y],ws,accV++[w],?_,λ a u na hu nr=>by rw [aN na];exact g2 a u na hu nr,g3,g4,bF,R8,(r5.ext (e6.trans e7)).dO ex8,(AVs.dO ex8 ((ac3.ext (e36.trans e7)).append (.one v7))),cg6,?_⟩
   ·have:(acc++zs).length<=sizeLine:=by rw [eys];exact hlen
    rw [ezs,length_append,length_cons] at this;omega
   ·exact ⟨g1.pre,λ a u i h=>ex8.im a u i (g1.im a u i h)⟩
   ·rw [List.append_assoc,<- eys,ezs];rfl
theorem gq (hc:X.calm=true)(Sc:CpScope X scope N cap)(hi:AI X tg iter src)(hg:∀ C s₀ H₀ ex,AG (bZ X scope N C s₀ H₀ ex) tg g)(ht:∀ C s₀ H₀ ex,LW (bZ X scope N C s₀ H₀ ex) ifs t)(he:∀ C s₀ H₀ ex,AE (bZ X scope N C s₀ H₀ ex) elt c)
  (hs:∀ x,foldedSetIterable iter X.env x=pure x:=by intro _;rfl):AE X (.ListComp elt [⟨tg,iter,ifs,0⟩] scope pos) (bP cap src g t c):=
 PE.imp (L7 hc Sc hi (g:=LY X.K g) (tc:=LM X.K t) (te:=Ny X.K c) (λ C s₀ H₀ ex=>(hg C s₀ H₀ ex).g0 rfl) (λ C s₀ H₀ ex=>ht C s₀ H₀ ex) (λ C s₀ H₀ ex=>(he C s₀ H₀ ex).e0 rfl) hs) vK
theorem oH {i:Nat}{x:Str}{pos' spos:Pos}(hN:X.N.Nodup)(hc:X.calm=true)(Sc:CpScope X scope N cap)(hi:AI X tg iter src)(hg:∀ C s₀ H₀ ex,AG (bZ X scope N C s₀ H₀ ex) tg g)(ht:∀ C s₀ H₀ ex,LW (bZ X scope N C s₀ H₀ ex) ifs t)(he:∀ C s₀ H₀ ex,AE (bZ X scope N C s₀ H₀ ex) elt c)
  (hi':X.N[i]?=some x:=by rfl) (hx:Loc X.env.scope x:=by first | exact Or.inl rfl | exact Or.inr rfl)
  (hsw:swapsWith (.ListComp elt [⟨tg,iter,ifs,0⟩] scope pos) (some (.Name x pos')) spos.line X.env=pure true:=by rfl) (hf:X.fn x=true\/X.env.scope.names.lookup x=some .local:=by first | exact .inl rfl | exact .inr rfl | assumption)
  (hs:∀ x,foldedSetIterable iter X.env x=pure x:=by intro _;rfl):AS X (.Assign [.Name x pos'] (.ListComp elt [⟨tg,iter,ifs,0⟩] scope pos) spos) (bG (bP cap src g t c) (bH i)):=
 PS.imp (E9 hN hi' hx hc Sc hi (g:=LY X.K g) (tc:=LM X.K t) (te:=Ny X.K c) (λ C s₀ H₀ ex=>(hg C s₀ H₀ ex).g0 rfl) (λ C s₀ H₀ ex=>ht C s₀ H₀ ex) (λ C s₀ H₀ ex=>(he C s₀ H₀ ex).e0 rfl) hsw hf hs) λ D σ H ⟨ρ,S,τ,R,r,h⟩=>
  vK σ H _ ⟨ρ,S,τ,R,r,aF (of_post h) .refl λ a S1 h1 ρ1 H1 x e1 R1 v1=>h1 ρ1 H1 _ e1 R1 ((r.ext e1).set v1)⟩
end
noncomputable def A.lst? (S:aE):A->Option (List A)
 | .ref n=>ak S n
 | _=>none
noncomputable def LU (f:A->List A->aE->R A)(co:Ex)(d:jB):Ex:=λ τ S=>(co τ S).bind λ o S1=>opt (o.lst? S1) λ _=>(d τ S1).bind λ as S2=>f o as S2
noncomputable def JO (f:A->List A->aE->R A)(co:Ex):Ex:=λ τ S=>(co τ S).bind λ o S1=>opt (o.lst? S1) λ _=>f o [] S1
noncomputable def rM (X:Cx)(f:A->List A->aE->R A):V->List V->Hp->VK->Prop:=λ x vs H Q=>∃ ρ S o as,Rel X.K ρ H S/\AV X.K ρ H o x/\AVs X.K ρ H as vs/\(f o as S).post (oB X ρ H Q) (XE X ρ H)
section
variable {X:Cx} {pos apos cpos:Pos} {o e:Expr} {es:List Expr} {name:Str} {id:String} {f:A->List A->aE->R A} {co:Ex} {d:jB}
theorem lst?_ty {K:PySem.W.Frag}{ρ:List Addr}{H:Hp}{S:aE}{x:A}{v:V}{xs:List A}(R:Rel K ρ H S)(h:AV K ρ H x v)(e:x.lst? S=some xs):NQ K "list" v H:=by
 cases h with
 | ref h=>
  obtain ⟨vs,h1,_⟩:=R.lst h (aT e);exact .inl ⟨rfl,vs,f_.of h1⟩
 | _=>cases e
theorem xO (slot:Slot "list" name id)(hty:typeOf (.builtin id)=pure (.type "method_descriptor"))(hm:Jy X id (rM X f))(ho:AE X o co)(ha:AL X (e::es) d)
  (hbase:attributeBase o name X.env (eval o X.env)=eval o X.env:=by rfl)
  (hfew:((backTo cpos (starEach (e::es) X.env)).all (λ x=>!x.1) && (backToKw cpos (keywordEach [] X.env)).all (λ x=>x.1.isSome)
   && decide ((e::es).length+([]:List Keyword).length+(if ([]:List Keyword).isEmpty then 0 else 1) < 30))=true:=by rfl)
  (hline:(apos.endLine == cpos.line)=true:=by rfl) (hs:starEach (e::es) X.env=(false,eval e X.env)::starEach es X.env:=by rfl) (hplain:(backTo cpos (starEach es X.env)).any (·.1)=false:=by rfl) :
  AE X (.Call (.Attribute o name apos) (e::es) [] cpos) (LU f co d):=PE.imp (L4 PySem.F.plainAttrs_list slot hty hm ho ha hbase hfew hline hs hplain) λ σ H Q h9=>by
 obtain ⟨ρ,S,τ,R,r,h⟩:=h9;refine ⟨ρ,S,τ,R,r,aF (aK h) .refl λ x S1 h1 ρ1 H1 v e1 R1 v1=>?_⟩;obtain ⟨xs,hx,h1⟩:=aM h1;refine ⟨lst?_ty R1 v1 hx,ρ1,S1,τ,R1,r.ext e1,aF (aK h1) e1 λ as S2 h2 ρ2 H2 vs e2 R2 v2=>?_⟩;exact ⟨ρ2,S2,x,as,R2,v1.ext e2,v2,aF h2 (e1.trans e2) λ _ _ z=>z.ext (e1.trans e2)⟩
theorem Lm (slot:Slot "list" name id)(hty:typeOf (.builtin id)=pure (.type "method_descriptor"))(hm:Jy X id (rM X f))(ho:AE X o co)
  (hbase:attributeBase o name X.env (eval o X.env)=eval o X.env:=by rfl) (hline:(apos.endLine == cpos.line)=true:=by rfl):AE X (.Call (.Attribute o name apos) [] [] cpos) (JO f co):=PE.imp (Jr PySem.F.plainAttrs_list slot hty hm ho hbase hline) λ σ H Q h9=>by
 obtain ⟨ρ,S,τ,R,r,h⟩:=h9;refine ⟨ρ,S,τ,R,r,aF (aK h) .refl λ x S1 h1 ρ1 H1 v e1 R1 v1=>?_⟩;obtain ⟨xs,hx,h1⟩:=aM h1;exact ⟨lst?_ty R1 v1 hx,ρ1,S1,x,[],R1,v1,.nil,aF h1 e1 λ _ _ z=>z.ext e1⟩
noncomputable def lK (o:A)(as:List A)(S:aE):R A:=match o,as with
 | .ref n,[x]=>opt (ak S n) λ xs=>gd (xs.length < sizeLine) (.ok .non (S.set n (.lst (xs++[x]))))
 | _,_=>.no
theorem o6:Jy X "list.append" (rM X lK):=λ pins s σ H x vs v us Q I rx rv h9=>by
 obtain ⟨ρ,S,o,as,R,vo,va,h⟩:=h9
 cases vo with
 | @ref p n hp=>
  match as,va,h with
  | [],_,h=>exact h.elim
  | _::_::_,_,h=>exact h.elim
  | [y],va,h=>
   obtain ⟨w,rfl,hw⟩:=Gs va;obtain ⟨xs,hn,h⟩:=aM h;obtain ⟨hl,h⟩:=bA h;obtain ⟨ws,h1,r⟩:=R.lst hp (aT hn);obtain ⟨ex,R'⟩:=R.put hp (aT hn) (r.append (.one hw));exact mW pins s σ H _ _ v us Q I rx rv ⟨p,ws,w,rfl,rfl,h1,by rw [<- r.length];exact hl,h _ _ _ ex R' .non⟩
 | _=>exact h.elim
noncomputable def JF (o:A)(as:List A)(S:aE):R A:=match o,as with
 | .ref n,[]=>opt (ak S n) λ xs=>opt (xs[xs.length - 1]?) λ x=>.ok x (S.set n (.lst xs.dropLast))
 | _,_=>.no
theorem AVs.dropLast {K:PySem.W.Frag}{ρ:List Addr}{H:Hp}{xs:List A}{vs:List V}(r:AVs K ρ H xs vs):AVs K ρ H xs.dropLast vs.dropLast:=by
 rw [List.dropLast_eq_take,List.dropLast_eq_take,r.length];exact r.take _
theorem M6:Jy X "list.pop" (rM X JF):=λ pins s σ H x vs v us Q I rx rv h9=>by
 obtain ⟨ρ,S,o,as,R,vo,va,h⟩:=h9
 cases vo with
 | @ref p n hp=>
  match as,va,h with
  | _::_,_,h=>exact h.elim
  | [],va,h=>
   cases va
   obtain ⟨xs,hn,h⟩:=aM h;obtain ⟨y,hy,h⟩:=aM h;obtain ⟨ws,h1,r⟩:=R.lst hp (aT hn);obtain ⟨w,hw,vw⟩:=r.get hy;obtain ⟨ex,R'⟩:=R.put hp (aT hn) r.dropLast;exact JI pins s σ H _ _ v us Q I rx rv ⟨p,ws,w,rfl,rfl,h1,by rw [<- r.length];exact hw,h _ _ _ ex R' (vw.ext ex)⟩
 | _=>exact h.elim
end
noncomputable def ff (N:List Str)(m:Sm)(as:List A)(S:aE):R A:=match m (as++List.replicate (N.length - as.length) .unb) S with
 | .rt a S'=>.ok a S'
 | .nx _ S'=>.ok .non S'
 | .ex c S'=>.ex c S'
 | _=>.no
noncomputable def lC (K:PySem.W.Frag)(n:Nat)(F:List A->aE->R A):Sp:=λ vs H Q _=>vs.length=n/\∃ ρ S as a S',Rel K ρ H S/\AVs K ρ H as vs/\F as S=.ok a S'/\∀ ρ' H' v,Ext ρ ρ' H H'->Rel K ρ' H' S'->AV K ρ' H' a v->Q v H'
theorem Hw {K:PySem.W.Frag}{ρ:List Addr}{H:Hp}{as:List A}{vs:List V}(r:AVs K ρ H as vs)(N:List Str):SR K ρ H (as++List.replicate (N.length - as.length) .unb) (L2.start N vs):=by
 have hl:=r.length;refine ⟨by unfold L2.start;simp [hl],λ i a h=>?_⟩;by_cases hi:i < as.length
 ·rw [getElem?_append_left hi] at h;obtain ⟨v,hv,av⟩:=r.get h;exact .inr ⟨v,by unfold L2.start;rw [getElem?_append_left (by simp;omega),List.getElem?_map,hv];rfl,av⟩
 ·rw [List.getElem?_append_right (by omega),getElem?_replicate] at h;split at h
  ·exact .inl (Option.some.inj h).symm
  ·cases h
section
variable {P:Program} {w:World} {K:PySem.W.Frag} {mg:Str->Option Value} {base:Heap}
theorem oA {x qual:Str}{st:Stmt}{f:Addr}{fd:FuncData}{N ps:List Str}{k:Nat}{m:Sm}(F:Fun K x qual st f fd)(Sc:FnScope N ps (aH st))
  (body:∀ (cdv:Value) (A:Around) (outer:List Env) (s:Shared) (H:Hp) (E:XK),Room k (A.deeper (envOfC qual (aH st) s.heap.objs.size f cdv))->GK (xD j9 P w K mg base N qual (aH st) f cdv A outer s H E).Mx (bh st) m) :
  FnOk P w K mg base j9 (k+1) f fd ps (lC K ps.length (ff N m)):=by
 refine F.ok Sc (λ vs H Q E h=>h.1) λ cdv B outer s H vs Q E hr ⟨hl,ρ,S,as,a,S',R,va,hF,q⟩=>⟨_,body cdv B outer s H E hr,ρ,S,_,R,Hw va N,?_⟩;unfold ff at hF
 cases hm:m (as++List.replicate (N.length - as.length) .unb) S with
 | rt b S2=>rw [hm] at hF;cases hF;exact q
 | nx τ S2=>rw [hm] at hF;cases hF;exact λ ρ' H' σ' e R' _=>q ρ' H' _ e R' .non
 | bk τ S2=>rw [hm] at hF;cases hF
 | ct τ S2=>rw [hm] at hF;cases hF
 | ex c S2=>rw [hm] at hF;cases hF
 | no=>rw [hm] at hF;cases hF
end
noncomputable abbrev fh (P:Program)(w:World)(K:PySem.W.Frag)(mg:Str->Option Value)(base:Heap)(k:Nat)(x:Str)(ps:List Str)(F:List A->aE->R A):Prop:=Kn P w K mg base k x ps (lC K ps.length F)
noncomputable def eFn (F:List A->aE->R A)(d:jB):Ex:=λ τ S=>(d τ S).bind λ as S1=>match F as S1 with
 | .ok a S2=>.ok a S2
 | _=>.no
section
variable {X:Cx} {pos p:Pos} {e:Expr} {es:List Expr} {x:Str} {ps:List Str} {k:Nat} {F:List A->aE->R A} {d:jB}
theorem bu (G:fh X.prog X.w X.K X.mg X.base k x ps F)(hr:Room k X.A)(ha:AL X (e::es) d)(hl:∀ τ S as S',d τ S=.ok as S'->as.length=ps.length)(hg:Gl X x:=by rfl)(hdb:(x == ("__debug__" : Str))=false:=by decide)
  (hs:starEach (e::es) X.env=(false,eval e X.env)::starEach es X.env:=by rfl) (hplain:(backTo pos (starEach es X.env)).any (·.1)=false:=by rfl):AE X (.Call (.Name x p) (e::es) [] pos) (eFn F d):=
 PE.imp (MQ G hr ha hg hdb hs hplain) λ σ H Q h9=>by
  obtain ⟨ρ,S,τ,R,r,h⟩:=h9;refine ⟨ρ,S,τ,R,r,?_⟩;have hb:=aK h
  cases hd:d τ S with
  | no=>rw [hd] at hb;exact hb
  | ex c S1=>rw [hd] at hb;exact hb
  | ok as S1=>
   rw [hd] at hb;intro ρ1 H1 vs e1 R1 v1;rw [append_nil];refine ⟨by rw [<- v1.length];exact hl τ S as S1 hd,ρ1,S1,as,?_⟩;have hb:Am.R.post (match F as S1 with
    | .ok a S2=>.ok a S2
    | _=>.no) (oB X ρ H Q) (XE X ρ H):=hb
   cases hF:F as S1 with
   | ok a S2=>rw [hF] at hb;exact ⟨a,S2,R1,v1,rfl,λ ρ2 H2 v e2=>hb ρ2 H2 v (e1.trans e2)⟩
   | ex c S2=>rw [hF] at hb;exact hb.elim
   | no=>rw [hF] at hb;exact hb.elim
theorem aR:∀ τ S as S',aJ τ S=.ok as S'->as.length=0:=λ τ S as S' h=>by cases h;rfl
theorem au {c:Ex}{d:jB}{n:Nat}(h:∀ τ S as S',d τ S=.ok as S'->as.length=n):∀ τ S as S',aj c d τ S=.ok as S'->as.length=n+1:=λ τ S as S' e=>by
 unfold aj at e
 cases hc:c τ S with
 | ok a S1=>
  rw [hc] at e
  cases hd:d τ S1 with
  | ok bs S2=>
   have e:R.bind (d τ S1) (λ as S2=>.ok (a::as) S2)=.ok as S':=e;rw [hd] at e;cases e;rw [length_cons,h τ S1 bs _ hd]
  | ex _ _=>
   have e:R.bind (d τ S1) (λ as S2=>.ok (a::as) S2)=.ok as S':=e;rw [hd] at e;cases e
  | no=>
   have e:R.bind (d τ S1) (λ as S2=>.ok (a::as) S2)=.ok as S':=e;rw [hd] at e;cases e
 | ex _ _=>rw [hc] at e;cases e
 | no=>rw [hc] at e;cases e
end
section
variable {X:Cx} {pos:Pos} {a b c d:Expr}
noncomputable def PB (f':A->A->aE->R A)(cc:Ex)(τ:List A)(b k:A)(S:aE):R A:=match k with
 | .bl true=>(cc τ S).bind λ c S4=>f' b c S4
 | .bl false=>.ok (.bl false) S
 | _=>.no
noncomputable def Bq (f f':A->A->aE->R A)(ca cb cc:Ex):Ex:=λ τ S=>(ca τ S).bind λ a S1=>(cb τ S1).bind λ b S2=>(f a b S2).bind λ k S3=>PB f' cc τ b k S3
theorem El {f f':A->A->aE->R A}{ca cb cc:Ex}{σ:L2.St}{H:Hp}{Q:VK}(h:tE X (Bq f f' ca cb cc) σ H Q):wB (r2 X f) (r2 X f') (tE X ca) (tE X cb) (tE X cc) σ H Q:=by
 obtain ⟨ρ,S,τ,R,r,h⟩:=h;refine ⟨ρ,S,τ,R,r,aF (aK h) .refl λ a S1 h1 ρ1 H1 x e1 R1 v1=>⟨ρ1,S1,τ,R1,r.ext e1,aF (aK h1) e1 λ b S2 h2 ρ2 H2 y e2 R2 v2=>?_⟩⟩;have e12:=e1.trans e2;refine ⟨ρ2,S2,a,b,R2,v1.ext e2,v2,aF (aK h2) e12 λ k S3 h3 ρ3 H3 z e3 R3 v3=>?_⟩;have e13:=e12.trans e3
 cases k with
 | bl k=>
  cases rq v3
  refine ⟨k,rfl,?_⟩
  cases k with
  | true=>
   rw [if_pos rfl];exact ⟨ρ3,S3,τ,R3,r.ext e13,aF (aK h3) e13 λ c S4 h4 ρ4 H4 w e4 R4 v4=>⟨ρ4,S4,b,c,R4,v2.ext (e3.trans e4),v4,aF h4 (e13.trans e4) λ _ _ q=>q.ext (e13.trans e4)⟩⟩
  | false=>
   rw [if_neg Bool.false_ne_true];exact h3 ρ3 H3 _ e13 R3 (.bl false)
 | _=>exact h3.elim
theorem MB {op op':CmpOp}{f f':A->A->aE->R A}{ca cb cc:Ex}(ho:e_ X (compareOp op) (r2 X f))(ho':e_ X (compareOp op') (r2 X f'))(ha:AE X a ca)(hb:AE X b cb)(hc:AE X c cc)(hm:lastMarks [op,op'] [b,c]=false:=by with_unfolding_all rfl) :
  AE X (.Compare a [op,op'] [b,c] pos) (Bq f f' ca cb cc):=PE.imp (CV ho ho' ha hb hc hm) λ _ _ _ h=>El h
theorem Nc {op op':CmpOp}{f f':A->A->aE->R A}{ca cb cc:Ex}(ho:e_ X (compareOp op) (r2 X f))(ho':e_ X (compareOp op') (r2 X f'))(ha:AE X a ca)(hb:AE X b cb)(hc:AE X c cc)(hm:lastMarks [op,op'] [b,c]=false:=by with_unfolding_all rfl) :
  AT X (.Compare a [op,op'] [b,c] pos) (iS (Bq f f' ca cb cc)):=PT.imp (EY ho ho' ha hb hc hm) λ σ H Q h9=>by
 obtain ⟨ρ,S,τ,R,r,h⟩:=h9;refine El ⟨ρ,S,τ,R,r,aF (aK h) .refl λ c S1 h1 ρ1 H1 x e1 R1 v1=>?_⟩
 cases c with
 | bl k=>cases rq v1;exact ⟨k,rfl,h1 ρ1 H1 e1 R1⟩
 | _=>exact h1.elim
noncomputable def tV (o:A)(as:List A)(S:aE):R A:=match o,as with
 | .ref n,[.ref m]=>opt (ak S n) λ xs=>opt (ak S m) λ ys=>gd (xs.length+ys.length<=sizeLine) (.ok .non (S.set n (.lst (xs++ys))))
 | _,_=>.no
theorem Cv:Jy X "list.extend" (rM X tV):=λ pins s σ H x vs v us Q I rx rv h9=>by
 obtain ⟨ρ,S,o,as,R,vo,va,h⟩:=h9
 cases vo with
 | @ref p n hp=>
  match as,va,h with
  | [],_,h=>exact h.elim
  | y::_::_,_,h=>exact (by cases y <;> exact h.elim)
  | [y],va,h=>
   obtain ⟨w,rfl,hw⟩:=Gs va
   cases hw with
   | @ref q m hq=>
    obtain ⟨xs,hn,h⟩:=aM h;obtain ⟨ys,hm,h⟩:=aM h;obtain ⟨hl,h⟩:=bA h;obtain ⟨ws,h1,r⟩:=R.lst hp (aT hn);obtain ⟨zs,h2,r'⟩:=R.lst hq (aT hm);obtain ⟨ex,R'⟩:=R.put hp (aT hn) (r.append r');exact A4 pins s σ H _ _ v us Q I rx rv ⟨p,q,ws,zs,rfl,rfl,h1,h2,by rw [<- r.length,<- r'.length];exact hl,h _ _ _ ex R' .non⟩
   | _=>exact h.elim
 | _=>exact h.elim
end
section
variable {X:Cx}
end
section
variable {X:Cx}
end
section
variable {X:Cx} {pos apos cpos:Pos} {a b o e:Expr} {es:List Expr}
end
noncomputable def aY (S:aE)(n:Nat):Option (List (List Int×A)):=match S[n]? with
 | some (.dct xs)=>some xs
 | _=>none
theorem dX {S:aE}{n:Nat}{xs:List (List Int×A)}(h:aY S n=some xs):S[n]?=some (.dct xs):=by
 unfold aY at h;split at h
 ·rename_i e;cases h;exact e
 ·cases h
theorem mw {S:aE}{n:Nat}{xs:List (List Int×A)}(h:S[n]?=some (.dct xs)):aY S n=some xs:=by
 unfold aY;rw [h]
noncomputable def fP (kvs:List (List Int×A))(k:List Int):Option A:=(kvs.find? λ kv=>decide (kv.1=k)).map (·.2)
noncomputable def putD (kvs:List (List Int×A))(k:List Int)(v:A):List (List Int×A):=
 if (fP kvs k).isSome=true then kvs.map (λ kv=>if kv.1=k then (kv.1,v) else kv) else kvs++[(k,v)]
theorem sE:∀ {a b:List Int},a.map (Sum.inl:Int->Key)=b.map Sum.inl->a=b
 | [],[],_=>rfl
 | [],_::_,e=>by simp at e
 | _::_,[],e=>by simp at e
 | x::xs,y::ys,e=>by
  rw [map_cons,map_cons] at e
  injection e with e1 e2
  injection e1 with e1
  rw [e1,sE e2]
theorem oz (ns:List Int):(ns.map (Sum.inl:Int->Key)).map kV=ns.map V.int:=by rw [List.map_map];rfl
section
variable {K:PySem.W.Frag} {ρ ρ':List Addr} {H H':Hp}
theorem ng {p:List Int×A}{r:List (List Int×A)}{k:List Int}(e:p.1=k):fP (p::r) k=some p.2:=by simp [fP,find?_cons,e]
theorem mV {p:List Int×A}{r:List (List Int×A)}{k:List Int}(e:¬ p.1=k):fP (p::r) k=fP r k:=by simp [fP,find?_cons,e]
theorem DV.look:∀ {kvs:List (List Int×A)} {ks:List (List Key×V)} (k:List Int),DV K ρ H kvs ks->(fP kvs k).isSome=(mG ks (k.map Sum.inl)).isSome/\∀ x,fP kvs k=some x->∃ v,mG ks (k.map Sum.inl)=some v/\AV K ρ H x v
 | [],[],k,_=>⟨rfl,λ x h=>nomatch h⟩
 | p::r,q::r',k,⟨⟨e,a⟩,t⟩=>by
  by_cases c:p.1=k
  ·have c':q.1=k.map Sum.inl:=by rw [e,c]
   rw [ng c,lH c'];exact ⟨rfl,λ x h=>by cases h;exact ⟨_,rfl,a⟩⟩
  ·have c':¬ q.1=k.map Sum.inl:=λ z=>c (sE (e.symm.trans z));rw [mV c,mz c'];exact DV.look k t
theorem DV.repl {x:A}{v:V}(h:AV K ρ H x v)(k:List Int):∀ {kvs:List (List Int×A)} {ks:List (List Key×V)},DV K ρ H kvs ks->DV K ρ H (kvs.map λ kv=>if kv.1=k then (kv.1,x) else kv) (ks.map λ kv=>if kv.1=k.map Sum.inl then (kv.1,v) else kv)
 | [],[],_=>trivial
 | p::r,q::r',⟨⟨e,a⟩,t⟩=>by
  refine ⟨?_,DV.repl h k t⟩;dsimp only;by_cases c:p.1=k
  ·rw [if_pos c,if_pos (by rw [e,c])];exact ⟨e,h⟩
  ·rw [if_neg c,if_neg (λ z=>c (sE (e.symm.trans z)))];exact ⟨e,a⟩
theorem DV.snoc {x:A}{v:V}(h:AV K ρ H x v)(k:List Int):∀ {kvs:List (List Int×A)} {ks:List (List Key×V)},DV K ρ H kvs ks->DV K ρ H (kvs++[(k,x)]) (ks++[(k.map Sum.inl,v)])
 | [],[],_=>⟨⟨rfl,h⟩,trivial⟩
 | p::r,q::r',⟨a,t⟩=>⟨a,DV.snoc h k t⟩
theorem DV.put {x:A}{v:V}(h:AV K ρ H x v)(k:List Int){kvs:List (List Int×A)}{ks:List (List Key×V)}(d:DV K ρ H kvs ks):DV K ρ H (putD kvs k x) (putK ks (k.map Sum.inl) v):=by
 unfold putD putK;rw [pO,<- (d.look k).1];by_cases c:(fP kvs k).isSome=true
 ·rw [if_pos c,if_pos c];exact DV.repl h k d
 ·rw [if_neg c,if_neg c];exact DV.snoc h k d
theorem DV.length:∀ {kvs:List (List Int×A)} {ks:List (List Key×V)},DV K ρ H kvs ks->kvs.length=ks.length
 | [],[],_=>rfl
 | _::_,_::_,⟨_,t⟩=>congrArg (·+1) t.length
theorem Rel.dct {S:aE}{n:Nat}{a:Addr}{xs:List (List Int×A)}(R:Rel K ρ H S)(ha:ρ[n]?=some a)(hS:S[n]?=some (.dct xs)):∃ vs,H a=some (.dT vs)/\DV K ρ H xs vs:=R.at n a _ ha hS
theorem Rel.Oc {S:aE}{p:Addr}{xs:List (List Int×A)}{vs:List (List Key×V)}(R:Rel K ρ H S)(hp:H p=none)(r:DV K ρ H xs vs):Ext ρ (ρ++[p]) H (upd H p (.dT vs))/\Rel K (ρ++[p]) (upd H p (.dT vs)) (S++[.dct xs])/\(ρ++[p])[S.length]?=some p:=by
 have ex:Ext ρ (ρ++[p]) H (upd H p (.dT vs)):=⟨⟨prefix_append _ _,λ a u _ h=>by rw [aN (aW h hp)];exact h⟩,λ a u h _=>by rw [aN (aW h hp)];exact h,λ a h=>by
  rcases mem_append.mp h with z | z
  ·exact .inl z
  ·have e:a=p:=by simpa using z
   rw [e];exact .inr hp⟩
 have np:p∉ρ:=R.yT hp;have last:(ρ++[p])[S.length]?=some p:=by rw [<- R.len];simp
 refine ⟨ex,⟨by simp [R.len],?_,?_⟩,last⟩
 ·rw [nodup_append];refine ⟨R.nd,by simp,λ a ha b hb e=>?_⟩;have:b=p:=by simpa using hb
  exact np (by rw [<- this,<- e];exact ha)
 ·intro n a o h1 h2;by_cases hn:n < S.length
  ·rw [getElem?_append_left (by rw [R.len];exact hn)] at h1;rw [getElem?_append_left hn] at h2;have na:a≠p:=λ z=>np (by rw [<- z];exact mem_of_getElem? h1);have:=R.at n a o h1 h2
   cases o with
   | lst ys=>obtain ⟨ws,e,q⟩:=this;exact ⟨ws,by rw [aN na];exact e,q.ext ex⟩
   | dct _ | dki _=>obtain ⟨ws,e,q⟩:=this;exact ⟨ws,by rw [aN na];exact e,q.ext ex⟩
   | ins _ _=>obtain ⟨oo,uu,e⟩:=this;exact ⟨oo,uu,by rw [aN na];exact e⟩
  ·have e:n=S.length:=by
    have:=(List.getElem?_eq_some_iff.mp h2).1;simp at this;omega
   subst e;rw [last] at h1
   cases h1
   simp at h2;subst h2;exact ⟨vs,bF,r.ext ex⟩
theorem Rel.putD {S:aE}{n:Nat}{a:Addr}{xs ys:List (List Int×A)}{ws:List (List Key×V)}(R:Rel K ρ H S)(ha:ρ[n]?=some a)(hS:S[n]?=some (.dct xs))(r:DV K ρ H ys ws):Ext ρ ρ H (upd H a (.dT ws))/\Rel K ρ (upd H a (.dT ws)) (S.set n (.dct ys)):=by
 obtain ⟨vs,e,_⟩:=R.at n a _ ha hS;have ex:Ext ρ ρ H (upd H a (.dT ws)):=⟨⟨prefix_refl _,λ b u i h=>by
  have:b≠a:=by
   intro z;subst z;rw [e] at h;cases h;exact i
  rw [aN this];exact h⟩,λ b u h n=>by
  rw [aN (λ z=>n (by rw [z];exact mem_of_getElem? ha))];exact h,λ _ h=>.inl h⟩
 refine ⟨ex,by rw [length_set];exact R.len,R.nd,λ m b o h1 h2=>?_⟩;by_cases hm:m=n
 ·subst hm;rw [ha] at h1;cases h1;rw [getElem?_set_self (List.getElem?_eq_some_iff.mp hS).1] at h2
  cases h2
  exact ⟨ws,bF,r.ext ex⟩
 ·rw [getElem?_set_ne (Ne.symm hm)] at h2;have nb:b≠a:=λ z=>by
   subst z;obtain ⟨l1,e1⟩:=List.getElem?_eq_some_iff.mp ha;obtain ⟨l2,e2⟩:=List.getElem?_eq_some_iff.mp h1;exact hm ((getElem_inj R.nd).mp (e2.trans e1.symm))
  have:=R.at m b o h1 h2
  cases o with
  | lst ys=>obtain ⟨ws',e',q⟩:=this;exact ⟨ws',by rw [aN nb];exact e',q.ext ex⟩
  | dct _ | dki _=>obtain ⟨ws',e',q⟩:=this;exact ⟨ws',by rw [aN nb];exact e',q.ext ex⟩
  | ins _ _=>obtain ⟨oo,uu,e'⟩:=this;exact ⟨oo,uu,by rw [aN nb];exact e'⟩
end
section
variable {X:Cx} {pos:Pos} {a b:Expr}
theorem sG {ρ:List Addr}{H:Hp}{S:aE}{p q:Addr}{n:Nat}{xs:List A}{vs:List V}{kvs:List (List Int×A)}{ns:List Int}(R:Rel X.K ρ H S)(hp:ρ[n]?=some p)(hn:aY S n=some kvs)(hq:H q=some (.tup vs))(r:AVs X.K ρ H xs vs)(hi:A.ints xs=some ns) :
  ∃ ks,H p=some (.dT ks)/\DV X.K ρ H kvs ks/\H q=some (.tup ((ns.map (Sum.inl:Int->Key)).map kV))/\sX H p (.ref q) (mG ks (ns.map Sum.inl)):=by
 obtain ⟨ks,e,d⟩:=R.dct hp (dX hn);have z:=mK r hi;subst z;rw [<- oz] at hq;exact ⟨ks,e,d,hq,sX.t e hq⟩
noncomputable def G1 (x y:A)(S:aE):R A:=match x,y with
 | .ref n,.tup xs=>opt (aY S n) λ kvs=>opt (A.ints xs) λ ns=>opt (fP kvs ns) λ v=>.ok v S
 | _,_=>.no
theorem Mi (hu:X.A.units+64 < cLine):JT X (r2 X G1):=λ value slice pins s σ H x y v u Q I rx ry ⟨ρ,S,a,b,R,va,vb,h⟩ hs=>by
 cases va with
 | @ref p n hp=>
  cases vb with
  | @tup q xs vs hq r=>
   obtain ⟨kvs,hn,h⟩:=aM h;obtain ⟨ns,hi,h⟩:=aM h;obtain ⟨z,hz,h⟩:=aM h;obtain ⟨ks,e,d,hq',g⟩:=sG R hp hn hq r hi;obtain ⟨w,hw,aw⟩:=(d.look ns).2 z hz;rw [hw] at g;exact FU (by omega) value slice pins s σ H _ _ v u Q I rx ry ⟨p,w,rfl,g,h _ _ _ .refl R aw⟩ hs
  | _=>exact h.elim
 | _=>exact h.elim
theorem K5 (hu:X.A.units+64 < cLine){ca cb:Ex}(ha:AE X a ca)(hb:AE X b cb)(hs:rX b:=by exact λ _ _=>rfl):AE X (.Subscript a b pos) (aG G1 ca cb):=PE.imp (Iw (Mi hu) ha hb hs) λ σ H Q h=>mC h
noncomputable def Jk (neg:Bool)(x y:A)(S:aE):R A:=match x,y with
 | .tup xs,.ref n=>opt (aY S n) λ kvs=>opt (A.ints xs) λ ns=>.ok (.bl (if neg then !(fP kvs ns).isSome else (fP kvs ns).isSome)) S
 | _,_=>.no
theorem Dl (hu:X.A.units+64 < cLine):e_ X (compareOp .NotIn) (r2 X (Jk true)):=λ pins s σ H x y v u Q I rx ry h9=>by
 obtain ⟨ρ,S,a,b,R,va,vb,h⟩:=h9
 cases va with
 | @tup q xs vs hq r=>
  cases vb with
  | @ref p n hp=>
   obtain ⟨kvs,hn,h⟩:=aM h;obtain ⟨ns,hi,h⟩:=aM h;obtain ⟨ks,e,d,hq',g⟩:=sG R hp hn hq r hi;exact AN (by omega) pins s σ H _ _ v u Q I rx ry ⟨p,_,rfl,g,by rw [<- (d.look ns).1];exact h _ _ _ .refl R (.bl _)⟩
  | _=>exact h.elim
 | _=>exact h.elim
noncomputable def oO (o i v:A)(S:aE):R Unit:=match o,i with
 | .ref n,.tup xs=>opt (aY S n) λ kvs=>opt (A.ints xs) λ ns=>gd (kvs.length < sizeLine) (.ok () (S.set n (.dct (putD kvs ns v))))
 | _,_=>.no
noncomputable def OX (X:Cx):wX:=λ o i v H Q=>∃ ρ S ao ai av,Rel X.K ρ H S/\AV X.K ρ H ao o/\AV X.K ρ H ai i/\AV X.K ρ H av v/\(oO ao ai av S).post (λ _ S'=>∀ ρ' H',Ext ρ ρ' H H'->Rel X.K ρ' H' S'->Q H') (XE X ρ H)
theorem Gx (hu:X.A.units+64 < cLine):A1 X (OX X):=λ pins s σ H o i v ov iv u Q I ro ri rv h9=>by
 obtain ⟨ρ,S,ao,ai,av,R,h1,h2,h3,h⟩:=h9
 cases h1 with
 | @ref p n hp=>
  cases h2 with
  | @tup q xs vs hq r=>
   obtain ⟨kvs,hn,h⟩:=aM h;obtain ⟨ns,hi,h⟩:=aM h;obtain ⟨hl,h⟩:=bA h;obtain ⟨ks,e,d,hq',g⟩:=sG R hp hn hq r hi;obtain ⟨ex,R'⟩:=R.putD hp (dX hn) (d.put h3 ns);exact set_dict (by omega) pins s σ H _ _ v ov iv u Q I ro ri rv ⟨p,_,rfl,Ep.t e hq' (by rw [<- d.length];exact hl),h _ _ ex R'⟩
  | _=>exact h.elim
 | _=>exact h.elim
noncomputable def xE (co ci:Ex):Tg:=λ a τ S=>(co τ S).bind λ o S1=>(ci τ S1).bind λ i S2=>(oO o i a S2).bind λ _ S3=>.ok τ S3
theorem sZ (hu:X.A.units+64 < cLine){o i:Expr}{co ci:Ex}(ho:AE X o co)(hi:AE X i ci)
  (ha:∀ v,assign (.Subscript o i pos) X.env v=(do
   let ov <- holding [v] (eval o X.env)
   let iv <- holding [v,ov] (eval i X.env)
   standAt pos
   holding [v,ov,iv] (setItem ov iv v)
   release [v,ov,iv] []):=by intro _;rfl):AG X (.Subscript o i pos) (xE co ci):=PG.imp (CL ho hi (Gx hu) ha) λ v σ H Q h9=>by
 obtain ⟨ρ,S,τ,a,R,r,va,h⟩:=h9;refine ⟨ρ,S,τ,R,r,aF (aK h) .refl λ o S1 h1 ρ1 H1 x e1 R1 v1=>⟨ρ1,S1,τ,R1,r.ext e1,aF (aK h1) e1 λ i S2 h2 ρ2 H2 y e2 R2 v2=>?_⟩⟩;refine ⟨ρ2,S2,o,i,a,R2,v1.ext e2,v2,va.ext (e1.trans e2),aF (aK h2) (e1.trans e2) λ _ S3 h3 ρ3 H3 e3 R3=>?_⟩;exact h3 ρ3 H3 σ ((e1.trans e2).trans e3) R3 (r.ext ((e1.trans e2).trans e3))
noncomputable def zP:Ex:=λ _ S=>.ok (.ref S.length) (S++[.dct []])
theorem yq:AE X (.Dict [] [] pos) zP:=PE.imp E8 λ σ H Q ⟨ρ,S,τ,R,r,h⟩ p hp=>by
 obtain ⟨ex,R',hl⟩:=R.Oc (xs:=[]) (vs:=[]) hp trivial;exact h _ _ _ ex R' (.ref hl)
noncomputable def DM (ck cv:Ex):Ex:=λ τ S=>(ck τ S).bind λ k S1=>(cv τ S1).bind λ v S2=>match k with
 | .tup xs=>opt (A.ints xs) λ ns=>.ok (.ref S2.length) (S2++[.dct [(ns,v)]])
 | _=>.no
theorem Rel.Nh {K:PySem.W.Frag}{ρ:List Addr}{H:Hp}{S:aE}{D:Addr}{xs:List (List Int×A)}{us vs:List (List Key×V)}(R:Rel K ρ H S)(hD:H D=some (.dT us))(hn:D∉ρ)(r:DV K ρ H xs vs):Ext0 ρ (ρ++[D]) H (upd H D (.dT vs))/\Rel K (ρ++[D]) (upd H D (.dT vs)) (S++[.dct xs])/\(ρ++[D])[S.length]?=some D:=by
 have ex:Ext0 ρ (ρ++[D]) H (upd H D (.dT vs)):=⟨prefix_append _ _,λ b u i h=>by
  have:b≠D:=by
   intro z;subst z;rw [hD] at h;cases h;exact i
  rw [aN this];exact h⟩
 have last:(ρ++[D])[S.length]?=some D:=by rw [<- R.len];simp
 refine ⟨ex,⟨by simp [R.len],?_,λ n a o h1 h2=>?_⟩,last⟩
 ·rw [nodup_append];refine ⟨R.nd,by simp,λ a ha b hb e=>?_⟩;have:b=D:=by simpa using hb
  exact hn (by rw [<- this,<- e];exact ha)
 ·by_cases hs:n < S.length
  ·rw [getElem?_append_left (by rw [R.len];exact hs)] at h1;rw [getElem?_append_left hs] at h2;have na:a≠D:=λ z=>hn (by rw [<- z];exact mem_of_getElem? h1);have:=R.at n a o h1 h2
   cases o with
   | lst ys=>obtain ⟨ws,e,q⟩:=this;exact ⟨ws,by rw [aN na];exact e,AVs.dO ex q⟩
   | dct _ | dki _=>obtain ⟨ws,e,q⟩:=this;exact ⟨ws,by rw [aN na];exact e,q.dO ex⟩
   | ins _ _=>obtain ⟨oo,uu,e⟩:=this;exact ⟨oo,uu,by rw [aN na];exact e⟩
  ·have e:n=S.length:=by
    have:=(List.getElem?_eq_some_iff.mp h2).1;simp at this;omega
   subst e;rw [last] at h1
   cases h1
   simp at h2;subst h2;exact ⟨vs,bF,r.dO ex⟩
theorem Gq (hu:X.A.units+64 < cLine){k v:Expr}{ck cv:Ex}(hk:AE X k ck)(hv:AE X v cv):AE X (.Dict [some k] [v] pos) (DM ck cv):=PE.imp (B3 (by omega) hk hv) λ σ H Q ⟨ρ,S,τ,R,r,h⟩ p hp=>by
 obtain ⟨e0,R0⟩:=R.im (u:=.dT []) hp;have np:p∉ρ:=R.yT hp;refine ⟨ρ,S,τ,R0,r.ext e0,aF (aK h) e0 λ a S1 h1 ρ1 H1 x e1 R1 v1=>⟨ρ1,S1,τ,R1,(r.ext e0).ext e1,aF (aK h1) (e0.trans e1) λ b S2 h2 ρ2 H2 y e2 R2 v2=>?_⟩⟩;have e12:=e1.trans e2;have hp2:H2 p=some (.dT []):=e12.fr p _ bF np;have np2:p∉ρ2:=λ hm=>(e12.nw p hm).elim np λ z=>by rw [bF] at z;cases z
 cases v1.ext e2 with
 | @tup q xs vs hq rr=>
  obtain ⟨ns,hi,h2⟩:=aM h2;have z:=mK rr hi;subst z;refine ⟨hp2,q,ns.map Sum.inl,rfl,by rw [oz];exact hq,?_⟩;obtain ⟨e3,R3,hl⟩:=R2.Nh (xs:=[(ns,b)]) (vs:=[(ns.map Sum.inl,y)]) hp2 np2 ⟨⟨rfl,v2⟩,trivial⟩;refine h2 _ _ _ ⟨⟨(e0.trans e12).pre.trans e3.pre,λ c u i hc=>e3.im c u i ((e0.trans e12).im c u i hc)⟩,λ c u hc nc=>?_,λ c hc=>?_⟩ R3 (.ref hl)
  ·rw [aN (aW hc hp)];exact (e0.trans e12).fr c u hc nc
  ·rcases mem_append.mp hc with z | z
   ·exact (e0.trans e12).nw c z
   ·have:c=p:=by simpa using z
    rw [this];exact .inr hp
 | _=>exact h2.elim
end
section
variable {X:Cx} {pos:Pos} {a b:Expr}
end
section
variable {X:Cx} {pos:Pos} {a b tg:Expr}
noncomputable def Ay (p:List Int×A):A:=.tup [.tup (p.1.map .int),p.2]
noncomputable def OY (a:A)(S:aE):R Src:=match a with
 | .ref n=>opt (aY S n) λ kvs=>.ok (dG (kvs.map Ay)) (S.set n (.ins "" []))
 | _=>.no
noncomputable def Br (c:Ex):Ic:=λ τ S=>(c τ S).bind λ a S1=>OY a S1
theorem EF {K:PySem.W.Frag}{ρ:List Addr}{H:Hp}:∀ {kvs:List (List Int×A)} {ks:List (List Key×V)} {i:Nat} {p:List Int×A},DV K ρ H kvs ks->kvs[i]?=some p->∃ q,ks[i]?=some q/\q.1=p.1.map Sum.inl/\AV K ρ H p.2 q.2
 | [],[],_,_,_,h=>by simp at h
 | a::kvs,b::ks,0,p,⟨z,_⟩,h=>by
  have:a=p:=by simpa using h
  subst this;exact ⟨b,rfl,z⟩
 | a::kvs,b::ks,i+1,p,⟨_,t⟩,h=>EF (kvs:=kvs) (ks:=ks) (i:=i) t (by simpa using h)
theorem Rel.gone {K:PySem.W.Frag}{ρ:List Addr}{H:Hp}{S:aE}{n:Nat}{a:Addr}{xs:List (List Int×A)}{o:Obj}{u:HO}(R:Rel K ρ H S)(ha:ρ[n]?=some a)(hS:S[n]?=some (.dct xs)):Ext ρ ρ H (upd H a (.frz o u))/\Rel K ρ (upd H a (.frz o u)) (S.set n (.ins "" [])):=by
 obtain ⟨vs,e,_⟩:=R.at n a _ ha hS;have ex:Ext ρ ρ H (upd H a (.frz o u)):=⟨⟨prefix_refl _,λ b u' i h=>by
  have:b≠a:=by
   intro z;subst z;rw [e] at h;cases h;exact i
  rw [aN this];exact h⟩,λ b u' h nb=>by
  rw [aN (λ z=>nb (by rw [z];exact mem_of_getElem? ha))];exact h,λ _ h=>.inl h⟩
 refine ⟨ex,by rw [length_set];exact R.len,R.nd,λ m b ob h1 h2=>?_⟩;by_cases hm:m=n
 ·subst hm;rw [ha] at h1;cases h1;rw [getElem?_set_self (List.getElem?_eq_some_iff.mp hS).1] at h2
  cases h2
  exact ⟨o,u,bF⟩
 ·rw [getElem?_set_ne (Ne.symm hm)] at h2;have nb:b≠a:=λ z=>by
   subst z;obtain ⟨l1,e1⟩:=List.getElem?_eq_some_iff.mp ha;obtain ⟨l2,e2⟩:=List.getElem?_eq_some_iff.mp h1;exact hm ((getElem_inj R.nd).mp (e2.trans e1.symm))
  have:=R.at m b ob h1 h2
  cases ob with
  | lst ys=>obtain ⟨ws',e',q⟩:=this;exact ⟨ws',by rw [aN nb];exact e',q.ext ex⟩
  | dct _ | dki _=>obtain ⟨ws',e',q⟩:=this;exact ⟨ws',by rw [aN nb];exact e',q.ext ex⟩
  | ins _ _=>obtain ⟨oo,uu,e'⟩:=this;exact ⟨oo,uu,by rw [aN nb];exact e'⟩
theorem Ff {elts:List Expr}{x1:Nat}{tpos apos cpos:Pos}{e:Expr}{c:Ex}(ha:AE X e c)(hbase:attributeBase e "items" X.env (eval e X.env)=eval e X.env:=by rfl)(hline:(apos.endLine == cpos.line)=true:=by rfl) :
  AI X (.Tuple elts x1 tpos) (.Call (.Attribute e "items" apos) [] [] cpos) (Br c):=λ pins s σ H Q I h9=>by
 obtain ⟨ρ,S,τ,R,r,h⟩:=h9;refine Fc ha hbase hline pins s σ H Q I ⟨ρ,S,τ,R,r,aF (aK h) .refl λ x S1 h1 ρ1 H1 v e1 R1 v1=>?_⟩
 cases v1 with
 | @ref p n hp=>
  obtain ⟨kvs,hn,h1⟩:=aM h1;obtain ⟨ks,g1,dv⟩:=R1.dct hp (dX hn);refine ⟨p,ks,rfl,g1,λ o ps pl pat=>?_⟩;obtain ⟨ex,R2⟩:=R1.gone (o:=o) (u:=.dT ks) hp (dX hn);have dl:=dv.length;refine h1 ρ1 _ _ (e1.trans ex) R2 ⟨λ i S2 H2 ρ2 y e2 R3 g=>?_,λ S2 H2 ρ2 e2 R3 _=>⟨?_,e2.im _ _ trivial bF⟩⟩
  ·have g:(kvs.map Ay)[i]?=some y:=g;rw [List.getElem?_map] at g;obtain ⟨kv,hk,rfl⟩:=map_eq_some_iff.mp g;obtain ⟨q,hq,q1,q2⟩:=EF dv hk;have hi:i < ps.length:=by rw [pl];exact (List.getElem?_eq_some_iff.mp hq).1
   obtain ⟨k',e3,e4⟩:=pat i ps[i].1 ps[i].2 (List.getElem?_eq_getElem hi);rw [hq] at e3
   cases e3
   refine ⟨⟨ps[i].1,ps[i].2,List.getElem?_eq_getElem hi,e2.im _ _ trivial bF⟩,λ w' H' qq=>?_⟩;obtain ⟨T,hT,rfl,hz⟩:=qq;have hz':=hz _ _ (List.getElem?_eq_getElem hi);subst hz';obtain ⟨ex3,R4⟩:=R3.im (u:=.tup [.ref ps[i].1,ps[i].2]) hT;have ka:H2 ps[i].1=some (.tup (k'.map kV)):=e2.im _ _ trivial (ex.toExt0.im _ _ trivial e4);have kk:k'.map kV=kv.1.map V.int:=by rw [show k'=kv.1.map Sum.inl from q1,oz]
   rw [kk] at ka;exact ⟨ex3,R4,.tup bF (.cons ((AV.tup ka (fQ _)).ext ex3) (.cons (((q2.dO ex.toExt0).dO e2).ext ex3) .nil))⟩
  ·show (kvs.map Ay).length=ps.length;rw [length_map,dl,pl]
 | _=>exact h1.elim
end
noncomputable def iI (s:Src)(g:Tg)(t:Te)(e:Ex):Nat->Nat->List A->aE->R (List A×List A)
 | 0,_=>λ τ S=>if s.fin S then .ok ([],τ) S else .no
 | k+1,i=>λ τ S=>opt (s.get i S) λ x=>(g x τ S).cV λ τ1 S1=>(t τ1 S1).cV λ b S2=>match b with
  | true=>(e τ1 S2).cV λ y S3=>(iI s g t e k (i+1) τ1 S3).cV λ p S4=>.ok (y::p.1,p.2) S4
  | false=>iI s g t e k (i+1) τ1 S2
noncomputable def gc (s:Src)(g:Tg)(t:Te)(src2:Ic)(g2:Tg)(t2:Te)(e:Ex):Nat->Nat->List A->aE->R (List A)
 | 0,_=>λ _ S=>if s.fin S then .ok [] S else .no
 | k+1,i=>λ τ S=>opt (s.get i S) λ x=>(g x τ S).cV λ τ1 S1=>(t τ1 S1).cV λ b S2=>match b with
  | true=>(src2 τ1 S2).cV λ s2 S3=>(iI s2 g2 t2 e s2.k 0 τ1 S3).cV λ p S4=>(gc s g t src2 g2 t2 e k (i+1) p.2 S4).cV λ ys S5=>.ok (p.1++ys) S5
  | false=>gc s g t src2 g2 t2 e k (i+1) τ1 S2
noncomputable def wR (cap:List (Option Nat))(src:Ic)(g:Tg)(t:Te)(src2:Ic)(g2:Tg)(t2:Te)(e:Ex):Ex:=λ τ S=>(src τ S).bind λ s S1=>(gc s g t src2 g2 t2 e s.k 0 (d8 cap τ) S1).cV λ ys S2=>newL ys S2
theorem uA {s:Src}{g:Tg}{t:Te}{e:Ex}{k i:Nat}{τ τ':List A}{S S':aE}{zs:List A}(h:iI s g t e (k+1) i τ S=.ok (zs,τ') S') :
  ∃ x τ1 S1 b S2,s.get i S=some x/\g x τ S=.ok τ1 S1/\t τ1 S1=.ok b S2/\(b=true->∃ y S3 ws,e τ1 S2=.ok y S3/\iI s g t e k (i+1) τ1 S3=.ok (ws,τ') S'/\zs=y::ws)/\(b=false->iI s g t e k (i+1) τ1 S2=.ok (zs,τ') S'):=by
 obtain ⟨x,hx,h⟩:=wW h;obtain ⟨τ1,S1,h1,h⟩:=cM h;obtain ⟨b,S2,h2,h⟩:=cM h;refine ⟨x,τ1,S1,b,S2,hx,h1,h2,λ hb=>?_,λ hb=>?_⟩
 ·subst hb;obtain ⟨y,S3,h3,h⟩:=cM h;obtain ⟨⟨ws,τ2⟩,S4,h4,h⟩:=cM h
  cases h
  exact ⟨y,S3,ws,h3,h4,rfl⟩
 ·subst hb;exact h
theorem rP {s:Src}{g:Tg}{t:Te}{src2:Ic}{g2:Tg}{t2:Te}{e:Ex}{k i:Nat}{τ:List A}{S S':aE}{zs:List A}(h:gc s g t src2 g2 t2 e (k+1) i τ S=.ok zs S') :
  ∃ x τ1 S1 b S2,s.get i S=some x/\g x τ S=.ok τ1 S1/\t τ1 S1=.ok b S2/\(b=true->∃ s2 S3 ps τ2 S4 ws,src2 τ1 S2=.ok s2 S3/\iI s2 g2 t2 e s2.k 0 τ1 S3=.ok (ps,τ2) S4/\gc s g t src2 g2 t2 e k (i+1) τ2 S4=.ok ws S'/\zs=ps++ws)/\(b=false->gc s g t src2 g2 t2 e k (i+1) τ1 S2=.ok zs S'):=by
 obtain ⟨x,hx,h⟩:=wW h;obtain ⟨τ1,S1,h1,h⟩:=cM h;obtain ⟨b,S2,h2,h⟩:=cM h;refine ⟨x,τ1,S1,b,S2,hx,h1,h2,λ hb=>?_,λ hb=>?_⟩
 ·subst hb;obtain ⟨s2,S3,h3,h⟩:=cM h;obtain ⟨⟨ps,τ2⟩,S4,h4,h⟩:=cM h;obtain ⟨ws,S5,h5,h⟩:=cM h
  cases h
  exact ⟨s2,S3,ps,τ2,S4,ws,h3,h4,h5,rfl⟩
 ·subst hb;exact h
noncomputable def Pg (K:PySem.W.Frag)(c:Ic):TI:=λ σ H Q=>∃ ρ S τ s S',Rel K ρ H S/\SR K ρ H τ σ/\c τ S=.ok s S'/\∀ ρ' H' J,Ext ρ ρ' H H'->Rel K ρ' H' S'->JR K s J ρ' H'->Q J H'
structure Out (ρ1:List Addr)(H1:Hp)(D:Addr)(accV:List V)(ρ:List Addr)(H:Hp):Prop where
 e0:Ext0 ρ1 ρ H1 H
 fr:∀ a u,a≠D->H1 a=some u->a∉ρ1->H a=some u
 nw:∀ a∈ρ,a∈ρ1\/H1 a=none
 nD:D∉ρ
 hD:H D=some (.lst accV)
theorem Out.stay {ρ1 ρ3 ρ7:List Addr}{H1 H3 H7:Hp}{D:Addr}{accV:List V}(o:Out ρ1 H1 D accV ρ3 H3)(hD1:H1 D=none)(e7:Ext ρ3 ρ7 H3 H7):Out ρ1 H1 D accV ρ7 H7:=by
 refine ⟨⟨o.e0.pre.trans e7.pre,λ a u i h=>e7.im a u i (o.e0.im a u i h)⟩,λ a u na hu nr=>e7.fr a u (o.fr a u na hu nr) λ z=>(o.nw a z).elim nr λ z=>by (rw [z] at hu;cases hu),λ a ha=>?_,λ z=>(e7.nw D z).elim o.nD λ z=>by (rw [o.hD] at z;cases z),e7.fr D _ o.hD o.nD⟩;by_cases hr:a∈ρ1
 ·exact .inl hr
 ·right
  cases q:H1 a with
  | none=>rfl
  | some u=>
   have aD:a≠D:=aW q hD1
   rcases e7.nw a ha with z | z
   ·exact ((o.nw a z).elim hr λ z=>by (rw [z] at q;cases q)).elim
   ·rw [o.fr a u aD q hr] at z;cases z
section
variable {X:Cx} {pos:Pos} {tg iter tg2 iter2 elt e:Expr} {ifs ifs2:List Expr} {scope:Scope} {N:List Str} {cap:List (Option Nat)} {src src2:Ic} {g g2:Tg} {t t2:Te} {c:Ex}
theorem AI.i0 {K:PySem.W.Frag}(hK:X.K=K)(h:AI X tg e src):PI X tg e (Pg K src):=λ pins s σ H Q I ⟨ρ,S,τ,a,S',R,r,hc,q⟩=>h pins s σ H Q I ⟨ρ,S,τ,by rw [hK];exact R,by rw [hK];exact r,by rw [hc];exact λ ρ' H' J e R' v'=>q ρ' H' J e (by rw [<- hK];exact R') (by rw [<- hK];exact v')⟩
theorem E_ (hc:X.calm=true)(Sc:CpScope X scope N cap)(hi:AI X tg iter src)(hg:∀ C s₀ H₀ ex,AG (bZ X scope N C s₀ H₀ ex) tg g)(ht:∀ C s₀ H₀ ex,LW (bZ X scope N C s₀ H₀ ex) ifs t)(hi2:∀ C s₀ H₀ ex,AI (bZ X scope N C s₀ H₀ ex) tg2 iter2 src2)
  (hg2:∀ C s₀ H₀ ex,AG (bZ X scope N C s₀ H₀ ex) tg2 g2) (ht2:∀ C s₀ H₀ ex,LW (bZ X scope N C s₀ H₀ ex) ifs2 t2) (he:∀ C s₀ H₀ ex,AE (bZ X scope N C s₀ H₀ ex) elt c)
  (hs:∀ x,foldedSetIterable iter X.env x=pure x:=by intro _;rfl) (hs2:∀ env x,foldedSetIterable iter2 env x=pure x:=by intro _ _;rfl):AE X (.ListComp elt [⟨tg,iter,ifs,0⟩,⟨tg2,iter2,ifs2,0⟩] scope pos) (wR cap src g t src2 g2 t2 c):=by
 refine PE.imp (KO hc Sc hi (g:=LY X.K g) (tc:=LM X.K t) (wi2:=Pg X.K src2) (g2:=LY X.K g2) (tc2:=LM X.K t2) (te:=Ny X.K c) (λ C s₀ H₀ ex=>(hg C s₀ H₀ ex).g0 rfl) (λ C s₀ H₀ ex=>ht C s₀ H₀ ex) (λ C s₀ H₀ ex=>(hi2 C s₀ H₀ ex).i0 rfl) (λ C s₀ H₀ ex=>(hg2 C s₀ H₀ ex).g0 rfl) (λ C s₀ H₀ ex=>ht2 C s₀ H₀ ex) (λ C s₀ H₀ ex=>(he C s₀ H₀ ex).e0 rfl) hs hs2) λ σ H Q h9=>?_;obtain ⟨ρ,S,τ,R,r,h⟩:=h9;refine ⟨ρ,S,τ,R,r,aF (aK h) .refl λ s S1 h1 ρ1 H1 J e1 R1 jr D hD=>?_⟩;obtain ⟨ys,S2,hcg,h1⟩:=pF h1;obtain ⟨hlen,h1⟩:=bA h1;have h1:oB X ρ H Q (.ref S2.length) (S2++[.lst ys]):=h1;obtain ⟨eD,RD⟩:=R1.im (u:=.lst []) hD;have nD:=R1.yT hD;refine ⟨λ i m σ' H'=>m+i=s.k/\∃ ρ' S' τ' acc zs accV,Out ρ1 H1 D accV ρ' H'/\Rel X.K ρ' H' S'/\SR X.K ρ' H' τ' σ'/\AVs X.K ρ' H' acc accV/\gc s g t src2 g2 t2 c m i τ' S'=.ok zs S2/\acc++zs=ys,
  ⟨s.k,rfl,ρ1,S1,d8 cap τ,[],ys,[],⟨eD.toExt0,λ a u na hu _=>by rw [aN na];exact hu,λ a ha=>.inl ha,nD,bF⟩,RD,(Jf ((r.ext e1).ext eD) cap),.nil,hcg,rfl⟩,?_⟩
 rintro i m σ3 H3 ⟨hm,ρ3,S3,τ3,acc,zs,accV,o3,R3,r3,ac3,cg3,eys⟩
 cases m with
 | zero=>
  left;have cg3:(if s.fin S3 then Am.R.ok [] S3 else .no)=.ok zs S2:=cg3
  cases hf:s.fin S3 with
  | false=>rw [hf] at cg3;cases cg3
  | true=>
   rw [hf] at cg3
   cases cg3
   rw [append_nil] at eys;subst eys;refine ⟨by rw [show i=s.k by omega];exact jr.stop _ H3 ρ3 o3.e0 R3 hf,?_⟩;obtain ⟨RT,gt⟩:=R3.take o3.hD o3.nD ac3;refine h1 (ρ3++[D]) H3 _ (e1.trans ⟨⟨o3.e0.pre.trans (prefix_append _ _),o3.e0.im⟩,λ a u hu na=>o3.fr a u (aW hu hD) hu na,λ a ha=>?_⟩) RT (.ref gt)
   rcases mem_append.mp ha with z | z
   ·exact o3.nw a z
   ·have:a=D:=by simpa using z
    rw [this];exact .inr hD
 | succ m=>
  right;obtain ⟨x,τ4,S4,b,S5,hx,hg4,ht5,hT,hF⟩:=rP cg3;obtain ⟨hgo,hy⟩:=jr.go i S3 H3 ρ3 x o3.e0 R3 hx;refine ⟨hgo,λ v H4 y=>?_⟩;obtain ⟨e4,R4,v4⟩:=hy v H4 y;refine ⟨ρ3,S3,τ3,x,τ4,S4,R4,r3.ext e4,v4,hg4,λ ρ5 H5 σ5 e5 R5 r5=>?_⟩;refine ⟨ρ5,S4,τ4,b,S5,R5,r5,ht5,λ ρ6 H6 e6 R6=>?_⟩;have e36:=(e4.trans e5).trans e6
  cases b with
  | false=>
   dsimp only;rw [if_neg Bool.false_ne_true];exact ⟨m,lt_succ_self _,by omega,ρ6,S5,τ4,acc,zs,accV,o3.stay hD e36,R6,r5.ext e6,ac3.ext e36,hF rfl,eys⟩
  | true=>
   dsimp only;rw [if_pos rfl];obtain ⟨s2,S6,ps,τ7,S7,ws,hs6,ci7,co7,ezs⟩:=hT rfl;refine ⟨ρ6,S5,τ4,s2,S6,R6,r5.ext e6,hs6,λ ρ8 H8 J2 e8 R8 jr2=>?_⟩;have e38:=e36.trans e8;have o8:=o3.stay hD e38;refine ⟨λ i2 m2 σ' H'=>m2+i2=s2.k/\∃ ρ' S' τ' acc2 qs accV2,Out ρ1 H1 D accV2 ρ' H'/\Ext0 ρ8 ρ' H8 H'/\Rel X.K ρ' H' S'/\SR X.K ρ' H' τ' σ'/\AVs X.K ρ' H' acc2 accV2/\iI s2 g2 t2 c m2 i2 τ' S'=.ok (qs,τ7) S7/\acc2++qs=acc++ps,
    ⟨s2.k,rfl,ρ8,S6,τ4,acc,ps,accV,o8,⟨prefix_refl _,λ _ _ _ h=>h⟩,R8,r5.ext (e6.trans e8),ac3.ext e38,ci7,rfl⟩,?_⟩
   rintro i2 m2 σ9 H9 ⟨hm2,ρ9,S9,τ9,acc9,qs,accV9,o9,e89,R9,r9,ac9,ci9,eqs⟩
   cases m2 with
   | zero=>
    left;have ci9:(if s2.fin S9 then Am.R.ok ([],τ9) S9 else .no)=.ok (qs,τ7) S7:=ci9
    cases hf:s2.fin S9 with
    | false=>rw [hf] at ci9;cases ci9
    | true=>
     rw [hf] at ci9
     cases ci9
     rw [append_nil] at eqs;subst eqs;refine ⟨by rw [show i2=s2.k by omega];exact jr2.stop _ H9 ρ9 e89 R9 hf,m,lt_succ_self _,by omega,ρ9,_,_,_,ws,accV9,o9,R9,r9,ac9,co7,?_⟩;rw [List.append_assoc,<- ezs,eys]
   | succ m2=>
    right;obtain ⟨x9,τ10,S10,b10,S11,hx9,hg10,ht11,hT9,hF9⟩:=uA ci9;obtain ⟨hgo2,hy2⟩:=jr2.go i2 S9 H9 ρ9 x9 e89 R9 hx9;refine ⟨hgo2,λ v10 H10 y10=>?_⟩;obtain ⟨e10,R10,v10'⟩:=hy2 v10 H10 y10;refine ⟨ρ9,S9,τ9,x9,τ10,S10,R10,r9.ext e10,v10',hg10,λ ρ11 H11 σ11 e11 R11 r11=>?_⟩;refine ⟨ρ11,S10,τ10,b10,S11,R11,r11,ht11,λ ρ12 H12 e12 R12=>?_⟩;have e912:=(e10.trans e11).trans e12;have o12:=o9.stay hD e912;have e812:Ext0 ρ8 ρ12 H8 H12:=⟨e89.pre.trans e912.pre,λ a u i h=>e912.im a u i (e89.im a u i h)⟩
    cases b10 with
    | false=>
     dsimp only;rw [if_neg Bool.false_ne_true];exact ⟨m2,lt_succ_self _,by omega,ρ12,S11,τ10,acc9,qs,accV9,o12,e812,R12,r11.ext e12,ac9.ext e912,hF9 rfl,eqs⟩
    | true=>
     dsimp only;rw [if_pos rfl];obtain ⟨y,S13,us,he13,ci13,eus⟩:=hT9 rfl;refine ⟨ρ12,S11,τ10,y,S13,R12,r11.ext e12,he13,λ ρ14 H14 w e14 R14 v14=>?_⟩;have o14:=o12.stay hD e14;obtain ⟨ex15,R15⟩:=R14.out (ws:=accV9++[w]) o14.hD o14.nD;have l1:=ac9.length;refine ⟨accV9,o14.hD,?_,m2,lt_succ_self _,by omega,ρ14,S13,τ10,acc9++[y],us,accV9++[w],⟨⟨o14.e0.pre,λ a u i h=>ex15.im a u i (o14.e0.im a u i h)⟩,λ a u na hu nr=>by rw [aN na];exact o14.fr a u na hu nr,o14.nw,o14.nD,bF⟩,⟨e812.pre.trans e14.pre,λ a u i h=>ex15.im a u i (e14.im a u i (e812.im a u i h))⟩,R15,(r11.ext (e12.trans e14)).dO ex15,(AVs.dO ex15 ((ac9.ext (e912.trans e14)).append (.one v14))),ci13,?_⟩
     ·have:((acc++ps)++ws).length<=sizeLine:=by rw [List.append_assoc,<- ezs,eys];exact hlen
      rw [<- eqs,eus,length_append,length_append,length_cons] at this;omega
     ·rw [List.append_assoc,<- eqs,eus];rfl
end
section
variable {P:Program} {w:World} {K:PySem.W.Frag} {mg:Str->Option Value} {base:Heap}
end
noncomputable def OP (F:List A->aE->R A)(d:jB):Ex:=λ τ S=>(d τ S).bind λ as S1=>F as S1
section
variable {X:Cx} {pos p:Pos} {e:Expr} {es:List Expr} {x:Str} {ps:List Str} {k:Nat} {F:List A->aE->R A} {d:jB}
end
noncomputable def PF:List Value:=[.type "ValueError",.type "Exception",.type "BaseException",.type "object"]
noncomputable def GS:List (Str ⊕ Ex)->List A->aE->R Unit
 | [],_,S=>.ok () S
 | .inl _::ps,τ,S=>GS ps τ S
 | .inr e::ps,τ,S=>(e τ S).bind λ v S1=>match v with
  | .int i=>gd (i.natAbs.log2 < 64) (GS ps τ S1)
  | _=>.no
noncomputable def KW (c:Str)(ps:List (Str ⊕ Ex)):Sm:=λ τ S=>.of (GS ps τ S) λ _ S1=>.ex c S1
section
variable {X:Cx} {pos np cpos fp:Pos} {x:Str} {C:Addr} {e1 e2:Expr} {es:List Expr} {ps:List (Str ⊕ Ex)}
end
noncomputable def IU (i:Nat):RS->RS
 | .nx τ S=>.nx (τ.set i .unb) S
 | .bk τ S=>.bk (τ.set i .unb) S
 | .ct τ S=>.ct (τ.set i .unb) S
 | .rt a S=>.rt a S
 | _=>.no
noncomputable def M9 (i n:Nat)(cs:List Str)(c d:Sm):Sm:=λ τ S=>match c τ S with
 | .ex x S1=>if x∈cs then IU i (d ((List.replicate n .unb).set i (.exn x)) S1) else .no
 | r=>r
section
variable {X:Cx} {pos np hp:Pos} {y n:Str} {Dc:Addr} {i:Nat} {body suite:List Stmt} {b0:Stmt} {c d:Sm} {cs:List Str}
end
noncomputable def O1 (f:Str->Option Bool)(c:Ex):Ex:=λ τ S=>(c τ S).bind λ v S1=>match v with
 | .exn x=>opt (f x) λ b=>.ok (.bl b) S1
 | _=>.no
section
variable {X:Cx} {pos p py:Pos} {a:Expr} {y:Str} {vy:V} {cy:Value} {f:Str->Option Bool} {c:Ex}
end
structure ExcK (K:PySem.W.Frag)(U:Addr)(c:Str)(C:Addr):Prop where
 n:OG K c C
 q:PySem.W.excIn K C PF "ValueError.__new__" = true
 r:L2.mroIn K C=some (.ref U::PF)
 x:XCls K C
 cl:(PySem.W.clsIn K C).isSome=true
 v:PySem.W.kitOne K (.ref C) (.type "ValueError")=some true
noncomputable def PR (tb:List (Str×Bool)):Str->Option Bool:=λ x=>tb.lookup x
section
variable {X:Cx} {pos p py:Pos} {a:Expr} {y:Str} {Cy:Addr} {tb:List (Str×Bool)} {c:Ex}
end
section
variable {P:Program} {w:World} {K:PySem.W.Frag} {mg:Str->Option Value} {base:Heap}
end
noncomputable def NO (F:List A->aE->R A)(d:jB):Ex:=λ τ S=>match d τ S with
 | .ok as S1=>F as S1
 | _=>.no
section
variable {X:Cx} {pos p:Pos} {e:Expr} {es:List Expr} {x:Str} {ps:List Str} {k:Nat} {F:List A->aE->R A} {d:jB}
noncomputable def MD (t:Te)(c d:Sm):Sm:=λ τ S=>match t τ S with
 | .ok true S1=>c τ S1
 | .ok false S1=>d τ S1
 | _=>.no
end
noncomputable def IF (i:Nat)(cs:List Str)(c d:Sm):Sm:=λ τ S=>match c τ S with
 | .ex x S1=>if x∈cs then IU i (d (τ.set i (.exn x)) S1) else .no
 | r=>r
section
variable {X:Cx} {pos np hp:Pos} {y n:Str} {Dc:Addr} {i:Nat} {suite:List Stmt} {b b0:Stmt} {c d:Sm} {cs:List Str}
end
end Am
namespace L2
open PySem PySem.Spec PyProof.Rows
end L2
namespace Am
open PySem PySem.Spec PyProof.Rows L2
noncomputable def OV:Sm:=λ _ _=>.no
theorem HG {X:Cx}{st:Stmt}:AS X st OV:=PS.imp Ei λ D σ H ⟨ρ,S,τ,R,r,h⟩=>h.elim
theorem BA {K:PySem.W.Frag}{H:Hp}{a:Addr}{ns:List Int}{F:List A->aE->R A}(hO:Ht H)(hS:f_ K H a (ns.map V.int))(h:∃ S',F [.frz (ns.map .int)] []=.ok (.bl true) S'):lC K 1 F [.ref a] H (λ v _=>v=.bl true) λ _ _ _=>False:=by
 obtain ⟨S',h⟩:=h;have fz:Fz K H a (ns.map V.int):=by
  rcases hS with (h | ⟨o,h⟩) | h
  ·rcases hO a with z | ⟨ob,xs,z⟩
   ·rw [h] at z;cases z
   ·rw [h] at z;cases z
  ·exact .inl ⟨o,h⟩
  ·exact .inr h
 exact ⟨rfl,[],[],_,_,S',⟨rfl,nodup_nil,λ n a o h=>by simp at h⟩,.cons (.frz fz (fQ ns)) .nil,h,λ ρ' H' v _ _ hv=>rq hv⟩
section
variable {P:Program} {w:World} {K:PySem.W.Frag} {mg:Str->Option Value} {base:Heap} {f:Addr} {fd:FuncData} {ps:List Str} {k n:Nat}
end
theorem Ij {P:List Value->Prop}(h:∀ a0,P [a0]):∀ us:List Value,us.length=1->P us
 | [_],_=>h _
theorem Ax {P:List Value->Prop}(h:∀ a0 a1,P [a0,a1]):∀ us:List Value,us.length=2->P us
 | [_,_],_=>h _ _
theorem vM {n:Nat}{us:List Value}(h:us.length=n+1):∃ a t,us=a::t/\t.length=n:=by
 cases us with
 | nil=>simp at h
 | cons a t=>exact ⟨a,t,rfl,by simpa using h⟩
theorem Pp {P:List Value->Prop}(h:∀ a0 a1 a2,P [a0,a1,a2]):∀ us:List Value,us.length=3->P us:=λ us e=>by
 obtain ⟨a0,t0,rfl,e0⟩:=vM e;obtain ⟨a1,t1,rfl,e1⟩:=vM e0;obtain ⟨a2,t2,rfl,e2⟩:=vM e1
 cases length_eq_zero_iff.mp e2
 exact h _ _ _
theorem PU {P:List Value->Prop}(h:∀ a0 a1 a2 a3 a4,P [a0,a1,a2,a3,a4]):∀ us:List Value,us.length=5->P us:=λ us e=>by
 obtain ⟨a0,t0,rfl,e0⟩:=vM e;obtain ⟨a1,t1,rfl,e1⟩:=vM e0;obtain ⟨a2,t2,rfl,e2⟩:=vM e1;obtain ⟨a3,t3,rfl,e3⟩:=vM e2;obtain ⟨a4,t4,rfl,e4⟩:=vM e3
 cases length_eq_zero_iff.mp e4
 exact h _ _ _ _ _
end Am
namespace Am
open PySem L2
section
variable {α β:Type} {a b:A} {S S1 S2:aE} {τ:List A} {x:α}
@[simp] theorem R.cI {f:α->aE->R β}:(R.ok x S).bind f=f x S:=rfl
@[simp] theorem R.yi {f:α->aE->R β}{c:Str}:(R.ex c S:R α).bind f=.ex c S:=rfl
@[simp] theorem R.cD {f:α->aE->R β}:(R.ok x S).cV f=f x S:=rfl
@[simp] theorem RS.of_ok {f:α->aE->RS}:RS.of (R.ok x S) f=f x S:=rfl
@[simp] theorem RS.HM {f:α->aE->RS}{c:Str}:RS.of (R.ex c S:R α) f=.ex c S:=rfl
@[simp] theorem br {f:β->R α}{y:β}:opt (some y) f=f y:=rfl
@[simp] theorem zC {r:R α}:gd True r=r:=if_pos trivial
theorem dI {c:Prop}[Decidable c]{r:R α}(h:c):gd c r=r:=if_pos h
@[simp] theorem yL {i:Nat}:ah i τ S=bif (τ.getD i .unb).eU then .no else .ok (τ.getD i .unb) S:=by unfold ah;cases (τ.getD i .unb).eU <;> rfl
@[simp] theorem xX {xs:List A}:A.eU (.tup xs)=false:=rfl
@[simp] theorem xM {xs:List A}:A.eU (.frz xs)=false:=rfl
@[simp] theorem yr {i:Int}:A.eU (.int i)=false:=rfl
@[simp] theorem EW {i:Bool}:A.eU (.bl i)=false:=rfl
@[simp] theorem yD {i:Str}:A.eU (.str i)=false:=rfl
@[simp] theorem zJ {i:Nat}:A.eU (.ref i)=false:=rfl
@[simp] theorem yd:A.eU .non=false:=rfl
@[simp] theorem ze {i j:Int}:A.eU (.rng i j)=false:=rfl
@[simp] theorem ym {c:Str}:A.eU (.exn c)=false:=rfl
@[simp] theorem Ie:eC a τ S=.ok a S:=rfl
noncomputable def L0 (f:A->A->aE->R A)(cb:Ex)(τ:List A)(a:A)(S:aE):R A:=(cb τ S).bind (f a)
@[simp] theorem ya {f:A->A->aE->R A}{cb:Ex}:L0 f cb τ a S=(cb τ S).bind (f a):=rfl
@[simp] theorem zT {f:A->A->aE->R A}{ca cb:Ex}:aG f ca cb τ S=(ca τ S).bind (L0 f cb τ):=rfl
@[simp] theorem Eg {f:A->aE->R A}{ca:Ex}:OT f ca τ S=(ca τ S).bind f:=rfl
@[simp] theorem z7 {c:Ex}:jk c τ S=(c τ S).bind λ a S1=>opt (a.LC S1) λ b=>.ok b S1:=rfl
noncomputable def aB (a:A)(S:aE):R Bool:=match a with
 | .bl b=>.ok b S
 | _=>.no
@[simp] theorem HS {b:Bool}:aB (.bl b) S=.ok b S:=rfl
@[simp] theorem EE {c:Ex}:iS c τ S=(c τ S).bind aB:=rfl
@[simp] theorem y_ {c:Te}:sN c τ S=(c τ S).bind λ b S1=>.ok (!b) S1:=rfl
noncomputable def Lf (d:Te)(τ:List A)(b:Bool)(S:aE):R Bool:=match b with | true=>d τ S | false=>.ok false S
noncomputable def O8 (d:Te)(τ:List A)(b:Bool)(S:aE):R Bool:=match b with | true=>.ok true S | false=>d τ S
@[simp] theorem B5 {d:Te}:Lf d τ true S=d τ S:=rfl
@[simp] theorem CF {d:Te}:Lf d τ false S=.ok false S:=rfl
@[simp] theorem HU {d:Te}:O8 d τ true S=.ok true S:=rfl
@[simp] theorem HE {d:Te}:O8 d τ false S=d τ S:=rfl
@[simp] theorem xN {c d:Te}:C7 c d τ S=(c τ S).bind (Lf d τ):=rfl
@[simp] theorem Dq {c d:Te}:Ir c d τ S=(c τ S).bind (O8 d τ):=rfl
@[simp] theorem Ad:jN τ S=.ok true S:=rfl
noncomputable def CJ (d:Ex)(τ:List A)(a:A)(S:aE):R A:=match a with | .bl true=>d τ S | .bl false=>.ok (.bl false) S | _=>.no
noncomputable def Jo (d:Ex)(τ:List A)(a:A)(S:aE):R A:=match a with | .bl true=>.ok (.bl true) S | .bl false=>d τ S | _=>.no
@[simp] theorem zK {d:Ex}:CJ d τ (.bl true) S=d τ S:=rfl
@[simp] theorem zx {d:Ex}:CJ d τ (.bl false) S=.ok (.bl false) S:=rfl
@[simp] theorem C2 {d:Ex}:Jo d τ (.bl true) S=.ok (.bl true) S:=rfl
@[simp] theorem Fd {d:Ex}:Jo d τ (.bl false) S=d τ S:=rfl
@[simp] theorem yh {c d:Ex}:ML c d τ S=(c τ S).bind (CJ d τ):=by
 unfold ML
 cases c τ S with
 | ok a S1=>cases a <;> first | rfl | (rename_i b;cases b <;> rfl)
 | _=>rfl
@[simp] theorem C3 {c d:Ex}:LQ c d τ S=(c τ S).bind (Jo d τ):=by
 unfold LQ
 cases c τ S with
 | ok a S1=>cases a <;> first | rfl | (rename_i b;cases b <;> rfl)
 | _=>rfl
noncomputable def H_ (a:A)(S:aE):R A:=match a with | .bl b=>.ok (.bl !b) S | _=>.no
@[simp] theorem u5 {b:Bool}:H_ (.bl b) S=.ok (.bl !b) S:=rfl
@[simp] theorem z8 {c:Ex}:JQ c τ S=(c τ S).bind H_:=rfl
noncomputable def J6 (c d:Ex)(τ:List A)(b:Bool)(S:aE):R A:=match b with | true=>c τ S | false=>d τ S
@[simp] theorem Ed {c d:Ex}:J6 c d τ true S=c τ S:=rfl
@[simp] theorem C1 {c d:Ex}:J6 c d τ false S=d τ S:=rfl
@[simp] theorem Ea {t:Te}{c d:Ex}:PY t c d τ S=(t τ S).bind (J6 c d τ):=rfl
@[simp] theorem xJ:aJ τ S=.ok [] S:=rfl
noncomputable def wo (a:A)(as:List A)(S:aE):R (List A):=.ok (a::as) S
noncomputable def Jc (d:jB)(τ:List A)(a:A)(S:aE):R (List A):=(d τ S).bind (wo a)
@[simp] theorem qX {as:List A}:wo a as S=.ok (a::as) S:=rfl
@[simp] theorem tZ {d:jB}:Jc d τ a S=(d τ S).bind (wo a):=rfl
@[simp] theorem vJ {c:Ex}{d:jB}:aj c d τ S=(c τ S).bind (Jc d τ):=rfl
@[simp] theorem xH {d:jB}:jF d τ S=(d τ S).bind λ as S1=>gd (as.length<=sizeLine) (.ok (.tup as) S1):=rfl
@[simp] theorem yH {d:jB}:kB d τ S=(d τ S).bind newL:=rfl
theorem bW {as:List A}(h:as.length<=16777216):newL as S=.ok (.ref S.length) (S++[.lst as]):=dI (by rw [sizeLine_eq];exact h)
@[simp] theorem uO {f:List A->aE->R A}{d:jB}:aS f d τ S=(d τ S).bind f:=rfl
noncomputable def O5 (r:R A):R A:=match r with
 | .ok a S=>.ok a S
 | _=>.no
@[simp] theorem D4:O5 (.ok a S)=.ok a S:=rfl
noncomputable def Pr (f:List A->aE->R A)(as:List A)(S:aE):R A:=O5 (f as S)
@[simp] theorem Fe {f:List A->aE->R A}{as:List A}:Pr f as S=O5 (f as S):=rfl
@[simp] theorem EO {f:List A->aE->R A}{d:jB}:eFn f d τ S=(d τ S).bind (Pr f):=rfl
@[simp] theorem HH {g:A->aE->R A}:f1 g [a] S=g a S:=rfl
@[simp] theorem Ii {g:A->A->aE->R A}:f2 g [a,b] S=g a b S:=rfl
noncomputable def KP (h:Pt)(τ:List A)(a:A)(l:Option Int)(S:aE):R A:=(h τ S).bind (JJ a l)
noncomputable def Pf (l h:Pt)(τ:List A)(a:A)(S:aE):R A:=(l τ S).bind (KP h τ a)
@[simp] theorem Av {h:Pt}{l:Option Int}:KP h τ a l S=(h τ S).bind (JJ a l):=rfl
@[simp] theorem ES {l h:Pt}:Pf l h τ a S=(l τ S).bind (KP h τ a):=rfl
@[simp] theorem D0 {c:Ex}{l h:Pt}:Io c l h τ S=(c τ S).bind (Pf l h τ):=rfl
@[simp] theorem uS:yy τ S=.ok none S:=rfl
noncomputable def Pk (a:A)(S:aE):R (Option Int):=match a with
 | .int i=>.ok (some i) S
 | _=>.no
@[simp] theorem zI {i:Int}:Pk (.int i) S=.ok (some i) S:=rfl
@[simp] theorem vO {c:Ex}:jA c τ S=(c τ S).bind Pk:=rfl
noncomputable def Jx (f:A->List A->aE->R A)(d:jB)(τ:List A)(o:A)(S:aE)(_:List A):R A:=(d τ S).bind (f o)
noncomputable def Ph (f:A->List A->aE->R A)(d:jB)(τ:List A)(o:A)(S:aE):R A:=opt (o.lst? S) (Jx f d τ o S)
@[simp] theorem zl {f:A->List A->aE->R A}{d:jB}{xs:List A}:Jx f d τ a S xs=(d τ S).bind (f a):=rfl
@[simp] theorem E2 {f:A->List A->aE->R A}{d:jB}:Ph f d τ a S=opt (a.lst? S) (Jx f d τ a S):=rfl
@[simp] theorem Df {f:A->List A->aE->R A}{c:Ex}{d:jB}:LU f c d τ S=(c τ S).bind (Ph f d τ):=rfl
@[simp] theorem zd {f:A->List A->aE->R A}{c:Ex}:JO f c τ S=(c τ S).bind λ o S1=>opt (o.lst? S1) λ _=>f o [] S1:=rfl
@[simp] theorem lst?_ref {n:Nat}:A.lst? S (.ref n)=ak S n:=rfl
noncomputable def RS.seq (r:RS)(d:Sm):RS:=match r with
 | .nx τ S=>d τ S
 | r=>r
@[simp] theorem RS.Ec {d:Sm}:RS.seq (.nx τ S) d=d τ S:=rfl
@[simp] theorem RS.Fb {d:Sm}:RS.seq (.rt a S) d=.rt a S:=rfl
@[simp] theorem RS.DJ {d:Sm}{c:Str}:RS.seq (.ex c S) d=.ex c S:=rfl
@[simp] theorem RS.D_ {d:Sm}:RS.seq (.bk τ S) d=.bk τ S:=rfl
@[simp] theorem RS.EU {d:Sm}:RS.seq (.ct τ S) d=.ct τ S:=rfl
@[simp] theorem xT {c d:Sm}:a_ c d τ S=RS.seq (c τ S) d:=by unfold a_ RS.seq;cases c τ S <;> rfl
@[simp] theorem zY:g_ τ S=.nx τ S:=rfl
@[simp] theorem rA:K1 τ S=.bk τ S:=rfl
@[simp] theorem uG:MA τ S=.ct τ S:=rfl
@[simp] theorem uU {e:Ex}:lQ e τ S=RS.of (e τ S) λ _ S1=>.nx τ S1:=rfl
@[simp] theorem ye {e:Ex}:cU e τ S=RS.of (e τ S) .rt:=rfl
@[simp] theorem vQ:DX τ S=.rt .non S:=rfl
noncomputable def NW (c d:Sm)(τ:List A)(b:Bool)(S:aE):RS:=match b with | true=>c τ S | false=>d τ S
@[simp] theorem Ih {c d:Sm}:NW c d τ true S=c τ S:=rfl
@[simp] theorem HJ {c d:Sm}:NW c d τ false S=d τ S:=rfl
@[simp] theorem CP {t:Te}{c d:Sm}:qy t c d τ S=RS.of (t τ S) (NW c d τ):=rfl
noncomputable def ND (g:Tg)(τ:List A)(a:A)(S:aE):RS:=RS.of (g a τ S) .nx
@[simp] theorem yZ {g:Tg}:ND g τ a S=RS.of (g a τ S) .nx:=rfl
@[simp] theorem xY {e:Ex}{g:Tg}:bG e g τ S=RS.of (e τ S) (ND g τ):=rfl
@[simp] theorem Er {i:Nat}:bH i a τ S=.ok (τ.set i a) S:=rfl
noncomputable def Ka (a o:A)(τ:List A)(i:A)(S:aE):R (List A):=(vE o i a S).bind λ _ S3=>.ok τ S3
noncomputable def PK (ci:Ex)(τ:List A)(a o:A)(S:aE):R (List A):=(ci τ S).bind (Ka a o τ)
@[simp] theorem yS {o i:A}:Ka a o τ i S=(vE o i a S).bind λ _ S3=>.ok τ S3:=rfl
@[simp] theorem Dh {ci:Ex}{o:A}:PK ci τ a o S=(ci τ S).bind (Ka a o τ):=rfl
@[simp] theorem Cu {co ci:Ex}:BC co ci a τ S=(co τ S).bind (PK ci τ a):=rfl
@[simp] theorem BP {n:Nat}{gs:Fq}{xs:List A}:qJ n gs (.tup xs) τ S=gd (xs.length=n) (gs xs τ S):=rfl
@[simp] theorem Ca:qI [] τ S=.ok τ S:=rfl
@[simp] theorem C9 {g:Tg}{gs:Fq}{as:List A}:jD g gs (a::as) τ S=(g a τ S).bind (gs as):=rfl
noncomputable def Pe (i j:Nat)(τ:List A)(as:List A)(S:aE):RS:=match as with
 | [a,b]=>.nx ((τ.set i a).set j b) S
 | _=>.no
@[simp] theorem Fp {i j:Nat}:Pe i j τ [a,b] S=.nx ((τ.set i a).set j b) S:=rfl
@[simp] theorem yw {i j:Nat}{c:jB}:N3 i j c τ S=RS.of (c τ S) (Pe i j τ):=rfl
noncomputable def Cw (i:Nat)(τ:List A)(c:A)(S:aE):RS:=.nx (τ.set i c) S
noncomputable def ME (i:Nat)(f:A->A->aE->R A)(τ:List A)(b:A)(S:aE):RS:=.of (f (τ.getD i .unb) b S) (Cw i τ)
@[simp] theorem uT {i:Nat}:Cw i τ a S=.nx (τ.set i a) S:=rfl
@[simp] theorem z9 {i:Nat}{f:A->A->aE->R A}:ME i f τ a S=.of (f (τ.getD i .unb) a S) (Cw i τ):=rfl
@[simp] theorem yQ {i:Nat}{f:A->A->aE->R A}{e:Ex}:Ey i f e τ S=bif (τ.getD i .unb).eU then .no else .of (e τ S) (ME i f τ):=by
 unfold Ey;cases (τ.getD i .unb).eU <;> rfl
noncomputable def N1 (o i:A)(τ:List A)(z:A)(S:aE):RS:=.of (vE o i z S) λ _ S6=>.nx τ S6
noncomputable def Pa (f:A->A->aE->R A)(o i x:A)(τ:List A)(y:A)(S:aE):RS:=.of (f x y S) (N1 o i τ)
noncomputable def O9 (ce:Ex)(f:A->A->aE->R A)(o i:A)(τ:List A)(x:A)(S:aE):RS:=.of (ce τ S) (Pa f o i x τ)
noncomputable def Ov (ce:Ex)(f:A->A->aE->R A)(o:A)(τ:List A)(i:A)(S:aE):RS:=.of (Cg o i S) (O9 ce f o i τ)
noncomputable def PD (ci ce:Ex)(f:A->A->aE->R A)(τ:List A)(o:A)(S:aE):RS:=.of (ci τ S) (Ov ce f o τ)
@[simp] theorem BV {o i:A}:N1 o i τ a S=.of (vE o i a S) λ _ S6=>.nx τ S6:=rfl
@[simp] theorem Ez {f:A->A->aE->R A}{o i x:A}:Pa f o i x τ a S=.of (f x a S) (N1 o i τ):=rfl
@[simp] theorem Ct {ce:Ex}{f:A->A->aE->R A}{o i:A}:O9 ce f o i τ a S=.of (ce τ S) (Pa f o i a τ):=rfl
@[simp] theorem E4 {ce:Ex}{f:A->A->aE->R A}{o:A}:Ov ce f o τ a S=.of (Cg o a S) (O9 ce f o a τ):=rfl
@[simp] theorem Dk {ci ce:Ex}{f:A->A->aE->R A}:PD ci ce f τ a S=.of (ci τ S) (Ov ce f a τ):=rfl
@[simp] theorem ve {co ci ce:Ex}{f:A->A->aE->R A}:qm co ci ce f τ S=RS.of (co τ S) (PD ci ce f τ):=rfl
noncomputable def RS.end (r:RS):R A:=match r with
 | .rt a S'=>.ok a S'
 | .nx _ S'=>.ok .non S'
 | .ex c S'=>.ex c S'
 | _=>.no
@[simp] theorem RS.DY:RS.end (.rt a S)=.ok a S:=rfl
@[simp] theorem RS.Dw:RS.end (.nx τ S)=.ok .non S:=rfl
@[simp] theorem RS.Cd {c:Str}:RS.end (.ex c S)=.ex c S:=rfl
theorem oM {N:List Str}{m:Sm}{as:List A}:ff N m as S=RS.end (m (as++List.replicate (N.length - as.length) .unb) S):=by
 unfold ff RS.end;cases m (as++List.replicate (N.length - as.length) .unb) S <;> rfl
@[simp] theorem C6 {i j:Int}:cC (.int i) (.int j) S=.ok (.int (i+j)) S:=rfl
@[simp] theorem DS {i j:Int}:aSub (.int i) (.int j) S=.ok (.int (i - j)) S:=rfl
@[simp] theorem DO {i j:Int}:AU (.int i) (.int j) S=.ok (.int (i+j)) S:=rfl
theorem uJ {i j:Int}(h:-18446744073709551616 < i)(h':i < 18446744073709551616):gH (.int i) (.int j) S=.ok (.int (i * j)) S:=dI (by unfold vD;simp;left;exact ⟨by omega,by omega⟩)
theorem mul_r {i j:Int}(h:-18446744073709551616 < j)(h':j < 18446744073709551616):gH (.int i) (.int j) S=.ok (.int (i * j)) S:=dI (by unfold vD;simp;right;exact ⟨by omega,by omega⟩)
theorem xh {i j:Int}(h:0 < j)(h':j < 1073741824):uh (.int i) (.int j) S=.ok (.int (i / j)) S:=dI ⟨h,by omega⟩
theorem oZ {i j:Int}(h:0 < j):kX (.int i) (.int j) S=.ok (.int (i % j)) S:=dI h
@[simp] theorem HA {i j:Int}:sQ (.int i) (.int j) S=.ok (.bl (decide (i < j))) S:=rfl
@[simp] theorem IJ {i j:Int}:JX (.int i) (.int j) S=.ok (.bl (decide (i<=j))) S:=rfl
@[simp] theorem Ig {i j:Int}:tX (.int i) (.int j) S=.ok (.bl (decide (j < i))) S:=rfl
@[simp] theorem HC {i j:Int}:LS (.int i) (.int j) S=.ok (.bl (decide (j<=i))) S:=rfl
@[simp] theorem HQ {i j:Bool}:wA false (.bl i) (.bl j) S=.ok (.bl (i == j)) S:=rfl
@[simp] theorem Dp {i j:Bool}:wA true (.bl i) (.bl j) S=.ok (.bl (i != j)) S:=rfl
@[simp] theorem EM {i:Int}:OO (.int i) S=.ok (.int (-i)) S:=rfl
@[simp] theorem EK {xs:List A}:cu (.tup xs) S=.ok (.int xs.length) S:=rfl
@[simp] theorem Fj {xs:List A}:cu (.frz xs) S=.ok (.int xs.length) S:=rfl
@[simp] theorem BW {n:Nat}:cu (.ref n) S=opt (ak S n) λ xs=>.ok (.int xs.length) S:=rfl
@[simp] theorem CT {i:Int}:Lc (.int i) S=.ok (.int (if i < 0 then -i else i)) S:=rfl
@[simp] theorem yP {i j:Int}:DE (.int i) (.int j) S=.ok (.int (if j > i then j else i)) S:=rfl
@[simp] theorem zN {i j:Int}:BR (.int i) (.int j) S=.ok (.int (if j < i then j else i)) S:=rfl
@[simp] theorem yx {i:Int}:pK (.int i) S=.ok (.int i) S:=rfl
@[simp] theorem yV {i:Bool}:pK (.bl i) S=.ok (.int (if i then 1 else 0)) S:=rfl
@[simp] theorem rC {i j:Int}:oJ (.int i) (.int j) S=.ok (.rng i j) S:=rfl
@[simp] theorem IX {xs:List A}{i:Int}:eK (.tup xs) (.int i) S=opt (fL xs i) λ x=>.ok x S:=rfl
@[simp] theorem Iz {xs:List A}{i:Int}:eK (.frz xs) (.int i) S=opt (fL xs i) λ x=>.ok x S:=rfl
@[simp] theorem HF {n:Nat}{i:Int}:eK (.ref n) (.int i) S=opt (ak S n) λ xs=>opt (fL xs i) λ x=>.ok x S:=rfl
@[simp] theorem Dm {n:Nat}{k:Int}:vE (.ref n) (.int k) a S=opt (ak S n) λ xs=>opt (pQ xs.length k) λ j=>.ok () (S.set n (.lst (xs.set j a))):=rfl
@[simp] theorem DW {n:Nat}{i:Int}:Cg (.ref n) (.int i) S=opt (ak S n) λ xs=>gd (0<=i) (opt (xs[i.toNat]?) λ x=>.ok x S):=rfl
theorem qG {i j:Int}(h:rF i j):mP (.rng i j) S=.ok (.ref S.length) (S++[.lst ((bq i j).map .int)]):=dI h
@[simp] theorem An {xs:List A}:mP (.tup xs) S=.ok (.ref S.length) (S++[.lst xs]):=rfl
@[simp] theorem zX {xs:List A}:mP (.frz xs) S=.ok (.ref S.length) (S++[.lst xs]):=rfl
@[simp] theorem yc {n:Nat}:mP (.ref n) S=opt (ak S n) λ xs=>.ok (.ref S.length) (S++[.lst xs]):=rfl
@[simp] theorem vB {xs:List A}:fm (.tup xs) S=.ok (.tup xs) S:=rfl
@[simp] theorem uM {n:Nat}:fm (.ref n) S=opt (ak S n) λ xs=>.ok (.tup xs) S:=rfl
@[simp] theorem D8 {xs:List A}:C_ (.tup xs) S=.ok (.tup xs.reverse) S:=rfl
@[simp] theorem Co {n:Nat}:C_ (.ref n) S=opt (ak S n) λ xs=>.ok (.ref S.length) (S++[.lst xs.reverse]):=rfl
@[simp] theorem Jg {n:Nat}{l u:Option Int}:JJ (.ref n) l u S=opt (ak S n) λ xs=>.ok (.ref S.length) (S++[.lst (jO xs l u)]):=rfl
@[simp] theorem ql {n:Nat}:lK (.ref n) [a] S=opt (ak S n) λ xs=>gd (xs.length < sizeLine) (.ok .non (S.set n (.lst (xs++[a])))):=rfl
@[simp] theorem Cj {b:Bool}:A.LC (.bl b) S=some b:=rfl
@[simp] theorem xK {i:Int}:A.LC (.int i) S=some (i != 0):=rfl
theorem Jv {o:O}:(S++[o])[S.length]?=some o:=by simp
@[simp] theorem aU {xs:List A}:ak (S++[.lst xs]) S.length=some xs:=mH Jv
theorem bL {o:O}{n:Nat}{xs:List A}(h:ak S n=some xs):ak (S++[o]) n=some xs:=by
 have h':=aT h;exact mH (by rw [getElem?_append_left (List.getElem?_eq_some_iff.mp h').1];exact h')
theorem dB {n:Nat}{xs:List A}(h:ak S n=some xs):n < S.length:=(List.getElem?_eq_some_iff.mp (aT h)).1
theorem cJ {n:Nat}{ys:List A}(h:n < S.length):ak (S.set n (.lst ys)) n=some ys:=mH (getElem?_set_self h)
theorem cO {n m:Nat}{ys:List A}(h:n≠m):ak (S.set n (.lst ys)) m=ak S m:=by unfold ak;rw [getElem?_set_ne h]
theorem rQ {xs:List A}{i:Int}{k:Nat}{x:A}(h:i=k)(hx:xs[k]?=some x):fL xs i=some x:=by rw [h];exact GD hx
theorem gP {n:Nat}{i:Int}{k:Nat}(h:i=k)(hk:k < n):pQ n i=some k:=by
 subst h;unfold pQ;rw [if_pos (by omega),if_pos (by omega)];simp
end
structure Kp (b:Nat->Prop)(S S':aE):Prop where
 len:S.length<=S'.length
 obj:∀ (n:Nat) (o:O),¬ b n->S[n]?=some o->S'[n]?=some o
noncomputable abbrev cZ:=Kp λ _=>False
theorem Kp.lst {b:Nat->Prop}{S S':aE}(h:Kp b S S')(n:Nat)(xs:List A)(hb:¬ b n)(e:ak S n=some xs):ak S' n=some xs:=mH (h.obj n _ hb (aT e))
theorem Kp.dct {b:Nat->Prop}{S S':aE}(h:Kp b S S')(n:Nat)(xs:List (List Int×A))(hb:¬ b n)(e:aY S n=some xs):aY S' n=some xs:=mw (h.obj n _ hb (dX e))
theorem Kp.refl {b:Nat->Prop}{S:aE}:Kp b S S:=⟨Nat.le_refl _,λ _ _ _ h=>h⟩
theorem Kp.trans {b:Nat->Prop}{S S1 S2:aE}(h:Kp b S S1)(h':Kp b S1 S2):Kp b S S2:=⟨Nat.le_trans h.len h'.len,λ n xs hb e=>h'.obj n xs hb (h.obj n xs hb e)⟩
theorem tK {S:aE}{n:Nat}{o:O}(e:S[n]?=some o):n < S.length:=(List.getElem?_eq_some_iff.mp e).1
theorem Kp.lay {b:Nat->Prop}{S S1:aE}{o:O}(h:Kp b S S1):Kp b S (S1++[o]):=⟨Nat.le_trans h.len (by simp),λ n xs hb e=>by
 have:=h.obj n xs hb e;rw [getElem?_append_left (tK this)];exact this⟩
theorem Kp.wk {b:Nat->Prop}{S S1:aE}{m:Nat}{o:O}(h:Kp b S S1)(hm:b m\/S.length<=m):Kp b S (S1.set m o):=⟨by rw [length_set];exact h.len,λ n xs hb e=>by
 have:m≠n:=λ z=>by
  subst z
  rcases hm with z | z
  ·exact hb z
  ·exact absurd (tK e) (by omega)
 rw [getElem?_set_ne this];exact h.obj n xs hb e⟩
theorem Kp.set {b:Nat->Prop}{S S1:aE}{m:Nat}{ys:List A}(h:Kp b S S1)(hm:b m\/S.length<=m):Kp b S (S1.set m (.lst ys)):=h.wk hm
theorem Kp.mono {b c:Nat->Prop}{S S1:aE}(h:Kp b S S1)(hb:∀ n,n < S.length->b n->c n):Kp c S S1:=⟨h.len,λ n xs hc e=>h.obj n xs (λ z=>hc (hb n (tK e) z)) e⟩
theorem Kp.of0 {b:Nat->Prop}{S S1:aE}(h:cZ S S1):Kp b S S1:=h.mono λ _ _ z=>z.elim
theorem Kp.old {b c:Nat->Prop}{S S1 S2:aE}(h:Kp b S S1)(h':Kp c S1 S2)(hc:∀ n,n < S.length->¬ b n->¬ c n):Kp b S S2:=⟨Nat.le_trans h.len h'.len,λ n xs hb e=>h'.obj n xs (hc n (tK e) hb) (h.obj n xs hb e)⟩
theorem iX {t:Te}{c:Sm}(Inv:List A->aE->Prop)(μ:List A->aE->Nat)(Post:RS->Prop)
  (h:∀ τ S,Inv τ S->(∃ S1,t τ S=.ok false S1/\Post (.nx τ S1))\/(∃ S1,t τ S=.ok true S1/\((∃ τ' S',c τ S1=.nx τ' S'/\Inv τ' S'/\μ τ' S' < μ τ S)\/(∃ a S',c τ S1=.rt a S'/\Post (.rt a S'))))) :
  ∀ n τ S,Inv τ S->μ τ S < n->Post (dJ t c n τ S)
 | 0,_,_,_,hn=>absurd hn (not_lt_zero _)
 | n+1,τ,S,hi,hn=>by
  unfold dJ
  rcases h τ S hi with ⟨S1,e,q⟩ | ⟨S1,e,⟨τ',S',e2,hi',hm⟩ | ⟨a,S',e2,q⟩⟩
  ·rw [e];exact q
  ·rw [e];show Post (match c τ S1 with
    | .nx τ' S'=>dJ t c n τ' S'
    | .ct τ' S'=>dJ t c n τ' S'
    | .bk τ' S'=>.nx τ' S'
    | r=>r)
   rw [e2];exact iX Inv μ Post h n τ' S' hi' (by omega)
  ·rw [e];show Post (match c τ S1 with
    | .nx τ' S'=>dJ t c n τ' S'
    | .ct τ' S'=>dJ t c n τ' S'
    | .bk τ' S'=>.nx τ' S'
    | r=>r)
   rw [e2];exact q
theorem vX {s:Src}{g:Tg}{c:Sm}(Inv:Nat->List A->aE->Prop)(Post:RS->Prop)
  (step:∀ i τ S,i < s.k->Inv i τ S->∃ x τ1 S1,s.get i S=some x/\g x τ S=.ok τ1 S1/\((∃ τ' S',c τ1 S1=.nx τ' S'/\Inv (i+1) τ' S')\/(∃ a S',c τ1 S1=.rt a S'/\Post (.rt a S'))))
  (fin:∀ τ S,Inv s.k τ S->s.fin S=true/\Post (.nx τ S)):∀ k i τ S,k+i=s.k->Inv i τ S->Post (iF s g c k i τ S)
 | 0,i,τ,S,hk,hi=>by
  have:i=s.k:=by omega
  subst this;obtain ⟨hf,q⟩:=fin τ S hi;unfold iF;rw [if_pos hf];exact q
 | k+1,i,τ,S,hk,hi=>by
  obtain ⟨x,τ1,S1,hx,hg,h⟩:=step i τ S (by omega) hi;unfold iF;rw [hx];show Post (RS.of (g x τ S) λ τ1 S1=>match c τ1 S1 with
   | .nx τ' S'=>iF s g c k (i+1) τ' S'
   | .ct τ' S'=>iF s g c k (i+1) τ' S'
   | .bk τ' S'=>.nx τ' S'
   | r=>r)
  rw [hg];show Post (match c τ1 S1 with
   | .nx τ' S'=>iF s g c k (i+1) τ' S'
   | .ct τ' S'=>iF s g c k (i+1) τ' S'
   | .bk τ' S'=>.nx τ' S'
   | r=>r)
  rcases h with ⟨τ',S',e,hi'⟩ | ⟨a,S',e,q⟩
  ·rw [e];exact vX Inv Post step fin k (i+1) τ' S' (by omega) hi'
  ·rw [e];exact q
theorem eY {lo hi:Int}{j:Nat}{c:Sm}{src:Ic}{τ:List A}{S S1:aE}(hs:src τ S=.ok (cS lo hi) S1)(Inv:Nat->List A->aE->Prop)(Post:RS->Prop)(h0:Inv 0 τ S1)
  (step:∀ (i:Nat) τ S,(i:Int) < hi - lo->Inv i τ S->(∃ τ' S',c (τ.set j (.int (lo+i))) S=.nx τ' S'/\Inv (i+1) τ' S')\/(∃ a S',c (τ.set j (.int (lo+i))) S=.rt a S'/\Post (.rt a S')))
  (fin:∀ τ S,Inv (hi - lo).toNat τ S->Post (.nx τ S)):Post (fH src (bH j) c τ S):=by
 unfold fH;rw [hs];refine vX (s:=cS lo hi) Inv Post (λ i τ S hi' h=>?_) (λ τ S h=>⟨rfl,fin τ S h⟩) _ 0 τ S1 rfl h0;have hi':i < (hi - lo).toNat:=hi';exact ⟨.int (lo+i),_,S,if_pos hi',rfl,step i τ S (by omega) h⟩
theorem rT {n:Nat}{xs:List A}{g:Tg}{c:Sm}{src:Ic}{τ:List A}{S S1:aE}(hs:src τ S=.ok (dF n xs.length) S1)(Inv:Nat->List A->aE->Prop)(Post:RS->Prop)(h0:Inv 0 τ S1)(hl:∀ i τ S,Inv i τ S->ak S n=some xs)
  (step:∀ (i:Nat) x τ S,xs[i]?=some x->Inv i τ S->∃ τ1 S1,g x τ S=.ok τ1 S1/\((∃ τ' S',c τ1 S1=.nx τ' S'/\Inv (i+1) τ' S')\/(∃ a S',c τ1 S1=.rt a S'/\Post (.rt a S'))))
  (fin:∀ τ S,Inv xs.length τ S->Post (.nx τ S)):Post (fH src g c τ S):=by
 unfold fH;rw [hs];refine vX (s:=dF n xs.length) Inv Post (λ i τ S hi' h=>?_) (λ τ S h=>⟨?_,fin τ S h⟩) _ 0 τ S1 rfl h0
 ·have hi':i < xs.length:=hi';obtain ⟨τ1,S1,e,q⟩:=step i xs[i] τ S (List.getElem?_eq_getElem hi') h;exact ⟨xs[i],τ1,S1,by show (ak S n).bind _=_;rw [hl i τ S h];exact List.getElem?_eq_getElem hi',e,q⟩
 ·show (match ak S n with
   | some ys=>decide (ys.length<=xs.length)
   | none=>false)=true
  rw [hl _ τ S h];exact decide_eq_true (Nat.le_refl _)
@[simp] theorem dU {c:Ex}{τ:List A}{S S1:aE}{j:Int}(h:c τ S=.ok (.int j) S1)(hb:bnd j):gO c τ S=.ok (cS 0 j) S1:=by
 unfold gO;rw [h];exact dI hb
theorem jU {c d:Ex}{τ:List A}{S S1 S2:aE}{i j:Int}(h:c τ S=.ok (.int i) S1)(h':d τ S1=.ok (.int j) S2)(hb:bnd i)(hb':bnd j):iB c d τ S=.ok (cS i j) S2:=by
 unfold iB;rw [h];show (d τ S1).bind _=_;rw [h'];exact dI ⟨hb,hb'⟩
theorem rZ {c:Ex}{τ:List A}{S S1:aE}{xs:List A}(h:c τ S=.ok (.tup xs) S1):eT c τ S=.ok (dG xs) S1:=by unfold eT;rw [h];rfl
theorem jz {c:Ex}{τ:List A}{S S1:aE}{n:Nat}{xs:List A}(h:c τ S=.ok (.ref n) S1)(hl:ak S1 n=some xs):eT c τ S=.ok (dF n xs.length) S1:=by
 unfold eT;rw [h];show opt (ak S1 n) _=_;rw [hl];rfl
theorem gf {s:Src}{g:Tg}{t:Te}{e:Ex}{P:aE->Prop}{T:List A->Prop}(it:Nat->A)(p:Nat->Bool)(f:Nat->A)
  (hget:∀ i S,i < s.k->P S->s.get i S=some (it i)) (hfin:∀ S,P S->s.fin S=true)
  (step:∀ i τ S,i < s.k->T τ->P S->∃ τ1 S1 S2,g (it i) τ S=.ok τ1 S1/\t τ1 S1=.ok (p i) S2/\T τ1/\(p i=false->P S2)/\(p i=true->∃ S3,e τ1 S2=.ok (f i) S3/\P S3)) :
  ∀ k i τ S,k+i=s.k->T τ->P S->∃ S',dS s g t e k i τ S=.ok (((List.range' i k).filter p).map f) S'/\P S'
 | 0,i,τ,S,hk,hT,hP=>⟨S,by unfold dS;rw [if_pos (hfin S hP)];rfl,hP⟩
 | k+1,i,τ,S,hk,hT,hP=>by
  obtain ⟨τ1,S1,S2,hg,ht,hT1,hF,hTr⟩:=step i τ S (by omega) hT hP;unfold dS;rw [hget i S (by omega) hP,br,hg,R.cD,ht,R.cD,range'_succ,filter_cons]
  cases hp:p i with
  | false=>
   obtain ⟨S',h1,h2⟩:=gf it p f hget hfin step k (i+1) τ1 S2 (by omega) hT1 (hF hp);exact ⟨S',by simpa using h1,h2⟩
  | true=>
   obtain ⟨S3,he,hP3⟩:=hTr hp;obtain ⟨S',h1,h2⟩:=gf it p f hget hfin step k (i+1) τ1 S3 (by omega) hT1 hP3;refine ⟨S',?_,h2⟩;show (e τ1 S2).cV _=_;rw [he,R.cD,h1];rfl
theorem rJ {s:Src}{cap:List (Option Nat)}{src:Ic}{t:Te}{e:Ex}{τ:List A}{S S1:aE}(hs:src τ S=.ok s S1)(it:Nat->A)(p:Nat->Bool)(f:Nat->A)(hget:∀ i,i < s.k->s.get i S1=some (it i))(hfin:s.fin S1=true)
  (ht:∀ i,i < s.k->t (it i::d8 cap τ) S1=.ok (p i) S1) (he:∀ i,i < s.k->p i=true->e (it i::d8 cap τ) S1=.ok (f i) S1) (hl:s.k<=16777216) :
  bP (none::cap) src (bH 0) t e τ S=.ok (.ref S1.length) (S1++[.lst (((List.range s.k).filter p).map f)]):=by
 unfold bP;rw [hs,R.cI];obtain ⟨S',h1,h2⟩:=gf (s:=s) (g:=bH 0) (t:=t) (e:=e) (P:=λ S=>S=S1) (T:=λ τ'=>∃ y,τ'=y::d8 cap τ) it p f (λ i S hi h=>by subst h;exact hget i hi) (λ S h=>by subst h;exact hfin)
  (λ i τ' S hi ⟨y,hy⟩ h=>by
   subst h hy;exact ⟨it i::d8 cap τ,S,S,rfl,ht i hi,⟨_,rfl⟩,λ _=>rfl,λ hp=>⟨S,he i hi hp,rfl⟩⟩) s.k 0 (d8 (none::cap) τ) S1 rfl ⟨_,rfl⟩ rfl
 subst h2;rw [h1,R.cD,range_eq_range'];refine bW ?_;rw [length_map];refine Nat.le_trans (length_filter_le _ _) ?_;rw [List.length_range'];exact hl
theorem je {α β:Type}(xs:List α)(p:α->Bool)(f:α->β):∀ (d:α) ,(((List.range xs.length).filter λ i=>p (xs.getD i d)).map λ i=>f (xs.getD i d))=(xs.filter p).map f:=by
 intro d
 induction xs with
 | nil=>rfl
 | cons x xs ih=>
  rw [length_cons,List.range_succ_eq_map,filter_cons,filter_cons];have e:((List.filter (λ i=>p ((x::xs).getD i d)) (List.map Nat.succ (List.range xs.length))).map λ i=>f ((x::xs).getD i d))=(xs.filter p).map f:=by
   rw [filter_map,List.map_map];rw [<- ih];rfl
  show List.map _ (if p x=true then _ else _)=List.map f (if p x=true then _ else _);by_cases hp:p x=true
  ·rw [if_pos hp,if_pos hp,map_cons,map_cons,e];rfl
  ·rw [if_neg hp,if_neg hp,e]
theorem vd {xs:List A}{cap:List (Option Nat)}{src:Ic}{t:Te}{e:Ex}{τ:List A}{S S1:aE}(hs:src τ S=.ok (dG xs) S1)(p:A->Bool)(f:A->A)
  (ht:∀ x∈xs,t (x::d8 cap τ) S1=.ok (p x) S1) (he:∀ x∈xs,p x=true->e (x::d8 cap τ) S1=.ok (f x) S1) (hl:xs.length<=16777216) :
  bP (none::cap) src (bH 0) t e τ S=.ok (.ref S1.length) (S1++[.lst ((xs.filter p).map f)]):=by
 have hm:∀ i,i < xs.length->xs.getD i .unb∈xs:=λ i hi=>by
  rw [getD_eq_getElem?_getD,List.getElem?_eq_getElem hi];exact getElem_mem hi
 rw [rJ hs (λ i=>xs.getD i .unb) (λ i=>p (xs.getD i .unb)) (λ i=>f (xs.getD i .unb)) (λ i hi=>by
  have hi:i < xs.length:=hi;show xs[i]?=_;rw [getD_eq_getElem?_getD,List.getElem?_eq_getElem hi];rfl) rfl (λ i hi=>ht _ (hm i hi)) (λ i hi=>he _ (hm i hi)) hl]
 have:=je xs p f .unb;show R.ok _ (S1++[O.lst (((List.range xs.length).filter _).map _)])=_;rw [this]
theorem uL {xs:List A}{cap:List (Option Nat)}{src:Ic}{e:Ex}{τ:List A}{S S1:aE}(hs:src τ S=.ok (dG xs) S1)(f:A->A)
  (he:∀ x∈xs,e (x::d8 cap τ) S1=.ok (f x) S1) (hl:xs.length<=16777216) :
  bP (none::cap) src (bH 0) jN e τ S=.ok (.ref S1.length) (S1++[.lst (xs.map f)]):=by
 rw [vd hs (λ _=>true) f (λ _ _=>rfl) (λ x hx _=>he x hx) hl,List.filter_eq_self.mpr (λ _ _=>rfl)]
theorem Ew {lo hi:Int}{cap:List (Option Nat)}{src:Ic}{t:Te}{e:Ex}{τ:List A}{S S1:aE}(hs:src τ S=.ok (cS lo hi) S1)(p:Int->Bool)(f:Int->A)
  (ht:∀ k,lo<=k->k < hi->t (.int k::d8 cap τ) S1=.ok (p k) S1) (he:∀ k,lo<=k->k < hi->p k=true->e (.int k::d8 cap τ) S1=.ok (f k) S1) (hl:(hi - lo).toNat<=16777216) :
  bP (none::cap) src (bH 0) t e τ S=.ok (.ref S1.length) (S1++[.lst (((bq lo hi).filter p).map f)]):=by
 rw [rJ hs (λ i=>.int (lo+i)) (λ i=>p (lo+i)) (λ i=>f (lo+i)) (λ i hi'=>if_pos hi') rfl (λ i hi'=>ht _ (by omega) (by have:i < (hi - lo).toNat:=hi';omega)) (λ i hi'=>he _ (by omega) (by have:i < (hi - lo).toNat:=hi';omega)) hl];unfold bq;rw [filter_map,List.map_map];rfl
@[simp] theorem BU {cap:List (Option Nat)}{τ:List A}:d8 (none::cap) τ=.unb::d8 cap τ:=rfl
@[simp] theorem Ck {cap:List (Option Nat)}{τ:List A}{j:Nat}:d8 (some j::cap) τ=τ.getD j .unb::d8 cap τ:=rfl
@[simp] theorem uX {τ:List A}:d8 [] τ=[]:=rfl
theorem IV {x:A}{xs:List A}:fL (x::xs) 0=some x:=rQ (k:=0) rfl rfl
theorem Ik {x y:A}{xs:List A}:fL (x::y::xs) 1=some y:=rQ (k:=1) rfl rfl
theorem dH {ns:List Int}{i:Int}{k:Nat}{x:Int}(h:i=k)(hx:ns[k]?=some x):fL (ns.map A.int) i=some (.int x):=rQ h (by rw [List.getElem?_map,hx];rfl)
theorem cK {j:Int}(h:-4611686018427387904<=j)(h':j < 4611686018427387904):bnd j:=⟨by omega,by omega⟩
theorem uz {i j:Int}(h1:-1000000<=i)(h2:i<=1000000)(h3:-1000000<=j)(h4:j<=1000000)(h5:j - i<=1000):rF i j:=⟨⟨by omega,by omega,by omega,by omega⟩,by omega⟩
theorem ints_map:∀ (ns:List Int),A.ints (ns.map .int)=some ns
 | []=>rfl
 | n::ns=>by show (A.ints (ns.map .int)).map (n::·)=_;rw [ints_map ns];rfl
theorem Bu (xs:List A)(j:Nat)(h:j < xs.length):jO xs none (some (j:Int))=xs.take j:=by
 unfold jO;rw [HT.j5,HT.vF,drop_zero,Nat.min_eq_left (by omega),Nat.sub_zero]
theorem Bh (xs:List A)(j:Nat)(h:j < xs.length):jO xs (some ((j:Int)+1)) none=xs.drop (j+1):=by
 unfold jO;rw [show ((j:Int)+1)=((j+1:Nat):Int) by omega,HT.j5,HT.vF,Nat.min_eq_left (by omega)];exact take_of_length_le (by rw [length_drop];exact Nat.le_refl _)
theorem mZ {S:aE}{n:Nat}:∀ (xs ys:List Int),kq (qD S (n+1)) (xs.map .int) (ys.map .int)=some (decide (xs=ys))
 | [],[]=>rfl
 | [],_::_=>rfl
 | _::_,[]=>rfl
 | x::xs,y::ys=>by
  show (qD S (n+1) (.int x) (.int y)).bind _=_;show Option.bind (some (x == y)) _=_;show Option.map _ (kq (qD S (n+1)) (xs.map .int) (ys.map .int))=_;rw [mZ xs ys];show some (x == y && decide (xs=ys))=_;by_cases h1:x=y <;> by_cases h2:xs=ys <;> simp [h1,h2]
theorem lZ {S:aE}{xs ys:List Int}:nN false (.tup (xs.map .int)) (.tup (ys.map .int)) S=.ok (.bl (decide (xs=ys))) S:=by
 unfold nN;show opt (kq (qD S 11) _ _) _=_;rw [mZ];rfl
@[simp] theorem I0 {S:aE}{x y:Bool}:nN false (.bl x) (.bl y) S=.ok (.bl (x == y)) S:=rfl
@[simp] theorem HZ {S:aE}{x y:Bool}:nN true (.bl x) (.bl y) S=.ok (.bl (!(x == y))) S:=rfl
@[simp] theorem HX {S:aE}{x y:Int}:nN false (.int x) (.int y) S=.ok (.bl (x == y)) S:=rfl
@[simp] theorem HD {S:aE}{x y:Int}:nN true (.int x) (.int y) S=.ok (.bl (!(x == y))) S:=rfl
@[simp] theorem yX {S:aE}:wA false .non .non S=.ok (.bl true) S:=rfl
@[simp] theorem yv {S:aE}{xs:List A}:wA false (.tup xs) .non S=.ok (.bl false) S:=rfl
@[simp] theorem yE {S:aE}{n:Nat}:wA false (.ref n) .non S=.ok (.bl false) S:=rfl
@[simp] theorem uR {S:aE}:wA true .non .non S=.ok (.bl false) S:=rfl
@[simp] theorem uc {S:aE}{xs:List A}:wA true (.tup xs) .non S=.ok (.bl true) S:=rfl
@[simp] theorem uY {S:aE}{n:Nat}:wA true (.ref n) .non S=.ok (.bl true) S:=rfl
@[simp] theorem yp {S:aE}{x:A}{c:String}:Es x (.ty c) S=opt (x.kd S) λ k=>opt (w9 k c) λ b=>.ok (.bl b) S:=rfl
@[simp] theorem Iu {S:aE}{b:Bool}:A.kd (.bl b) S=some .bl:=rfl
@[simp] theorem DT {S:aE}{b:Int}:A.kd (.int b) S=some .int:=rfl
@[simp] theorem Ek {S:aE}{b:List A}:A.kd (.tup b) S=some .tup:=rfl
@[simp] theorem Fo {S:aE}:A.kd .non S=some .non:=rfl
@[simp] theorem EL {S:aE}{b:Str}:A.kd (.str b) S=some .str:=rfl
@[simp] theorem B6 {S:aE}{n:Nat}:A.kd (.ref n) S=(ak S n).map λ _=>.lst:=rfl
@[simp] theorem CU {S:aE}:newL [] S=.ok (.ref S.length) (S++[.lst []]):=bW (by simp)
@[simp] theorem Et {S:aE}{x0:A}:newL [x0] S=.ok (.ref S.length) (S++[.lst [x0]]):=bW (by simp)
@[simp] theorem CB {S:aE}{x0 x1:A}:newL [x0,x1] S=.ok (.ref S.length) (S++[.lst [x0,x1]]):=bW (by simp)
@[simp] theorem CN {S:aE}{x0 x1 x2:A}:newL [x0,x1,x2] S=.ok (.ref S.length) (S++[.lst [x0,x1,x2]]):=bW (by simp)
@[simp] theorem DA {S:aE}{x0 x1 x2 x3:A}:newL [x0,x1,x2,x3] S=.ok (.ref S.length) (S++[.lst [x0,x1,x2,x3]]):=bW (by simp)
@[simp] theorem CD {S:aE}{x0 x1 x2 x3 x4:A}:newL [x0,x1,x2,x3,x4] S=.ok (.ref S.length) (S++[.lst [x0,x1,x2,x3,x4]]):=bW (by simp)
@[simp] theorem Ce {S:aE}{x0 x1 x2 x3 x4 x5:A}:newL [x0,x1,x2,x3,x4,x5] S=.ok (.ref S.length) (S++[.lst [x0,x1,x2,x3,x4,x5]]):=bW (by simp)
@[simp] theorem EA {S:aE}{x0 x1 x2 x3 x4 x5 x6:A}:newL [x0,x1,x2,x3,x4,x5,x6] S=.ok (.ref S.length) (S++[.lst [x0,x1,x2,x3,x4,x5,x6]]):=bW (by simp)
@[simp] theorem DN {S:aE}{x0 x1 x2 x3 x4 x5 x6 x7:A}:newL [x0,x1,x2,x3,x4,x5,x6,x7] S=.ok (.ref S.length) (S++[.lst [x0,x1,x2,x3,x4,x5,x6,x7]]):=bW (by simp)
@[simp] theorem B0 {S:aE}{x0 x1 x2 x3 x4 x5 x6 x7 x8:A}:newL [x0,x1,x2,x3,x4,x5,x6,x7,x8] S=.ok (.ref S.length) (S++[.lst [x0,x1,x2,x3,x4,x5,x6,x7,x8]]):=bW (by simp)
@[simp] theorem zo {S:aE}{x0 x1 x2 x3 x4 x5 x6 x7 x8 x9:A}:newL [x0,x1,x2,x3,x4,x5,x6,x7,x8,x9] S=.ok (.ref S.length) (S++[.lst [x0,x1,x2,x3,x4,x5,x6,x7,x8,x9]]):=bW (by simp)
theorem jW {α:Type}{n:Nat}{r:R α}(h:n<=16777216):gd (n<=sizeLine) r=r:=dI (by rw [sizeLine_eq];exact h)
theorem EB {α:Type}{n:Nat}{r:R α}(h:n < 16777216):gd (n < sizeLine) r=r:=dI (by rw [sizeLine_eq];exact h)
theorem IQ {x:A}{xs:List A}:(x::xs).getD 0 .unb=x:=rfl
theorem Jd {x:A}{xs:List A}{n:Nat}:(x::xs).getD (n+1) .unb=xs.getD n .unb:=rfl
theorem Nl {x y:A}{xs:List A}:(x::xs).set 0 y=y::xs:=rfl
theorem sets {x y:A}{xs:List A}{n:Nat}:(x::xs).set (n+1) y=x::xs.set n y:=rfl
theorem rep0 {x:A}:List.replicate 0 x=[]:=rfl
theorem reps {x:A}{n:Nat}:List.replicate (n+1) x=x::List.replicate n x:=rfl
theorem L6 {x:A}{xs ys:List A}:(x::xs)++ys=x::(xs++ys):=rfl
theorem L1 {ys:List A}:[]++ys=ys:=rfl
theorem MP {S:aE}{n m:Nat}{xs ys:List A}(h:ak S n=some xs)(h':ak S m=some ys)(hl:xs.length+ys.length<=16777216):cC (.ref n) (.ref m) S=.ok (.ref S.length) (S++[.lst (xs++ys)]):=by
 show opt (ak S n) _=_;rw [h,br,h',br];exact dI (by rw [sizeLine_eq];exact hl)
theorem bf:type_of% (anI @R.cI (anI @R.yi (anI @R.cD (anI @RS.of_ok (anI @RS.HM (anI @br (anI @zC (anI @yL (anI @xX (anI @xM (anI @yr (anI @EW (anI @yD (anI @zJ (anI @yd (anI @ze (anI @ym (anI @Ie (anI @zT (anI @Eg (anI @z7 (anI @HS (anI @EE (anI @y_ (anI @xN (anI @Dq (anI @Ad (anI @zK (anI @zx (anI @C2 (anI @Fd (anI @yh (anI @C3 (anI @u5 (anI @z8 (anI @Ea (anI @xJ (anI @vJ (anI @xH (anI @yH (anI @uO (anI @D4 (anI @EO (anI @HH (anI @Ii (anI @D0 (anI @uS (anI @zI (anI @vO (anI @Df (anI @zd (anI @lst?_ref (anI @RS.Ec (anI @RS.Fb (anI @RS.DJ (anI @RS.D_ (anI @RS.EU (anI @xT (anI @zY (anI @rA (anI @uG (anI @uU (anI @ye (anI @vQ (anI @CP (anI @xY (anI @Er (anI @Cu (anI @BP (anI @Ca (anI @C9 (anI @Fp (anI @yw (anI @yQ (anI @ve (anI @RS.DY (anI @RS.Dw (anI @RS.Cd (anI @C6 (anI @DS (anI @DO (anI @HA (anI @IJ (anI @Ig (anI @HC (anI @HQ (anI @Dp (anI @EM (anI @EK (anI @Fj (anI @BW (anI @CT (anI @yP (anI @zN (anI @yx (anI @yV (anI @rC (anI @IX (anI @Iz (anI @HF (anI @Dm (anI @DW (anI @An (anI @zX (anI @yc (anI @vB (anI @uM (anI @D8 (anI @Co (anI @Jg (anI @ql (anI @Cj (anI @xK (anI @aU (anI @BU (anI @Ck (anI @uX (anI @I0 (anI @HZ (anI @HX (anI @HD (anI @yX (anI @yv (anI @yE (anI @uR (anI @uc (anI @uY (anI @yp (anI @Iu (anI @DT (anI @Ek (anI @Fo (anI @EL (anI @B6 (anI @CU (anI @Et (anI @CB (anI @CN (anI @DA (anI @CD (anI @Ce (anI @EA (anI @DN (anI @B0 (anI @zo (anI @IQ (anI @Jd (anI @Nl (anI @sets (anI @rep0 (anI @reps (anI @L6 (anI @L1 (anI @oM (anI @ya (anI @B5 (anI @CF (anI @HU (anI @HE (anI @Ed (anI @C1 (anI @qX (anI @tZ (anI @Fe (anI @Av (anI @ES (anI @zl (anI @E2 (anI @Ih (anI @HJ (anI @yZ (anI @yS (anI @Dh (anI @uT (anI @z9 (anI @Dk (anI @E4 (anI @Ct (anI @Ez (@BV)))))))))))))))))))))))))))))))))))))))))))))))))))))))))))))))))))))))))))))))))))))))))))))))))))))))))))))))))))))))))))))))))))))))))))))))))))))))))))))))))))))))))))))))))))):=anI @R.cI (anI @R.yi (anI @R.cD (anI @RS.of_ok (anI @RS.HM (anI @br (anI @zC (anI @yL (anI @xX (anI @xM (anI @yr (anI @EW (anI @yD (anI @zJ (anI @yd (anI @ze (anI @ym (anI @Ie (anI @zT (anI @Eg (anI @z7 (anI @HS (anI @EE (anI @y_ (anI @xN (anI @Dq (anI @Ad (anI @zK (anI @zx (anI @C2 (anI @Fd (anI @yh (anI @C3 (anI @u5 (anI @z8 (anI @Ea (anI @xJ (anI @vJ (anI @xH (anI @yH (anI @uO (anI @D4 (anI @EO (anI @HH (anI @Ii (anI @D0 (anI @uS (anI @zI (anI @vO (anI @Df (anI @zd (anI @lst?_ref (anI @RS.Ec (anI @RS.Fb (anI @RS.DJ (anI @RS.D_ (anI @RS.EU (anI @xT (anI @zY (anI @rA (anI @uG (anI @uU (anI @ye (anI @vQ (anI @CP (anI @xY (anI @Er (anI @Cu (anI @BP (anI @Ca (anI @C9 (anI @Fp (anI @yw (anI @yQ (anI @ve (anI @RS.DY (anI @RS.Dw (anI @RS.Cd (anI @C6 (anI @DS (anI @DO (anI @HA (anI @IJ (anI @Ig (anI @HC (anI @HQ (anI @Dp (anI @EM (anI @EK (anI @Fj (anI @BW (anI @CT (anI @yP (anI @zN (anI @yx (anI @yV (anI @rC (anI @IX (anI @Iz (anI @HF (anI @Dm (anI @DW (anI @An (anI @zX (anI @yc (anI @vB (anI @uM (anI @D8 (anI @Co (anI @Jg (anI @ql (anI @Cj (anI @xK (anI @aU (anI @BU (anI @Ck (anI @uX (anI @I0 (anI @HZ (anI @HX (anI @HD (anI @yX (anI @yv (anI @yE (anI @uR (anI @uc (anI @uY (anI @yp (anI @Iu (anI @DT (anI @Ek (anI @Fo (anI @EL (anI @B6 (anI @CU (anI @Et (anI @CB (anI @CN (anI @DA (anI @CD (anI @Ce (anI @EA (anI @DN (anI @B0 (anI @zo (anI @IQ (anI @Jd (anI @Nl (anI @sets (anI @rep0 (anI @reps (anI @L6 (anI @L1 (anI @oM (anI @ya (anI @B5 (anI @CF (anI @HU (anI @HE (anI @Ed (anI @C1 (anI @qX (anI @tZ (anI @Fe (anI @Av (anI @ES (anI @zl (anI @E2 (anI @Ih (anI @HJ (anI @yZ (anI @yS (anI @Dh (anI @uT (anI @z9 (anI @Dk (anI @E4 (anI @Ct (anI @Ez (@BV)))))))))))))))))))))))))))))))))))))))))))))))))))))))))))))))))))))))))))))))))))))))))))))))))))))))))))))))))))))))))))))))))))))))))))))))))))))))))))))))))))))))))))))))))))
theorem bools:(∀ b:Bool,cond false b b=b)/\(∀ (α:Type) (x y:α),cond false x y=y)/\(∀ (α:Type) (x y:α),cond true x y=x):=⟨λ _=>rfl,λ _ _ _=>rfl,λ _ _ _=>rfl⟩
theorem fJ:(∀ (x:Str) (xs:List Str),(x::xs).length=xs.length+1)/\([]:List Str).length=0/\(∀ (x:A) (xs:List A),(x::xs).length=xs.length+1)/\([]:List A).length=0:=⟨λ _ _=>rfl,rfl,λ _ _=>rfl,rfl⟩
section
variable {τ:List A} {S:aE}
theorem Ah {f:List A->aE->R A}{d:jB}:OP f d τ S=(d τ S).bind f:=rfl
noncomputable def Pw (c:Str):Unit->aE->RS:=λ _ S1=>.ex c S1
theorem CI {c:Str}{u:Unit}:Pw c u S=.ex c S:=rfl
theorem qP {c:Str}{ps:List (Str ⊕ Ex)}:KW c ps τ S=RS.of (GS ps τ S) (Pw c):=rfl
theorem zS:GS [] τ S=.ok () S:=rfl
theorem zE {x:Str}{ps:List (Str ⊕ Ex)}:GS (.inl x::ps) τ S=GS ps τ S:=rfl
noncomputable def P7 (ps:List (Str ⊕ Ex))(τ:List A):A->aE->R Unit:=λ v S1=>match v with
 | .int i=>gd (i.natAbs.log2 < 64) (GS ps τ S1)
 | _=>.no
theorem xP {e:Ex}{ps:List (Str ⊕ Ex)}:GS (.inr e::ps) τ S=(e τ S).bind (P7 ps τ):=rfl
noncomputable def RS.try (i n:Nat)(cs:List Str)(d:Sm):RS->RS
 | .ex x S1=>if x∈cs then IU i (d ((List.replicate n .unb).set i (.exn x)) S1) else .no
 | r=>r
theorem zM {i n:Nat}{cs:List Str}{c d:Sm}:M9 i n cs c d τ S=RS.try i n cs d (c τ S):=by
 unfold M9 RS.try;cases c τ S <;> rfl
theorem C4 {i n:Nat}{cs:List Str}{d:Sm}:RS.try i n cs d (.nx τ S)=.nx τ S:=rfl
theorem D9 {i n:Nat}{cs:List Str}{d:Sm}{a:A}:RS.try i n cs d (.rt a S)=.rt a S:=rfl
theorem D7 {i n:Nat}{x:Str}{cs:List Str}{d:Sm}:RS.try i n (x::cs) d (.ex x S)=IU i (d ((List.replicate n .unb).set i (.exn x)) S):=if_pos (.head _)
theorem DF {i:Nat}{a:A}:IU i (.rt a S)=.rt a S:=rfl
theorem Ci {i:Nat}:IU i (.nx τ S)=.nx (τ.set i .unb) S:=rfl
noncomputable def MG (f:Str->Option Bool):A->aE->R A:=λ v S1=>match v with
 | .exn x=>opt (f x) λ b=>.ok (.bl b) S1
 | _=>.no
theorem zh {f:Str->Option Bool}{c:Ex}:O1 f c τ S=(c τ S).bind (MG f):=rfl
theorem Cn {x:Str}{b:Bool}{tb:List (Str×Bool)}:MG (PR ((x,b)::tb)) (.exn x) S=.ok (.bl b) S:=by
 show opt (List.lookup x ((x,b)::tb)) _=_;rw [lookup_cons,beq_self_eq_true];rfl
noncomputable def R.Dj {α β:Type}(r:R α)(f:α->aE->R β):R β:=match r with
 | .ok a S=>f a S
 | _=>.no
theorem t9 {α β:Type}{a:α}{f:α->aE->R β}:R.Dj (.ok a S) f=f a S:=rfl
theorem y9 {f:List A->aE->R A}{d:jB}:NO f d τ S=R.Dj (d τ S) f:=by unfold NO R.Dj;cases d τ S <;> rfl
noncomputable def RS.O3 {α:Type}(r:R α)(f:α->aE->RS):RS:=match r with
 | .ok a S=>f a S
 | _=>.no
theorem Cz {α:Type}{a:α}{f:α->aE->RS}:RS.O3 (.ok a S) f=f a S:=rfl
theorem zu {t:Te}{c d:Sm}:MD t c d τ S=RS.O3 (t τ S) (NW c d τ):=by
 unfold MD RS.O3
 cases t τ S with
 | ok b S1=>cases b <;> rfl
 | ex _ _=>rfl
 | no=>rfl
noncomputable def RS.Dt (i:Nat)(cs:List Str)(d:Sm)(τ:List A):RS->RS
 | .ex x S1=>if x∈cs then IU i (d (τ.set i (.exn x)) S1) else .no
 | r=>r
theorem uy {i:Nat}{cs:List Str}{c d:Sm}:IF i cs c d τ S=RS.Dt i cs d τ (c τ S):=by
 unfold IF RS.Dt;cases c τ S <;> rfl
theorem zH {i:Nat}{cs:List Str}{d:Sm}{τ':List A}:RS.Dt i cs d τ (.nx τ' S)=.nx τ' S:=rfl
theorem yz {i:Nat}{cs:List Str}{d:Sm}{a:A}:RS.Dt i cs d τ (.rt a S)=.rt a S:=rfl
theorem Ao {i:Nat}{x:Str}{cs:List Str}{d:Sm}:RS.Dt i (x::cs) d τ (.ex x S)=IU i (d (τ.set i (.exn x)) S):=if_pos (.head _)
theorem vC:A.BE []=some []:=rfl
theorem m_ {b:Bool}{xs:List A}:A.BE (.bl b::xs)=(A.BE xs).map (b::·):=rfl
end
theorem vR:type_of% (anI @Ah (anI @qP (anI @CI (anI @zS (anI @zE (anI @xP (anI @zM (anI @C4 (anI @D9 (anI @D7 (anI @DF (anI @Ci (anI @zh (anI @Cn (anI @vC (anI @m_ (anI @t9 (anI @y9 (anI @Cz (anI @zu (anI @uy (anI @zH (anI @yz (anI @Ao (trivial))))))))))))))))))))))))):=anI @Ah (anI @qP (anI @CI (anI @zS (anI @zE (anI @xP (anI @zM (anI @C4 (anI @D9 (anI @D7 (anI @DF (anI @Ci (anI @zh (anI @Cn (anI @vC (anI @m_ (anI @t9 (anI @y9 (anI @Cz (anI @zu (anI @uy (anI @zH (anI @yz (anI @Ao (trivial))))))))))))))))))))))))
end Am
namespace L2
open PySem PySem.Spec PyProof.Rows
section
variable {P:Program} {w:World} {A:Around} {E:Value->Shared->Prop} {s:Shared} {it d:Addr} {i ep:Nat} {es:Array DictEntry} {o:Obj}
theorem D3 {Q:Option Value->Shared->Prop}(hi:s.heap.IsKeyIter it d i es.size ep)(ho:s.heap.get? d=some o)(hd:o.data=.dict es ep)(lt:i < es.size)
  (q:∀ h',h'.IsKeyIter it d (i+1) es.size ep->Heap.SameBut it s.heap h'->Q (some es[i].key) { s with heap:=h' }):wpAny (model P w) A (pyNext (.ref it)) Q E s:=by
 have ty:=hi.typeIs;obtain ⟨oi,hoi,hci,hdi⟩:=id hi;have own:Builtin.Dict_items.ownsTuple "dict_keyiterator" = false:=by decide
 have nn:¬ ((Value.ref d == Value.none)=true):=Bool.false_ne_true;have n0:¬ ((i:Int) < 0):=by omega
 unfold pyNext;refine wpAny_bind (wpAny_attempt (wpAny_callSpecial?_slot (name:=Str.ofString "__next__") ty PySem.F.slot_dict_keyiterator_next (wpAny_call_entry PySem.F.slot_dict_keyiterator_next ty PySem.F.entry_dict_keyiterator_next ?_ (PySem.F.args_dict_keyiterator_next_1 _))));refine wpAny_bind (wpAny_pure (wpAny_bind (wpAny_bind ?_)))
 first
  | refine wpAny_bind (wpAny_typeNameOfWhole_keyiter ty (wpAny_pure (wpAny_bind (wpAny_fieldsOf hoi hdi ?_))))
  | refine wpAny_bind (wpAny_typeNameOf_keyiter ty (wpAny_pure (wpAny_bind (wpAny_fieldsOf hoi hdi ?_))))
 simp only [own,if_false,false_eq_true];show wpAny (model P w) _ (if (Value.ref d == Value.none)=true then _ else _) _ _ s;rw [if_neg nn];refine wpAny_bind (wpAny_pure (wpAny_bind (wpAny_dictEntries ho hd ?_)));rw [if_neg (show ¬ _ by simp)];refine wpAny_bind (wpAny_pure (wpAny_bind (wpAny_dictEpoch ho hd ?_)));rw [if_neg (show ¬ _ by simp)];refine wpAny_pure ?_;simp only [n0,if_false,toNat_natCast,Array.getElem?_eq_getElem lt];refine wpAny_bind ?_
 first
  | refine wpAny_bind (wpAny_typeNameOfWhole_keyiter ty (wpAny_pure (wpAny_bind (wpAny_isOneOf_keyiter ty ?_))))
  | refine wpAny_bind (wpAny_typeNameOf_keyiter ty (wpAny_pure (wpAny_bind (wpAny_isOneOf_keyiter ty ?_))))
 show wpAny (model P w) _ (setField (.ref it) 1 (rawInt ((i:Int)+1)) >>= _) _ _ s;refine wpAny_bind (wpAny_setField hoi hdi (show _ by simp) ?_);have hi':(s.heap.update it (Obj.mapFields λ fs=>fs.setIfInBounds 1 (rawInt ((i:Int)+1)))).IsKeyIter it d (i+1) es.size ep:=
  ⟨_,Heap.get?_update_self _ hoi (Obj.isFreed_of_fields (Obj.data_mapFields hdi _)),(Obj.cls_mapFields ..).trans hci,by
   rw [Obj.data_mapFields hdi];simp [rawInt]⟩
 have ty':Shared.TypeIs { s with heap:=s.heap.update it (Obj.mapFields λ fs=>fs.setIfInBounds 1 (rawInt ((i:Int)+1))) } (.ref it) "dict_keyiterator" := Heap.IsKeyIter.typeIs (s:={ s with heap:=_ }) hi';refine wpAny_bind (wpAny_holding (wpAny_bind (wpAny_isOneOf_keyiter ty' ?_)));show wpAny (model P w) _ (pure es[i].key) _ _ _;exact wpAny_pure (wpAny_pure ⟨_,rfl,wpAny_pure (q _ hi' (Heap.SameBut.update ..))⟩)
theorem xZ {Q:Option Value->Shared->Prop}(hh:A.handled=none)(hi:s.heap.IsKeyIter it d i es.size ep)(ho:s.heap.get? d=some o)(hd:o.data=.dict es ep)(ge:es.size<=i)
  (q:∀ h',Heap.ExtBut it s.heap h'->Q none { s with heap:=h' }):wpAny (model P w) A (pyNext (.ref it)) Q E s:=by
 have ty:=hi.typeIs;obtain ⟨oi,hoi,hci,hdi⟩:=id hi;have own:Builtin.Dict_items.ownsTuple "dict_keyiterator" = false:=by decide
 have nn:¬ ((Value.ref d == Value.none)=true):=Bool.false_ne_true;have n0:¬ ((i:Int) < 0):=by omega
 unfold pyNext;refine wpAny_bind (wpAny_attempt (wpAny_callSpecial?_slot (name:=Str.ofString "__next__") ty PySem.F.slot_dict_keyiterator_next (wpAny_call_entry PySem.F.slot_dict_keyiterator_next ty PySem.F.entry_dict_keyiterator_next ?_ (PySem.F.args_dict_keyiterator_next_1 _))));refine wpAny_bind (wpAny_pure (wpAny_bind (wpAny_bind ?_)))
 first
  | refine wpAny_bind (wpAny_typeNameOfWhole_keyiter ty (wpAny_pure (wpAny_bind (wpAny_fieldsOf hoi hdi ?_))))
  | refine wpAny_bind (wpAny_typeNameOf_keyiter ty (wpAny_pure (wpAny_bind (wpAny_fieldsOf hoi hdi ?_))))
 simp only [own,if_false,false_eq_true];show wpAny (model P w) _ (if (Value.ref d == Value.none)=true then _ else _) _ _ s;rw [if_neg nn];refine wpAny_bind (wpAny_pure (wpAny_bind (wpAny_dictEntries ho hd ?_)));rw [if_neg (show ¬ _ by simp)];refine wpAny_bind (wpAny_pure (wpAny_bind (wpAny_dictEpoch ho hd ?_)));rw [if_neg (show ¬ _ by simp)];refine wpAny_pure ?_;simp only [n0,if_false,toNat_natCast,Array.getElem?_eq_none ge];refine wpAny_bind ?_
 first
  | refine wpAny_bind (wpAny_typeNameOfWhole_keyiter ty (wpAny_pure ?_))
  | refine wpAny_bind (wpAny_typeNameOf_keyiter ty (wpAny_pure ?_))
 show wpAny (model P w) _ (setField (.ref it) 0 .none >>= _) _ _ s;refine wpAny_bind (wpAny_setField hoi hdi (show _ by simp) ?_);show wpAny (model P w) _ (newExc (.type "StopIteration") [] >>= _) _ _ _;refine wpAny_bind ?_;simp only [newExc,newTuple];refine wpAny_bind (wpAny_newObj_type (wpAny_bind (m:=firstArgMember _ _) (wpAny_of_eq (a:=Value.none) (by first | rfl | (simp only [firstArgMember];rfl)) (wpAny_newObj_type ?_ (by size_fits)))) (by size_fits));simp only [raiseNew];have hn:A.in1.handled=none:=hh;refine wpAny_bind (wpAny_handled (?_));rw [hn];refine wpAny_bind (wpAny_pure (wpAny_throw (?_)));refine wpAny_bind (wpAny_isInstance (b:=true) (T := "StopIteration") ⟨_,get?_push_size _ rfl,rfl⟩ isSubtype_stop (wpAny_pure (q _ (((Heap.SameBut.update ..).extBut.push _).push _))))
theorem oU {Q:Value->Shared->Prop}(ty:s.TypeIs (.ref d) "dict")(hs:(d == sysModules)=false)(ho:s.heap.get? d=some o)(hd:o.data=.dict es ep)
  (q:Q (.ref s.heap.objs.size) { s with heap:=s.heap.push { cls:=.type "dict_keyiterator",data:=.fields #[.ref d,.int 0 0,.int es.size 0,.int ep 0] } }):wpAny (model P w) A (pyIter (.ref d)) Q E s:=by
 refine wpAny_pyIter_slot ty PySem.F.slot_dict_iter (wpAny_call_entry PySem.F.slot_dict_iter ty PySem.F.entry_dict_iter ?_ (PySem.F.args_dict_iter_1 _));delta Builtin.«dict.__iter__»;refine wpAny_bind ?_;delta Builtin.Dict.dictSlotNone;refine wpAny_bind (wpAny_notOrdered_dict ty ?_);show wpAny (model P w) _ (pure (Value.ref d)) _ _ s;refine wpAny_pure ?_;show wpAny (model P w) _ (Builtin.Dict.showsAll d >>= _) _ _ s;delta Builtin.Dict.showsAll;have nd:¬ ((d == sysModules)=true):=by rw [hs];exact Bool.false_ne_true
 rw [if_neg nd];refine wpAny_bind (wpAny_pure (wpAny_bind (wpAny_dictEntries ho hd (wpAny_bind (wpAny_dictEpoch ho hd ?_)))));refine wpAny_bind (wpAny_newObj_type (wpAny_pure ⟨_,rfl, "dict_keyiterator",_,⟨_,get?_push_size _ rfl,rfl⟩,PySem.F.slot_dict_keyiterator_next.lookup,?_⟩));simpa [rawInt] using q
end
section
variable {P:Program} {w:World}
theorem A2 {A:Around}(hh:A.handled=none)(it d:Addr)(ne:d≠it){es:Array DictEntry}{ep:Nat}{o:Obj}(hd:o.data=.dict es ep) :
  Walks P w A it [it,d] [it] es.size (λ i v=>(es[i]?).map (λ e=>e.key)=some v) (λ i h=>h.IsKeyIter it d i es.size ep/\h.get? d=some o) where
 sub:=λ b hb=>by
  rw [mem_singleton.mp hb];exact mem_cons_self ..
 frame:=λ _ _ _ st hk=>⟨st.1.at λ x e=>hk it (mem_cons_self ..) x e,hk d (mem_cons_of_mem _ (mem_cons_self ..)) o st.2⟩
 item:=λ i s Q E lt st q=>D3 st.1 st.2 hd lt λ h' k1 k2=>q _ h' s.toks (by rw [Array.getElem?_eq_getElem lt];rfl) ⟨k1,k2.extBut d o ne st.2⟩ λ b x nb e=>k2.extBut b x (λ z=>nb (mem_singleton.mpr z)) e
 done:=λ s Q E st q=>xZ hh st.1 st.2 hd (Nat.le_refl _) λ h' k=>q h' s.toks λ b x nb e=>k b x (λ z=>nb (mem_singleton.mpr z)) e
 self:=λ _ _ _ _ st q=>wpAny_pyIter_keyiter st.1 q
theorem GO {d:Addr}{es:Array DictEntry}{ep:Nat}{o:Obj}(hs:(d == sysModules)=false)(hc:o.cls=.type "dict")(hd:o.data=.dict es ep) :
  PySem.W.KdlSrc P w "dict" d d es.size (λ i v=>(es[i]?).map (λ e=>e.key)=some v) (λ h=>h.get? d=some o) where
 type:=λ _ hm=>⟨o,hm,hc⟩
 there:=λ _ hm=>⟨lt_size hm,lt_size hm⟩
 keep:=λ _ _ hm hk=>hk d (.inl rfl) o hm
 notList:=by decide
 notTuple:=by decide
 hint:=λ _ _ _ _ hm hq=>PySem.W.kdl_hint_dict ⟨o,hm,hc⟩ hq
 iter:=λ _ s hh hm=>⟨_,_,(λ _ _ hq=>oU ⟨o,hm,hc⟩ hs hm hd hq),A2 hh _ d (ne_of_lt (lt_size hm)) hd,⟨⟨_,get?_push_size _ rfl,rfl,rfl⟩,get?_push_of_some _ hm⟩⟩
end
section
variable {X:Cx}
theorem BQ {pins:List (Addr×Obj)}{σ:St}{H:Hp}{s:Shared}{d:Addr}{kvs:List (List Key×V)}(I:Inv X pins σ H s)(ed:H d=some (.dT kvs)) :
  ∃ (ob:Obj) (es:Array DictEntry) (ep:Nat) (rs:List Addr),s.heap.get? d=some ob/\ob.cls=.type "dict" /\ ob.data=.dict es ep/\(d == sysModules)=false/\kvs.length<=sizeLine/\rs.length=kvs.length/\es.size=kvs.length /\
   (∀ i:Nat,(es[i]?).map (λ e:DictEntry=>e.key)=(rs[i]?).map Value.ref)/\∀ (i:Nat) r p,rs[i]?=some r->kvs[i]?=some p->H r=some (.tup (p.1.map kV)):=by
 obtain ⟨z,hd,xs,rel,dd⟩:=uN I.hok ed;obtain ⟨ob,es,ep,g1,g2,g3,g4,g5,g6⟩:=id dd;obtain ⟨kl,kt⟩:=kt_at rel;have hes:es.size=xs.length:=by have:=congrArg List.length g4;simpa using this
 refine ⟨ob,es,ep,xs.map λ y=>y.2.1,g1,g2.1,g3,hd,z,by rw [length_map,kl],by rw [hes,kl],λ i=>?_,λ i r p e1 e2=>?_⟩
 ·rw [<- getElem?_toList,g4,List.getElem?_map,List.getElem?_map,Option.map_map,Option.map_map]
  cases xs[i]? <;> rfl
 ·obtain ⟨y,h1,h2,h3,h4⟩:=kt i p e2;rw [List.getElem?_map,h1] at e1
  cases e1
  exact h3
theorem r6 (hc:X.calm=true):bB X (.builtin "sorted") (λ xs H Q=>∃ (d:Addr) (kvs:List (List Key×V)) (kss:List (List Int)),xs=[.ref d]/\H d=some (.dT kvs)/\kvs.map (λ p=>p.1)=kss.map (λ ks=>ks.map Sum.inl)/\(∀ ks∈kss,ks≠[]) /\
  ∀ (rs:List Addr) l g,rs.length=kss.length->(∀ (i:Nat) (r:Addr) (ks:List Int),rs[i]?=some r->kss[i]?=some ks->H r=some (.tup (ks.map V.int)))->H l=none->Sx.Cl g 0 kss.length->Sx.So (Sx.A3 kss) g 0 kss.length ->
   Q (.ref l) (upd H l (.lst (((List.range kss.length).map λ i=>rs.getD (g i) 0).map V.ref)))):=by
 intro pins s σ H xs us Q I r h;obtain ⟨d,kvs,kss,rfl,ed,ek,hne,q⟩:=h;obtain ⟨u,rfl,rx⟩:=vals1 r
 cases rx
 obtain ⟨ob,es,ep,rs,g1,g2,g3,g4,g5,g6,g7,g8,g9⟩:=BQ I ed;have kl:kvs.length=kss.length:=by have:=congrArg List.length ek;simpa using this
 have tp:∀ (i:Nat) (r:Addr) (ks:List Int),rs[i]?=some r->kss[i]?=some ks->H r=some (.tup (ks.map V.int)):=λ i r ks e1 e2=>by
  have lt:i < kvs.length:=by rw [kl];exact (List.getElem?_eq_some_iff.mp e2).1
  have h1:=g9 i r kvs[i] e1 (List.getElem?_eq_getElem lt);have h2:(kvs.map (λ p=>p.1))[i]?=(kss.map (λ ks=>ks.map Sum.inl))[i]?:=by rw [ek]
  rw [List.getElem?_map,List.getElem?_map,e2,List.getElem?_eq_getElem lt] at h2;have h3:kvs[i].1=ks.map Sum.inl:=Option.some.inj h2;rw [h3,List.map_map] at h1;exact h1
 refine Calls.call_function_entry kind_sorted plain_sorted entry_sorted (args_sorted1 _) ?_;unfold Builtin.«sorted»;refine wpAny_bind (m:=checkCount "sorted" 1 1 _) (wpAny_pure ?_);refine wpAny_bind (PySem.W.kdu_collect (GO g4 g2 g3) (show X.A.in1.handled=none from I.ok.hd hc) g1 (by rw [g7];exact g5) λ h' tk acc hk hacc=>?_);have ea:acc.toList=rs.map Value.ref:=by
  refine List.ext_getElem? λ j=>?_;rw [getElem?_toList,List.getElem?_map,<- g8 j]
  cases e:acc[j]? with
  | some v=>exact (hacc.2 j v e).symm
  | none=>
   have:acc.size<=j:=Array.getElem?_eq_none_iff.mp e;rw [Array.getElem?_eq_none (by rw [<- hacc.1];exact this)];rfl
 rw [ea];exact qY (s:=s) (I.kept (t':=tk) hk) (by rw [g6,kl]) (by rw [g6];exact g5) (λ i r ks e1 e2=>⟨fS.of (tp i r ks e1 e2),hne ks (mem_of_getElem? e2)⟩) λ l g h1 h2 h3=>q rs l g (by rw [g6,kl]) tp h1 h2 h3
noncomputable def Ob (d:Addr)(o:Obj)(u:HO)(rs:List Addr):It:=
 ⟨λ i H=>(∃ a,rs[i]?=some a)/\H d=some (.frz o u),λ i H x H'=>H'=H/\∀ a,rs[i]?=some a->x=.ref a,λ i H=>i=rs.length/\H d=some (.frz o u)⟩
theorem Bc {P:Program}{w:World}{K:PySem.W.Frag}{tg:Expr}(d it:Addr){o:Obj}{u:HO}{es:Array DictEntry}{ep:Nat}{rs:List Addr}(hd:o.data=.dict es ep)(hl:es.size=rs.length)
  (hk:∀ i:Nat,(es[i]?).map (λ e:DictEntry=>e.key)=(rs[i]?).map Value.ref):Turn P w K tg (Ob d o u rs) [it] it (λ i h=>h.IsKeyIter it d i es.size ep) where
 mem:=mem_cons_self ..
 obj:=λ i h st b hb=>by
  have:b=it:=by simpa using hb
  subst this;obtain ⟨ob,h1,h2,h3⟩:=st;exact ⟨ob,h1,λ v z=>by rw [h3] at z;cases z⟩
 keep:=λ i h h' st k=>st.at λ x e=>k it (mem_cons_self ..) x e
 item:=by
  intro X hP hw hK hc i pins s σ H E I hf st hg;subst hP hw hK;obtain ⟨⟨a,ha⟩,hq⟩:=hg;have ho:s.heap.get? d=some o:=(show b_ _ _ H s.heap d (.frz o u) from I.hok d _ hq).1;have lt:i < es.size:=by rw [hl];exact (List.getElem?_eq_some_iff.mp ha).1
  have ek:es[i].key=.ref a:=by
   have:=hk i;rw [Array.getElem?_eq_getElem lt,ha] at this;exact Option.some.inj this
  obtain ⟨f0,f1,f2,f3,f4,f5⟩:=hf it (mem_cons_self ..);refine D3 st ho hd lt λ h' st' sb=>?_;have I1:Inv X pins σ H { s with heap:=h' }:=I.turned (t':=s.toks) (λ b x hb e=>sb.extBut b x hb e) f0 f1 f3 f4 f5;obtain ⟨oi,e,c,dd⟩:=id st';rw [ek];exact ⟨_,rfl,vP (s:={ s with heap:=h' }) e c dd (by decide) ⟨.ref a,H,I1,rfl,⟨rfl,λ b hb=>by rw [ha] at hb;cases hb;rfl⟩,st',λ b hb=>(hf b hb).1⟩⟩
 done:=by
  intro X hP hw hK hc i pins s σ H E I hf st hg;subst hP hw hK;obtain ⟨hi,hq⟩:=hg;have ho:s.heap.get? d=some o:=(show b_ _ _ H s.heap d (.frz o u) from I.hok d _ hq).1;obtain ⟨f0,f1,f2,f3,f4,f5⟩:=hf it (mem_cons_self ..);exact xZ (I.ok.hd hc) st ho hd (by omega) λ h' hx=>⟨rfl,I.turned (t':=s.toks) (λ b x hb e=>hx b x hb e) f0 f1 f3 f4 f5⟩
 self:=λ _ _ _ _ _ st q=>wpAny_pyIter_keyiter st q
noncomputable def Nx (to:TE):TI:=λ σ H R=>to σ H λ x H1=>∃ d kvs,x=.ref d/\H1 d=some (.dT kvs)/\∀ (o:Obj) (rs:List Addr),rs.length=kvs.length->(∀ (i:Nat) r p,rs[i]?=some r->kvs[i]?=some p->H1 r=some (.tup (p.1.map kV)))->R (Ob d o (.dT kvs) rs) (upd H1 d (.frz o (.dT kvs)))
theorem FQ {tg e:Expr}{to:TE}(he:PE X e to):PI X tg e (Nx to):=by
 intro pins s σ H R I h;refine cj (he pins s σ H _ I h) λ v s1 h9=>?_;obtain ⟨x,H1,I1,r1,d,kvs,ex,ed,q1⟩:=h9;subst ex
 cases r1
 obtain ⟨z,hd,xs,rel,dd⟩:=uN I1.hok ed;obtain ⟨ob',es',ep',k1,k2,k3,k4,_,k6⟩:=id dd;obtain ⟨ob,es,ep,rs,g1,g2,g3,g4,g5,g6,g7,g8,g9⟩:=BQ I1 ed;have eo:ob'=ob:=by rw [g1] at k1;exact (Option.some.inj k1).symm
 subst eo;refine oU ⟨_,g1,g2⟩ g4 g1 g3 ?_;have I2:Inv X pins σ H1 { s1 with heap:=s1.heap.push { cls:=.type "dict_keyiterator",data:=.fields #[.ref d,.int 0 0,.int es.size 0,.int ep 0] } }:=
  I1.kept (t':=s1.toks) λ b o eb=>get?_push_of_some _ eb
 have hnd:∀ b ys,H1 b=some (.tup ys)->upd H1 d (.frz ob' (.dT kvs)) b=some (.tup ys):=λ b ys eb=>by
  rw [aN (Ae eb ed (λ z=>nomatch z))];exact eb
 have I3:Inv X pins σ (upd H1 d (.frz ob' (.dT kvs))) _:=lY (t':=s1.toks) (ob:=.frz ob' (.dT kvs)) I2 (by rw [ed];exact True.intro) ⟨rfl,λ _ _=>rfl⟩ ⟨ob',get?_push_of_some _ g1⟩ ⟨get?_push_of_some _ g1,z,hd,xs,rel.keeps hnd,ob',es',ep',get?_push_of_some _ g1,k2,k3,k4,k6⟩;refine ⟨s1.heap.objs.size,[s1.heap.objs.size],_,Ob d ob' (.dT kvs) rs,_,rfl,I3,Bc d _ g3 (by rw [g7,g6]) g8,⟨_,get?_push_size _ rfl,rfl,rfl⟩,λ b hb=>?_,q1 ob' rs g6 g9⟩;have eb:b=s1.heap.objs.size:=by simpa using hb
 subst eb;refine I1.wZ (Nat.le_refl _) ?_;rw [aN (Ne.symm (ne_of_lt (lt_size g1)))];exact I1.hok.fresh (Nat.le_refl _)
end
end L2
namespace Am
open PySem PySem.Spec PyProof.Rows L2
section
variable {X:Cx}
noncomputable def NY (p:List Int×A):A:=.tup (p.1.map .int)
noncomputable def OU (a:A)(S:aE):R Src:=match a with
 | .ref n=>opt (aY S n) λ kvs=>.ok (dG (kvs.map NY)) (S.set n (.ins "" []))
 | _=>.no
noncomputable def DC (c:Ex):Ic:=λ τ S=>(c τ S).bind λ a S1=>OU a S1
theorem Hu {tg e:Expr}{c:Ex}(ha:AE X e c):AI X tg e (DC c):=λ pins s σ H Q I h9=>by
 obtain ⟨ρ,S,τ,R,r,h⟩:=h9;refine FQ ha pins s σ H Q I ⟨ρ,S,τ,R,r,aF (aK h) .refl λ x S1 h1 ρ1 H1 v e1 R1 v1=>?_⟩
 cases v1 with
 | @ref p n hp=>
  obtain ⟨kvs,hn,h1⟩:=aM h1;obtain ⟨ks,g1,dv⟩:=R1.dct hp (dX hn);refine ⟨p,ks,rfl,g1,λ o rs pl pat=>?_⟩;obtain ⟨ex,R2⟩:=R1.gone (o:=o) (u:=.dT ks) hp (dX hn);have dl:=dv.length;refine h1 ρ1 _ _ (e1.trans ex) R2 ⟨λ i S2 H2 ρ2 y e2 R3 g=>?_,λ S2 H2 ρ2 e2 R3 _=>⟨?_,e2.im _ _ trivial bF⟩⟩
  ·have g:(kvs.map NY)[i]?=some y:=g;rw [List.getElem?_map] at g;obtain ⟨kv,hk,rfl⟩:=map_eq_some_iff.mp g;obtain ⟨q,hq,q1,q2⟩:=EF dv hk;have hi:i < rs.length:=by rw [pl];exact (List.getElem?_eq_some_iff.mp hq).1
   have e4:=pat i rs[i] q (List.getElem?_eq_getElem hi) hq;refine ⟨⟨⟨rs[i],List.getElem?_eq_getElem hi⟩,e2.im _ _ trivial bF⟩,λ w' H' qq=>?_⟩;obtain ⟨rfl,hz⟩:=qq;have hz':=hz _ (List.getElem?_eq_getElem hi);subst hz';have ka:H' rs[i]=some (.tup (q.1.map kV)):=e2.im _ _ trivial (ex.toExt0.im _ _ trivial e4);rw [q1,oz] at ka;exact ⟨.refl,R3,.tup ka (fQ _)⟩
  ·show (kvs.map NY).length=rs.length;rw [length_map,dl,pl]
 | _=>exact h1.elim
noncomputable def JM (n:Nat)(S:aE):R A:=opt (aY S n) λ kvs=>match (kvs.map Prod.fst).all (λ ks=>!ks.isEmpty) with
 | true=>.ok (.ref S.length) (S++[.lst ((dR (kvs.map Prod.fst)).map λ ks=>.tup (ks.map .int))])
 | false=>.no
noncomputable def rR (x:A)(S:aE):R A:=match x with
 | .ref n=>JM n S
 | _=>.no
theorem yM {K:PySem.W.Frag}{ρ:List Addr}{H:Hp}:∀ {kvs:List (List Int×A)} {ks:List (List Key×V)},DV K ρ H kvs ks->ks.map (λ p=>p.1)=(kvs.map Prod.fst).map (λ ks=>ks.map Sum.inl)
 | [],[],_=>rfl
 | a::kvs,b::ks,⟨z,t⟩=>by
  have:=yM t;show b.1::ks.map _=a.1.map Sum.inl::_;rw [this,z.1]
theorem Hv (hc:X.calm=true):bB X (.builtin "sorted") (rN X (f1 rR)):=bB.imp (r6 hc) λ vs H Q h0=>by
 obtain ⟨w,rfl,ρ,S,x,R,hv,h⟩:=Fx h0;clear h0
 cases hv with
 | ref hp=>
  rename_i p n;obtain ⟨kvs,hn,h⟩:=aM h;obtain ⟨ks,g1,dv⟩:=R.dct hp (dX hn)
  cases hb:(kvs.map Prod.fst).all (λ ks=>!ks.isEmpty) with
  | false=>rw [hb] at h;exact h.elim
  | true=>
   rw [hb] at h;refine ⟨p,ks,kvs.map Prod.fst,rfl,g1,yM dv,λ k hk z=>?_,λ rs l g hl hh hl' hc hs=>?_⟩
   ·have:=all_eq_true.mp hb k hk;rw [z] at this
    cases this
   have av:AVs X.K ρ H ((dR (kvs.map Prod.fst)).map λ ks=>.tup (ks.map .int)) (((List.range (kvs.map Prod.fst).length).map λ i=>rs.getD (g i) 0).map V.ref):=by
    rw [<- E5 hc hs,List.map_map,List.map_map];refine wG λ i hi=>?_;have lt:=(hc i (zero_le _) (mem_range.mp hi)).2;have e1:rs[g i]?=some (rs.getD (g i) 0):=by rw [getD_eq_getElem?_getD,List.getElem?_eq_getElem (by rw [hl];exact lt)];rfl
    have e2:(kvs.map Prod.fst)[g i]?=some ((kvs.map Prod.fst).getD (g i) []):=by rw [getD_eq_getElem?_getD,List.getElem?_eq_getElem lt];rfl
    exact .tup (hh _ _ _ e1 e2) (fQ _)
   exact d7 R av .refl h l hl'
 | _=>exact h.elim
end
end Am
namespace Bl
open L2
noncomputable def cnt:List Int->Int->Int
 | [],_=>0
 | x::l,j=>(if j<=x then 1 else 0)+cnt l j
noncomputable def Below (xs ys:List Int):Prop:=∀ (i:Nat) (j:Int),cnt (xs.take i) j<=cnt (ys.take i) j
theorem Below.refl (xs:List Int):Below xs xs:=λ _ _=>Int.le_refl _
theorem Below.trans {a b c:List Int}(h:Below a b)(k:Below b c):Below a c:=λ i j=>Int.le_trans (h i j) (k i j)
theorem cnt_append (a b:List Int)(j:Int):cnt (a++b) j=cnt a j+cnt b j:=by
 induction a with
 | nil=>simp [cnt]
 | cons x a ih=>rw [List.cons_append,cnt,cnt,ih];omega
theorem qk {a b:List Int}(p:a.Perm b)(j:Int):cnt a j=cnt b j:=by
 induction p with
 | nil=>rfl
 | cons x _ ih=>rw [cnt,cnt,ih]
 | swap x y l=>rw [cnt,cnt,cnt,cnt];omega
 | trans _ _ h1 h2=>exact h1.trans h2
theorem take_snoc {l:List Int}{i:Nat}(h:i < l.length):l.take (i+1)=l.take i++[l[i]]:=by
 rw [take_succ,List.getElem?_eq_getElem h];rfl
theorem bQ {l:List Int}{i:Nat}(h:i < l.length)(j:Int):cnt (l.take (i+1)) j=cnt (l.take i) j+(if j<=l[i] then 1 else 0):=by
 rw [take_snoc h,cnt_append,cnt,cnt];omega
theorem Below.antisymm {a b:List Int}(hl:a.length=b.length)(h:Below a b)(k:Below b a):a=b:=by
 apply List.ext_getElem hl;intro i h1 h2;have e:∀ (i:Nat) (j:Int),cnt (a.take i) j=cnt (b.take i) j:=λ i j=>Int.le_antisymm (h i j) (k i j);have q:∀ j:Int,(if j<=a[i] then (1:Int) else 0)=(if j<=b[i] then 1 else 0):=λ j=>by
  have:=e (i+1) j;rw [bQ h1,bQ h2,e i j] at this;omega
 have qa:=q a[i];have qb:=q b[i];rw [if_pos (Int.le_refl _)] at qa qb;by_cases z:a[i]<=b[i]
 ·by_cases z2:b[i]<=a[i]
  ·omega
  ·rw [if_neg z2] at qb;omega
 ·rw [if_neg z] at qa;omega
theorem oK {l:List Int}{p:Nat}(h:p < l.length)(v:Int)(i:Nat)(j:Int) :
  cnt ((l.set p v).take i) j=cnt (l.take i) j+(if p < i then (if j<=v then 1 else 0) - (if j<=l[p] then 1 else 0) else 0):=by
 induction l generalizing p i with
 | nil=>cases h
 | cons x l ih=>
  cases i with
  | zero=>simp [cnt]
  | succ i=>
   cases p with
   | zero=>
    show (if j<=v then 1 else 0)+cnt (l.take i) j=(if j<=x then 1 else 0)+cnt (l.take i) j+_;rw [if_pos (succ_pos _)];show _=(if j<=x then 1 else 0)+cnt (l.take i) j+((if j<=v then 1 else 0) - (if j<=x then 1 else 0));omega
   | succ p=>
    show (if j<=x then 1 else 0)+cnt ((l.set p v).take i) j=(if j<=x then 1 else 0)+cnt (l.take i) j+_;have hp:p < l.length:=Nat.lt_of_succ_lt_succ h;rw [ih hp];by_cases z:p < i
    ·rw [if_pos z,if_pos (Nat.succ_lt_succ z)];show _=(if j<=x then 1 else 0)+cnt (l.take i) j+((if j<=v then 1 else 0) - (if j<=l[p] then 1 else 0));omega
    ·rw [if_neg z,if_neg (λ y=>z (Nat.lt_of_succ_lt_succ y))];omega
theorem iC {l:List Int}{p q:Nat}(hp:p < l.length)(hq:q < l.length)(hpq:p < q)(h:l[p] < l[q]):Below l ((l.set p l[q]).set q l[p]):=by
 intro i j;have hq':q < (l.set p l[q]).length:=by rw [length_set];exact hq
 rw [oK hq',oK hp];have e:(l.set p l[q])[q]=l[q]:=by rw [List.getElem_set_ne (ne_of_lt hpq)]
 rw [e]
 (repeat' split) <;> omega
noncomputable def Kc (a b:List Int):Prop:=a.length=b.length/\∀ (p:Nat) (h:p < a.length),b[(a[p] - 1).toNat]?=some ((p:Int)+1)
theorem rm {x y:List Int}{n:Nat}(px:x.Perm (bq 1 (n+1)))(py:y.Perm (bq 1 (n+1))):(∀ (i q:Nat),i < n->q < n->cnt (x.take (i+1)) ((q:Int)+1)<=cnt (y.take (i+1)) ((q:Int)+1)) ↔ Below x y:=by
 have lx:x.length=n:=by rw [px.length_eq,b9];omega
 have ly:y.length=n:=by rw [py.length_eq,b9];omega
 constructor
 ·intro h i j;have rx:∀ z∈x,1<=z/\z < (n:Int)+1:=λ z hz=>fR.mp (px.mem_iff.mp hz);have ry:∀ z∈y,1<=z/\z < (n:Int)+1:=λ z hz=>fR.mp (py.mem_iff.mp hz);have low:∀ (l:List Int),(∀ z∈l,j<=z)->cnt l j=l.length:=λ l=>by
   induction l with
   | nil=>intro _;rfl
   | cons z l ih=>intro hh;rw [cnt,if_pos (hh z mem_cons_self),ih λ y hy=>hh y (mem_cons_of_mem _ hy),length_cons];omega
  have high:∀ (l:List Int),(∀ z∈l,z < j)->cnt l j=0:=λ l=>by
   induction l with
   | nil=>intro _;rfl
   | cons z l ih=>intro hh;rw [cnt,if_neg (by have:=hh z mem_cons_self;omega),ih λ y hy=>hh y (mem_cons_of_mem _ hy)];rfl
  by_cases z1:j<=1
  ·rw [low _ λ z hz=>by have:=(rx z (mem_of_mem_take hz)).1;omega,low _ λ z hz=>by have:=(ry z (mem_of_mem_take hz)).1;omega,length_take,length_take,lx,ly];exact Int.le_refl _
  ·by_cases z2:(n:Int)+1<=j
   ·rw [high _ λ z hz=>by have:=(rx z (mem_of_mem_take hz)).2;omega,high _ λ z hz=>by have:=(ry z (mem_of_mem_take hz)).2;omega];exact Int.le_refl _
   ·obtain ⟨q,rfl⟩:∃ q:Nat,j=(q:Int)+1:=⟨(j - 1).toNat,by omega⟩;by_cases hi:i<=n
    ·cases i with
     | zero=>simp [cnt]
     | succ i=>exact h i q (by omega) (by omega)
    ·rw [take_of_length_le (by omega),take_of_length_le (by omega),qk px,qk py];exact Int.le_refl _
 ·exact λ h i q _ _=>h (i+1) ((q:Int)+1)
end Bl
namespace Am
open PySem L2 Bl
noncomputable def dW:Nat->Int->List Int->List Int
 | 0,_,ms=>ms
 | _+1,_,[]=>[]
 | x+1,d,m::ms=>(m+d)::dW x d ms
theorem mY:∀ (x:Nat) (d:Int) (ms:List Int),(dW x d ms).length=ms.length
 | 0,_,_=>rfl
 | _+1,_,[]=>rfl
 | x+1,d,m::ms=>congrArg (·+1) (mY x d ms)
theorem j6:∀ (x:Nat) (d:Int) (ms:List Int) (j:Nat),(dW x d ms)[j]?=(ms[j]?).map λ m=>if j < x then m+d else m
 | 0,d,ms,j=>by simp [dW]
 | _+1,_,[],j=>by simp [dW]
 | x+1,d,m::ms,0=>by simp [dW]
 | x+1,d,m::ms,j+1=>by
  show (dW x d ms)[j]?=_;rw [j6 x d ms j];simp
theorem oW:∀ (x:Nat) (d:Int) (ms:List Int) (m:Int),ms[x]?=some m->(dW x d ms).set x (m+d)=dW (x+1) d ms
 | 0,d,[],m,h=>by simp at h
 | 0,d,k::ms,m,h=>by simp at h;subst h;rfl
 | x+1,d,[],m,h=>by simp at h
 | x+1,d,k::ms,m,h=>by
  show (k+d)::(dW x d ms).set x (m+d)=(k+d)::dW (x+1) d ms;rw [oW x d ms m (by simpa using h)]
noncomputable def jb (n:Nat)(xs ys:List Int)(t:Nat):List Int:=(List.range n).map λ (j:Nat)=>cnt (xs.take t) ((j:Int)+1) - cnt (ys.take t) ((j:Int)+1)
theorem fF {n:Nat}{xs ys:List Int}{t:Nat}:(jb n xs ys t).length=n:=by simp [jb]
theorem iV {n:Nat}{xs ys:List Int}{t j:Nat}(h:j < n):(jb n xs ys t)[j]?=some (cnt (xs.take t) ((j:Int)+1) - cnt (ys.take t) ((j:Int)+1)):=by
 unfold jb;rw [List.getElem?_map,getElem?_range h];rfl
theorem FD {n:Nat}{xs ys:List Int}:jb n xs ys 0=List.replicate n 0:=by
 unfold jb;refine List.ext_getElem? λ j=>?_;rw [List.getElem?_map,getElem?_replicate];by_cases hj:j < n
 ·rw [getElem?_range hj,if_pos hj];simp [cnt]
 ·rw [List.getElem?_eq_none (by simpa using hj),if_neg hj];rfl
theorem vS {n:Nat}{xs ys:List Int}{t:Nat}(hx:t < xs.length)(hy:t < ys.length):dW ys[t].toNat (-1) (dW xs[t].toNat 1 (jb n xs ys t))=jb n xs ys (t+1):=by
 refine List.ext_getElem? λ j=>?_;rw [j6,j6];by_cases hj:j < n
 ·rw [iV hj,iV hj,bQ hx,bQ hy,map_some,map_some];congr 1;have e1:(j < xs[t].toNat)=((j:Int)+1<=xs[t]):=by apply propext;omega
  have e2:(j < ys[t].toNat)=((j:Int)+1<=ys[t]):=by apply propext;omega
  simp only [e1,e2];split <;> split <;> omega
 ·rw [List.getElem?_eq_none (by rw [fF];omega),List.getElem?_eq_none (by rw [fF];omega)];rfl
theorem pG:∀ {ns:List Int},ns≠[]->∃ m,maxOf ns=some m
 | [],h=>absurd rfl h
 | [x],_=>⟨x,rfl⟩
 | x::y::ys,_=>by
  obtain ⟨m,e⟩:=pG (ns:=y::ys) (by simp);exact ⟨if m > x then m else x,by show (maxOf (y::ys)).map _=_;rw [e];rfl⟩
theorem EJ {S:aE}{n:Nat}{ns:List Int}(h:ak S n=some (ns.map .int))(h0:ns≠[]):∃ m,DQ (.ref n) S=.ok (.int m) S/\m∈ns/\∀ a∈ns,a<=m:=by
 obtain ⟨m,e⟩:=pG h0;refine ⟨m,?_,pN e⟩;show opt (ak S n) _=_;rw [h,br,ints_map,br,e,br]
theorem Fl {S:aE}{n:Nat}{x:A}{k:Nat}(h:ak S n=some [x])(hk:k<=16777216):gH (.ref n) (.int k) S=.ok (.ref S.length) (S++[.lst (List.replicate k x)]):=by
 show opt (ak S n) _=_;rw [h,br];have e:(List.replicate k [x]).flatten=List.replicate k x:=by
  induction k with
  | zero=>rfl
  | succ k ih=>rw [replicate_succ,flatten_cons,ih (by omega)];rfl
 rw [dI ⟨by omega,by omega,by rw [sizeLine_eq,toNat_natCast];simpa using hk⟩,toNat_natCast,e]
theorem lO {xs:List Int}{n:Int}(h:xs.Perm (bq 1 (n+1)))(hn:0<=n):(xs.length:Int)=n:=by
 rw [h.length_eq,b9];omega
theorem ud {xs:List Int}{n x:Int}(h:xs.Perm (bq 1 (n+1)))(hx:x∈xs):1<=x/\x<=n:=by
 have:=fR.mp (h.mem_iff.mp hx);omega
end Am
namespace Tb
noncomputable def fg (r:List Int)(x:Int):Nat:=r.findIdx λ y=>decide (x < y)
noncomputable def put:List (List Int)->Int->List (List Int)
 | [],x=>[[x]]
 | r::rs,x=>if fg r x=r.length then (r++[x])::rs else r.set (fg r x) x::put rs (r.getD (fg r x) 0)
noncomputable def row:List (List Int)->Int->Nat
 | [],_=>0
 | r::rs,x=>if fg r x=r.length then 0 else row rs (r.getD (fg r x) 0)+1
noncomputable def add:List (List Int)->Nat->Int->List (List Int)
 | [],_,k=>[[k]]
 | q::qs,0,k=>(q++[k])::qs
 | q::qs,i+1,k=>q::add qs i k
noncomputable def gs (r:List Int)(x:Int):List Nat:=(List.range r.length).filter λ k=>decide (x < r.getD k 0)
end Tb
namespace Am
open PySem L2
noncomputable def Rows (S:aE):List Nat->List (List Int)->Prop
 | [],[]=>True
 | r::rs,x::T=>ak S r=some (x.map .int)/\Rows S rs T
 | _,_=>False
structure Tab (S:aE)(n:Nat)(rs:List Nat)(T:List (List Int)):Prop where
 top:ak S n=some (rs.map .ref)
 rows:Rows S rs T
 nd:(n::rs).Nodup
theorem eq_nil {S:aE}{a b:Nat}{xs:List A}(h:ak S a=some xs)(h':ak S b=some []):qD S 12 (.ref a) (.ref b)=some xs.isEmpty:=by
 show (ak S a).bind (λ xs=>(ak S b).bind λ ys=>kq (qD S 11) xs ys)=_;rw [h,bind_some,h',bind_some]
 cases xs <;> rfl
theorem BH {S:aE}{a b:A}{k:Bool}(h:qD S 12 a b=some k):nN false a b S=.ok (.bl k) S:=by unfold nN;rw [h];rfl
theorem J9 {S:aE}{a b:A}{k:Bool}(h:qD S 12 a b=some k):nN true a b S=.ok (.bl (!k)) S:=by unfold nN;rw [h];rfl
theorem getD_at {r:List Int}{k:Nat}(h:k < r.length):r[k]?=some (r.getD k 0):=by rw [getD_eq_getElem?_getD,List.getElem?_eq_getElem h];rfl
end Am
namespace Wd
open Bl L2
noncomputable def ex (l:List Int)(k:Nat):List Int:=(l.set (k - 1) (l.getD k 0)).set k (l.getD (k - 1) 0)
noncomputable def led (l:List Int)(w:List Nat):List Int:=w.foldl ex l
theorem bE {l:List Int}{k:Nat}(h:k < l.length):l.getD k 0=l[k]:=by rw [getD_eq_getElem?_getD,List.getElem?_eq_getElem h];rfl
theorem Ac {l:List Int}{k:Nat}(h0:1<=k)(h:k < l.length):ex l k=(l.set (k - 1) l[k]).set k (l[k - 1]'(by omega)):=by
 unfold ex;rw [bE h,bE (show k - 1 < l.length by omega)]
theorem sJ (l:List Int)(k:Nat):(ex l k).length=l.length:=by unfold ex;rw [length_set,length_set]
theorem zZ:∀ (w:List Nat) (l:List Int),(led l w).length=l.length
 | [],_=>rfl
 | k::w,l=>by show (led (ex l k) w).length=_;rw [zZ w,sJ]
theorem Aq {l:List Int}{k:Nat}(h0:1<=k)(h:k < l.length):(ex l k).Perm l:=by
 rw [Ac h0 h];exact List.set_set_perm (by omega) h
theorem vt:∀ {w:List Nat} {l:List Int},(∀ k∈w,1<=k/\k < l.length)->(led l w).Perm l
 | [],_,_=>List.Perm.refl _
 | k::w,l,h=>by
  have hk:=h k (mem_cons_self ..);show (led (ex l k) w).Perm l;exact (vt λ m hm=>by rw [sJ];exact h m (mem_cons_of_mem _ hm)).trans (Aq hk.1 hk.2)
theorem nE {l:List Int}{k:Nat}(h0:1<=k)(h:k < l.length)(i:Nat)(j:Int) :
  cnt ((ex l k).take i) j=cnt (l.take i) j+(if i=k then (if j<=l[k] then 1 else 0) - (if j<=l[k - 1]'(by omega) then 1 else 0) else 0):=by
 rw [Ac h0 h];have hq':k < (l.set (k - 1) l[k]).length:=by rw [length_set];exact h
 rw [oK hq',oK (show k - 1 < l.length by omega)];have e:(l.set (k - 1) l[k])[k]=l[k]:=by rw [List.getElem_set_ne (by omega)]
 rw [e];by_cases h1:i=k
 ·rw [if_pos h1,if_pos (show k - 1 < i by omega),if_neg (show ¬ k < i by omega)];omega
 ·by_cases h2:k < i
  ·rw [if_neg h1,if_pos (show k - 1 < i by omega),if_pos h2];omega
  ·rw [if_neg h1,if_neg (show ¬ k - 1 < i by omega),if_neg h2];omega
theorem up {l:List Int}{k:Nat}(h0:1<=k)(h:k < l.length)(hr:l[k - 1]'(by omega) < l[k]):Below l (ex l k):=by
 rw [Ac h0 h];exact iC (by omega) h (by omega) hr
theorem lift {u w:List Int}{k:Nat}(hl:u.length=w.length)(h0:1<=k)(h:k < w.length)(hr:w[k - 1]'(by omega) < w[k])(hb:Below u w):Below (ex u k) (ex w k):=by
 have hu:k < u.length:=by omega
 intro i j;rw [nE h0 hu,nE h0 h];by_cases hi:i=k
 ·subst hi;rw [if_pos rfl,if_pos rfl];have b1:=hb (i - 1) j;have b2:=hb i j;have b3:=hb (i+1) j;have c1:=bQ (l:=u) (i:=i - 1) (by omega) j;have c2:=bQ (l:=w) (i:=i - 1) (by omega) j;have c3:=bQ (l:=u) (i:=i) hu j;have c4:=bQ (l:=w) (i:=i) h j;rw [show i - 1+1=i by omega] at c1 c2;rw [c3,c4] at b3;rw [c1,c2] at b2 b3;rw [c1,c2];revert b1 b2 b3
  (repeat' split) <;> intros <;> omega
 ·rw [if_neg hi,if_neg hi];have:=hb i j;omega
noncomputable def sw (k:Nat)(x:Int):Int:=if x=k then (k:Int)+1 else if x=(k:Int)+1 then k else x
theorem dZ (n:Nat):(bq 1 ((n:Int)+1)).length=n:=by rw [b9];omega
theorem nj {l:List Int}{k:Nat}(h0:1<=k)(h:k < l.length)(p:Nat):(ex l k)[p]?=if p=k then l[k - 1]? else if p=k - 1 then l[k]? else l[p]?:=by
 rw [Ac h0 h,List.getElem?_set];by_cases h1:k=p
 ·rw [if_pos h1,if_pos h1.symm,if_pos (by rw [length_set];omega),List.getElem?_eq_getElem]
 ·rw [if_neg h1,if_neg (λ z=>h1 z.symm),List.getElem?_set];by_cases h2:k - 1=p
  ·rw [if_pos h2,if_pos h2.symm,if_pos (by omega),List.getElem?_eq_getElem]
  ·rw [if_neg h2,if_neg (λ z=>h2 z.symm)]
end Wd
namespace Iv
open L2 Bl
noncomputable def inv:List Int->Nat
 | []=>0
 | x::l=>l.countP (λ y=>decide (y < x))+inv l
noncomputable def cG (a b:List Int):Nat:=(a.map λ x=>b.countP λ y=>decide (y < x)).sum
theorem gQ (x:Int)(a b:List Int):cG (x::a) b=b.countP (λ y=>decide (y < x))+cG a b:=rfl
theorem bC:∀ (a b:List Int),inv (a++b)=inv a+inv b+cG a b
 | [],b=>by show inv b=0+inv b+0;omega
 | x::a,b=>by
  show (a++b).countP _+inv (a++b)=(a.countP _+inv a)+inv b+cG (x::a) b;rw [List.countP_append,bC a b,gQ];omega
theorem gY:∀ {a b:List Nat},a.Perm b->a.sum=b.sum
 | _,_,.nil=>rfl
 | _,_,.cons x h=>by rw [sum_cons,sum_cons,gY h]
 | _,_,.swap x y l=>by rw [sum_cons,sum_cons,sum_cons,sum_cons];omega
 | _,_,.trans h k=>(gY h).trans (gY k)
theorem zQ {a a':List Int}(b:List Int)(h:a.Perm a'):cG a b=cG a' b:=gY (h.map _)
theorem zA (a:List Int){b b':List Int}(h:b.Perm b'):cG a b=cG a b':=by
 unfold cG;congr 1;refine map_congr_left λ x _=>h.countP_eq _
theorem tU {M:List Int}{x y:Int}(h:∀ m∈M,m < x\/y < m)(hxy:x < y):M.countP (λ m=>decide (m < x))=M.countP (λ m=>decide (m < y)):=by
 refine List.countP_congr λ m hm=>?_;rw [decide_eq_true_iff,decide_eq_true_iff]
 rcases h m hm with z | z <;> omega
theorem nM:∀ {M:List Int} {x y:Int},(∀ m∈M,m < x\/y < m)->x < y->cG M [x]=cG M [y]
 | [],_,_,_,_=>rfl
 | m::M,x,y,h,hxy=>by
  rw [gQ,gQ,nM (λ m' hm=>h m' (mem_cons_of_mem _ hm)) hxy];congr 1;have:=h m (mem_cons_self ..);simp only [countP_cons,List.countP_nil];by_cases c:x < m
  ·rw [decide_eq_true c,decide_eq_true (show y < m by omega)]
  ·rw [decide_eq_false c,decide_eq_false (show ¬ y < m by omega)]
theorem mid {M:List Int}{x y:Int}(h:∀ m∈M,m < x\/y < m)(hxy:x < y):inv ([y]++M++[x])=inv ([x]++M++[y])+1:=by
 rw [bC,bC,bC ([x]++M),bC [x]];have e1:cG [y] M=cG [x] M:=by
  show M.countP _+0=M.countP _+0;rw [tU h hxy]
 have e2:cG ([y]++M) [x]=1+cG M [x]:=by
  show [x].countP _+cG M [x]=_;rw [countP_cons,decide_eq_true hxy];rfl
 have e3:cG ([x]++M) [y]=cG M [y]:=by
  show [y].countP _+cG M [y]=_;rw [countP_cons,decide_eq_false (by omega:¬ y < x)];simp
 rw [e1,e2,e3,nM h hxy];show 0+inv M+_+0+_=0+inv M+_+0+_+1;omega
theorem jI (M:List Int)(x y:Int):([y]++M++[x]).Perm ([x]++M++[y]):=by
 refine (List.perm_append_comm (l₁:=[y]++M) (l₂:=[x])).trans ?_;show (x::(y::M)).Perm (x::(M++[y]));exact .cons x (List.perm_append_comm (l₁:=[y]) (l₂:=M))
theorem step {P M R:List Int}{x y:Int}(h:∀ m∈M,m < x\/y < m)(hxy:x < y):inv (P++([y]++M++[x])++R)=inv (P++([x]++M++[y])++R)+1:=by
 have p:=jI M x y;rw [bC,bC P,bC (P++([x]++M++[y])),bC P,mid h hxy,zA P p,zQ R (p.append_left P)];omega
theorem sW:∀ (l:List Int),inv l<=l.length * l.length
 | []=>Nat.le_refl _
 | x::l=>by
  show l.countP _+inv l<=(l.length+1) * (l.length+1);have h1:=List.countP_le_length (p:=λ y=>decide (y < x)) (l:=l);have h2:=sW l;rw [Nat.add_mul,Nat.mul_add];omega
theorem z_ (x v:Int):cnt [x] v=if v<=x then 1 else 0:=by show (if v<=x then 1 else 0)+0=_;omega
theorem ur:∀ (l:List Int) {v w:Int},v<=w->cnt l w<=cnt l v
 | [],_,_,_=>Int.le_refl _
 | x::l,v,w,h=>by
  have:=ur l h;show (if w<=x then 1 else 0)+cnt l w<=(if v<=x then 1 else 0)+cnt l v;split <;> split <;> omega
theorem zG:∀ (l:List Int) {v w:Int},(∀ m∈l,m < v\/w<=m)->v<=w->cnt l v=cnt l w
 | [],_,_,_,_=>rfl
 | x::l,v,w,h,hvw=>by
  have:=zG l (λ m hm=>h m (mem_cons_of_mem _ hm)) hvw;have:=h x (mem_cons_self ..);show (if v<=x then 1 else 0)+cnt l v=(if w<=x then 1 else 0)+cnt l w;split <;> split <;> omega
theorem wN {P M R B:List Int}{x y z:Int}(hb:Below (P++([x]++M++[y])++R) (P++z::B))(hxy:x < y)(hyz:y<=z)(hM:∀ m∈M,m < x\/z < m):Below (P++([y]++M++[x])++R) (P++z::B):=by
 intro p v;have h0:=hb p v;by_cases c1:p<=P.length
 ·have e:∀ L:List Int,(P++L).take p=P.take p:=λ L=>by rw [List.take_append_of_le_length c1]
  rw [List.append_assoc,e,e] at h0 ⊢;exact h0
 ·by_cases c2:p<=P.length+1+M.length
  ·obtain ⟨q,hq⟩:∃ q,p=P.length+(q+1):=⟨p - P.length - 1,by omega⟩;have ea:∀ (u w:Int),(P++([u]++M++[w])++R).take p=P++(u::M.take q):=λ u w=>by
    rw [List.append_assoc,hq,take_append,take_of_length_le (by omega),show P.length+(q+1) - P.length=q+1 by omega];congr 1;show (u::((M++[w])++R)).take (q+1)=_;rw [List.take_succ_cons,List.append_assoc,List.take_append_of_le_length (by omega)]
   have eb:(P++z::B).take p=P++(z::B.take q):=by
    rw [hq,take_append,take_of_length_le (by omega),show P.length+(q+1) - P.length=q+1 by omega,List.take_succ_cons]
   rw [ea,eb,cnt_append,cnt_append] at h0 ⊢;have h1:=hb p (z+1);rw [ea,eb,cnt_append,cnt_append] at h1;have f:∀ (u t:Int) (L:List Int),cnt (u::L) t=(if t<=u then 1 else 0)+cnt L t:=λ _ _ _=>rfl;rw [f,f] at h0 h1 ⊢;by_cases c3:x < v/\v<=y
   ·rw [if_neg (by omega),if_neg (by omega)] at h1;rw [if_pos c3.2,if_pos (by omega)];have g1:cnt (M.take q) v=cnt (M.take q) (z+1):=zG _ (λ m hm=>by
     rcases hM m (mem_of_mem_take hm) with t | t
     ·left;omega
     ·right;omega) (by omega)
    have g2:=ur (B.take q) (show v<=z+1 by omega);omega
   ·have:(if v<=y then (1:Int) else 0)=if v<=x then 1 else 0:=by
     by_cases d:v<=x
     ·rw [if_pos d,if_pos (by omega)]
     ·rw [if_neg d,if_neg (λ t=>c3 ⟨by omega,t⟩)]
    rw [this];exact h0
  ·have ea:∀ (u w:Int),(P++([u]++M++[w])++R).take p=P++([u]++M++[w])++R.take (p - (P.length+1+M.length+1)):=λ u w=>by
    have l:(P++([u]++M++[w])).length=P.length+1+M.length+1:=by simp;omega
    rw [take_append,take_of_length_le (by rw [l];omega),l]
   rw [ea] at h0 ⊢;have:=qk (((jI M x y).append_left P).append_right (R.take (p - (P.length+1+M.length+1)))) v;rw [this];exact h0
noncomputable def sw (a:List Int)(i j:Nat):List Int:=(a.set i (a.getD j 0)).set j (a.getD i 0)
theorem KG (a:List Int)(i j:Nat):(sw a i j).length=a.length:=by unfold sw;rw [length_set,length_set]
theorem split {a:List Int}{i j:Nat}(hij:i < j)(hj:j < a.length):∃ P M R:List Int,a=P++([a.getD i 0]++M++[a.getD j 0])++R/\P=a.take i/\(∀ m∈M,∃ k,i < k/\k < j/\a[k]?=some m)/\sw a i j=P++([a.getD j 0]++M++[a.getD i 0])++R:=by
 have gi:a.getD i 0=a[i]:=by rw [getD_eq_getElem?_getD,List.getElem?_eq_getElem (by omega)];rfl
 have gj:a.getD j 0=a[j]:=by rw [getD_eq_getElem?_getD,List.getElem?_eq_getElem hj];rfl
 obtain ⟨M,hM⟩:∃ M,M=(a.drop (i+1)).take (j - i - 1):=⟨_,rfl⟩;have lM:M.length=j - i - 1:=by rw [hM,length_take,length_drop];omega
 have ea:a=a.take i++([a.getD i 0]++M++[a.getD j 0])++a.drop (j+1):=by
  have h1:a.drop i=a[i]::a.drop (i+1):=drop_eq_getElem_cons (by omega);have h2:a.drop (i+1)=M++a.drop j:=by
   rw [hM];have:=take_append_drop (j - i - 1) (a.drop (i+1));rw [List.drop_drop,show i+1+(j - i - 1)=j by omega] at this;exact this.symm
  have h3:a.drop j=a[j]::a.drop (j+1):=drop_eq_getElem_cons hj
  conv=>lhs;rw [<- take_append_drop i a,h1,h2,h3]
  rw [gi,gj];simp
 refine ⟨a.take i,M,a.drop (j+1),ea,rfl,λ m hm=>?_,?_⟩
 ·rw [hM] at hm;obtain ⟨k,hk⟩:=getElem?_of_mem hm;have hlt:k < j - i - 1:=by
   have:=(List.getElem?_eq_some_iff.mp hk).1;rw [length_take] at this;omega
  rw [getElem?_take_of_lt hlt,getElem?_drop] at hk;exact ⟨i+1+k,by omega,by omega,hk⟩
 ·have key:∀ (P R:List Int) (x y x' y':Int),P.length=i->((P++([x]++M++[y])++R).set i y').set j x'=P++([y']++M++[x'])++R:=λ P R x y x' y' lP=>by
   rw [List.append_assoc,set_append_right _ _ (by omega),lP,sub_self];show (P++(y'::((M++[y])++R))).set j x'=_;rw [set_append_right _ _ (by omega),lP,show j - i=(j - i - 1)+1 by omega,List.set_cons_succ,List.append_assoc,set_append_right _ _ (by omega),lM,sub_self];simp
  have:=key (a.take i) (a.drop (j+1)) (a.getD i 0) (a.getD j 0) (a.getD i 0) (a.getD j 0) (by rw [length_take];omega);rw [<- ea] at this;exact this
theorem gh {a:List Int}{i:Nat}(h:i < a.length):a[i]?=some (a.getD i 0):=by rw [getD_eq_getElem?_getD,List.getElem?_eq_getElem h];rfl
theorem part {a b:List Int}{n i:Nat}(pa:a.Perm (bq 1 ((n:Int)+1)))(pb:b.Perm (bq 1 ((n:Int)+1)))(la:a.length=n)(lb:b.length=n)(hb:Below a b)(hi:a.take i=b.take i)(hin:i < n)(hne:a.getD i 0≠b.getD i 0) :
  a.getD i 0 < b.getD i 0/\∃ j,i < j/\j < n/\a.getD j 0=b.getD i 0:=by
 have hx:=gh (a:=a) (i:=i) (by omega);have hy:=gh (a:=b) (i:=i) (by omega);have ta:a.take (i+1)=a.take i++[a.getD i 0]:=by rw [take_succ,hx];rfl
 have tb:b.take (i+1)=b.take i++[b.getD i 0]:=by rw [take_succ,hy];rfl
 have h:=hb (i+1) (a.getD i 0);rw [ta,tb,hi,cnt_append,cnt_append,z_,z_,if_pos (Int.le_refl _)] at h;have hle:a.getD i 0<=b.getD i 0:=by
  by_cases c:a.getD i 0<=b.getD i 0
  ·exact c
  ·rw [if_neg c] at h;omega
 refine ⟨by omega,?_⟩;have hm:b.getD i 0∈a:=(pa.trans pb.symm).mem_iff.mpr (mem_of_getElem? hy);obtain ⟨j,hj⟩:=getElem?_of_mem hm;have hjn:j < n:=by have:=(List.getElem?_eq_some_iff.mp hj).1;omega
 have nb:b.Nodup:=pb.nodup_iff.mpr (gU _ _);refine ⟨j,?_,hjn,?_⟩
 ·rcases Nat.lt_trichotomy j i with c | c | c
  ·have e:(a.take i)[j]?=some (b.getD i 0):=by rw [getElem?_take_of_lt c];exact hj
   rw [hi,getElem?_take_of_lt c] at e;obtain ⟨h1,g1⟩:=List.getElem?_eq_some_iff.mp e;obtain ⟨h2,g2⟩:=List.getElem?_eq_some_iff.mp hy;exact absurd ((getElem_inj nb).mp (g1.trans g2.symm)) (by omega)
  ·subst c;rw [hx] at hj;exact absurd (Option.some.inj hj) hne
  ·exact c
 ·rw [getD_eq_getElem?_getD,hj];rfl
theorem FA {a b:List Int}{n i j:Nat}(la:a.length=n)(lb:b.length=n)(hb:Below a b)(hi:a.take i=b.take i)(hij:i < j)(hj:j < n)(h1:a.getD i 0 < a.getD j 0)(h2:a.getD j 0<=b.getD i 0)(hno:∀ k,i < k->k < j->¬ (a.getD i 0 < a.getD k 0/\a.getD k 0<=b.getD i 0))(nd:a.Nodup) :
  Below (sw a i j) b/\inv (sw a i j)=inv a+1/\(sw a i j).Perm a:=by
 obtain ⟨P,M,R,ea,eP,hM,es⟩:=split hij (show j < a.length by omega);have eb:b=P++b.getD i 0::b.drop (i+1):=by
  have:b.drop i=b.getD i 0::b.drop (i+1):=by
   rw [drop_eq_getElem_cons (by omega)];congr 1;rw [getD_eq_getElem?_getD,List.getElem?_eq_getElem (by omega)];rfl
  conv=>lhs;rw [<- take_append_drop i b,this,<- hi,<- eP]
 have hgap:∀ m∈M,m < a.getD i 0\/b.getD i 0 < m:=λ m hm=>by
  obtain ⟨k,k1,k2,hk⟩:=hM m hm;have e:a.getD k 0=m:=by rw [getD_eq_getElem?_getD,hk];rfl
  have:=hno k k1 k2;rw [e] at this;have hne:m≠a.getD i 0:=λ z=>by
   have hx:=gh (a:=a) (i:=i) (by omega);rw [<- z] at hx;obtain ⟨q1,g1⟩:=List.getElem?_eq_some_iff.mp hk;obtain ⟨q2,g2⟩:=List.getElem?_eq_some_iff.mp hx;exact absurd ((getElem_inj nd).mp (g1.trans g2.symm)) (by omega)
  omega
 have hgap2:∀ m∈M,m < a.getD i 0\/a.getD j 0 < m:=λ m hm=>by
  rcases hgap m hm with t | t
  ·exact .inl t
  ·right;omega
 refine ⟨?_,?_,?_⟩
 ·rw [es,eb];refine wN ?_ h1 h2 hgap;rw [<- ea,<- eb];exact hb
 ·rw [es,step hgap2 h1,<- ea]
 ·rw [es];have:=((jI M (a.getD i 0) (a.getD j 0)).append_left P).append_right R;rw [<- ea] at this;exact this
end Iv
namespace Nu
open PySem L2
noncomputable def gr:Nat->Nat
 | 0=>1
 | n+1=>(n+1) * gr n
theorem oG:∀ n,0 < gr n
 | 0=>Nat.one_pos
 | n+1=>Nat.mul_pos (succ_pos _) (oG n)
theorem uE (n:Nat):gr n<=gr (n+1):=Nat.le_mul_of_pos_left _ (succ_pos _)
theorem B4 {a b:Nat}(h:a<=b):gr a<=gr b:=by
 induction h with
 | refl=>exact Nat.le_refl _
 | step _ ih=>exact Nat.le_trans ih (uE _)
noncomputable def rank:List Int->Nat
 | []=>0
 | x::xs=>(xs.filter (· < x)).length * gr xs.length+rank xs
noncomputable def BD:Nat->List Int->Nat->List Int
 | 0,_,_=>[]
 | n+1,l,m=>l.getD (m / gr n) 0::BD n (l.eraseIdx (m / gr n)) (m % gr n)
theorem qS {l:List Int}{q:Nat}(hs:l.Pairwise (· < ·))(h:q < l.length):((l.eraseIdx q).filter (· < l[q])).length=q:=by
 have e:l=l.take q++l[q]::l.drop (q+1):=by rw [List.getElem_cons_drop,take_append_drop]
 rw [List.eraseIdx_eq_take_drop_succ,filter_append];have hs':=hs;rw [e,pairwise_append] at hs';obtain ⟨_,h2,h3⟩:=hs';rw [List.filter_eq_self.mpr λ a ha=>decide_eq_true (h3 a ha _ (mem_cons_self ..)),filter_eq_nil_iff.mpr λ a ha z=>?_]
 ·rw [append_nil,length_take];omega
 ·have z:=of_decide_eq_true z;have:=(pairwise_cons.mp h2).1 a ha;omega
theorem gZ {l:List Int}{i:Nat}(h:i < l.length):(l[i]::l.eraseIdx i).Perm l:=by
 have e:l=l.take i++l[i]::l.drop (i+1):=by rw [List.getElem_cons_drop,take_append_drop]
 rw [List.eraseIdx_eq_take_drop_succ];exact (List.perm_middle.symm).trans (by rw [<- e])
theorem Bb {n m:Nat}(h:m < gr (n+1)):m / gr n < n+1:=(Nat.div_lt_iff_lt_mul (oG n)).mpr h
theorem sC {l:List Int}{q:Nat}(h:q < l.length):l.getD q 0=l[q]:=by rw [getD_eq_getElem?_getD,List.getElem?_eq_getElem h];rfl
theorem tM:∀ (n:Nat) (l:List Int) (m:Nat),l.length=n->l.Pairwise (· < ·)->m < gr n->(BD n l m).Perm l/\rank (BD n l m)=m
 | 0,l,m,hl,_,hm=>by
  have:l=[]:=List.eq_nil_of_length_eq_zero hl;subst this;exact ⟨.refl _,by have:m < 1:=hm;show 0=m;omega⟩
 | n+1,l,m,hl,hs,hm=>by
  have hq:=Bb hm;have hq':m / gr n < l.length:=by omega
  obtain ⟨p,r⟩:=tM n (l.eraseIdx (m / gr n)) (m % gr n) (by rw [List.length_eraseIdx,if_pos hq'];omega) (hs.sublist (List.eraseIdx_sublist ..)) (Nat.mod_lt _ (oG n));have ll:(BD n (l.eraseIdx (m / gr n)) (m % gr n)).length=n:=by rw [p.length_eq,List.length_eraseIdx,if_pos hq'];omega
  refine ⟨?_,?_⟩
  ·show (l.getD (m / gr n) 0::BD n _ _).Perm l;rw [sC hq'];exact (p.cons _).trans (gZ hq')
  ·show ((BD n (l.eraseIdx (m / gr n)) (m % gr n)).filter (· < l.getD (m / gr n) 0)).length * gr (BD n (l.eraseIdx (m / gr n)) (m % gr n)).length+rank (BD n (l.eraseIdx (m / gr n)) (m % gr n))=m;rw [r,ll,(p.filter _).length_eq,sC hq',qS hs hq',mul_comm];exact Nat.div_add_mod _ _
theorem tD:∀ (n:Nat) (l xs:List Int),l.length=n->l.Pairwise (· < ·)->xs.Perm l->rank xs < gr n/\BD n l (rank xs)=xs
 | 0,l,xs,hl,_,hp=>by
  have:l=[]:=List.eq_nil_of_length_eq_zero hl;subst this;have:=hp.eq_nil;subst this;exact ⟨Nat.one_pos,rfl⟩
 | n+1,l,[],hl,_,hp=>by have:=hp.length_eq;rw [hl] at this;cases this
 | n+1,l,x::xs,hl,hs,hp=>by
  have hx:x∈l:=hp.mem_iff.mp (mem_cons_self ..);obtain ⟨j,hj,ej⟩:=List.getElem_of_mem hx;have hp':xs.Perm (l.eraseIdx j):=by
   have h1:=gZ hj;rw [ej] at h1;exact (hp.trans h1.symm).cons_inv
  have le:(l.eraseIdx j).length=n:=by rw [List.length_eraseIdx,if_pos hj];omega
  obtain ⟨h1,h2⟩:=tD n (l.eraseIdx j) xs le (hs.sublist (List.eraseIdx_sublist ..)) hp';have hc:(xs.filter (· < x)).length=j:=by
   rw [(hp'.filter _).length_eq,<- ej];exact qS hs hj
  have lx:xs.length=n:=by rw [hp'.length_eq,le]
  have er:rank (x::xs)=j * gr n+rank xs:=by
   show (xs.filter (· < x)).length * gr xs.length+rank xs=_;rw [hc,lx]
  have ed:(j * gr n+rank xs) / gr n=j:=by
   rw [mul_comm,Nat.mul_add_div (oG n),Nat.div_eq_of_lt h1];rfl
  have em:(j * gr n+rank xs) % gr n=rank xs:=by
   rw [mul_comm,Nat.mul_add_mod,Nat.mod_eq_of_lt h1]
  rw [er];refine ⟨?_,?_⟩
  ·show _ < (n+1) * gr n
   calc j * gr n+rank xs < j * gr n+gr n:=by omega
    _=(j+1) * gr n:=(Nat.succ_mul _ _).symm
    _<=(n+1) * gr n:=Nat.mul_le_mul_right _ (by omega)
  ·show l.getD ((j * gr n+rank xs) / gr n) 0::BD n (l.eraseIdx ((j * gr n+rank xs) / gr n)) ((j * gr n+rank xs) % gr n)=_;rw [ed,em,sC hj,ej,h2]
theorem nv (i j:Int):(bq i j).Pairwise (· < ·):=by
 unfold bq;rw [pairwise_map];exact List.pairwise_lt_range.imp λ h=>by omega
end Nu
namespace Fw
open PySem L2 Bl
open Wd (ex led)
noncomputable abbrev rg (n:Nat):List Int:=bq 1 ((n:Int)+1)
theorem IG {l:List Int}{k:Nat}(h0:1<=k)(h:k < l.length):ex (ex l k) k=l:=by
 apply List.ext_getElem?;intro p;have h':k < (ex l k).length:=by rw [Wd.sJ];exact h
 rw [Wd.nj h0 h',Wd.nj h0 h,Wd.nj h0 h,Wd.nj h0 h];by_cases c3:p=k
 ·rw [if_pos c3,if_neg (by omega),if_pos rfl,c3]
 ·rw [if_neg c3];by_cases c2:p=k - 1
  ·rw [if_pos c2,if_pos rfl,c2]
  ·rw [if_neg c2,if_neg c3,if_neg c2]
theorem HY {l:List Int}{k:Nat}(h0:1<=k)(h:k < l.length):(ex l k).getD k 0=l.getD (k - 1) 0:=by
 rw [getD_eq_getElem?_getD,Wd.nj h0 h,if_pos rfl,getD_eq_getElem?_getD]
theorem IT {l:List Int}{k:Nat}(h0:1<=k)(h:k < l.length):(ex l k).getD (k - 1) 0=l.getD k 0:=by
 rw [getD_eq_getElem?_getD,Wd.nj h0 h,if_neg (by omega),if_pos rfl,getD_eq_getElem?_getD]
theorem C5 {l:List Int}{k:Nat}(h0:1<=k)(h:k < l.length)(hr:l.getD (k - 1) 0 < l.getD k 0):Iv.inv (ex l k)=Iv.inv l+1:=by
 obtain ⟨P,M,R,e,_,hM,es⟩:=Iv.split (a:=l) (i:=k - 1) (j:=k) (by omega) h;have:=Iv.step (P:=P) (M:=M) (R:=R) (x:=l.getD (k - 1) 0) (y:=l.getD k 0) (λ m hm=>by obtain ⟨_,_,_,_⟩:=hM m hm;omega) hr;rw [<- es,<- e] at this;exact this
theorem qv {l:List Int}{k:Nat}(h0:1<=k)(h:k < l.length)(hr:l.getD k 0 < l.getD (k - 1) 0):Iv.inv l=Iv.inv (ex l k)+1:=by
 have:=C5 (l:=ex l k) h0 (by rw [Wd.sJ];exact h) (by rw [HY h0 h,IT h0 h];exact hr);rw [IG h0 h] at this;exact this
noncomputable def Va (n:Nat)(w:List Nat):Prop:=∀ k∈w,1<=k/\k < n
theorem DB:∀ {l:List Int},l.Pairwise (·<=·)->Iv.inv l=0
 | [],_=>rfl
 | x::l,h=>by
  show l.countP (λ y=>decide (y < x))+Iv.inv l=0;rw [DB (pairwise_cons.mp h).2,List.countP_eq_zero.mpr λ a ha z=>by have:=of_decide_eq_true z;have:=(pairwise_cons.mp h).1 a ha;omega]
noncomputable def BB (l:List Int)(k:Nat):Prop:=1<=k/\k < l.length/\l.getD k 0 < l.getD (k - 1) 0
theorem IK {l:List Int}(h:∀ k,¬ BB l k):l.Pairwise (·<=·):=by
 have key:∀ d i,i+d < l.length->l.getD i 0<=l.getD (i+d) 0:=by
  intro d
  induction d with
  | zero=>intro i _;exact Int.le_refl _
  | succ d ih=>
   intro i hi;have h1:=ih i (by omega);have h2:¬ l.getD (i+d+1) 0 < l.getD (i+d) 0:=λ z=>h (i+d+1) ⟨by omega,hi,z⟩;rw [<- add_assoc];omega
 rw [pairwise_iff_getElem];intro i j hi hj hij;have:=key (j - i) i (by omega);rw [show i+(j - i)=j by omega,Wd.bE hi,Wd.bE hj] at this;exact this
theorem IZ {l:List Int}{n:Nat}(p:l.Perm (rg n))(h:∀ k,¬ BB l k):l=rg n:=
 List.Perm.eq_of_pairwise (λ x y _ _ h1 h2=>Int.le_antisymm h1 h2) (IK h) (Gj _ _) p
theorem Fy {l:List Int}(h:0 < Iv.inv l):∃ k,BB l k:=by
 refine Classical.byContradiction λ z=>?_;rw [DB (IK λ k hk=>z ⟨k,hk⟩)] at h;exact absurd h (lt_irrefl _)
noncomputable def Dn:List Int->List Nat->Prop
 | l,[]=>∀ k,¬ BB l k
 | l,k::ks=>(BB l k/\∀ j,BB l j->k<=j)/\Dn (ex l k) ks
theorem IL {l:List Int}{n k:Nat}(p:l.Perm (rg n))(h0:1<=k)(h:k < l.length):(ex l k).Perm (rg n):=(Wd.Aq h0 h).trans p
theorem Dn.led:∀ {ks:List Nat} {l:List Int} {n:Nat},Dn l ks->l.Perm (rg n)->led l ks=rg n
 | [],l,n,h,p=>IZ p h
 | k::ks,l,n,h,p=>Dn.led (ks:=ks) h.2 (IL p h.1.1.1 h.1.1.2.1)
theorem HK:∀ (m:Nat) (l:List Int),Iv.inv l<=m->∃ ks,Dn l ks
 | 0,l,h=>⟨[],λ k hk=>by have:=qv hk.1 hk.2.1 hk.2.2;omega⟩
 | m+1,l,h=>by
  by_cases c:∃ k,BB l k
  ·obtain ⟨k,hk,hmin⟩:∃ k,BB l k/\∀ j,BB l j->k<=j:=by
    obtain ⟨k,hk⟩:=c
    induction k using Nat.strongRecOn with
    | ind k ih=>
     by_cases z:∃ j,BB l j/\j < k
     ·obtain ⟨j,hj,hlt⟩:=z;exact ih j hlt hj
     ·exact ⟨k,hk,λ j hj=>Nat.le_of_not_lt λ y=>z ⟨j,hj,y⟩⟩
   have:=qv hk.1 hk.2.1 hk.2.2;obtain ⟨ks,hks⟩:=HK m (ex l k) (by omega);exact ⟨k::ks,⟨hk,hmin⟩,hks⟩
  ·exact ⟨[],λ k hk=>c ⟨k,hk⟩⟩
theorem GB {l:List Int}{n k:Nat}(p:l.Perm (rg n))(h0:1<=k)(h:k < l.length):l.getD (k - 1) 0≠l.getD k 0:=λ z=>by
 have nd:l.Nodup:=p.nodup_iff.mpr (gU _ _);rw [Wd.bE h,Wd.bE (show k - 1 < l.length by omega)] at z;have:=(getElem_inj nd).mp z;omega
structure Two (n:Nat)(o u:List Int):Prop where
 po:o.Perm (rg n)
 pu:u.Perm (rg n)
 ou:Kc o u
end Fw
namespace Ti
open PySem L2 Bl
open Wd (ex led)
open Fw (rg Va BB)
inductive Mv:List Nat->List Nat->Prop
 | comm (P R:List Nat) (a b:Nat) (h:a+2<=b\/b+2<=a):Mv (P++a::b::R) (P++b::a::R)
 | braid (P R:List Nat) (a b:Nat) (h:a+1=b\/b+1=a):Mv (P++a::b::a::R) (P++b::a::b::R)
inductive Con:List Nat->List Nat->Prop
 | refl (u:List Nat):Con u u
 | step {u v w:List Nat} (h:Con u v) (m:Mv v w):Con u w
theorem pm {n:Nat}{w:List Nat}(h:Va n w):(led (rg n) w).Perm (rg n):=Wd.vt (by rw [Wd.dZ];exact h)
theorem ln {n:Nat}{w:List Nat}:(led (rg n) w).length=n:=by rw [Wd.zZ,Wd.dZ]
end Ti
namespace Rd
open PySem L2
open Ti (Mv Con)
noncomputable abbrev up (v:List Nat):List Int:=v.map λ k:Nat=>(k:Int)
theorem oR:∀ (N:Nat) (l:List Nat),l.Nodup->(∀ x∈l,x < N)->l.length<=N
 | 0,l,_,h=>by
  cases l with
  | nil=>exact Nat.le_refl _
  | cons x l=>exact absurd (h x (mem_cons_self ..)) (not_lt_zero _)
 | N+1,l,hn,h=>by
  by_cases c:N∈l
  ·have h1:=oR N (l.erase N) (hn.erase N) λ x hx=>by
    have h1:=(List.Nodup.mem_erase_iff hn).mp hx;have:=h x h1.2;have:=h1.1;omega
   have:=List.length_erase_of_mem c;have:=List.length_pos_of_mem c;omega
  ·have:=oR N l hn λ x hx=>by
    have:=h x hx;have:x≠N:=λ z=>c (z ▸ hx);omega
   omega
noncomputable def code:List Nat->Nat
 | []=>0
 | a::r=>(a - 1)+8 * code r
noncomputable def PM (L:Nat)(w:List Nat):Prop:=w.length=L/\∀ k∈w,1<=k/\k<=8
noncomputable abbrev En:=List Nat×Option (List Nat)
structure Bf (s:List Nat)(es:List En)(done:Nat):Prop where
 nd:(es.map (·.1)).Nodup
 hd:es[0]?=some (s,none)
 pr:∀ i w q,es[i]?=some (w,q)->(i=0/\q=none)\/∃ j r u,j < i/\es[j]?=some (u,r)/\q=some u/\Mv u w
 co:∀ w∈es.map (·.1),Con s w
 cl:∀ i w q,i < done->es[i]?=some (w,q)->∀ w',Mv w w'->w'∈es.map (·.1)
 le:done<=es.length
end Rd
namespace Stp
open PySem L2 Iv
noncomputable def mm (a:List Int)(i j:Nat):List Int:=(a.drop (i+1)).take (j - i - 1)
noncomputable def nU (x y m:Int):Bool:=decide (x < m) && decide (m < y)
theorem MJ {x y:Int}(hxy:x < y):∀ {M:List Int},(∀ m∈M,m≠x/\m≠y)->M.countP (λ m=>decide (m < y))=M.countP (λ m=>decide (m < x))+M.countP (nU x y)
 | [],_=>rfl
 | m::M,h=>by
  have ih:=MJ hxy (M:=M) λ k hk=>h k (mem_cons_of_mem _ hk);have hm:=h m (mem_cons_self ..);rw [countP_cons,countP_cons,countP_cons,ih];unfold nU;by_cases c:m < x
  ·rw [decide_eq_true c,decide_eq_true (show m < y by omega),decide_eq_false (show ¬ x < m by omega)];simp;omega
  ·rw [decide_eq_false c,decide_eq_true (show x < m by omega)];by_cases c2:m < y
   ·rw [decide_eq_true c2];simp;omega
   ·rw [decide_eq_false c2];simp
theorem Nk {x y:Int}(hxy:x < y):∀ {M:List Int},(∀ m∈M,m≠x/\m≠y)->cG M [x]=cG M [y]+M.countP (nU x y)
 | [],_=>rfl
 | m::M,h=>by
  have ih:=Nk hxy (M:=M) λ k hk=>h k (mem_cons_of_mem _ hk);have hm:=h m (mem_cons_self ..);rw [gQ,gQ,ih,countP_cons (l:=M)];simp only [countP_cons,List.countP_nil];unfold nU;by_cases c:x < m
  ·rw [decide_eq_true c];by_cases c2:m < y
   ·rw [decide_eq_true c2,decide_eq_false (show ¬ y < m by omega)];simp;omega
   ·rw [decide_eq_false c2,decide_eq_true (show y < m by omega)];simp;omega
  ·rw [decide_eq_false c,decide_eq_false (show ¬ y < m by omega)];simp
theorem O_ {M:List Int}{x y:Int}(h:∀ m∈M,m≠x/\m≠y)(hxy:x < y):inv ([y]++M++[x])=inv ([x]++M++[y])+1+2 * M.countP (nU x y):=by
 rw [bC,bC,bC ([x]++M),bC [x]];have e1:cG [y] M=cG [x] M+M.countP (nU x y):=by
  show M.countP _+0=M.countP _+0+_;rw [MJ hxy h];omega
 have e2:cG ([y]++M) [x]=1+cG M [x]:=by
  show [x].countP _+cG M [x]=_;rw [countP_cons,decide_eq_true hxy];rfl
 have e3:cG ([x]++M) [y]=cG M [y]:=by
  show [y].countP _+cG M [y]=_;rw [countP_cons,decide_eq_false (by omega:¬ y < x)];simp
 rw [e1,e2,e3,Nk hxy h];show 0+inv M+_+0+_=0+inv M+_+0+_+1+_;omega
theorem DH {P M R:List Int}{x y:Int}(h:∀ m∈M,m≠x/\m≠y)(hxy:x < y):inv (P++([y]++M++[x])++R)=inv (P++([x]++M++[y])++R)+1+2 * M.countP (nU x y):=by
 have p:=jI M x y;rw [bC,bC P,bC (P++([x]++M++[y])),bC P,O_ h hxy,zA P p,zQ R (p.append_left P)];omega
theorem parts {a:List Int}{i j:Nat}(hij:i < j)(hj:j < a.length):a=a.take i++([a.getD i 0]++mm a i j++[a.getD j 0])++a.drop (j+1):=by
 have gi:a.getD i 0=a[i]:=by rw [getD_eq_getElem?_getD,List.getElem?_eq_getElem (by omega)];rfl
 have gj:a.getD j 0=a[j]:=by rw [getD_eq_getElem?_getD,List.getElem?_eq_getElem hj];rfl
 have h1:a.drop i=a[i]::a.drop (i+1):=drop_eq_getElem_cons (by omega);have h2:a.drop (i+1)=mm a i j++a.drop j:=by
  have:=take_append_drop (j - i - 1) (a.drop (i+1));rw [List.drop_drop,show i+1+(j - i - 1)=j by omega] at this;exact this.symm
 have h3:a.drop j=a[j]::a.drop (j+1):=drop_eq_getElem_cons hj
 conv=>lhs;rw [<- take_append_drop i a,h1,h2,h3]
 rw [gi,gj];simp
theorem Mw {a:List Int}{i j:Nat}(hij:i < j)(hj:j < a.length):sw a i j=a.take i++([a.getD j 0]++mm a i j++[a.getD i 0])++a.drop (j+1):=by
 have lM:(mm a i j).length=j - i - 1:=by unfold mm;rw [length_take,length_drop];omega
 have key:∀ (P R:List Int) (x y x' y':Int),P.length=i->((P++([x]++mm a i j++[y])++R).set i y').set j x'=P++([y']++mm a i j++[x'])++R:=λ P R x y x' y' lP=>by
  rw [List.append_assoc,set_append_right _ _ (by omega),lP,sub_self];show (P++(y'::((mm a i j++[y])++R))).set j x'=_;rw [set_append_right _ _ (by omega),lP,show j - i=(j - i - 1)+1 by omega,List.set_cons_succ,List.append_assoc,set_append_right _ _ (by omega),lM,sub_self];simp
 have:=key (a.take i) (a.drop (j+1)) (a.getD i 0) (a.getD j 0) (a.getD i 0) (a.getD j 0) (by rw [length_take];omega);rw [<- parts hij hj] at this;exact this
theorem Nq {a:List Int}(nd:a.Nodup){i j:Nat}(hij:i < j)(hj:j < a.length):∀ m∈mm a i j,m≠a.getD i 0/\m≠a.getD j 0:=λ m hm=>by
 have e:=parts hij hj;rw [e] at nd;have nd2:=(nodup_append.mp (nodup_append.mp nd).1).2.1;have n3:=nodup_append.mp nd2;have n4:=nodup_append.mp n3.1;exact ⟨λ z=>n4.2.2 _ (mem_singleton.mpr rfl) m hm z.symm,λ z=>n3.2.2 m (mem_append_right _ hm) _ (mem_singleton.mpr rfl) z⟩
noncomputable def qE (a:List Int)(i j:Nat):Bool:=!(mm a i j).any λ m=>nU (if a.getD j 0 < a.getD i 0 then a.getD j 0 else a.getD i 0) (if a.getD j 0 > a.getD i 0 then a.getD j 0 else a.getD i 0) m
theorem FI (p:Int->Bool)(M:List Int):(!M.any p)=decide (M.countP p=0):=by
 by_cases h:M.countP p=0
 ·rw [decide_eq_true h];rw [List.countP_eq_zero] at h;simp only [Bool.not_eq_true',List.any_eq_false];exact h
 ·rw [decide_eq_false h];have:M.any p=true:=by
   rw [List.any_eq_true];refine Classical.byContradiction λ z=>h (List.countP_eq_zero.mpr λ a ha hp=>z ⟨a,ha,hp⟩)
  rw [this];rfl
theorem ET {a:List Int}(nd:a.Nodup){i j:Nat}(hij:i < j)(hj:j < a.length):(decide (a.getD i 0 < a.getD j 0) && qE a i j)=(decide (a.getD i 0 < a.getD j 0) && decide (inv (sw a i j)=inv a+1)):=by
 by_cases c:a.getD i 0 < a.getD j 0
 ·have e:=DH (P:=a.take i) (R:=a.drop (j+1)) (Nq nd hij hj) c;rw [<- Mw hij hj,<- parts hij hj] at e;unfold qE;rw [FI,if_neg (by omega),if_pos c,decide_eq_true c,Bool.true_and,Bool.true_and,decide_eq_decide];show (mm a i j).countP (nU (a.getD i 0) (a.getD j 0))=0 ↔ _;omega
 ·rw [decide_eq_false c];rfl
theorem oE {a:List Int}{i j:Nat}(hij:i < j)(hj:j < a.length):(sw a i j).Perm a:=by
 have e:=parts hij hj;rw [Mw hij hj]
 conv=>rhs;rw [e]
 exact ((jI _ _ _).append_left _).append_right _
theorem MZ {a:List Int}{i j:Nat}(hij:i < j)(hj:j < a.length):(sw a i j).getD i 0=a.getD j 0:=by
 unfold sw;rw [getD_eq_getElem?_getD,getElem?_set_ne (by omega),getElem?_set_self (by omega)];rfl
theorem Mp {a:List Int}{i j:Nat}(hij:i < j)(hj:j < a.length):(sw a i j).getD j 0=a.getD i 0:=by
 unfold sw;rw [getD_eq_getElem?_getD,getElem?_set_self (by rw [length_set];exact hj)];rfl
theorem M8 {a:List Int}{i j:Nat}(hij:i < j)(hj:j < a.length):sw (sw a i j) i j=a:=by
 have h1:=MZ hij hj;have h2:=Mp hij hj;unfold sw at h1 h2 ⊢;rw [h1,h2];apply List.ext_getElem?;intro k;by_cases c:k=j
 ·subst c;rw [getElem?_set_self (by simp only [length_set];exact hj),Iv.gh hj]
 ·rw [getElem?_set_ne (by omega)];by_cases c2:k=i
  ·subst c2;rw [getElem?_set_self (by simp only [length_set];omega),Iv.gh (by omega)]
  ·rw [getElem?_set_ne (by omega),getElem?_set_ne (by omega),getElem?_set_ne (by omega)]
end Stp
namespace Eu
open PySem L2 Bl
open Wd (ex nE)
open Fw (rg BB)
theorem bE {l:List Int}{k:Nat}(h:k < l.length):l.getD k 0=l[k]:=by rw [getD_eq_getElem?_getD,List.getElem?_eq_getElem h];rfl
theorem low {a b:List Int}{k:Nat}(hl:a.length=b.length)(h0:1<=k)(h:k < b.length)(hb:b.getD k 0 < b.getD (k - 1) 0)(ha:a.getD (k - 1) 0<=a.getD k 0)(hab:Below a b):Below a (ex b k):=by
 have hu:k < a.length:=by omega
 rw [bE h,bE (show k - 1 < b.length by omega)] at hb;rw [bE hu,bE (show k - 1 < a.length by omega)] at ha;intro i j;rw [nE h0 h];by_cases hi:i=k
 ·subst hi;rw [if_pos rfl];have b1:=hab (i - 1) j;have b3:=hab (i+1) j;have c1:=bQ (l:=a) (i:=i - 1) (by omega) j;have c2:=bQ (l:=b) (i:=i - 1) (by omega) j;have c3:=bQ (l:=a) (i:=i) hu j;have c4:=bQ (l:=b) (i:=i) h j;rw [show i - 1+1=i by omega] at c1 c2;rw [c3,c4,c1,c2] at b3;rw [c1,c2];revert b1 b3
  (repeat' split) <;> intros <;> omega
 ·rw [if_neg hi];have:=hab i j;omega
theorem Ox {a b:List Int}{k:Nat}(hl:a.length=b.length)(h0:1<=k)(h:k < b.length)(hb:b.getD k 0 < b.getD (k - 1) 0)(ha:a.getD k 0<=a.getD (k - 1) 0)(hab:Below a b):Below (ex a k) (ex b k):=by
 have hu:k < a.length:=by omega
 rw [bE h,bE (show k - 1 < b.length by omega)] at hb;rw [bE hu,bE (show k - 1 < a.length by omega)] at ha;intro i j;rw [nE h0 h,nE h0 hu];by_cases hi:i=k
 ·subst hi;rw [if_pos rfl,if_pos rfl];have b1:=hab (i - 1) j;have b3:=hab (i+1) j;have c1:=bQ (l:=a) (i:=i - 1) (by omega) j;have c2:=bQ (l:=b) (i:=i - 1) (by omega) j;have c3:=bQ (l:=a) (i:=i) hu j;have c4:=bQ (l:=b) (i:=i) h j;rw [show i - 1+1=i by omega] at c1 c2;rw [c3,c4,c1,c2] at b3;rw [c1,c2];revert b1 b3
  (repeat' split) <;> intros <;> omega
 ·rw [if_neg hi,if_neg hi];have:=hab i j;omega
section
variable {n k:Nat}
theorem ln {z:List Int}(p:z.Perm (rg n)):z.length=n:=by rw [p.length_eq,Wd.dZ]
theorem Fv {z:List Int}(p:z.Perm (rg n))(h0:1<=k)(h:k < n):(ex z k).Perm (rg n):=Fw.IL p h0 (by rw [ln p];exact h)
theorem z6 {z:List Int}(p:z.Perm (rg n))(h0:1<=k)(h:k < n):ex (ex z k) k=z:=Fw.IG h0 (by rw [ln p];exact h)
theorem ne {z:List Int}(p:z.Perm (rg n))(h0:1<=k)(h:k < n):z.getD (k - 1) 0≠z.getD k 0:=Fw.GB p h0 (by rw [ln p];exact h)
theorem hi {z:List Int}(p:z.Perm (rg n))(h0:1<=k)(h:k < n):(ex z k).getD k 0=z.getD (k - 1) 0:=Fw.HY h0 (by rw [ln p];exact h)
theorem lo {z:List Int}(p:z.Perm (rg n))(h0:1<=k)(h:k < n):(ex z k).getD (k - 1) 0=z.getD k 0:=Fw.IT h0 (by rw [ln p];exact h)
theorem Ma {z:List Int}(p:z.Perm (rg n))(h0:1<=k)(h:k < n)(hr:z.getD (k - 1) 0 < z.getD k 0):Below z (ex z k):=by
 have l:=ln p;refine Wd.up h0 (by omega) ?_;rw [<- bE,<- bE];exact hr
theorem PJ {u w:List Int}(pu:u.Perm (rg n))(pw:w.Perm (rg n))(h0:1<=k)(h:k < n)(hr:w.getD (k - 1) 0 < w.getD k 0)(hb:Below u w):Below (ex u k) (ex w k):=by
 have l:=ln pw;refine Wd.lift (by rw [ln pu,ln pw]) h0 (by omega) ?_ hb;rw [<- bE,<- bE];exact hr
theorem Im {z w:List Int}(pz:z.Perm (rg n))(pw:w.Perm (rg n))(h0:1<=k)(h:k < n)(hw:w.getD k 0 < w.getD (k - 1) 0)(hb:Below z w):Below (ex z k) w:=by
 have lw:=ln pw;have lz:=ln pz
 rcases lt_or_gt_of_ne (ne pz h0 h) with c | c
 ·have h1:=low (a:=z) (b:=w) (by omega) h0 (by omega) hw (by omega) hb;have h2:=PJ pz (Fv pw h0 h) h0 h (by rw [hi pw h0 h,lo pw h0 h];exact hw) h1
  rwa [z6 pw h0 h] at h2
 ·have:=Ma (Fv pz h0 h) h0 h (by rw [hi pz h0 h,lo pz h0 h];omega);rw [z6 pz h0 h] at this;exact this.trans hb
theorem Ja {u z:List Int}(pu:u.Perm (rg n))(pz:z.Perm (rg n))(h0:1<=k)(h:k < n)(hu:u.getD (k - 1) 0 < u.getD k 0)(hb:Below u z):Below u (ex z k):=by
 have lu:=ln pu;have lz:=ln pz
 rcases lt_or_gt_of_ne (ne pz h0 h) with c | c
 ·exact hb.trans (Ma pz h0 h c)
 ·exact low (by omega) h0 (by omega) (by omega) (by omega) hb
end
noncomputable def al (n:Nat):List (List Int):=(List.range (Nu.gr n)).map (Nu.BD n (rg n))
theorem iN {n:Nat}{z:List Int}:z∈al n ↔ z.Perm (rg n):=by
 unfold al;rw [mem_map];constructor
 ·rintro ⟨m,hm,rfl⟩;exact (Nu.tM n (rg n) m (Wd.dZ n) (Nu.nv _ _) (mem_range.mp hm)).1
 ·intro p;obtain ⟨h1,h2⟩:=Nu.tD n (rg n) z (Wd.dZ n) (Nu.nv _ _) p;exact ⟨Nu.rank z,mem_range.mpr h1,h2⟩
theorem BI (n:Nat):(al n).Nodup:=by
 unfold al List.Nodup;rw [pairwise_map];refine List.Pairwise.imp_of_mem (λ {a b} ha hb hab z=>hab ?_) List.nodup_range;have:=(Nu.tM n (rg n) a (Wd.dZ n) (Nu.nv _ _) (mem_range.mp ha)).2;rw [<- this,z,(Nu.tM n (rg n) b (Wd.dZ n) (Nu.nv _ _) (mem_range.mp hb)).2]
theorem MV {n k:Nat}(h0:1<=k)(h:k < n):((al n).map λ z=>ex z k).Perm (al n):=by
 refine (List.perm_ext_iff_of_nodup ?_ (BI n)).mpr λ z=>?_
 ·unfold List.Nodup;rw [pairwise_map];refine List.Pairwise.imp_of_mem (λ {a b} ha hb hab e=>hab ?_) (BI n);rw [<- z6 (iN.mp ha) h0 h,e,z6 (iN.mp hb) h0 h]
 ·rw [mem_map];constructor
  ·rintro ⟨y,hy,rfl⟩;exact iN.mpr (Fv (iN.mp hy) h0 h)
  ·intro hz;exact ⟨ex z k,iN.mpr (Fv (iN.mp hz) h0 h),z6 (iN.mp hz) h0 h⟩
noncomputable def sg (z:List Int):Int:=if Iv.inv z % 2=1 then -1 else 1
theorem M0 {n k:Nat}{z:List Int}(p:z.Perm (rg n))(h0:1<=k)(h:k < n):sg (ex z k)=-sg z:=by
 have l:=ln p;unfold sg
 rcases lt_or_gt_of_ne (ne p h0 h) with c | c
 ·have:=Fw.C5 h0 (show k < z.length by omega) c
  (repeat' split) <;> omega
 ·have:=Fw.qv h0 (show k < z.length by omega) c
  (repeat' split) <;> omega
open Classical in
noncomputable def sm (n:Nat)(P:List Int->Prop):Int:=((al n).map λ z=>if P z then sg z else 0).sum
theorem gY {a b:List Int}(p:a.Perm b):a.sum=b.sum:=by
 induction p with
 | nil=>rfl
 | cons x _ ih=>rw [sum_cons,sum_cons,ih]
 | swap x y l=>rw [sum_cons,sum_cons,sum_cons,sum_cons];omega
 | trans _ _ h1 h2=>exact h1.trans h2
theorem sum_neg {α:Type}(f g:α->Int):∀ (l:List α),(∀ x∈l,f x=-g x)->(l.map f).sum=-(l.map g).sum
 | [],_=>rfl
 | x::l,h=>by
  rw [map_cons,map_cons,sum_cons,sum_cons,sum_neg f g l λ y hy=>h y (mem_cons_of_mem _ hy),h x (mem_cons_self ..)];omega
theorem sum_add {α:Type}(f g e:α->Int):∀ (l:List α),(∀ x∈l,f x=g x+e x)->(l.map f).sum=(l.map g).sum+(l.map e).sum
 | [],_=>rfl
 | x::l,h=>by
  rw [map_cons,map_cons,map_cons,sum_cons,sum_cons,sum_cons,sum_add f g e l λ y hy=>h y (mem_cons_of_mem _ hy),h x (mem_cons_self ..)];omega
theorem Cs {n k:Nat}{P:List Int->Prop}(h0:1<=k)(h:k < n)(hP:∀ z,z.Perm (rg n)->(P (ex z k) ↔ P z)):sm n P=0:=by
 classical
 have e1:((al n).map λ z=>if P (ex z k) then sg (ex z k) else 0).sum=-sm n P:=by
  unfold sm;refine sum_neg _ _ _ λ z hz=>?_;have p:=iN.mp hz;by_cases c:P z
  ·rw [if_pos c,if_pos ((hP z p).mpr c),M0 p h0 h]
  ·rw [if_neg c,if_neg λ q=>c ((hP z p).mp q)];rfl
 have e2:((al n).map λ z=>if P (ex z k) then sg (ex z k) else 0).sum=sm n P:=by
  have:=gY ((MV h0 h).map λ z=>if P z then sg z else 0);rw [List.map_map] at this;exact this
 omega
theorem v8 {n:Nat}{P Q R:List Int->Prop}(h:∀ z,z.Perm (rg n)->(P z ↔ Q z\/R z))(hd:∀ z,z.Perm (rg n)->Q z->R z->False):sm n P=sm n Q+sm n R:=by
 classical
 unfold sm;refine sum_add _ _ _ _ λ z hz=>?_;have p:=iN.mp hz;by_cases q:Q z
 ·rw [if_pos q,if_pos ((h z p).mpr (.inl q)),if_neg λ r=>hd z p q r];omega
 ·by_cases r:R z
  ·rw [if_neg q,if_pos r,if_pos ((h z p).mpr (.inr r))];omega
  ·rw [if_neg q,if_neg r,if_neg λ x=>((h z p).mp x).elim q r];rfl
theorem MH {n:Nat}{P:List Int->Prop}(h:∀ z,z.Perm (rg n)->¬ P z):sm n P=0:=by
 have:=v8 (n:=n) (P:=P) (Q:=P) (R:=P) (λ z p=>⟨λ q=>.inl q,λ q=>q.elim id id⟩) λ z p q _=>h z p q;omega
noncomputable def Bt (u w z:List Int):Prop:=Below u z/\Below z w
theorem P6 {n:Nat}:∀ (m:Nat) (u w:List Int),Iv.inv w=m->u.Perm (rg n)->w.Perm (rg n)->u≠w->Below u w->sm n (Bt u w)=0:=by
 intro m
 induction m using Nat.strongRecOn with
 | _ m ih=>
  intro u w hm pu pw hne hb;have lw:=ln pw;have lu:=ln pu;by_cases hz:Iv.inv w=0
  ·exfalso;have:w=rg n:=Fw.IZ pw λ k hk=>by
    have:=Fw.qv hk.1 hk.2.1 hk.2.2;omega
   have hu:u=rg n:=by
    have h1:Below (rg n) u:=by
     obtain ⟨ks,hd⟩:=Fw.HK _ u (Nat.le_refl _);have key:∀ (ks:List Nat) (l:List Int),l.Perm (rg n)->Fw.Dn l ks->Below (rg n) l:=by
      intro ks
      induction ks with
      | nil=>intro l p hd;rw [<- hd.led p];exact Below.refl _
      | cons k ks ih2=>
       intro l p hd;have hk:=hd.1.1;have ll:=ln p;have p2:=Fv (n:=n) p hk.1 (by have:=hk.2.1;omega);refine (ih2 _ p2 hd.2).trans ?_;have:=Ma p2 hk.1 (by have:=hk.2.1;omega) (by rw [hi p hk.1 (by have:=hk.2.1;omega),lo p hk.1 (by have:=hk.2.1;omega)];exact hk.2.2)
       rwa [z6 p hk.1 (by have:=hk.2.1;omega)] at this
     exact key ks u pu hd
    exact Below.antisymm (by rw [lu,Wd.dZ]) (by rw [<- this];exact hb) h1
   exact hne (hu.trans this.symm)
  ·obtain ⟨k,hk⟩:=Fw.Fy (l:=w) (by omega);have h0:=hk.1;have h:k < n:=by have:=hk.2.1;omega
   have hw:=hk.2.2;have pv:=Fv pw h0 h;have iv:=Fw.qv h0 hk.2.1 hw
   rcases lt_or_gt_of_ne (ne pu h0 h) with c | c
   ·refine Cs h0 h λ z pz=>?_;have fw:∀ z,z.Perm (rg n)->Bt u w z->Bt u w (ex z k):=λ z pz ⟨a,b⟩=>⟨Ja pu pz h0 h c a,Im pz pw h0 h hw b⟩;refine ⟨λ q=>?_,fw z pz⟩;have:=fw _ (Fv pz h0 h) q
    rwa [z6 pz h0 h] at this
   ·have px:=Fv pu h0 h;have cx:(ex u k).getD (k - 1) 0 < (ex u k).getD k 0:=by rw [hi pu h0 h,lo pu h0 h];exact c
    have xu:Below (ex u k) u:=by have:=Ma px h0 h cx;rwa [z6 pu h0 h] at this
    have xw:=xu.trans hb;have vw:Below (ex w k) w:=by have:=Ma pv h0 h (by rw [hi pw h0 h,lo pw h0 h];exact hw);rwa [z6 pw h0 h] at this
    have xv:Below (ex u k) (ex w k):=Ox (by omega) h0 (by omega) hw (by omega) hb;have s1:sm n (Bt (ex u k) w)=0:=Cs h0 h λ z pz=>by
     have fw:∀ z,z.Perm (rg n)->Bt (ex u k) w z->Bt (ex u k) w (ex z k):=λ z pz ⟨a,b⟩=>⟨Ja px pz h0 h cx a,Im pz pw h0 h hw b⟩;refine ⟨λ q=>?_,fw z pz⟩;have:=fw _ (Fv pz h0 h) q
     rwa [z6 pz h0 h] at this
    have nxv:ex u k≠ex w k:=λ e=>hne (by rw [<- z6 pu h0 h,e,z6 pw h0 h]);have s2:=ih (Iv.inv (ex w k)) (by omega) (ex u k) (ex w k) rfl px pv nxv xv;have s3:sm n (Bt u (ex w k))=0:=by
     by_cases cb:Below u (ex w k)
     ·refine ih (Iv.inv (ex w k)) (by omega) u (ex w k) rfl pu pv (λ e=>?_) cb;rw [e,hi pw h0 h,lo pw h0 h] at c;omega
     ·exact MH λ z _ ⟨a,b⟩=>cb (a.trans b)
    have d1:=v8 (n:=n) (P:=Bt (ex u k) w) (Q:=Bt u w) (R:=λ z=>Bt (ex u k) w z/\¬ Below u z) (λ z _=>by
     by_cases q:Below u z
     ·exact ⟨λ ⟨_,b⟩=>.inl ⟨q,b⟩,λ x=>x.elim (λ ⟨_,b⟩=>⟨xu.trans q,b⟩) λ y=>y.1⟩
     ·exact ⟨λ x=>.inr ⟨x,q⟩,λ x=>x.elim (λ ⟨a,_⟩=>absurd a q) λ y=>y.1⟩) λ z _ a b=>b.2 a.1
    have d2:=v8 (n:=n) (P:=Bt (ex u k) (ex w k)) (Q:=Bt u (ex w k)) (R:=λ z=>Bt (ex u k) w z/\¬ Below u z) (λ z pz=>by
     have lz:=ln pz;by_cases q:Below u z
     ·exact ⟨λ ⟨_,b⟩=>.inl ⟨q,b⟩,λ x=>x.elim (λ ⟨_,b⟩=>⟨xu.trans q,b⟩) λ y=>absurd q y.2⟩
     ·refine ⟨λ ⟨a,b⟩=>.inr ⟨⟨a,b.trans vw⟩,q⟩,λ x=>x.elim (λ ⟨a,_⟩=>absurd a q) λ ⟨⟨a,b⟩,_⟩=>⟨a,?_⟩⟩
      rcases lt_or_gt_of_ne (ne pz h0 h) with cz | cz
      ·exact low (by omega) h0 (by omega) hw (by omega) b
      ·exfalso;have t1:=low (a:=ex u k) (b:=z) (by rw [ln px];omega) h0 (by omega) (by omega) (by omega) a;have t2:=PJ px (Fv pz h0 h) h0 h (by rw [hi pz h0 h,lo pz h0 h];omega) t1;rw [z6 pu h0 h,z6 pz h0 h] at t2;exact q t2) λ z _ a b=>b.2 a.1
    omega
end Eu
namespace Eu
open PySem L2 Bl Am
open Fw (rg)
theorem least {p:Nat->Prop}:∀ m,p m->∃ q,p q/\∀ k,k < q->¬ p k:=by
 intro m
 induction m using Nat.strongRecOn with
 | _ m ih=>
  intro h;by_cases c:∃ k,k < m/\p k
  ·obtain ⟨k,h1,h2⟩:=c;exact ih k h1 h2
  ·exact ⟨m,h,λ k hk hp=>c ⟨k,hk,hp⟩⟩
theorem asc {n:Nat}{y z:List Int}(py:y.Perm (rg n))(pz:z.Perm (rg n))(hb:Below y z)(hne:y≠z):∃ i j,i < j/\j < n/\y.getD i 0 < y.getD j 0/\Stp.qE y i j=true/\Below (Iv.sw y i j) z/\Iv.inv (Iv.sw y i j)=Iv.inv y+1/\(Iv.sw y i j).Perm (rg n):=by
 have ly:=ln py;have lz:=ln pz;have ny:y.Nodup:=py.nodup_iff.mpr (gU _ _);have hex:∃ i,i < n/\y.getD i 0≠z.getD i 0:=by
  by_cases c:∃ i,i < n/\y.getD i 0≠z.getD i 0
  ·exact c
  ·exfalso;refine hne (List.ext_getElem (by omega) λ i h1 h2=>?_);rw [<- bE,<- bE];by_cases d:y.getD i 0=z.getD i 0
   ·exact d
   ·exact absurd ⟨i,by omega,d⟩ c
 obtain ⟨i0,h0⟩:=hex;obtain ⟨i,⟨hi,hd⟩,hmin⟩:=least (p:=λ i=>i < n/\y.getD i 0≠z.getD i 0) i0 h0;have ht:y.take i=z.take i:=by
  apply List.ext_getElem?;intro k;rw [List.getElem?_take,List.getElem?_take];by_cases c:k < i
  ·rw [if_pos c,if_pos c];have e:y.getD k 0=z.getD k 0:=by
    by_cases q:y.getD k 0=z.getD k 0
    ·exact q
    ·exact absurd ⟨by omega,q⟩ (hmin k c)
   rw [Iv.gh (by omega),Iv.gh (by omega),e]
  ·rw [if_neg c,if_neg c]
 obtain ⟨hlt,j0,g1,g2,g3⟩:=Iv.part py pz ly lz hb ht hi hd;obtain ⟨j,⟨hj1,hj2,hj3,hj4⟩,hjm⟩:=least (p:=λ j=>i < j/\j < n/\y.getD i 0 < y.getD j 0/\y.getD j 0<=z.getD i 0) j0 ⟨g1,g2,by omega,by omega⟩;obtain ⟨b1,b2,b3⟩:=Iv.FA ly lz hb ht hj1 hj2 hj3 hj4 (λ k h1 h2 ⟨h3,h4⟩=>hjm k h2 ⟨h1,by omega,h3,h4⟩) ny;refine ⟨i,j,hj1,hj2,hj3,?_,b1,b2,b3.trans py⟩;have:=Stp.ET ny hj1 (show j < y.length by omega);rw [decide_eq_true hj3,decide_eq_true b2,Bool.true_and] at this;exact this
structure Done (n:Nat)(u w:List Int)(es:List (List Int×Bool)):Prop where
 nd:(es.map (·.1)).Nodup
 pm:∀ e∈es,e.1.Perm (rg n)
 up:∀ e∈es,Below u e.1
 fl:∀ e∈es,(e.2=true ↔ Below e.1 w)
 st:u∈es.map (·.1)
 cl:∀ e∈es,e.2=true->∀ i j,i < j->j < n->e.1.getD i 0 < e.1.getD j 0->Stp.qE e.1 i j=true->Iv.sw e.1 i j∈es.map (·.1)
theorem Done.all {n:Nat}{u w:List Int}{es:List (List Int×Bool)}(d:Done n u w es){z:List Int}(pz:z.Perm (rg n))(hz:Below z w):∀ (m:Nat) (y:List Int),n * n - Iv.inv y=m->y∈es.map (·.1)->Below y z->z∈es.map (·.1):=by
 intro m
 induction m using Nat.strongRecOn with
 | _ m ih=>
  intro y hm hy hb;by_cases c:y=z
  ·rw [<- c];exact hy
  ·obtain ⟨⟨y',b⟩,he,hye⟩:=mem_map.mp hy;have hye:y'=y:=hye;subst hye;have py:y'.Perm (rg n):=d.pm _ he;obtain ⟨i,j,h1,h2,h3,h4,h5,h6,h7⟩:=asc py pz hb c;have hm2:=Iv.sW (Iv.sw y' i j);rw [ln h7,h6] at hm2;exact ih (n * n - Iv.inv (Iv.sw y' i j)) (by omega) _ rfl (d.cl _ he ((d.fl _ he).mpr (hb.trans hz)) i j h1 h2 h3 h4) h5
theorem Done.mem {n:Nat}{u w:List Int}{es:List (List Int×Bool)}(d:Done n u w es)(z:List Int):z∈(es.filter (·.2)).map (·.1) ↔ z.Perm (rg n)/\Below u z/\Below z w:=by
 rw [mem_map];constructor
 ·rintro ⟨e,he,rfl⟩;obtain ⟨h1,h2⟩:=mem_filter.mp he;exact ⟨d.pm e h1,d.up e h1,(d.fl e h1).mp h2⟩
 ·rintro ⟨pz,h1,h2⟩;have:=d.all pz h2 _ u rfl d.st h1;obtain ⟨e,he,rfl⟩:=mem_map.mp this;exact ⟨e,mem_filter.mpr ⟨he,(d.fl e he).mpr h2⟩,rfl⟩
theorem Done.nodup {n:Nat}{u w:List Int}{es:List (List Int×Bool)}(d:Done n u w es):((es.filter (·.2)).map (·.1)).Nodup:=(d.nd).sublist ((filter_sublist (l:=es)).map _)
noncomputable def ext (n:Nat)(p:List Int):List (List Int):=((rg n).filter λ t=>decide (t∉p)).map λ t=>p++[t]
noncomputable def inj (n:Nat):Nat->List (List Int)
 | 0=>[[]]
 | k+1=>(inj n k).flatMap (ext n)
theorem mJ {n:Nat}:∀ {k:Nat} {p:List Int},p∈inj n k ↔ p.length=k/\p.Nodup/\∀ t∈p,t∈rg n
 | 0,p=>by
  unfold inj;rw [mem_singleton];constructor
  ·rintro rfl;simp
  ·rintro ⟨h,_⟩;exact length_eq_zero_iff.mp h
 | k+1,p=>by
  unfold inj;rw [mem_flatMap];constructor
  ·rintro ⟨q,hq,hp⟩;obtain ⟨t,ht,rfl⟩:=mem_map.mp hp;obtain ⟨h1,h2⟩:=mem_filter.mp ht;obtain ⟨a,b,c⟩:=mJ.mp hq;have h2:t∉q:=of_decide_eq_true h2;refine ⟨by simp [a],?_,λ x hx=>?_⟩
   ·rw [nodup_append];refine ⟨b,by simp,λ x hx y hy z=>h2 ?_⟩;have:y=t:=by simpa using hy
    rw [<- this,<- z];exact hx
   ·rcases mem_append.mp hx with z | z
    ·exact c x z
    ·have:x=t:=by simpa using z
     rw [this];exact h1
  ·rintro ⟨h1,h2,h3⟩
   rcases List.eq_nil_or_concat p with c | ⟨q,t,c⟩
   ·rw [c] at h1;simp at h1
   ·rw [List.concat_eq_append] at c;subst c;rw [nodup_append] at h2;refine ⟨q,mJ.mpr ⟨by simpa using h1,h2.1,λ x hx=>h3 x (mem_append_left _ hx)⟩,mem_map.mpr ⟨t,mem_filter.mpr ⟨h3 t (by simp),decide_eq_true λ z=>h2.2.2 t z t (by simp) rfl⟩,rfl⟩⟩
theorem mD {n:Nat}{p:List Int}:p∈inj n n ↔ p.Perm (rg n):=by
 rw [mJ];constructor
 ·rintro ⟨h1,h2,h3⟩;exact nK h2 h3 (by rw [h1,Wd.dZ];exact Nat.le_refl _)
 ·intro p';exact ⟨ln p',p'.nodup_iff.mpr (gU _ _),λ t ht=>p'.mem_iff.mp ht⟩
theorem zp:∀ {a b:List Int} (x y:List Int),a.length=b.length->HT.lexLt a b=true->HT.lexLt (a++x) (b++y)=true
 | [],[],_,_,_,h=>by cases h
 | [],_::_,_,_,h,_=>by simp at h
 | _::_,[],_,_,h,_=>by simp at h
 | p::a,q::b,x,y,hl,h=>by
  show HT.lexLt (p::(a++x)) (q::(b++y))=true;rw [HT.ee] at h ⊢;by_cases c:p=q
  ·rw [if_pos c] at h ⊢;exact zp x y (by simpa using hl) h
  ·rw [if_neg c] at h ⊢;exact h
theorem t_:∀ (p:List Int) {s t:Int},s < t->HT.lexLt (p++[s]) (p++[t])=true
 | [],s,t,h=>by
  show HT.lexLt [s] [t]=true;rw [HT.ee,if_neg (by omega),decide_eq_true h]
 | x::p,s,t,h=>by
  show HT.lexLt (x::(p++[s])) (x::(p++[t]))=true;rw [HT.ee,if_pos rfl];exact t_ p h
theorem oS {n:Nat}:∀ (k:Nat),(inj n k).Pairwise λ a b=>HT.lexLt a b=true
 | 0=>pairwise_singleton _ _
 | k+1=>by
  unfold inj;rw [List.pairwise_flatMap];refine ⟨λ p hp=>?_,List.Pairwise.imp_of_mem (λ {a b} ha hb hab x hx y hy=>?_) (oS k)⟩
  ·unfold ext;rw [pairwise_map];refine List.Pairwise.imp (λ {a b} hab=>t_ p hab) ?_;exact (Nu.nv _ _).sublist filter_sublist
  ·obtain ⟨s,_,rfl⟩:=mem_map.mp hx;obtain ⟨t,_,rfl⟩:=mem_map.mp hy;exact zp [s] [t] (by rw [(mJ.mp ha).1,(mJ.mp hb).1]) hab
theorem Mt {a b:List Int}(h:HT.lexLt a b=true):Bj a b:=by
 show HT.lexLt b a=false
 cases c:HT.lexLt b a with
 | false=>rfl
 | true=>
  have:=Sx.pI h c;rw [Sx.jj] at this;cases this
theorem IY {n:Nat}{u w:List Int}{fs:List (List Int)}(nf:fs.Nodup)(hm:∀ z,z∈fs ↔ z.Perm (rg n)/\Below u z/\Below z w)(q:List Int->Bool)(hq:∀ z,z.Perm (rg n)->(q z=true ↔ Below u z/\Below z w)):dR fs=(inj n n).filter q:=by
 symm
 refine oQ ?_ ?_
 ·have nd:((inj n n).filter q).Nodup:=by
   refine List.Pairwise.sublist filter_sublist (List.Pairwise.imp (λ {a b} h z=>?_) (oS n));rw [z,Sx.jj] at h;cases h
  refine (List.perm_ext_iff_of_nodup nd nf).mpr λ z=>?_;rw [hm,mem_filter,mD];constructor
  ·rintro ⟨h1,h2⟩;exact ⟨h1,(hq z h1).mp h2⟩
  ·rintro ⟨h1,h2⟩;exact ⟨h1,(hq z h1).mpr h2⟩
 ·exact List.Pairwise.sublist filter_sublist (List.Pairwise.imp Mt (oS n))
theorem Done.told {n:Nat}{u w:List Int}{es:List (List Int×Bool)}(d:Done n u w es)(q:List Int->Bool)(hq:∀ z,z.Perm (rg n)->(q z=true ↔ Below u z/\Below z w)):dR ((es.filter (·.2)).map (·.1))=(inj n n).filter q:=IY d.nodup d.mem q hq
theorem half {n:Nat}{u w:List Int}(pu:u.Perm (rg n))(pw:w.Perm (rg n))(hb:Below u w)(hne:u≠w)(q:List Int->Bool)(hq:∀ z,z.Perm (rg n)->(q z=true ↔ Below u z/\Below z w)):2 * (((inj n n).filter q).filter λ z=>decide (Iv.inv z % 2=1)).length=((inj n n).filter q).length:=by
 classical
 have e:=P6 (n:=n) _ u w rfl pu pw hne hb;have pm:(inj n n).Perm (al n):=by
  refine (List.perm_ext_iff_of_nodup ?_ (BI n)).mpr λ z=>by rw [mD,iN]
  refine List.Pairwise.imp (λ {a b} h z=>?_) (oS n);rw [z,Sx.jj] at h;cases h
 have e2:((inj n n).map λ z=>if Bt u w z then sg z else 0).sum=0:=by
  rw [gY (pm.map λ z=>if Bt u w z then sg z else 0)];exact e
 have key:∀ (l:List (List Int)),(∀ z∈l,z.Perm (rg n))->(l.map λ z=>if Bt u w z then sg z else 0).sum=((l.filter q).length:Int) - 2 * (((l.filter q).filter λ z=>decide (Iv.inv z % 2=1)).length:Int):=λ l=>by
  induction l with
  | nil=>intro _;rfl
  | cons z l ih=>
   intro h;have ih:=ih λ y hy=>h y (mem_cons_of_mem _ hy);have hz:=hq z (h z (mem_cons_self ..));rw [map_cons,sum_cons,ih];by_cases c:q z=true
   ·rw [if_pos (show Bt u w z from hz.mp c),List.filter_cons_of_pos c];unfold sg;by_cases d:Iv.inv z % 2=1
    ·rw [if_pos d,List.filter_cons_of_pos (by exact decide_eq_true d),length_cons,length_cons];omega
    ·rw [if_neg d,List.filter_cons_of_neg (by simpa using d),length_cons];omega
   ·rw [if_neg (show ¬ Bt u w z from λ b=>c (hz.mpr b)),List.filter_cons_of_neg (by simpa using c)];omega
 have:=key (inj n n) λ z hz=>mD.mp hz;omega
end Eu
namespace Eu
open PySem L2 Bl Am
open Fw (rg)
theorem mono {n:Nat}{z:List Int}(pz:z.Perm (rg n)):∀ (m:Nat) (y:List Int),n * n - Iv.inv y=m->y.Perm (rg n)->Below y z->Iv.inv y<=Iv.inv z/\(Iv.inv y=Iv.inv z->y=z):=by
 intro m
 induction m using Nat.strongRecOn with
 | _ m ih=>
  intro y hm py hb;by_cases c:y=z
  ·subst c;exact ⟨Nat.le_refl _,λ _=>rfl⟩
  ·obtain ⟨i,j,h1,h2,h3,h4,h5,h6,h7⟩:=asc py pz hb c;have hm2:=Iv.sW (Iv.sw y i j);rw [ln h7,h6] at hm2;have:=(ih (n * n - Iv.inv (Iv.sw y i j)) (by omega) _ rfl h7 h5).1;exact ⟨by omega,λ q=>by omega⟩
theorem N6 {n:Nat}{z:List Int}(pz:z.Perm (rg n)){m:Nat}(hm:m<=Iv.inv z):∀ (k:Nat) (u:List Int),Iv.inv u+k=m->u.Perm (rg n)->Below u z->∃ w,w.Perm (rg n)/\Below u w/\Below w z/\Iv.inv w=m
 | 0,u,hk,pu,hb=>⟨u,pu,Below.refl _,hb,hk⟩
 | k+1,u,hk,pu,hb=>by
  have c:u≠z:=λ q=>by rw [q] at hk;omega
  obtain ⟨i,j,h1,h2,h3,h4,h5,h6,h7⟩:=asc pu pz hb c;obtain ⟨w,w1,w2,w3,w4⟩:=N6 pz hm k (Iv.sw u i j) (by omega) h7 h5;refine ⟨w,w1,Below.trans ?_ w2,w3,w4⟩;have lu:=ln pu;unfold Iv.sw;rw [bE (show i < u.length by omega),bE (show j < u.length by omega)] at h3 ⊢;exact iC (by omega) (by omega) h1 h3
noncomputable def Up (n:Nat)(a l:List Int):Prop:=∃ i j,i < j/\j < n/\a.getD i 0 < a.getD j 0/\Stp.qE a i j=true/\l=Iv.sw a i j
theorem Up.ok {n:Nat}{a l:List Int}(pa:a.Perm (rg n))(h:Up n a l):l.Perm (rg n)/\Below a l/\Iv.inv l=Iv.inv a+1:=by
 obtain ⟨i,j,h1,h2,h3,h4,rfl⟩:=h;have la:=ln pa;have na:a.Nodup:=pa.nodup_iff.mpr (gU _ _);refine ⟨(Stp.oE h1 (by omega)).trans pa,?_,?_⟩
 ·unfold Iv.sw;rw [bE (show i < a.length by omega),bE (show j < a.length by omega)] at h3 ⊢;exact iC (by omega) (by omega) h1 h3
 ·have:=Stp.ET na h1 (show j < a.length by omega);rw [decide_eq_true h3,h4,Bool.true_and,Bool.true_and] at this;exact of_decide_eq_true this.symm
theorem last {n:Nat}{w z:List Int}(pw:w.Perm (rg n))(pz:z.Perm (rg n))(hb:Below w z)(h:Iv.inv z=Iv.inv w+1):Up n w z:=by
 obtain ⟨i,j,h1,h2,h3,h4,h5,h6,h7⟩:=asc pw pz hb (λ q=>by rw [q] at h;omega);exact ⟨i,j,h1,h2,h3,h4,((mono pz _ _ rfl h7 h5).2 (by omega)).symm⟩
structure Cb (n:Nat)(x y:List Int)(k:Nat)(la fs:List (List Int)):Prop where
 ly:∀ z∈la,z.Perm (rg n)/\Below x z/\Iv.inv z=Iv.inv x+k
 fo:∀ z,z.Perm (rg n)->Below x z->Below z y->Iv.inv z=Iv.inv x+k->z∈la
 fd:∀ f,f∈fs ↔ f.Perm (rg n)/\Below x f/\Below f y/\Iv.inv f < Iv.inv x+k
 nl:la.Nodup
 nf:fs.Nodup
theorem Cb.start {n:Nat}{x y:List Int}(px:x.Perm (rg n)):Cb n x y 0 [x] [] where
 ly:=λ z hz=>by
  have:z=x:=by simpa using hz
  subst this;exact ⟨px,Below.refl _,rfl⟩
 fo:=λ z pz h1 _ h3=>by
  rw [(mono pz _ _ rfl px h1).2 h3.symm];simp
 fd:=λ f=>⟨λ h=>(not_mem_nil h).elim,λ ⟨pf,h1,_,h3⟩=>by have:=(mono pf _ _ rfl px h1).1;omega⟩
 nl:=by simp
 nf:=nodup_nil
theorem Cb.next {n k:Nat}{x y:List Int}{la fs ks fs':List (List Int)}(c:Cb n x y k la fs)(px:x.Perm (rg n))(py:y.Perm (rg n))(hk:∀ l,l∈ks ↔ ∃ z∈la,Below z y/\Up n z l)(nk:ks.Nodup)(hf:∀ f,f∈fs' ↔ f∈fs\/(f∈la/\Below f y))(nf:fs'.Nodup) :
  Cb n x y (k+1) (ks.filter λ z=>decide (Iv.inv z<=Iv.inv y)) fs' where
 ly:=λ l hl=>by
  obtain ⟨z,hz,hb,u⟩:=(hk l).mp (mem_filter.mp hl).1;obtain ⟨pz,xz,iz⟩:=c.ly z hz;obtain ⟨u1,u2,u3⟩:=u.ok pz;exact ⟨u1,xz.trans u2,by omega⟩
 fo:=λ z pz xz zy iz=>by
  refine mem_filter.mpr ⟨(hk z).mpr ?_,decide_eq_true (mono py _ _ rfl pz zy).1⟩;obtain ⟨w,w1,w2,w3,w4⟩:=N6 (m:=Iv.inv x+k) pz (by omega) k x rfl px xz;exact ⟨w,c.fo w w1 w2 (w3.trans zy) w4,w3.trans zy,last w1 pz w3 (by omega)⟩
 fd:=λ f=>by
  rw [hf,c.fd];constructor
  ·rintro (⟨h1,h2,h3,h4⟩ | ⟨h1,h2⟩)
   ·exact ⟨h1,h2,h3,by omega⟩
   ·obtain ⟨q1,q2,q3⟩:=c.ly f h1;exact ⟨q1,q2,h2,by omega⟩
  ·rintro ⟨h1,h2,h3,h4⟩;by_cases q:Iv.inv f < Iv.inv x+k
   ·exact .inl ⟨h1,h2,h3,q⟩
   ·exact .inr ⟨c.fo f h1 h2 h3 (by omega),h3⟩
 nl:=nk.sublist filter_sublist
 nf:=nf
theorem Cb.mem {n k:Nat}{x y:List Int}{fs:List (List Int)}(c:Cb n x y k [] fs)(px:x.Perm (rg n))(z:List Int):z∈fs ↔ z.Perm (rg n)/\Below x z/\Below z y:=by
 rw [c.fd];refine ⟨λ h=>⟨h.1,h.2.1,h.2.2.1⟩,λ ⟨h1,h2,h3⟩=>⟨h1,h2,h3,?_⟩⟩;by_cases q:Iv.inv z < Iv.inv x+k
 ·exact q
 ·obtain ⟨w,w1,w2,w3,w4⟩:=N6 (m:=Iv.inv x+k) h1 (by omega) k x rfl px h2;exact (not_mem_nil (c.fo w w1 w2 (w3.trans h3) w4)).elim
theorem Cb.told {n k:Nat}{x y:List Int}{fs:List (List Int)}(c:Cb n x y k [] fs)(px:x.Perm (rg n))(q:List Int->Bool)(hq:∀ z,z.Perm (rg n)->(q z=true ↔ Below x z/\Below z y)):dR fs=(inj n n).filter q:=IY c.nf (c.mem px) q hq
end Eu
namespace K19
open PySem L2 Am
noncomputable def top (i:Nat):Stmt:=PySem.Challenge.pw_undercells_k19_between_two_near_ones.main.body.getD i (.Pass ⟨0,0,0,0⟩)
noncomputable abbrev eN:Stmt:=top 5
noncomputable def nJ:List Str:=["one", "other"]
noncomputable def jV:Sm:=
 qy (iS (aG (nN true) (aS (f1 cu) (aj (ah 0) (aJ))) (aS (f1 cu) (aj (ah 1) (aJ)))))
 (OV)
 (g_)
noncomputable def cN:List A->aE->R A:=ff nJ jV
noncomputable abbrev bS:Stmt:=top 6
noncomputable def gS:List Str:=["order", "i", "j", "things"]
noncomputable def d9:Sm:=
 a_ (bG (aS (f1 mP) (aj (ah 0) (aJ))) (bH 3))
 (a_ (bG (jF (aj (aG eK (ah 3) (aG aSub (ah 2) (eC (.int 1)))) (aj (aG eK (ah 3) (aG aSub (ah 1) (eC (.int 1)))) (aJ)))) (qJ 2 (jD (BC (ah 3) (aG aSub (ah 1) (eC (.int 1)))) (jD (BC (ah 3) (aG aSub (ah 2) (eC (.int 1)))) (qI)))))
 (cU (aS (f1 fm) (aj (ah 3) (aJ)))))
noncomputable def bD:List A->aE->R A:=ff gS d9
noncomputable abbrev dj:Stmt:=top 7
noncomputable def kL:List Str:=["n"]
noncomputable def iJ:Sm:=
 cU (wR [none,none,some 0] (iB (eC (.int 1)) (ah 0)) (bH 0) (jN) (iB (aG cC (ah 0) (eC (.int 1))) (aG cC (ah 2) (eC (.int 1)))) (bH 1) (jN) (jF (aj (ah 0) (aj (ah 1) (aJ)))))
noncomputable def bO:List A->aE->R A:=ff kL iJ
noncomputable abbrev dh:Stmt:=top 8
noncomputable def kI:List Str:=["order"]
noncomputable def iG:Sm:=
 cU (bP [none,none,some 0] (eT (eFn bO (aj (aS (f1 cu) (aj (ah 0) (aJ))) (aJ)))) (qJ 2 (jD (bH 0) (jD (bH 1) (qI)))) (iS (aG tX (aG eK (ah 2) (aG aSub (ah 0) (eC (.int 1)))) (aG eK (ah 2) (aG aSub (ah 1) (eC (.int 1)))))) (jF (aj (ah 0) (aj (ah 1) (aJ)))))
noncomputable def dz:List A->aE->R A:=ff kI iG
noncomputable abbrev iZ:Stmt:=top 9
noncomputable def vh:List Str:=["order"]
noncomputable def pR:Sm:=
 cU (aS (f1 cu) (aj (eFn dz (aj (ah 0) (aJ))) (aJ)))
noncomputable def fO:List A->aE->R A:=ff vh pR
noncomputable abbrev bJ:Stmt:=top 12
noncomputable def fM:List Str:=["numbers", "place"]
noncomputable def eV:Te:=
 iS (aG JX (aG eK (ah 0) (aG aSub (ah 1) (eC (.int 1)))) (eC (.int 0)))
noncomputable def eW:Sm:=
 Ey 1 AU (eC (.int 1))
noncomputable def dN:Sm:=
 a_ (bG (eC (.int 1)) (bH 1))
 (a_ (dJ (eV)
 (eW) 1000000)
 (cU (ah 1)))
noncomputable def bK:List A->aE->R A:=ff fM dN
noncomputable abbrev rG:Stmt:=top 11
noncomputable def HW:List Str:=["one", "other", "more", "at", "j"]
noncomputable def yk:Ic:=
 gO (aG eK (ah 0) (ah 3))
noncomputable def yJ:Sm:=
 qm (ah 2) (ah 4) (eC (.int 1)) AU
noncomputable def yC:Ic:=
 gO (aG eK (ah 1) (ah 3))
noncomputable def za:Sm:=
 qm (ah 2) (ah 4) (eC (.int 1)) aSub
noncomputable def Gv:Ic:=
 gO (aS (f1 cu) (aj (ah 0) (aJ)))
noncomputable def zF:Sm:=
 a_ (fH (yk) (bH 4)
 (yJ))
 (a_ (fH (yC) (bH 4)
 (za))
 (qy (iS (aG tX (aS (f1 DQ) (aj (ah 2) (aJ))) (eC (.int 0))))
 (cU (jF (aj (aG cC (ah 3) (eC (.int 1))) (aj (eFn bK (aj (ah 2) (aJ))) (aJ)))))
 (g_)))
noncomputable def CW:Sm:=
 a_ (lQ (eFn cN (aj (ah 0) (aj (ah 1) (aJ)))))
 (a_ (bG (aG gH (kB (aj (eC (.int 0)) (aJ))) (aS (f1 cu) (aj (ah 0) (aJ)))) (bH 2))
 (a_ (fH (Gv) (bH 3)
 (zF))
 (cU (eC .non))))
noncomputable def pU:List A->aE->R A:=ff HW CW
noncomputable abbrev fy:Stmt:=top 13
noncomputable def lq:List Str:=["one", "other"]
noncomputable def jt:Sm:=
 cU (aG (wA false) (eFn pU (aj (ah 0) (aj (ah 1) (aJ)))) (eC .non))
noncomputable def cT:List A->aE->R A:=ff lq jt
noncomputable abbrev di:Stmt:=top 15
noncomputable def kG:List Str:=["one", "other", "free_things", "most_things", "most_pairs"]
noncomputable def iO:Sm:=
 a_ (qy (iS (aG JX (aS (f1 cu) (aj (ah 0) (aJ))) (ah 2)))
 (DX)
 (g_))
 (qy (Ir (iS (aG tX (aS (f1 cu) (aj (ah 0) (aJ))) (ah 3))) (iS (aG tX (aG aSub (eFn fO (aj (ah 1) (aJ))) (eFn fO (aj (ah 0) (aJ)))) (ah 4))))
 (OV)
 (g_))
noncomputable def cY:List A->aE->R A:=ff kG iO
noncomputable abbrev gG:Stmt:=top 20
noncomputable def qR:List Str:=["order", "i", "j", "low", "high"]
noncomputable def mX:Sm:=
 a_ (bG (aS (f2 BR) (aj (aG eK (ah 0) (aG aSub (ah 1) (eC (.int 1)))) (aj (aG eK (ah 0) (aG aSub (ah 2) (eC (.int 1)))) (aJ)))) (bH 3))
 (a_ (bG (aS (f2 DE) (aj (aG eK (ah 0) (aG aSub (ah 1) (eC (.int 1)))) (aj (aG eK (ah 0) (aG aSub (ah 2) (eC (.int 1)))) (aJ)))) (bH 4))
 (cU (JQ (aS (f1 Lq) (aj (bP [none,some 3,some 4] (eT (Io (ah 0) (jA (ah 1)) (jA (aG aSub (ah 2) (eC (.int 1)))))) (bH 0) (jN) (Bq sQ sQ (ah 1) (ah 0) (ah 2))) (aJ))))))
noncomputable def eO:List A->aE->R A:=ff qR mX
noncomputable abbrev kj:Stmt:=top 21
noncomputable def Aj:List Str:=["order", "pairs"]
noncomputable def tu:Sm:=
 cU (aS (f1 mQ) (aj (bP [none,none,some 0] (eT (ah 1)) (qJ 2 (jD (bH 0) (jD (bH 1) (qI)))) (jk (eFn eO (aj (ah 2) (aj (ah 0) (aj (ah 1) (aJ)))))) (eFn bD (aj (ah 2) (aj (ah 0) (aj (ah 1) (aJ)))))) (aJ)))
noncomputable def kc:List A->aE->R A:=ff Aj tu
noncomputable abbrev dg:Stmt:=top 22
noncomputable def kJ:List Str:=["order"]
noncomputable def iK:Sm:=
 cU (eFn kc (aj (ah 0) (aj (bP [none,none,some 0] (eT (eFn bO (aj (aS (f1 cu) (aj (ah 0) (aJ))) (aJ)))) (qJ 2 (jD (bH 0) (jD (bH 1) (qI)))) (iS (aG sQ (aG eK (ah 2) (aG aSub (ah 0) (eC (.int 1)))) (aG eK (ah 2) (aG aSub (ah 1) (eC (.int 1)))))) (jF (aj (ah 0) (aj (ah 1) (aJ))))) (aJ))))
noncomputable def dc:List A->aE->R A:=ff kJ iK
noncomputable abbrev gv:Stmt:=top 23
noncomputable def nu:List Str:=["one", "other", "looked_at", "waiting", "here", "step"]
noncomputable def iA:Ic:=
 eT (eFn dc (aj (ah 4) (aJ)))
noncomputable def jX:Sm:=
 qy (iS (aG (Jk true) (ah 5) (ah 2)))
 (a_ (bG (eFn cT (aj (ah 5) (aj (ah 1) (aJ)))) (xE (ah 2) (ah 5)))
 (qy (jk (aG G1 (ah 2) (ah 5)))
 (lQ (LU lK (ah 3) (aj (ah 5) (aJ))))
 (g_)))
 (g_)
noncomputable def jS:Te:=
 jk (ah 3)
noncomputable def jR:Sm:=
 a_ (bG (JO JF (ah 3)) (bH 4))
 (fH (iA) (bH 5)
 (jX))
noncomputable def ki:Sm:=
 a_ (lQ (eFn cN (aj (ah 0) (aj (ah 1) (aJ)))))
 (a_ (lQ (eFn cY (aj (ah 0) (aj (ah 1) (aj (eC (.int 6)) (aj (eC (.int 9)) (aj (eC (.int 4)) (aJ))))))))
 (a_ (qy (sN (jk (eFn cT (aj (ah 0) (aj (ah 1) (aJ))))))
 (cU (kB (aJ)))
 (g_))
 (a_ (bG (DM (ah 0) (eC (.bl true))) (bH 2))
 (a_ (bG (kB (aj (ah 0) (aJ))) (bH 3))
 (a_ (dJ (jS)
 (jR) 1000000)
 (cU (aS (f1 mQ) (aj (bP [none,none] (Br (ah 2)) (qJ 2 (jD (bH 0) (jD (bH 1) (qI)))) (jk (ah 1)) (ah 0)) (aJ)))))))))
noncomputable def dm:List A->aE->R A:=ff nu ki
noncomputable abbrev gC:Stmt:=top 25
noncomputable def rO:List Str:=["_law_script", "_law_k", "_law_cell", "_law_state"]
noncomputable def mU:Sm:=
 a_ (bG (eC (.int 0)) (bH 2))
 (a_ (qy (iS (aG sQ (ah 1) (aS (f1 cu) (aj (ah 0) (aJ)))))
 (bG (aS (f1 Lc) (aj (aG eK (ah 0) (ah 1)) (aJ))) (bH 2))
 (g_))
 (a_ (bG (aG cC (eC (.int 1)) (aG kX (aG cC (aG cC (aG cC (aG kX (ah 2) (eC (.int 2147483647))) (aG gH (aG gH (eC (.int 7919)) (ah 1)) (ah 1))) (aG gH (eC (.int 17)) (ah 1))) (eC (.int 3))) (eC (.int 2147483646)))) (bH 3))
 (cU (kB (aj (aG gH (ah 2) (aS (f1 pK) (aj (aG LS (ah 2) (aG G0 (eC (.int 10)) (eC (.int 18)))) (aJ)))) (aj (ah 3) (aJ)))))))
noncomputable def fq:List A->aE->R A:=ff rO mU
noncomputable abbrev eg:Stmt:=top 26
noncomputable def jK:List Str:=["_law_bag_here", "_law_many", "_law_found"]
noncomputable def iE:Sm:=
 a_ (qy (iS (aG tX (aG eK (ah 0) (eC (.int 0))) (eC (.int 0))))
 (a_ (bG (aG kX (aG eK (ah 0) (eC (.int 0))) (ah 1)) (bH 2))
 (a_ (bG (aG uh (aG eK (ah 0) (eC (.int 0))) (ah 1)) (BC (ah 0) (eC (.int 0))))
 (cU (ah 2))))
 (g_))
 (a_ (bG (aG kX (aG gH (aG eK (ah 0) (eC (.int 1))) (eC (.int 48271))) (eC (.int 2147483647))) (BC (ah 0) (eC (.int 1))))
 (cU (aG kX (aG uh (aG kX (aG gH (aG eK (ah 0) (eC (.int 1))) (aG cC (aG uh (aG eK (ah 0) (eC (.int 1))) (eC (.int 65536))) (eC (.int 9)))) (eC (.int 2147483629))) (eC (.int 32))) (ah 1))))
noncomputable def aV:List A->aE->R A:=ff jK iE
noncomputable abbrev gF:Stmt:=top 27
noncomputable def rE:List Str:=["_law_bag_here", "_law_n", "_law_left", "_law_found", "_law_at"]
noncomputable def j3:Te:=
 iS (aG tX (aS (f1 cu) (aj (ah 2) (aJ))) (eC (.int 0)))
noncomputable def j4:Sm:=
 a_ (bG (eFn aV (aj (ah 0) (aj (aS (f1 cu) (aj (ah 2) (aJ))) (aJ)))) (bH 4))
 (a_ (lQ (LU lK (ah 3) (aj (aG eK (ah 2) (ah 4)) (aJ))))
 (bG (aG cC (Io (ah 2) yy (jA (ah 4))) (Io (ah 2) (jA (aG cC (ah 4) (eC (.int 1)))) yy)) (bH 2)))
noncomputable def nh:Sm:=
 a_ (bG (aS (f1 mP) (aj (aS (f2 oJ) (aj (eC (.int 1)) (aj (aG cC (ah 1) (eC (.int 1))) (aJ)))) (aJ))) (bH 2))
 (a_ (bG (kB (aJ)) (bH 3))
 (a_ (dJ (j3)
 (j4) 1000000)
 (cU (aS (f1 fm) (aj (ah 3) (aJ))))))
noncomputable def gz:List A->aE->R A:=ff rE nh
noncomputable abbrev eB:Stmt:=top 28
noncomputable def nH:List Str:=["_law_bag_here", "_law_n", "_law_way", "_law_found", "_law_k", "_law_i", "_law_j"]
noncomputable def kC:Ic:=
 gO (eFn aV (aj (ah 0) (aj (eC (.int 7)) (aJ))))
noncomputable def iL:Sm:=
 a_ (bG (eFn aV (aj (ah 0) (aj (ah 1) (aJ)))) (bH 5))
 (a_ (bG (eFn aV (aj (ah 0) (aj (ah 1) (aJ)))) (bH 6))
 (bG (jF (aj (aG eK (ah 3) (ah 6)) (aj (aG eK (ah 3) (ah 5)) (aJ)))) (qJ 2 (jD (BC (ah 3) (ah 5)) (jD (BC (ah 3) (ah 6)) (qI))))))
noncomputable def jT:Sm:=
 a_ (bG (eFn aV (aj (ah 0) (aj (eC (.int 4)) (aJ)))) (bH 2))
 (a_ (qy (iS (aG tX (ah 2) (eC (.int 1))))
 (cU (eFn gz (aj (ah 0) (aj (ah 1) (aJ)))))
 (g_))
 (a_ (bG (aS (f1 mP) (aj (aS (f2 oJ) (aj (eC (.int 1)) (aj (aG cC (ah 1) (eC (.int 1))) (aJ)))) (aJ))) (bH 3))
 (a_ (qy (iS (aG (nN false) (ah 2) (eC (.int 1))))
 (bG (OT C_ (ah 3)) (bH 3))
 (g_))
 (a_ (fH (kC) (bH 4)
 (iL))
 (cU (aS (f1 fm) (aj (ah 3) (aJ))))))))
noncomputable def dM:List A->aE->R A:=ff nH jT
noncomputable abbrev gE:Stmt:=top 29
noncomputable def rB:List Str:=["_law_one", "_law_other", "_law_n", "_law_here", "_law_there", "_law_i", "_law_j"]
noncomputable def ir:Ic:=
 iB (eC (.int 1)) (aG cC (ah 2) (eC (.int 1)))
noncomputable def iw:Sm:=
 a_ (bG (aG cC (aG eK (ah 3) (ah 6)) (aS (f1 pK) (aj (aG LS (aG eK (ah 0) (ah 5)) (ah 6)) (aJ)))) (BC (ah 3) (ah 6)))
 (a_ (bG (aG cC (aG eK (ah 4) (ah 6)) (aS (f1 pK) (aj (aG LS (aG eK (ah 1) (ah 5)) (ah 6)) (aJ)))) (BC (ah 4) (ah 6)))
 (qy (iS (aG tX (aG eK (ah 3) (ah 6)) (aG eK (ah 4) (ah 6))))
 (cU (jF (aj (aG cC (ah 5) (eC (.int 1))) (aj (ah 6) (aJ)))))
 (g_)))
noncomputable def nS:Ic:=
 gO (ah 2)
noncomputable def jY:Sm:=
 fH (ir) (bH 6)
 (iw)
noncomputable def nF:Sm:=
 a_ (bG (aS (f1 cu) (aj (ah 0) (aJ))) (bH 2))
 (a_ (bG (aG gH (kB (aj (eC (.int 0)) (aJ))) (aG cC (ah 2) (eC (.int 2)))) (bH 3))
 (a_ (bG (aG gH (kB (aj (eC (.int 0)) (aJ))) (aG cC (ah 2) (eC (.int 2)))) (bH 4))
 (a_ (fH (nS) (bH 5)
 (jY))
 (cU (eC .non)))))
noncomputable def eE:List A->aE->R A:=ff rB nF
noncomputable abbrev eF:Stmt:=top 30
noncomputable def nI:List Str:=["_law_order_here", "_law_n", "_law_found", "_law_i"]
noncomputable def kK:Ic:=
 gO (ah 1)
noncomputable def kE:Sm:=
 lQ (LU tV (ah 2) (aj (bP [none,some 3,some 0] (iB (aG cC (ah 3) (eC (.int 1))) (ah 1)) (bH 0) (iS (aG tX (aG eK (ah 2) (ah 1)) (aG eK (ah 2) (ah 0)))) (jF (aj (aG cC (ah 1) (eC (.int 1))) (aj (aG cC (ah 0) (eC (.int 1))) (aJ))))) (aJ)))
noncomputable def jQ:Sm:=
 a_ (bG (aS (f1 cu) (aj (ah 0) (aJ))) (bH 1))
 (a_ (bG (kB (aJ)) (bH 2))
 (a_ (fH (kK) (bH 3)
 (kE))
 (cU (ah 2))))
noncomputable def bw:List A->aE->R A:=ff nI jQ
noncomputable abbrev ja:Stmt:=top 31
noncomputable def um:List Str:=["_law_order_here", "_law_found", "_law_i", "_law_j", "_law_some", "_law_left"]
noncomputable def pZ:Ic:=
 iB (aG cC (ah 2) (eC (.int 1))) (aS (f1 cu) (aj (ah 0) (aJ)))
noncomputable def jq:Sm:=
 a_ (bG (bP [none,some 0,some 2,some 3] (eT (Io (ah 0) (jA (aG cC (ah 2) (eC (.int 1)))) (jA (ah 3)))) (bH 0) (iS (Bq sQ sQ (aG eK (ah 1) (ah 2)) (ah 0) (aG eK (ah 1) (ah 3)))) (ah 0)) (bH 4))
 (qy (C7 (iS (aG sQ (aG eK (ah 0) (ah 2)) (aG eK (ah 0) (ah 3)))) (iS (aG (nN false) (ah 4) (kB (aJ)))))
 (a_ (bG (aS (f1 mP) (aj (ah 0) (aJ))) (bH 5))
 (a_ (bG (jF (aj (aG eK (ah 5) (ah 3)) (aj (aG eK (ah 5) (ah 2)) (aJ)))) (qJ 2 (jD (BC (ah 5) (ah 2)) (jD (BC (ah 5) (ah 3)) (qI)))))
 (lQ (LU lK (ah 1) (aj (aS (f1 fm) (aj (ah 5) (aJ))) (aJ))))))
 (g_))
noncomputable def pW:Ic:=
 gO (aS (f1 cu) (aj (ah 0) (aJ)))
noncomputable def kO:Sm:=
 fH (pZ) (bH 3)
 (jq)
noncomputable def oY:Sm:=
 a_ (bG (kB (aJ)) (bH 1))
 (a_ (fH (pW) (bH 2)
 (kO))
 (cU (ah 1)))
noncomputable def cW:List A->aE->R A:=ff um oY
noncomputable abbrev c_:Stmt:=top 32
noncomputable def kD:List Str:=["_law_one", "_law_other", "_law_layer", "_law_found", "_law_further", "_law_order_here", "_law_above"]
noncomputable def jC:Ic:=
 eT (eFn cW (aj (ah 5) (aJ)))
noncomputable def fY:Sm:=
 bG (eC (.bl true)) (xE (ah 4) (ah 6))
noncomputable def fV:Ic:=
 eT (ah 2)
noncomputable def fX:Sm:=
 qy (iS (aG (wA false) (eFn eE (aj (ah 5) (aj (ah 1) (aJ)))) (eC .non)))
 (a_ (bG (eC (.bl true)) (xE (ah 3) (ah 5)))
 (fH (jC) (bH 6)
 (fY)))
 (g_)
noncomputable def fU:Te:=
 iS (aG tX (aS (f1 cu) (aj (ah 2) (aJ))) (eC (.int 0)))
noncomputable def fW:Sm:=
 a_ (bG (zP) (bH 4))
 (a_ (fH (fV) (bH 5)
 (fX))
 (bG (bP [none,some 1] (DC (ah 4)) (bH 0) (iS (aG JX (aS (f1 cu) (aj (eFn bw (aj (ah 0) (aJ))) (aJ))) (aS (f1 cu) (aj (eFn bw (aj (ah 1) (aJ))) (aJ))))) (ah 0)) (bH 2)))
noncomputable def iP:Sm:=
 a_ (bG (kB (aj (ah 0) (aJ))) (bH 2))
 (a_ (bG (zP) (bH 3))
 (a_ (dJ (fU)
 (fW) 1000000)
 (cU (aS (f1 rR) (aj (ah 3) (aJ))))))
noncomputable def cX:List A->aE->R A:=ff kD iP
noncomputable abbrev fD:Stmt:=top 33
noncomputable def qj:List Str:=["_law_one", "_law_other", "_law_due", "_law_found", "_law_odd"]
noncomputable def kZ:Sm:=
 a_ (bG (eFn cX (aj (ah 0) (aj (ah 1) (aJ)))) (bH 2))
 (a_ (bG (eFn dm (aj (ah 0) (aj (ah 1) (aJ)))) (bH 3))
 (a_ (qy (Ir (sN (jk (aS (f2 Es) (aj (ah 3) (aj (eC (.ty "list")) (aJ)))))) (Ir (iS (aG (nN true) (ah 3) (ah 2))) (sN (jk (aS (f1 GP) (aj (bP [none] (eT (ah 3)) (bH 0) (jN) (aS (f2 Es) (aj (ah 0) (aj (eC (.ty "tuple")) (aJ))))) (aJ)))))))
 (cU (eC (.bl false)))
 (g_))
 (a_ (bG (aS (f1 cu) (aj (bP [none] (eT (ah 2)) (bH 0) (iS (aG (nN false) (aG kX (aS (f1 cu) (aj (eFn bw (aj (ah 0) (aJ))) (aJ))) (eC (.int 2))) (eC (.int 1)))) (ah 0)) (aJ))) (bH 4))
 (cU (LQ (aG (nN false) (ah 0) (ah 1)) (aG (nN false) (aG gH (eC (.int 2)) (ah 4)) (aS (f1 cu) (aj (ah 2) (aJ)))))))))
noncomputable def cR:List A->aE->R A:=ff qj kZ
noncomputable abbrev fj:Stmt:=top 34
noncomputable def pX:List Str:=["_law_bag_here", "_law_order_here", "_law_downs", "_law_found", "_law_turn", "_law_turned_about", "_law_some"]
noncomputable def jv:Ic:=
 gO (ah 2)
noncomputable def gu:Sm:=
 a_ (bG (bP [none,some 3] (eT (ah 3)) (bH 0) (jN) (aG aSub (aG cC (aS (f1 cu) (aj (ah 1) (aJ))) (eC (.int 1))) (ah 0))) (bH 5))
 (a_ (bG (bP [none,some 3] (eT (eFn cW (aj (aS (f1 fm) (aj (ah 5) (aJ))) (aJ)))) (bH 0) (jN) (aS (f1 fm) (aj (bP [none,some 1] (eT (ah 0)) (bH 0) (jN) (aG aSub (aG cC (aS (f1 cu) (aj (ah 1) (aJ))) (eC (.int 1))) (ah 0))) (aJ)))) (bH 6))
 (qy (iS (aG tX (aS (f1 cu) (aj (ah 6) (aJ))) (eC (.int 0))))
 (bG (aG eK (ah 6) (eFn aV (aj (ah 0) (aj (aS (f1 cu) (aj (ah 6) (aJ))) (aJ))))) (bH 3))
 (g_)))
noncomputable def mF:Ic:=
 gO (eFn aV (aj (ah 0) (aj (eC (.int 5)) (aJ))))
noncomputable def ji:Sm:=
 a_ (bG (eFn cW (aj (ah 3) (aJ))) (bH 6))
 (qy (iS (aG tX (aS (f1 cu) (aj (ah 6) (aJ))) (eC (.int 0))))
 (bG (aG eK (ah 6) (eFn aV (aj (ah 0) (aj (aS (f1 cu) (aj (ah 6) (aJ))) (aJ))))) (bH 3))
 (g_))
noncomputable def kM:Sm:=
 a_ (bG (eFn aV (aj (ah 0) (aj (eC (.int 3)) (aJ)))) (bH 2))
 (a_ (bG (ah 1) (bH 3))
 (a_ (fH (jv) (bH 4)
 (gu))
 (a_ (fH (mF) (bH 4)
 (ji))
 (cU (ah 3)))))
noncomputable def fE:List A->aE->R A:=ff pX kM
noncomputable abbrev l_:Stmt:=top 35
noncomputable def HL:List Str:=["_law_script", "_law_bag_here", "_law_n", "_law_one", "_law_other", "_law_turn", "_law_some", "_law_third"]
noncomputable def s_:Ic:=
 gO (eFn aV (aj (ah 1) (aj (eC (.int 5)) (aJ))))
noncomputable def ow:Sm:=
 a_ (bG (eFn cW (aj (ah 4) (aJ))) (bH 6))
 (qy (iS (aG tX (aS (f1 cu) (aj (ah 6) (aJ))) (eC (.int 0))))
 (bG (aG eK (ah 6) (eFn aV (aj (ah 1) (aj (aS (f1 cu) (aj (ah 6) (aJ))) (aJ))))) (bH 4))
 (g_))
noncomputable def EH:Sm:=
 a_ (bG (eFn fq (aj (ah 0) (aj (eC (.int 0)) (aJ)))) (bH 1))
 (a_ (bG (aG cC (eC (.int 6)) (eFn aV (aj (ah 1) (aj (eC (.int 4)) (aJ))))) (bH 2))
 (a_ (bG (eFn dM (aj (ah 1) (aj (ah 2) (aJ)))) (bH 3))
 (a_ (bG (ah 3) (bH 4))
 (a_ (fH (s_) (bH 5)
 (ow))
 (a_ (bG (eFn dM (aj (ah 1) (aj (ah 2) (aJ)))) (bH 7))
 (a_ (qy (Ir (sN (jk (eFn cR (aj (ah 3) (aj (ah 4) (aJ)))))) (Ir (sN (jk (eFn cR (aj (ah 3) (aj (ah 3) (aJ)))))) (sN (jk (eFn cR (aj (ah 3) (aj (eFn fE (aj (ah 1) (aj (ah 3) (aJ)))) (aJ))))))))
 (cU (eC (.bl false)))
 (g_))
 (a_ (qy (C7 (iS (aG JX (aS (f1 cu) (aj (eFn bw (aj (ah 7) (aJ))) (aJ))) (aG cC (aS (f1 cu) (aj (eFn bw (aj (ah 3) (aJ))) (aJ))) (eC (.int 4))))) (sN (jk (eFn cR (aj (ah 3) (aj (ah 7) (aJ)))))))
 (cU (eC (.bl false)))
 (g_))
 (cU (LQ (aG (nN false) (ah 3) (ah 4)) (aG (nN false) (eFn dm (aj (ah 4) (aj (ah 3) (aJ)))) (kB (aJ))))))))))))
noncomputable def qN:List A->aE->R A:=ff HL EH
section
variable {P:Program} {w:World} {K:PySem.W.Frag} {mg:Str->Option Value} {base:Heap}
theorem tH:FnScope ["one", "other"] ["one", "other"] (aH eN):=⟨rfl,rfl,rfl,by decide +kernel,rfl,by decide +kernel,by decide +kernel⟩
theorem sj {f:Addr}{fd:FuncData}(F:Fun K "need_pair" "need_pair" eN f fd)(P8:mg "len" = none):FnOk P w K mg base j9 1 f fd ["one", "other"] (lC K 2 cN):=oA (m:=jV) F tH λ cdv B outer s H E hr=>
 aL (eG (bR (Nb hr.units) (aO bY P8 bI (af (aa 0) (aA))) (aO bY P8 bI (af (aa 1) (aA))))
 (aL (HG))
 (bU))
theorem gb:FnScope ["order", "i", "j", "things"] ["order", "i", "j"] (aH bS):=⟨rfl,rfl,rfl,by decide +kernel,rfl,by decide +kernel,by decide +kernel⟩
theorem kr {f:Addr}{fd:FuncData}(F:Fun K "exchanged_places" "exchanged_places" bS f fd)(Qc:mg "list" = none)(Qa:mg "tuple" = none):FnOk P w K mg base j9 1 f fd ["order", "i", "j"] (lC K 3 bD):=oA (m:=d9) F gb λ cdv B outer s H E hr=>
 aC (aX (i:=3) gb.nd (b7 (sU rfl) Qc lI (af (aa 0) (aA))))
 (aC (iM (jo (af (bN (aa 3) (aP fN (aa 2) (aI))) (af (bN (aa 3) (aP fN (aa 1) (aI))) (aA)))) (kY rfl (cF (iQ (aa 3) (aP fN (aa 1) (aI))) (cF (iQ (aa 3) (aP fN (aa 2) (aI))) (jw)))))
 (aL (bM (b7 (kh rfl) Qa gI (af (aa 3) (aA))))))
theorem pP:FnScope ["n"] ["n"] (aH dj):=⟨rfl,rfl,rfl,by decide +kernel,rfl,by decide +kernel,by decide +kernel⟩
theorem qi {f:Addr}{fd:FuncData}(F:Fun K "place_pairs" "place_pairs" dj f fd)(P9:mg "range" = none):FnOk P w K mg base j9 1 f fd ["n"] (lC K 1 bO):=oA (m:=iJ) F pP λ cdv B outer s H E hr=>
 aL (bM (E_ (N:=["i", "j", "n"]) (cap:=[none,none,some 0]) rfl (h_ ["n"] rfl (by decide +kernel) (by decide +kernel) (by decide +kernel) (by decide +kernel) (by decide +kernel) (forall_mem_cons.mpr ⟨by first | exact Or.inl rfl | exact Or.inr rfl,(λ _ h=>nomatch h)⟩) ⟨rfl,by decide +kernel,trivial⟩) (jc P9 (aI) (aa 0)) (λ _ _ _ _=>aZ (i:=0) (show (["i", "j", "n"]:List Str).Nodup by decide +kernel) rfl (Or.inl rfl) (.inr rfl)) (λ _ _ _ _=>jm) (λ _ _ _ _=>jc P9 (aP cL (aa 0) (aI)) (aP cL (aa 2) (aI))) (λ _ _ _ _=>aZ (i:=1) (show (["i", "j", "n"]:List Str).Nodup by decide +kernel) rfl (Or.inl rfl) (.inr rfl)) (λ _ _ _ _=>jm) (λ _ _ _ _=>jo (af (aa 0) (af (aa 1) (aA))))))
theorem qf:FnScope ["order"] ["order"] (aH dh):=⟨rfl,rfl,rfl,by decide +kernel,rfl,by decide +kernel,by decide +kernel⟩
theorem pJ {f:Addr}{fd:FuncData}(F:Fun K "wrong_pairs" "wrong_pairs" dh f fd)(P8:mg "len" = none)(Qh:fh P w K mg base 1 "place_pairs" ["n"] bO):FnOk P w K mg base j9 2 f fd ["order"] (lC K 1 dz):=oA (m:=iG) F qf λ cdv B outer s H E hr=>
 aL (bM (gq (N:=["i", "j", "order"]) (cap:=[none,none,some 0]) rfl (h_ ["order"] rfl (by decide +kernel) (by decide +kernel) (by decide +kernel) (by decide +kernel) (by decide +kernel) (forall_mem_cons.mpr ⟨by first | exact Or.inl rfl | exact Or.inr rfl,(λ _ h=>nomatch h)⟩) ⟨rfl,by decide +kernel,trivial⟩) (fG (bu Qh (hr.mono (by decide)) (af (aO bY P8 bI (af (aa 0) (aA))) (aA)) (au aR))) (λ _ _ _ _=>kY rfl (cF (aZ (i:=0) (show (["i", "j", "order"]:List Str).Nodup by decide +kernel) rfl (Or.inl rfl) (.inr rfl)) (cF (aZ (i:=1) (show (["i", "j", "order"]:List Str).Nodup by decide +kernel) rfl (Or.inl rfl) (.inr rfl)) (jw)))) (λ _ _ _ _=>iD (bR (nq hr.units) (bN (aa 2) (aP fN (aa 0) (aI))) (bN (aa 2) (aP fN (aa 1) (aI))))) (λ _ _ _ _=>jo (af (aa 0) (af (aa 1) (aA))))))
theorem Az:FnScope ["order"] ["order"] (aH iZ):=⟨rfl,rfl,rfl,by decide +kernel,rfl,by decide +kernel,by decide +kernel⟩
theorem AY {f:Addr}{fd:FuncData}(F:Fun K "length" "length" iZ f fd)(P8:mg "len" = none)(Qq:fh P w K mg base 2 "wrong_pairs" ["order"] dz):FnOk P w K mg base j9 3 f fd ["order"] (lC K 1 fO):=oA (m:=pR) F Az λ cdv B outer s H E hr=>
 aL (bM (aO bY P8 bI (af (bu Qq (hr.mono (by decide)) (af (aa 0) (aA)) (au aR)) (aA))))
theorem dD:FnScope ["numbers", "place"] ["numbers"] (aH bJ):=⟨rfl,rfl,rfl,by decide +kernel,rfl,by decide +kernel,by decide +kernel⟩
theorem jH {f:Addr}{fd:FuncData}(F:Fun K "first_above_nought" "first_above_nought" bJ f fd):FnOk P w K mg base j9 1 f fd ["numbers"] (lC K 1 bK):=oA (m:=dN) F dD λ cdv B outer s H E hr=>
 aC (aX (i:=1) dD.nd (aI))
 (aC (lJ 1000000 PassesOwn.never (bR F0 (bN (aa 0) (aP fN (aa 1) (aI))) (aI))
 (aL (Ji (i:=1) dD.nd (aI) yu)))
 (aL (bM (aa 1))))
theorem qo:FnScope ["one", "other", "more", "at", "j"] ["one", "other"] (aH rG):=⟨rfl,rfl,rfl,by decide +kernel,rfl,by decide +kernel,by decide +kernel⟩
theorem J0 {f:Addr}{fd:FuncData}(F:Fun K "bar" "bar" rG f fd)(P8:mg "len" = none)(P9:mg "range" = none)(Qi:mg "max" = none)(Qj:fh P w K mg base 1 "need_pair" ["one", "other"] cN)(Qs:fh P w K mg base 1 "first_above_nought" ["numbers"] bK):FnOk P w K mg base j9 2 f fd ["one", "other"] (lC K 2 pU):=oA (m:=CW) F qo λ cdv B outer s H E hr=>
 aC (ju (bu Qj (hr.mono (by decide)) (af (aa 0) (af (aa 1) (aA))) (au (au aR))))
 (aC (aX (i:=2) qo.nd (aP kH (fZ (af (aI) (aA))) (aO bY P8 bI (af (aa 0) (aA)))))
 (aC (d_ PassesOwn.never rfl (dw P9 (aO bY P8 bI (af (aa 0) (aA)))) (aZ (i:=3) qo.nd)
 (aC (d_ PassesOwn.never rfl (dw P9 (bN (aa 0) (aa 3))) (aZ (i:=4) qo.nd)
 (aL (zk (aa 2) (aa 4) (aI) yu)))
 (aC (d_ PassesOwn.never rfl (dw P9 (bN (aa 1) (aa 3))) (aZ (i:=4) qo.nd)
 (aL (zk (aa 2) (aa 4) (aI) Gd)))
 (aL (eG (bR (nq hr.units) (aO (KA rfl) Qi Fg (af (aa 2) (aA))) (aI))
 (aL (bM (jo (af (aP cL (aa 3) (aI)) (af (bu Qs (hr.mono (by decide)) (af (aa 2) (aA)) (au aR)) (aA))))))
 (bU))))))
 (aL (bM (se)))))
theorem vg:FnScope ["one", "other"] ["one", "other"] (aH fy):=⟨rfl,rfl,rfl,by decide +kernel,rfl,by decide +kernel,by decide +kernel⟩
theorem vj {f:Addr}{fd:FuncData}(F:Fun K "is_below" "is_below" fy f fd)(Qt:fh P w K mg base 2 "bar" ["one", "other"] pU):FnOk P w K mg base j9 3 f fd ["one", "other"] (lC K 2 cT):=oA (m:=jt) F vg λ cdv B outer s H E hr=>
 aL (bM (jP Mm (bu Qt (hr.mono (by decide)) (af (aa 0) (af (aa 1) (aA))) (au (au aR))) (se)))
theorem p6:FnScope ["one", "other", "free_things", "most_things", "most_pairs"] ["one", "other", "free_things", "most_things", "most_pairs"] (aH di):=⟨rfl,rfl,rfl,by decide +kernel,rfl,by decide +kernel,by decide +kernel⟩
theorem qp {f:Addr}{fd:FuncData}(F:Fun K "need_bounds" "need_bounds" di f fd)(P8:mg "len" = none)(Qm:fh P w K mg base 3 "length" ["order"] fO):FnOk P w K mg base j9 4 f fd ["one", "other", "free_things", "most_things", "most_pairs"] (lC K 5 cY):=oA (m:=iO) F p6 λ cdv B outer s H E hr=>
 aC (eG (bR F0 (aO bY P8 bI (af (aa 0) (aA))) (aa 2))
 (aL (GQ))
 (bU))
 (aL (eG (AW.at (vL (bR (nq hr.units) (aO bY P8 bI (af (aa 0) (aA))) (aa 3)) (vZ (bR (nq hr.units) (aP fN (bu Qm (hr.mono (by decide)) (af (aa 1) (aA)) (au aR)) (bu Qm (hr.mono (by decide)) (af (aa 0) (aA)) (au aR))) (aa 4)))))
 (aL (HG))
 (bU)))
theorem kW:FnScope ["order", "i", "j", "low", "high"] ["order", "i", "j"] (aH gG):=⟨rfl,rfl,rfl,by decide +kernel,rfl,by decide +kernel,by decide +kernel⟩
theorem wK {f:Addr}{fd:FuncData}(F:Fun K "is_step" "is_step" gG f fd)(Qu:mg "min" = none)(Qi:mg "max" = none)(Qv:mg "any" = none):FnOk P w K mg base j9 1 f fd ["order", "i", "j"] (lC K 3 eO):=oA (m:=mX) F kW λ cdv B outer s H E hr=>
 aC (aX (i:=3) kW.nd (aO (LH rfl) Qu Le (af (bN (aa 0) (aP fN (aa 1) (aI))) (af (bN (aa 0) (aP fN (aa 2) (aI))) (aA)))))
 (aC (aX (i:=4) kW.nd (aO (KZ rfl) Qi Fg (af (bN (aa 0) (aP fN (aa 1) (aI))) (af (bN (aa 0) (aP fN (aa 2) (aI))) (aA)))))
 (aL (bM (Kx (aO (Ni rfl) Qv J3 (af (gq (N:=["thing", "low", "high"]) (cap:=[none,some 3,some 4]) rfl (h_ ["low", "high"] rfl (by decide +kernel) (by decide +kernel) (by decide +kernel) (by decide +kernel) (by decide +kernel) (forall_mem_cons.mpr ⟨by first | exact Or.inl rfl | exact Or.inr rfl,(forall_mem_cons.mpr ⟨by first | exact Or.inl rfl | exact Or.inr rfl,(λ _ h=>nomatch h)⟩)⟩) ⟨rfl,by decide +kernel,⟨rfl,by decide +kernel,trivial⟩⟩) (fG (zf (aa 0) (j8 (aa 1)) (j8 (aP fN (aa 2) (aI))))) (λ _ _ _ _=>aZ (i:=0) (show (["thing", "low", "high"]:List Str).Nodup by decide +kernel) rfl (Or.inl rfl) (.inr rfl)) (λ _ _ _ _=>jm) (λ _ _ _ _=>MB (wj hr.units) (wj hr.units) (aa 1) (aa 0) (aa 2))) (aA)))))))
theorem CG:FnScope ["order", "pairs"] ["order", "pairs"] (aH kj):=⟨rfl,rfl,rfl,by decide +kernel,rfl,by decide +kernel,by decide +kernel⟩
theorem BS {f:Addr}{fd:FuncData}(F:Fun K "steps" "steps" kj f fd)(Qf:mg "sorted" = none)(Qw:fh P w K mg base 1 "is_step" ["order", "i", "j"] eO)(Qx:fh P w K mg base 1 "exchanged_places" ["order", "i", "j"] bD):FnOk P w K mg base j9 2 f fd ["order", "pairs"] (lC K 2 kc):=oA (m:=tu) F CG λ cdv B outer s H E hr=>
 aL (bM (aO zW Qf m7 (af (gq (N:=["i", "j", "order"]) (cap:=[none,none,some 0]) rfl (h_ ["order"] rfl (by decide +kernel) (by decide +kernel) (by decide +kernel) (by decide +kernel) (by decide +kernel) (forall_mem_cons.mpr ⟨by first | exact Or.inl rfl | exact Or.inr rfl,(λ _ h=>nomatch h)⟩) ⟨rfl,by decide +kernel,trivial⟩) (fG (aa 1)) (λ _ _ _ _=>kY rfl (cF (aZ (i:=0) (show (["i", "j", "order"]:List Str).Nodup by decide +kernel) rfl (Or.inl rfl) (.inr rfl)) (cF (aZ (i:=1) (show (["i", "j", "order"]:List Str).Nodup by decide +kernel) rfl (Or.inl rfl) (.inr rfl)) (jw)))) (λ _ _ _ _=>iD (gR (bu Qw (hr.mono (by decide)) (af (aa 2) (af (aa 0) (af (aa 1) (aA)))) (au (au (au aR)))))) (λ _ _ _ _=>bu Qx (hr.mono (by decide)) (af (aa 2) (af (aa 0) (af (aa 1) (aA)))) (au (au (au aR))))) (aA))))
theorem p8:FnScope ["order"] ["order"] (aH dg):=⟨rfl,rfl,rfl,by decide +kernel,rfl,by decide +kernel,by decide +kernel⟩
theorem pY {f:Addr}{fd:FuncData}(F:Fun K "steps_above" "steps_above" dg f fd)(P8:mg "len" = none)(Qy:fh P w K mg base 2 "steps" ["order", "pairs"] kc)(Qh:fh P w K mg base 1 "place_pairs" ["n"] bO):FnOk P w K mg base j9 3 f fd ["order"] (lC K 1 dc):=oA (m:=iK) F p8 λ cdv B outer s H E hr=>
 aL (bM (bu Qy (hr.mono (by decide)) (af (aa 0) (af (gq (N:=["i", "j", "order"]) (cap:=[none,none,some 0]) rfl (h_ ["order"] rfl (by decide +kernel) (by decide +kernel) (by decide +kernel) (by decide +kernel) (by decide +kernel) (forall_mem_cons.mpr ⟨by first | exact Or.inl rfl | exact Or.inr rfl,(λ _ h=>nomatch h)⟩) ⟨rfl,by decide +kernel,trivial⟩) (fG (bu Qh (hr.mono (by decide)) (af (aO bY P8 bI (af (aa 0) (aA))) (aA)) (au aR))) (λ _ _ _ _=>kY rfl (cF (aZ (i:=0) (show (["i", "j", "order"]:List Str).Nodup by decide +kernel) rfl (Or.inl rfl) (.inr rfl)) (cF (aZ (i:=1) (show (["i", "j", "order"]:List Str).Nodup by decide +kernel) rfl (Or.inl rfl) (.inr rfl)) (jw)))) (λ _ _ _ _=>iD (bR (wj hr.units) (bN (aa 2) (aP fN (aa 0) (aI))) (bN (aa 2) (aP fN (aa 1) (aI))))) (λ _ _ _ _=>jo (af (aa 0) (af (aa 1) (aA))))) (aA))) (au (au aR))))
theorem gX:FnScope ["one", "other", "looked_at", "waiting", "here", "step"] ["one", "other"] (aH gv):=⟨rfl,rfl,rfl,by decide +kernel,rfl,by decide +kernel,by decide +kernel⟩
theorem xj {f:Addr}{fd:FuncData}(F:Fun K "between" "between" gv f fd)(Qf:mg "sorted" = none)(Qz:∃ t,mg "MOST_CLIMBED_PAIRS" = some (.int 4 t))(QA:∃ t,mg "MOST_CLIMBED_THINGS" = some (.int 9 t))(QB:∃ t,mg "MOST_THINGS" = some (.int 6 t))(Qj:fh P w K mg base 1 "need_pair" ["one", "other"] cN)(QC:fh P w K mg base 4 "need_bounds" ["one", "other", "free_things", "most_things", "most_pairs"] cY)(Qn:fh P w K mg base 3 "is_below" ["one", "other"] cT)(QD:fh P w K mg base 3 "steps_above" ["order"] dc):FnOk P w K mg base j9 5 f fd ["one", "other"] (lC K 2 dm):=oA (m:=ki) F gX λ cdv B outer s H E hr=>
 aC (ju (bu Qj (hr.mono (by decide)) (af (aa 0) (af (aa 1) (aA))) (au (au aR))))
 (aC (ju (bu QC (hr.mono (by decide)) (af (aa 0) (af (aa 1) (af (qw QB.choose_spec) (af (qw QA.choose_spec) (af (qw Qz.choose_spec) (aA)))))) (au (au (au (au (au aR)))))))
 (aC (eG (kQ (gR (bu Qn (hr.mono (by decide)) (af (aa 0) (af (aa 1) (aA))) (au (au aR)))))
 (aL (bM (fZ (aA))))
 (bU))
 (aC (aX (i:=2) gX.nd (Gq hr.units (aa 0) (rH)))
 (aC (aX (i:=3) gX.nd (fZ (af (aa 0) (aA))))
 (aC (lJ 1000000 PassesOwn.never (gR (aa 3))
 (aC (aX (i:=4) gX.nd (Lm PySem.F.slot_list_pop PySem.F.type_list_pop M6 (aa 3)))
 (aL (d_ PassesOwn.never rfl (fG (bu QD (hr.mono (by decide)) (af (aa 4) (aA)) (au aR))) (aZ (i:=5) gX.nd)
 (aL (eG (bR (Dl hr.units) (aa 5) (aa 2))
 (aC (iM (bu Qn (hr.mono (by decide)) (af (aa 5) (af (aa 1) (aA))) (au (au aR))) (sZ hr.units (aa 2) (aa 5)))
 (aL (eG (gR (K5 hr.units (aa 2) (aa 5)))
 (aL (ju (xO PySem.F.slot_list_append PySem.F.type_list_append o6 (aa 3) (af (aa 5) (aA)))))
 (bU))))
 (bU)))))))
 (aL (bM (aO zW Qf m7 (af (gq (N:=["order", "is_between"]) (cap:=[none,none]) rfl (h_ [] rfl (by decide +kernel) (by decide +kernel) (by decide +kernel) (by decide +kernel) (by decide +kernel) (λ _ h=>nomatch h) trivial) (Ff (aa 2)) (λ _ _ _ _=>kY rfl (cF (aZ (i:=0) (show (["order", "is_between"]:List Str).Nodup by decide +kernel) rfl (Or.inl rfl) (.inr rfl)) (cF (aZ (i:=1) (show (["order", "is_between"]:List Str).Nodup by decide +kernel) rfl (Or.inl rfl) (.inr rfl)) (jw)))) (λ _ _ _ _=>iD (gR (aa 1))) (λ _ _ _ _=>aa 0)) (aA))))))))))
theorem jn:FnScope ["_law_script", "_law_k", "_law_cell", "_law_state"] ["_law_script", "_law_k"] (aH gC):=⟨rfl,rfl,rfl,by decide +kernel,rfl,by decide +kernel,by decide +kernel⟩
theorem wV {f:Addr}{fd:FuncData}(F:Fun K "_law_bag" "_law_bag" gC f fd)(P8:mg "len" = none)(QE:mg "abs" = none)(Qg:mg "int" = none):FnOk P w K mg base j9 1 f fd ["_law_script", "_law_k"] (lC K 2 fq):=oA (m:=mU) F jn λ cdv B outer s H E hr=>
 aC (aX (i:=2) jn.nd (aI))
 (aC (eG (bR (wj hr.units) (aa 1) (aO bY P8 bI (af (aa 0) (aA))))
 (aL (aX (i:=2) jn.nd (aO MM QE Lv (af (bN (aa 0) (aa 1)) (aA)))))
 (bU))
 (aC (aX (i:=3) jn.nd (aP cL (aI) (aP p7 (aP cL (aP cL (aP cL (aP p7 (aa 2) (aI)) (aP kH (aP kH (aI) (aa 1)) (aa 1))) (aP kH (aI) (aa 1))) (aI)) (aI))))
 (aL (bM (fZ (af (aP kH (aa 2) (b7 v9 Qg wI (af (jP J1 (aa 2) (aP NN (aI) (aI))) (aA)))) (af (aa 3) (aA))))))))
theorem lR:FnScope ["_law_bag_here", "_law_many", "_law_found"] ["_law_bag_here", "_law_many"] (aH eg):=⟨rfl,rfl,rfl,by decide +kernel,rfl,by decide +kernel,by decide +kernel⟩
theorem r8 {f:Addr}{fd:FuncData}(F:Fun K "_law_digit" "_law_digit" eg f fd):FnOk P w K mg base j9 1 f fd ["_law_bag_here", "_law_many"] (lC K 2 aV):=oA (m:=iE) F lR λ cdv B outer s H E hr=>
 aC (eG (bR (nq hr.units) (bN (aa 0) (aI)) (aI))
 (aC (aX (i:=2) lR.nd (aP p7 (bN (aa 0) (aI)) (aa 1)))
 (aC (iM (aP xq (bN (aa 0) (aI)) (aa 1)) (iQ (aa 0) (aI)))
 (aL (bM (aa 2)))))
 (bU))
 (aC (iM (aP p7 (aP kH (bN (aa 0) (aI)) (aI)) (aI)) (iQ (aa 0) (aI)))
 (aL (bM (aP p7 (aP xq (aP p7 (aP kH (bN (aa 0) (aI)) (aP cL (aP xq (bN (aa 0) (aI)) (aI)) (aI))) (aI)) (aI)) (aa 1)))))
theorem gT:FnScope ["_law_bag_here", "_law_n", "_law_left", "_law_found", "_law_at"] ["_law_bag_here", "_law_n"] (aH gF):=⟨rfl,rfl,rfl,by decide +kernel,rfl,by decide +kernel,by decide +kernel⟩
theorem xG {f:Addr}{fd:FuncData}(F:Fun K "_law_any" "_law_any" gF f fd)(Qc:mg "list" = none)(P9:mg "range" = none)(P8:mg "len" = none)(Qa:mg "tuple" = none)(P_:fh P w K mg base 1 "_law_digit" ["_law_bag_here", "_law_many"] aV):FnOk P w K mg base j9 2 f fd ["_law_bag_here", "_law_n"] (lC K 2 gz):=oA (m:=nh) F gT λ cdv B outer s H E hr=>
 aC (aX (i:=2) gT.nd (b7 (sU rfl) Qc lI (af (b7 uW P9 u7 (af (aI) (af (aP cL (aa 1) (aI)) (aA)))) (aA))))
 (aC (aX (i:=3) gT.nd (fZ (aA)))
 (aC (lJ 1000000 PassesOwn.never (bR (nq hr.units) (aO bY P8 bI (af (aa 2) (aA))) (aI))
 (aC (aX (i:=4) gT.nd (bu P_ (hr.mono (by decide)) (af (aa 0) (af (aO bY P8 bI (af (aa 2) (aA))) (aA))) (au (au aR))))
 (aC (ju (xO PySem.F.slot_list_append PySem.F.type_list_append o6 (aa 3) (af (bN (aa 2) (aa 4)) (aA))))
 (aL (aX (i:=2) gT.nd (aP cL (zf (aa 2) yO (j8 (aa 4))) (zf (aa 2) (j8 (aP cL (aa 4) (aI))) yO)))))))
 (aL (bM (b7 (kh rfl) Qa gI (af (aa 3) (aA)))))))
theorem cQ:FnScope ["_law_bag_here", "_law_n", "_law_way", "_law_found", "_law_k", "_law_i", "_law_j"] ["_law_bag_here", "_law_n"] (aH eB):=⟨rfl,rfl,rfl,by decide +kernel,rfl,by decide +kernel,by decide +kernel⟩
theorem tQ {f:Addr}{fd:FuncData}(F:Fun K "_law_order" "_law_order" eB f fd)(Qc:mg "list" = none)(P9:mg "range" = none)(Qa:mg "tuple" = none)(P_:fh P w K mg base 1 "_law_digit" ["_law_bag_here", "_law_many"] aV)(QF:fh P w K mg base 2 "_law_any" ["_law_bag_here", "_law_n"] gz):FnOk P w K mg base j9 3 f fd ["_law_bag_here", "_law_n"] (lC K 2 dM):=oA (m:=jT) F cQ λ cdv B outer s H E hr=>
 aC (aX (i:=2) cQ.nd (bu P_ (hr.mono (by decide)) (af (aa 0) (af (aI) (aA))) (au (au aR))))
 (aC (eG (bR (nq hr.units) (aa 2) (aI))
 (aL (bM (bu QF (hr.mono (by decide)) (af (aa 0) (af (aa 1) (aA))) (au (au aR)))))
 (bU))
 (aC (aX (i:=3) cQ.nd (b7 (sU rfl) Qc lI (af (b7 uW P9 u7 (af (aI) (af (aP cL (aa 1) (aI)) (aA)))) (aA))))
 (aC (eG (bR (wJ hr.units) (aa 2) (aI))
 (aL (aX (i:=3) cQ.nd (Kv (aa 3))))
 (bU))
 (aC (d_ PassesOwn.never rfl (dw P9 (bu P_ (hr.mono (by decide)) (af (aa 0) (af (aI) (aA))) (au (au aR)))) (aZ (i:=4) cQ.nd)
 (aC (aX (i:=5) cQ.nd (bu P_ (hr.mono (by decide)) (af (aa 0) (af (aa 1) (aA))) (au (au aR))))
 (aC (aX (i:=6) cQ.nd (bu P_ (hr.mono (by decide)) (af (aa 0) (af (aa 1) (aA))) (au (au aR))))
 (aL (iM (jo (af (bN (aa 3) (aa 6)) (af (bN (aa 3) (aa 5)) (aA)))) (kY rfl (cF (iQ (aa 3) (aa 5)) (cF (iQ (aa 3) (aa 6)) (jw)))))))))
 (aL (bM (b7 (kh rfl) Qa gI (af (aa 3) (aA)))))))))
theorem fu:FnScope ["_law_one", "_law_other", "_law_n", "_law_here", "_law_there", "_law_i", "_law_j"] ["_law_one", "_law_other"] (aH gE):=⟨rfl,rfl,rfl,by decide +kernel,rfl,by decide +kernel,by decide +kernel⟩
theorem xr {f:Addr}{fd:FuncData}(F:Fun K "_law_bar" "_law_bar" gE f fd)(P8:mg "len" = none)(P9:mg "range" = none)(Qg:mg "int" = none):FnOk P w K mg base j9 1 f fd ["_law_one", "_law_other"] (lC K 2 eE):=oA (m:=nF) F fu λ cdv B outer s H E hr=>
 aC (aX (i:=2) fu.nd (aO bY P8 bI (af (aa 0) (aA))))
 (aC (aX (i:=3) fu.nd (aP kH (fZ (af (aI) (aA))) (aP cL (aa 2) (aI))))
 (aC (aX (i:=4) fu.nd (aP kH (fZ (af (aI) (aA))) (aP cL (aa 2) (aI))))
 (aC (d_ PassesOwn.never rfl (dw P9 (aa 2)) (aZ (i:=5) fu.nd)
 (aL (d_ PassesOwn.never rfl (jc P9 (aI) (aP cL (aa 2) (aI))) (aZ (i:=6) fu.nd)
 (aC (iM (aP cL (bN (aa 3) (aa 6)) (b7 v9 Qg wI (af (jP J1 (bN (aa 0) (aa 5)) (aa 6)) (aA)))) (iQ (aa 3) (aa 6)))
 (aC (iM (aP cL (bN (aa 4) (aa 6)) (b7 v9 Qg wI (af (jP J1 (bN (aa 1) (aa 5)) (aa 6)) (aA)))) (iQ (aa 4) (aa 6)))
 (aL (eG (bR (nq hr.units) (bN (aa 3) (aa 6)) (bN (aa 4) (aa 6)))
 (aL (bM (jo (af (aP cL (aa 5) (aI)) (af (aa 6) (aA))))))
 (bU))))))))
 (aL (bM (se))))))
theorem gg:FnScope ["_law_order_here", "_law_n", "_law_found", "_law_i"] ["_law_order_here"] (aH eF):=⟨rfl,rfl,rfl,by decide +kernel,rfl,by decide +kernel,by decide +kernel⟩
theorem rW {f:Addr}{fd:FuncData}(F:Fun K "_law_wrong" "_law_wrong" eF f fd)(P8:mg "len" = none)(P9:mg "range" = none):FnOk P w K mg base j9 1 f fd ["_law_order_here"] (lC K 1 bw):=oA (m:=jQ) F gg λ cdv B outer s H E hr=>
 aC (aX (i:=1) gg.nd (aO bY P8 bI (af (aa 0) (aA))))
 (aC (aX (i:=2) gg.nd (fZ (aA)))
 (aC (d_ PassesOwn.never rfl (dw P9 (aa 1)) (aZ (i:=3) gg.nd)
 (aL (ju (xO PySem.F.slot_list_extend PySem.F.type_list_extend Cv (aa 2) (af (gq (N:=["_law_j", "_law_i", "_law_order_here"]) (cap:=[none,some 3,some 0]) rfl (h_ ["_law_i", "_law_order_here"] rfl (by decide +kernel) (by decide +kernel) (by decide +kernel) (by decide +kernel) (by decide +kernel) (forall_mem_cons.mpr ⟨by first | exact Or.inl rfl | exact Or.inr rfl,(forall_mem_cons.mpr ⟨by first | exact Or.inl rfl | exact Or.inr rfl,(λ _ h=>nomatch h)⟩)⟩) ⟨rfl,by decide +kernel,⟨rfl,by decide +kernel,trivial⟩⟩) (jc P9 (aP cL (aa 3) (aI)) (aa 1)) (λ _ _ _ _=>aZ (i:=0) (show (["_law_j", "_law_i", "_law_order_here"]:List Str).Nodup by decide +kernel) rfl (Or.inl rfl) (.inr rfl)) (λ _ _ _ _=>iD (bR (nq hr.units) (bN (aa 2) (aa 1)) (bN (aa 2) (aa 0)))) (λ _ _ _ _=>jo (af (aP cL (aa 1) (aI)) (af (aP cL (aa 0) (aI)) (aA))))) (aA))))))
 (aL (bM (aa 2)))))
theorem gD:FnScope ["_law_order_here", "_law_found", "_law_i", "_law_j", "_law_some", "_law_left"] ["_law_order_here"] (aH ja):=⟨rfl,rfl,rfl,by decide +kernel,rfl,by decide +kernel,by decide +kernel⟩
theorem AB {f:Addr}{fd:FuncData}(F:Fun K "_law_up" "_law_up" ja f fd)(P9:mg "range" = none)(P8:mg "len" = none)(Qc:mg "list" = none)(Qa:mg "tuple" = none):FnOk P w K mg base j9 1 f fd ["_law_order_here"] (lC K 1 cW):=oA (m:=oY) F gD λ cdv B outer s H E hr=>
 aC (aX (i:=1) gD.nd (fZ (aA)))
 (aC (d_ PassesOwn.never rfl (dw P9 (aO bY P8 bI (af (aa 0) (aA)))) (aZ (i:=2) gD.nd)
 (aL (d_ PassesOwn.never rfl (jc P9 (aP cL (aa 2) (aI)) (aO bY P8 bI (af (aa 0) (aA)))) (aZ (i:=3) gD.nd)
 (aC (oH (i:=4) (N:=["_law_thing", "_law_order_here", "_law_i", "_law_j"]) (cap:=[none,some 0,some 2,some 3]) gD.nd rfl (h_ ["_law_order_here", "_law_i", "_law_j"] rfl (by decide +kernel) (by decide +kernel) (by decide +kernel) (by decide +kernel) (by decide +kernel) (forall_mem_cons.mpr ⟨by first | exact Or.inl rfl | exact Or.inr rfl,(forall_mem_cons.mpr ⟨by first | exact Or.inl rfl | exact Or.inr rfl,(forall_mem_cons.mpr ⟨by first | exact Or.inl rfl | exact Or.inr rfl,(λ _ h=>nomatch h)⟩)⟩)⟩) ⟨rfl,by decide +kernel,⟨rfl,by decide +kernel,⟨rfl,by decide +kernel,trivial⟩⟩⟩) (fG (zf (aa 0) (j8 (aP cL (aa 2) (aI))) (j8 (aa 3)))) (λ _ _ _ _=>aZ (i:=0) (show (["_law_thing", "_law_order_here", "_law_i", "_law_j"]:List Str).Nodup by decide +kernel) rfl (Or.inl rfl) (.inr rfl)) (λ _ _ _ _=>iD (Nc (wj hr.units) (wj hr.units) (bN (aa 1) (aa 2)) (aa 0) (bN (aa 1) (aa 3)))) (λ _ _ _ _=>aa 0) )
 (aL (eG (AW.at (DL (bR (wj hr.units) (bN (aa 0) (aa 2)) (bN (aa 0) (aa 3))) (yI (bR (wJ hr.units) (aa 4) (fZ (aA))))))
 (aC (aX (i:=5) gD.nd (b7 (sU rfl) Qc lI (af (aa 0) (aA))))
 (aC (iM (jo (af (bN (aa 5) (aa 3)) (af (bN (aa 5) (aa 2)) (aA)))) (kY rfl (cF (iQ (aa 5) (aa 2)) (cF (iQ (aa 5) (aa 3)) (jw)))))
 (aL (ju (xO PySem.F.slot_list_append PySem.F.type_list_append o6 (aa 1) (af (b7 (kh rfl) Qa gI (af (aa 5) (aA))) (aA)))))))
 (bU)))))))
 (aL (bM (aa 1))))
theorem cg:FnScope ["_law_one", "_law_other", "_law_layer", "_law_found", "_law_further", "_law_order_here", "_law_above"] ["_law_one", "_law_other"] (aH c_):=⟨rfl,rfl,rfl,by decide +kernel,rfl,by decide +kernel,by decide +kernel⟩
theorem p9 {f:Addr}{fd:FuncData}(F:Fun K "_law_climbed" "_law_climbed" c_ f fd)(P8:mg "len" = none)(Qf:mg "sorted" = none)(QG:fh P w K mg base 1 "_law_bar" ["_law_one", "_law_other"] eE)(Qe:fh P w K mg base 1 "_law_up" ["_law_order_here"] cW)(Qd:fh P w K mg base 1 "_law_wrong" ["_law_order_here"] bw):FnOk P w K mg base j9 2 f fd ["_law_one", "_law_other"] (lC K 2 cX):=oA (m:=iP) F cg λ cdv B outer s H E hr=>
 aC (aX (i:=2) cg.nd (fZ (af (aa 0) (aA))))
 (aC (aX (i:=3) cg.nd (yq))
 (aC (lJ 1000000 PassesOwn.never (bR (nq hr.units) (aO bY P8 bI (af (aa 2) (aA))) (aI))
 (aC (aX (i:=4) cg.nd (yq))
 (aC (d_ PassesOwn.never rfl (fG (aa 2)) (aZ (i:=5) cg.nd)
 (aL (eG (bR Mm (bu QG (hr.mono (by decide)) (af (aa 5) (af (aa 1) (aA))) (au (au aR))) (se))
 (aC (iM (rH) (sZ hr.units (aa 3) (aa 5)))
 (aL (d_ PassesOwn.never rfl (fG (bu Qe (hr.mono (by decide)) (af (aa 5) (aA)) (au aR))) (aZ (i:=6) cg.nd)
 (aL (iM (rH) (sZ hr.units (aa 4) (aa 6)))))))
 (bU))))
 (aL (oH (i:=2) (N:=["_law_order_here", "_law_other"]) (cap:=[none,some 1]) cg.nd rfl (h_ ["_law_other"] rfl (by decide +kernel) (by decide +kernel) (by decide +kernel) (by decide +kernel) (by decide +kernel) (forall_mem_cons.mpr ⟨by first | exact Or.inl rfl | exact Or.inr rfl,(λ _ h=>nomatch h)⟩) ⟨rfl,by decide +kernel,trivial⟩) (Hu (aa 4)) (λ _ _ _ _=>aZ (i:=0) (show (["_law_order_here", "_law_other"]:List Str).Nodup by decide +kernel) rfl (Or.inl rfl) (.inr rfl)) (λ _ _ _ _=>iD (bR F0 (aO bY P8 bI (af (bu Qd (hr.mono (by decide)) (af (aa 0) (aA)) (au aR)) (aA))) (aO bY P8 bI (af (bu Qd (hr.mono (by decide)) (af (aa 1) (aA)) (au aR)) (aA))))) (λ _ _ _ _=>aa 0) )))))
 (aL (bM (aO (Hv rfl) Qf m7 (af (aa 3) (aA)))))))
theorem ie:FnScope ["_law_one", "_law_other", "_law_due", "_law_found", "_law_odd"] ["_law_one", "_law_other"] (aH fD):=⟨rfl,rfl,rfl,by decide +kernel,rfl,by decide +kernel,by decide +kernel⟩
theorem uq {f:Addr}{fd:FuncData}(F:Fun K "_law_good" "_law_good" fD f fd)(QH:mg "all" = none)(Qo:mg "isinstance" = none)(Qa:mg "tuple" = none)(Qc:mg "list" = none)(P8:mg "len" = none)(QI:fh P w K mg base 2 "_law_climbed" ["_law_one", "_law_other"] cX)(Qk:fh P w K mg base 5 "between" ["one", "other"] dm)(Qd:fh P w K mg base 1 "_law_wrong" ["_law_order_here"] bw):FnOk P w K mg base j9 6 f fd ["_law_one", "_law_other"] (lC K 2 cR):=oA (m:=kZ) F ie λ cdv B outer s H E hr=>
 aC (aX (i:=2) ie.nd (bu QI (hr.mono (by decide)) (af (aa 0) (af (aa 1) (aA))) (au (au aR))))
 (aC (aX (i:=3) ie.nd (bu Qk (hr.mono (by decide)) (af (aa 0) (af (aa 1) (aA))) (au (au aR))))
 (aC (eG (AW.at (vL (kQ (gR (aO HR Qo kF (af (aa 3) (af (IW Qc lI) (aA)))))) (vL (bR (Nb hr.units) (aa 3) (aa 2)) (vZ (kQ (gR (aO (MC rfl) QH KY (af (gq (N:=["_law_order_here"]) (cap:=[none]) rfl (h_ [] rfl (by decide +kernel) (by decide +kernel) (by decide +kernel) (by decide +kernel) (by decide +kernel) (λ _ h=>nomatch h) trivial) (fG (aa 3)) (λ _ _ _ _=>aZ (i:=0) (show (["_law_order_here"]:List Str).Nodup by decide +kernel) rfl (Or.inl rfl) (.inr rfl)) (λ _ _ _ _=>jm) (λ _ _ _ _=>aO HR Qo kF (af (aa 0) (af (IW Qa gI) (aA))))) (aA)))))))))
 (aL (bM (rH)))
 (bU))
 (aC (aX (i:=4) ie.nd (aO bY P8 bI (af (gq (N:=["_law_order_here"]) (cap:=[none]) rfl (h_ [] rfl (by decide +kernel) (by decide +kernel) (by decide +kernel) (by decide +kernel) (by decide +kernel) (λ _ h=>nomatch h) trivial) (fG (aa 2)) (λ _ _ _ _=>aZ (i:=0) (show (["_law_order_here"]:List Str).Nodup by decide +kernel) rfl (Or.inl rfl) (.inr rfl)) (λ _ _ _ _=>iD (bR (wJ hr.units) (aP p7 (aO bY P8 bI (af (bu Qd (hr.mono (by decide)) (af (aa 0) (aA)) (au aR)) (aA))) (aI)) (aI))) (λ _ _ _ _=>aa 0)) (aA))))
 (aL (bM (I_ (jP (wJ hr.units) (aa 0) (aa 1)) (DP (jP (wJ hr.units) (aP kH (aI) (aa 4)) (aO bY P8 bI (af (aa 2) (aA)))))))))))
theorem bX:FnScope ["_law_bag_here", "_law_order_here", "_law_downs", "_law_found", "_law_turn", "_law_turned_about", "_law_some"] ["_law_bag_here", "_law_order_here"] (aH fj):=⟨rfl,rfl,rfl,by decide +kernel,rfl,by decide +kernel,by decide +kernel⟩
theorem uf {f:Addr}{fd:FuncData}(F:Fun K "_law_near" "_law_near" fj f fd)(P9:mg "range" = none)(P8:mg "len" = none)(Qa:mg "tuple" = none)(P_:fh P w K mg base 1 "_law_digit" ["_law_bag_here", "_law_many"] aV)(Qe:fh P w K mg base 1 "_law_up" ["_law_order_here"] cW):FnOk P w K mg base j9 2 f fd ["_law_bag_here", "_law_order_here"] (lC K 2 fE):=oA (m:=kM) F bX λ cdv B outer s H E hr=>
 aC (aX (i:=2) bX.nd (bu P_ (hr.mono (by decide)) (af (aa 0) (af (aI) (aA))) (au (au aR))))
 (aC (aX (i:=3) bX.nd (aa 1))
 (aC (d_ PassesOwn.never rfl (dw P9 (aa 2)) (aZ (i:=4) bX.nd)
 (aC (oH (i:=5) (N:=["_law_thing", "_law_found"]) (cap:=[none,some 3]) bX.nd rfl (h_ ["_law_found"] rfl (by decide +kernel) (by decide +kernel) (by decide +kernel) (by decide +kernel) (by decide +kernel) (forall_mem_cons.mpr ⟨by first | exact Or.inl rfl | exact Or.inr rfl,(λ _ h=>nomatch h)⟩) ⟨rfl,by decide +kernel,trivial⟩) (fG (aa 3)) (λ _ _ _ _=>aZ (i:=0) (show (["_law_thing", "_law_found"]:List Str).Nodup by decide +kernel) rfl (Or.inl rfl) (.inr rfl)) (λ _ _ _ _=>jm) (λ _ _ _ _=>aP fN (aP cL (aO bY P8 bI (af (aa 1) (aA))) (aI)) (aa 0)) )
 (aC (oH (i:=6) (N:=["_law_one", "_law_found"]) (cap:=[none,some 3]) bX.nd rfl (h_ ["_law_found"] rfl (by decide +kernel) (by decide +kernel) (by decide +kernel) (by decide +kernel) (by decide +kernel) (forall_mem_cons.mpr ⟨by first | exact Or.inl rfl | exact Or.inr rfl,(λ _ h=>nomatch h)⟩) ⟨rfl,by decide +kernel,trivial⟩) (fG (bu Qe (hr.mono (by decide)) (af (b7 (kh rfl) Qa gI (af (aa 5) (aA))) (aA)) (au aR))) (λ _ _ _ _=>aZ (i:=0) (show (["_law_one", "_law_found"]:List Str).Nodup by decide +kernel) rfl (Or.inl rfl) (.inr rfl)) (λ _ _ _ _=>jm) (λ _ _ _ _=>b7 (kh rfl) Qa gI (af (gq (N:=["_law_thing", "_law_found"]) (cap:=[none,some 1]) rfl (h_ ["_law_found"] rfl (by decide +kernel) (by decide +kernel) (by decide +kernel) (by decide +kernel) (by decide +kernel) (forall_mem_cons.mpr ⟨by first | exact Or.inl rfl | exact Or.inr rfl,(λ _ h=>nomatch h)⟩) ⟨rfl,by decide +kernel,trivial⟩) (fG (aa 0)) (λ _ _ _ _=>aZ (i:=0) (show (["_law_thing", "_law_found"]:List Str).Nodup by decide +kernel) rfl (Or.inl rfl) (.inr rfl)) (λ _ _ _ _=>jm) (λ _ _ _ _=>aP fN (aP cL (aO bY P8 bI (af (aa 1) (aA))) (aI)) (aa 0))) (aA))) )
 (aL (eG (bR (nq hr.units) (aO bY P8 bI (af (aa 6) (aA))) (aI))
 (aL (aX (i:=3) bX.nd (bN (aa 6) (bu P_ (hr.mono (by decide)) (af (aa 0) (af (aO bY P8 bI (af (aa 6) (aA))) (aA))) (au (au aR))))))
 (bU))))))
 (aC (d_ PassesOwn.never rfl (dw P9 (bu P_ (hr.mono (by decide)) (af (aa 0) (af (aI) (aA))) (au (au aR)))) (aZ (i:=4) bX.nd)
 (aC (aX (i:=6) bX.nd (bu Qe (hr.mono (by decide)) (af (aa 3) (aA)) (au aR)))
 (aL (eG (bR (nq hr.units) (aO bY P8 bI (af (aa 6) (aA))) (aI))
 (aL (aX (i:=3) bX.nd (bN (aa 6) (bu P_ (hr.mono (by decide)) (af (aa 0) (af (aO bY P8 bI (af (aa 6) (aA))) (aA))) (au (au aR))))))
 (bU)))))
 (aL (bM (aa 3))))))
theorem jg:FnScope ["_law_script", "_law_bag_here", "_law_n", "_law_one", "_law_other", "_law_turn", "_law_some", "_law_third"] ["_law_script"] (aH l_):=⟨rfl,rfl,rfl,by decide +kernel,rfl,by decide +kernel,by decide +kernel⟩
theorem LK {f:Addr}{fd:FuncData}(F:Fun K "law" "law" l_ f fd)(P9:mg "range" = none)(P8:mg "len" = none)(QJ:fh P w K mg base 1 "_law_bag" ["_law_script", "_law_k"] fq)(P_:fh P w K mg base 1 "_law_digit" ["_law_bag_here", "_law_many"] aV)(Qp:fh P w K mg base 3 "_law_order" ["_law_bag_here", "_law_n"] dM)(Qe:fh P w K mg base 1 "_law_up" ["_law_order_here"] cW)(Ql:fh P w K mg base 6 "_law_good" ["_law_one", "_law_other"] cR)(QK:fh P w K mg base 2 "_law_near" ["_law_bag_here", "_law_order_here"] fE)(Qd:fh P w K mg base 1 "_law_wrong" ["_law_order_here"] bw)(Qk:fh P w K mg base 5 "between" ["one", "other"] dm):FnOk P w K mg base j9 7 f fd ["_law_script"] (lC K 1 qN):=oA (m:=EH) F jg λ cdv B outer s H E hr=>
 aC (aX (i:=1) jg.nd (bu QJ (hr.mono (by decide)) (af (aa 0) (af (aI) (aA))) (au (au aR))))
 (aC (aX (i:=2) jg.nd (aP cL (aI) (bu P_ (hr.mono (by decide)) (af (aa 1) (af (aI) (aA))) (au (au aR)))))
 (aC (aX (i:=3) jg.nd (bu Qp (hr.mono (by decide)) (af (aa 1) (af (aa 2) (aA))) (au (au aR))))
 (aC (aX (i:=4) jg.nd (aa 3))
 (aC (d_ PassesOwn.never rfl (dw P9 (bu P_ (hr.mono (by decide)) (af (aa 1) (af (aI) (aA))) (au (au aR)))) (aZ (i:=5) jg.nd)
 (aC (aX (i:=6) jg.nd (bu Qe (hr.mono (by decide)) (af (aa 4) (aA)) (au aR)))
 (aL (eG (bR (nq hr.units) (aO bY P8 bI (af (aa 6) (aA))) (aI))
 (aL (aX (i:=4) jg.nd (bN (aa 6) (bu P_ (hr.mono (by decide)) (af (aa 1) (af (aO bY P8 bI (af (aa 6) (aA))) (aA))) (au (au aR))))))
 (bU)))))
 (aC (aX (i:=7) jg.nd (bu Qp (hr.mono (by decide)) (af (aa 1) (af (aa 2) (aA))) (au (au aR))))
 (aC (eG (AW.at (vL (kQ (gR (bu Ql (hr.mono (by decide)) (af (aa 3) (af (aa 4) (aA))) (au (au aR))))) (vL (kQ (gR (bu Ql (hr.mono (by decide)) (af (aa 3) (af (aa 3) (aA))) (au (au aR))))) (vZ (kQ (gR (bu Ql (hr.mono (by decide)) (af (aa 3) (af (bu QK (hr.mono (by decide)) (af (aa 1) (af (aa 3) (aA))) (au (au aR))) (aA))) (au (au aR)))))))))
 (aL (bM (rH)))
 (bU))
 (aC (eG (AW.at (DL (bR F0 (aO bY P8 bI (af (bu Qd (hr.mono (by decide)) (af (aa 7) (aA)) (au aR)) (aA))) (aP cL (aO bY P8 bI (af (bu Qd (hr.mono (by decide)) (af (aa 3) (aA)) (au aR)) (aA))) (aI))) (yI (kQ (gR (bu Ql (hr.mono (by decide)) (af (aa 3) (af (aa 7) (aA))) (au (au aR))))))))
 (aL (bM (rH)))
 (bU))
 (aL (bM (I_ (jP (wJ hr.units) (aa 3) (aa 4)) (DP (jP (wJ hr.units) (bu Qk (hr.mono (by decide)) (af (aa 4) (af (aa 3) (aA))) (au (au aR))) (fZ (aA))))))))))))))
end
end K19
namespace K19
open PySem L2 Am
noncomputable def jG (S:aE)(b:Nat):Prop:=∃ g st:Int,ak S b=some [.int g,.int st]/\0<=g/\0<=st/\st < 4294967296
theorem jG.kp {S S':aE}{b:Nat}{c:Nat->Prop}(h:jG S b)(k:Kp c S S')(hb:¬ c b):jG S' b:=by
 obtain ⟨g,st,e,q⟩:=h;exact ⟨g,st,k.lst b _ hb e,q⟩
theorem GH {S:aE}{ns:List Int}{k:Int}(h0:0<=k)(h1:k<=100):∃ S',fq [.frz (ns.map .int),.int k] S=.ok (.ref S.length) S'/\jG S' S.length/\cZ S S':=by
 have e3:G0 (.int 10) (.int 18)=λ S=>R.ok (.int 1000000000000000000) S:=by
  funext S;exact dI ⟨by decide,by decide,by decide⟩
 have go:∀ cell:Int,0<=cell->∃ S',((RS.seq (.nx [A.frz (ns.map .int),.int k,.int cell,.unb] S) (a_ (bG (aG cC (eC (.int 1)) (aG kX (aG cC (aG cC (aG cC (aG kX (ah 2) (eC (.int 2147483647))) (aG gH (aG gH (eC (.int 7919)) (ah 1)) (ah 1))) (aG gH (eC (.int 17)) (ah 1))) (eC (.int 3))) (eC (.int 2147483646)))) (bH 3))
   (cU (kB (aj (aG gH (ah 2) (aS (f1 pK) (aj (aG LS (ah 2) (aG G0 (eC (.int 10)) (eC (.int 18)))) (aJ)))) (aj (ah 3) (aJ))))))).end=.ok (.ref S.length) S')/\jG S' S.length/\cZ S S':=by
  intro cell hc;have m1:kX (.int cell) (.int 2147483647)=λ S=>R.ok (.int (cell % 2147483647)) S:=by funext S;exact oZ (by decide)
  have m2:∀ x:Int,kX (.int x) (.int 2147483646)=λ S=>R.ok (.int (x % 2147483646)) S:=λ x=>by funext S;exact oZ (by decide)
  have m3:∀ x:Int,gH (.int 7919) (.int x)=λ S=>R.ok (.int (7919 * x)) S:=λ x=>by funext S;exact uJ (by decide) (by decide)
  have m4:gH (.int (7919 * k)) (.int k)=λ S=>R.ok (.int (7919 * k * k)) S:=by funext S;exact mul_r (by omega) (by omega)
  have m5:∀ x:Int,gH (.int 17) (.int x)=λ S=>R.ok (.int (17 * x)) S:=λ x=>by funext S;exact uJ (by decide) (by decide)
  have m6:∀ b:Bool,gH (.int cell) (.int (if b=true then 1 else 0))=λ S=>R.ok (.int (cell * (if b=true then 1 else 0))) S:=λ b=>by
   funext S
   refine mul_r ?_ ?_ <;> cases b <;> decide
  have s0:0<=1+(cell % 2147483647+7919 * k * k+17 * k+3) % 2147483646:=by
   have:=emod_nonneg (cell % 2147483647+7919 * k * k+17 * k+3) (show (2147483646:Int)≠0 by decide);omega
  have s1:1+(cell % 2147483647+7919 * k * k+17 * k+3) % 2147483646 < 4294967296:=by
   have:=emod_lt_of_pos (cell % 2147483647+7919 * k * k+17 * k+3) (show (0:Int) < 2147483646 by decide);omega
  refine ⟨S++[.lst [.int (cell * (if decide (1000000000000000000<=cell)=true then 1 else 0)),.int (1+(cell % 2147483647+7919 * k * k+17 * k+3) % 2147483646)]],?_,⟨_,_,aU,?_,s0,s1⟩,Kp.refl.lay⟩
  ·simp only [bf,bools,m1,m2,m3,m4,m5,e3,m6]
  ·refine Int.mul_nonneg hc ?_;split <;> decide
 have hA:∀ x:Int,0<=(if x < 0 then -x else x):=by intro x;split <;> omega
 unfold fq mU rO;simp only [bf,bools,fJ,Nat.reduceAdd,Nat.reduceSub,length_map];by_cases hk:k < (ns.length:Int)
 ·have hn:k.toNat < ns.length:=by omega
  have ha:fL (ns.map A.int) k=some (.int ns[k.toNat]):=dH (k:=k.toNat) (by omega) (List.getElem?_eq_getElem hn);rw [decide_eq_true hk];simp only [bf,bools,ha];exact go _ (hA _)
 ·rw [decide_eq_false hk];simp only [bf,bools];exact go 0 (Int.le_refl 0)
theorem digit {S:aE}{b:Nat}{m:Int}(h:jG S b)(h1:1<=m)(h2:m < 1073741824):∃ d S',aV [.ref b,.int m] S=.ok (.int d) S'/\0<=d/\d < m/\jG S' b/\Kp (·=b) S S':=by
 obtain ⟨g,st,hl,hg,hs,hs2⟩:=h;have hb:=dB hl;have i0:pQ 2 0=some 0:=gP rfl (by decide);have i1:pQ 2 1=some 1:=gP rfl (by decide);have fin:∀ d g' st':Int,0<=d->d < m->0<=g'->0<=st'->st' < 4294967296->aV [.ref b,.int m] S=.ok (.int d) (S.set b (.lst [.int g',.int st']))->∃ d S',aV [.ref b,.int m] S=.ok (.int d) S'/\0<=d/\d < m/\jG S' b/\Kp (·=b) S S':=
  λ d g' st' a1 a2 a3 a4 a5 e=>⟨d,_,e,a1,a2,⟨g',st',cJ hb,a3,a4,a5⟩,Kp.refl.set (.inl rfl)⟩
 by_cases hg0:0 < g
 ·refine fin (g % m) (g / m) st (emod_nonneg _ (by omega)) (emod_lt_of_pos _ (by omega)) (Int.ediv_nonneg hg (by omega)) hs hs2 ?_;unfold aV iE jK;rw [oM];simp [hl,IV,Ik,hg0,oZ (show 0 < m by omega),xh (show 0 < m by omega) h2,i0]
 ·have:g=0:=by omega
  subst this;have e1:0<=st * 48271 % 2147483647:=emod_nonneg _ (by decide);have e2:st * 48271 % 2147483647 < 2147483647:=emod_lt_of_pos _ (by decide);refine fin ((st * 48271 % 2147483647) * ((st * 48271 % 2147483647) / 65536+9) % 2147483629 / 32 % m) 0 (st * 48271 % 2147483647) (emod_nonneg _ (by omega)) (emod_lt_of_pos _ (by omega)) (by decide) e1 (by omega) ?_;unfold aV iE jK;rw [oM];simp [hl,IV,Ik,oZ (show 0 < m by omega),i0,i1,uJ (show -18446744073709551616 < st by omega) (by omega),oZ (show (0:Int) < 2147483647 by decide),cJ hb,xh (show (0:Int) < 65536 by decide) (by decide),uJ (show -18446744073709551616 < st * 48271 % 2147483647 by omega) (by omega),oZ (show (0:Int) < 2147483629 by decide),xh (show (0:Int) < 32 by decide) (by decide)]
theorem gZ:∀ (l:List Int) (j:Nat) (h:j < l.length),(l[j]::l.eraseIdx j).Perm l
 | x::l,0,_=>List.Perm.refl _
 | x::l,j+1,h=>(List.Perm.swap x _ _).trans (List.Perm.cons x (gZ l j (Nat.lt_of_succ_lt_succ h)))
theorem Bo {ls fs:List Int}{j:Nat}(h:j < ls.length):((fs++[ls[j]])++ls.eraseIdx j).Perm (fs++ls):=by
 rw [List.append_assoc];refine List.Perm.append_left fs ?_;show (ls[j]::ls.eraseIdx j).Perm ls;exact gZ ls j h
theorem K8 {S:aE}{b:Nat}{n:Int}(h:jG S b)(h1:1<=n)(h2:n<=20):∃ (xs:List Int) (S':aE),gz [.ref b,.int n] S=.ok (.tup (xs.map .int)) S'/\xs.Perm (bq 1 (n+1))/\jG S' b/\Kp (·=b) S S':=by
 have hbS:b < S.length:=by obtain ⟨_,_,e,_⟩:=h;exact dB e
 unfold gz nh rE;simp only [bf,bools,fJ,Nat.reduceAdd,Nat.reduceSub,qG (uz (show (-1000000:Int)<=1 by decide) (by decide) (show -1000000<=n+1 by omega) (by omega) (by omega)),length_append];have key:=iX (t:=j3) (c:=j4)
  (λ τ S1=>∃ (L:Nat) (x4:A) (ls fs:List Int),τ=[.ref b,.int n,.ref L,.ref (S.length+1),x4]/\ak S1 L=some (ls.map .int)/\ak S1 (S.length+1)=some (fs.map .int)/\L≠S.length+1/\S.length<=L/\(fs++ls).Perm (bq 1 (n+1))/\jG S1 b/\Kp (·=b) S S1)
  (λ τ S1=>match τ with
   | [_,_,.ref L,_,_]=>((ak S1 L).getD []).length
   | _=>0)
  (λ r=>∃ (xs:List Int) (S':aE),RS.end (RS.seq r (cU (aS (f1 fm) (aj (ah 3) aJ))))=.ok (.tup (xs.map .int)) S'/\xs.Perm (bq 1 (n+1))/\jG S' b/\Kp (·=b) S S') ?_ 1000000
 ·refine key _ _ ⟨S.length,.unb,bq 1 (n+1),[],rfl,?_,?_,by omega,Nat.le_refl _,List.Perm.refl _,h.kp (c:=λ _=>False) (Kp.refl.lay.lay) (λ z=>z),Kp.refl.lay.lay⟩ ?_
  ·exact bL aU
  ·have:ak (S++[.lst ((bq 1 (n+1)).map .int)]++[.lst []]) (S++[O.lst ((bq 1 (n+1)).map .int)]).length=some []:=aU;simpa using this
  ·show ((ak _ S.length).getD []).length < _;rw [bL aU,getD_some,length_map,b9];omega
 ·rintro τ S1 ⟨L,x4,ls,fs,rfl,hL,hF,hne,hLS,hp,hb,hk⟩;have hlen:ls.length<=20:=by
   have:=hp.length_eq;rw [length_append,b9] at this;omega
  unfold j3 j4;simp only [bf,bools,hL,length_map];by_cases h0:ls=[]
  ·subst h0;left;refine ⟨S1,rfl,fs,S1,?_,by simpa using hp,hb,hk⟩;simp only [bf,bools,hF]
  ·right;have hpos:0 < ls.length:=length_pos_iff.mpr h0;refine ⟨S1,by rw [decide_eq_true (by omega)],.inl ?_⟩;obtain ⟨d,S2,e2,d0,d1,hb2,hk2⟩:=digit (m:=(ls.length:Int)) hb (by omega) (by omega);have nLb:¬ L=b:=by omega
   have hL2:=hk2.lst L _ nLb hL;have hF2:=hk2.lst (S.length+1) _ (by omega) hF;have hd:d.toNat < ls.length:=by omega
   have ha:fL (ls.map A.int) d=some (.int ls[d.toNat]):=dH (k:=d.toNat) (by omega) (List.getElem?_eq_getElem hd);have lF:=dB hF2;have lL:=dB hL2;have hfl:fs.length<=20:=by
    have:=hp.length_eq;rw [length_append,b9] at this;omega
   have hl3:ak (S2.set (S.length+1) (.lst (fs.map .int++[.int ls[d.toNat]]))) L=some (ls.map .int):=by rw [cO (Ne.symm hne)];exact hL2
   have hc1:jO (ls.map A.int) none (some d)=(ls.take d.toNat).map .int:=by
    have:=Bu (ls.map A.int) d.toNat (by rw [length_map];exact hd);rw [show ((d.toNat:Nat):Int)=d by omega] at this;rw [this,map_take]
   have hc2:jO (ls.map A.int) (some (d+1)) none=(ls.drop (d.toNat+1)).map .int:=by
    have:=Bh (ls.map A.int) d.toNat (by rw [length_map];exact hd);rw [show ((d.toNat:Nat):Int)=d by omega] at this;rw [this,map_drop]
   simp only [bf,bools,hL,length_map,e2,hF2,hL2,ha,EB (show (fs.length) < 16777216 by omega),hl3,hc1,hc2];have g1:ak (S2.set (S.length+1) (.lst (fs.map .int++[.int ls[d.toNat]]))++[.lst ((ls.take d.toNat).map .int)]) L=some (ls.map .int):=bL hl3;simp only [bf,bools,g1,hc2];have hcat:=MP (S:=S2.set (S.length+1) (.lst (fs.map .int++[.int ls[d.toNat]]))++[.lst ((ls.take d.toNat).map .int)]++[.lst ((ls.drop (d.toNat+1)).map .int)]) (bL aU) aU (by rw [length_map,length_map,length_take,length_drop];omega);rw [hcat];simp only [bf,bools];have hfin:(ls.take d.toNat).map A.int++(ls.drop (d.toNat+1)).map A.int=(ls.eraseIdx d.toNat).map .int:=by rw [<- map_append,<- List.eraseIdx_eq_take_drop_succ]
   rw [hfin];have hlen5:(S2.set (S.length+1) (.lst (fs.map .int++[.int ls[d.toNat]]))++[O.lst ((ls.take d.toNat).map .int)]++[O.lst ((ls.drop (d.toNat+1)).map .int)]).length=S2.length+2:=by simp
   have k3:Kp (·=b) S (S2.set (S.length+1) (.lst (fs.map .int++[.int ls[d.toNat]]))):=(hk.trans hk2).set (.inr (by omega));have b3:jG (S2.set (S.length+1) (.lst (fs.map .int++[.int ls[d.toNat]]))) b:=by
    obtain ⟨g,st,e,q⟩:=hb2;exact ⟨g,st,by rw [cO (by omega)];exact e,q⟩
   refine ⟨_,_,rfl,⟨_,_,ls.eraseIdx d.toNat,fs++[ls[d.toNat]],rfl,aU,?_,?_,?_,?_,b3.kp (c:=λ _=>False) Kp.refl.lay.lay.lay (λ z=>z),k3.lay.lay.lay⟩,?_⟩
   ·rw [map_append];exact bL (bL (bL (cJ (by omega))))
   ·rw [hlen5];omega
   ·rw [hlen5];omega
   ·exact (Bo hd).trans hp
   ·simp only [aU,getD_some,length_map,List.length_eraseIdx_of_lt hd];omega
theorem Dv {xs:List Int}{i j:Nat}{x y:Int}(hi:xs[i]?=some x)(hj:xs[j]?=some y):((xs.set i y).set j x).Perm xs:=by
 obtain ⟨li,ei⟩:=List.getElem?_eq_some_iff.mp hi;obtain ⟨lj,ej⟩:=List.getElem?_eq_some_iff.mp hj;subst ei ej;exact List.set_set_perm li lj
theorem uo {S:aE}{b:Nat}{n:Int}(h:jG S b)(h1:1<=n)(h2:n<=20):∃ (xs:List Int) (S':aE),dM [.ref b,.int n] S=.ok (.tup (xs.map .int)) S'/\xs.Perm (bq 1 (n+1))/\jG S' b/\Kp (·=b) S S':=by
 unfold dM jT nH;obtain ⟨d,S1,e1,d0,d1,hb1,hk1⟩:=digit (m:=4) h (by decide) (by decide);simp only [bf,bools,fJ,Nat.reduceAdd,Nat.reduceSub,e1];by_cases hw:1 < d
 ·obtain ⟨xs,S2,e2,hp,hb2,hk2⟩:=K8 hb1 h1 h2;rw [decide_eq_true hw];simp only [bf,bools,e2];exact ⟨xs,S2,rfl,hp,hb2,hk1.trans hk2⟩
 ·rw [decide_eq_false hw];have hbS:b < S.length:=by obtain ⟨_,_,e,_⟩:=h;exact dB e
  have hl1:=hk1.len;simp only [bf,bools,qG (uz (show (-1000000:Int)<=1 by decide) (by decide) (show -1000000<=n+1 by omega) (by omega) (by omega))];have go:∀ (L:Nat) (fs:List Int) (S2:aE),ak S2 L=some (fs.map .int)->fs.Perm (bq 1 (n+1))->jG S2 b->Kp (·=b) S S2->S.length<=L ->
    ∃ (xs:List Int) (S':aE),RS.end (RS.seq (fH kC (bH 4) iL [.ref b,.int n,.int d,.ref L,.unb,.unb,.unb] S2) (cU (aS (f1 fm) (aj (ah 3) (aJ)))))=.ok (.tup (xs.map .int)) S'/\xs.Perm (bq 1 (n+1))/\jG S' b/\Kp (·=b) S S':=by
   intro L fs S2 hL hp hb2 hk2 hLS;obtain ⟨m,S3,e3,m0,m1,hb3,hk3⟩:=digit (m:=7) hb2 (by decide) (by decide);refine eY (lo:=0) (hi:=m) (S1:=S3) ?_ (λ _ τ S4=>∃ (x4 x5 x6:A) (fs:List Int),τ=[.ref b,.int n,.int d,.ref L,x4,x5,x6]/\ak S4 L=some (fs.map .int)/\fs.Perm (bq 1 (n+1))/\jG S4 b/\Kp (·=b) S S4) (λ r=>∃ (xs:List Int) (S':aE),RS.end (RS.seq r _)=.ok (.tup (xs.map .int)) S'/\xs.Perm (bq 1 (n+1))/\jG S' b/\Kp (·=b) S S') ⟨_,_,_,fs,rfl,hk3.lst L _ (by omega) hL,hp,hb3,hk2.trans hk3⟩ ?_ ?_
   ·refine dU ?_ (cK (by omega) (by omega));simp only [bf,bools,e3]
   ·rintro i τ S4 hi ⟨x4,x5,x6,fs,rfl,hL4,hp4,hb4,hk4⟩;left;obtain ⟨p,S5,e5,p0,p1,hb5,hk5⟩:=digit (m:=n) hb4 h1 (by omega);obtain ⟨q,S6,e6,q0,q1,hb6,hk6⟩:=digit (m:=n) hb5 h1 (by omega);have hL6:=hk6.lst L _ (by omega) (hk5.lst L _ (by omega) hL4);have hlen:(fs.length:Int)=n:=by rw [hp4.length_eq,b9];omega
    have hp':p.toNat < fs.length:=by omega
    have hq':q.toNat < fs.length:=by omega
    have ap:fL (fs.map A.int) p=some (.int fs[p.toNat]):=dH (k:=p.toNat) (by omega) (List.getElem?_eq_getElem hp');have aq:fL (fs.map A.int) q=some (.int fs[q.toNat]):=dH (k:=q.toNat) (by omega) (List.getElem?_eq_getElem hq');have ip:pQ fs.length p=some p.toNat:=gP (by omega) hp';have iq:pQ fs.length q=some q.toNat:=gP (by omega) hq';have lL6:=dB hL6;unfold iL;simp only [bf,bools,e5,e6,hL6,ap,aq,jW (show ([_,_]:List A).length<=16777216 by simp),dI (show ([_,_]:List A).length=2 from rfl),length_map,ip,iq,cJ lL6,length_set];refine ⟨_,_,rfl,_,_,_,(fs.set p.toNat fs[q.toNat]).set q.toNat fs[p.toNat],rfl,?_,?_,?_,?_⟩
    ·rw [cJ (by rw [length_set];exact lL6),map_set,map_set]
    ·exact (Dv (List.getElem?_eq_getElem hp') (List.getElem?_eq_getElem hq')).trans hp4
    ·obtain ⟨g,st,e,z⟩:=hb6;exact ⟨g,st,by rw [cO (by omega),cO (by omega)];exact e,z⟩
    ·exact ((((hk4.trans hk5).trans hk6).set (.inr hLS)).set (.inr hLS))
   ·rintro τ S4 ⟨x4,x5,x6,fs,rfl,hL4,hp4,hb4,hk4⟩;refine ⟨fs,S4,?_,hp4,hb4,hk4⟩;simp only [bf,bools,hL4]
  have b2:jG (S1++[O.lst ((bq 1 (n+1)).map .int)]) b:=hb1.kp (c:=λ _=>False) Kp.refl.lay λ z=>z;by_cases h1':d=1
  ·subst h1';simp only [bf,bools,beq_self_eq_true];exact go _ (bq 1 (n+1)).reverse _ (by rw [List.map_reverse];exact aU) (List.reverse_perm _) (b2.kp (c:=λ _=>False) Kp.refl.lay λ z=>z) hk1.lay.lay (by simp;omega)
  ·rw [show (d == 1)=false by simpa using h1'];simp only [bf,bools];exact go _ (bq 1 (n+1)) _ aU (List.Perm.refl _) b2 hk1.lay hl1
theorem Lb {l:List Int}{k:Nat}{i:Int}(h:i=k)(hk:k < l.length):fL (l.map A.int) i=some (.int (l.getD k 0)):=dH h (by rw [getD_eq_getElem?_getD,List.getElem?_eq_getElem hk];rfl)
noncomputable def prs (n:Int):List A:=(bq 1 n).flatMap λ i=>(bq (i+1) (n+1)).map λ j=>.tup [.int i,.int j]
theorem xS {n:Int}{x:A}:x∈prs n ↔ ∃ i j:Int,1<=i/\i < j/\j<=n/\x=.tup [.int i,.int j]:=by
 unfold prs;rw [mem_flatMap];constructor
 ·rintro ⟨i,hi,hx⟩;obtain ⟨j,hj,rfl⟩:=mem_map.mp hx;rw [fR] at hi hj;exact ⟨i,j,by omega,by omega,by omega,rfl⟩
 ·rintro ⟨i,j,h1,h2,h3,rfl⟩;exact ⟨i,fR.mpr ⟨h1,by omega⟩,mem_map.mpr ⟨j,fR.mpr ⟨by omega,by omega⟩,rfl⟩⟩
theorem qd {α β:Type}{f:α->List β}{B:Nat}:∀ (l:List α),(∀ x∈l,(f x).length<=B)->(l.flatMap f).length<=l.length * B
 | [],_=>zero_le _
 | x::l,h=>by
  rw [flatMap_cons,length_append,length_cons,Nat.add_mul,Nat.one_mul];have:=qd l λ y hy=>h y (mem_cons_of_mem _ hy);have:=h x (mem_cons_self ..);omega
theorem rV {n:Int}(h0:0<=n)(h1:n<=1000):(prs n).length<=16777216:=by
 have:=qd (B:=1000) (f:=λ i=>(bq (i+1) (n+1)).map λ j=>A.tup [.int i,.int j]) (bq 1 n) λ x hx=>by
  rw [fR] at hx;rw [length_map,b9];omega
 rw [b9] at this;have h2:(n - 1).toNat * 1000<=1000 * 1000:=Nat.mul_le_mul_right _ (by omega);unfold prs;omega
theorem IB {S:aE}{i n lo hi:Int}:∀ (k t:Nat) (x1:A),k+t=(hi - lo).toNat->∃ x1',iI (cS lo hi) (bH 1) jN (jF (aj (ah 0) (aj (ah 1) (aJ)))) k t [.int i,x1,.int n] S=.ok ((List.range' t k).map λ q:Nat=>A.tup [.int i,.int (lo+q)],[.int i,x1',.int n]) S
 | 0,t,x1,_=>⟨x1,rfl⟩
 | k+1,t,x1,h=>by
  obtain ⟨x1',e⟩:=IB (S:=S) (i:=i) (n:=n) (lo:=lo) (hi:=hi) k (t+1) (.int (lo+t)) (by omega);refine ⟨x1',?_⟩;unfold iI;have hg:(cS lo hi).get t S=some (.int (lo+t)):=if_pos (by omega);simp only [bf,bools,hg,jW (show ([_,_]:List A).length<=16777216 by simp),e,range'_succ,map_cons]
theorem CC {S:aE}{n:Int}(h0:0<=n)(h1:n<=1000):∀ (k t:Nat) (x0 x1:A),k+t=(n - 1).toNat->gc (cS 1 n) (bH 0) jN (iB (aG cC (ah 0) (eC (.int 1))) (aG cC (ah 2) (eC (.int 1)))) (bH 1) jN (jF (aj (ah 0) (aj (ah 1) (aJ)))) k t [x0,x1,.int n] S=.ok ((List.range' t k).flatMap λ q:Nat=>(bq (1+q+1) (n+1)).map λ j=>A.tup [.int (1+q),.int j]) S
 | 0,t,x0,x1,_=>rfl
 | k+1,t,x0,x1,h=>by
  have hg:(cS 1 n).get t S=some (.int (1+t)):=if_pos (by omega);obtain ⟨x1',e⟩:=IB (S:=S) (i:=1+t) (n:=n) (lo:=1+t+1) (hi:=n+1) (cS (1+t+1) (n+1)).k 0 x1 rfl;have hr:((List.range' 0 (cS (1+(t:Int)+1) (n+1)).k).map λ q:Nat=>A.tup [.int (1+t),.int (1+t+1+q)])=(bq (1+t+1) (n+1)).map λ j=>A.tup [.int (1+t),.int j]:=by
   unfold bq;rw [List.map_map,range_eq_range'];rfl
  rw [hr] at e;have e2:=CC (S:=S) h0 h1 k (t+1) (.int (1+t)) x1' (by omega);have hs:iB (aG cC (ah 0) (eC (.int 1))) (aG cC (ah 2) (eC (.int 1))) [.int (1+t),x1,.int n] S=.ok (cS (1+t+1) (n+1)) S:=
   jU (S1:=S) (by simp only [bf,bools]) (by simp only [bf,bools]) (cK (by omega) (by omega)) (cK (by omega) (by omega))
  unfold gc;simp only [bf,bools,hg,hs,e,e2,range'_succ,flatMap_cons]
theorem uZ {S:aE}{n:Int}(h0:0<=n)(h1:n<=1000):bO [.int n] S=.ok (.ref S.length) (S++[.lst (prs n)]):=by
 have hs:iB (eC (.int 1)) (ah 0) [.int n] S=.ok (cS 1 n) S:=jU (S1:=S) (by simp only [bf,bools]) (by simp only [bf,bools]) (cK (by omega) (by omega)) (cK (by omega) (by omega));have e:=CC (S:=S) h0 h1 (cS 1 n).k 0 .unb .unb rfl;have hp:((List.range' 0 (cS 1 n).k).flatMap λ q:Nat=>(bq (1+q+1) (n+1)).map λ j=>A.tup [.int (1+q),.int j])=prs n:=by
  unfold prs bq;rw [flatMap_map,<- range_eq_range'];rfl
 rw [hp] at e;unfold bO iJ kL wR;simp only [bf,bools,fJ,Nat.reduceAdd,Nat.reduceSub,hs,e,bW (rV h0 h1)]
noncomputable def wg (xs:List Int)(q:A):Bool:=match q with
 | .tup [.int i,.int j]=>decide (xs.getD (i - 1).toNat 0 > xs.getD (j - 1).toNat 0)
 | _=>false
theorem LX {xs:List Int}{i:Int}(h1:0<=i)(h2:i < xs.length):fL (xs.map A.int) i=some (.int (xs.getD i.toNat 0)):=Lb (k:=i.toNat) (by omega) (by omega)
theorem Nj {S:aE}{n:Nat}{xs:List Int}(hlen:xs.length=n)(h2:n<=20) :
  ∃ (P:Nat) (S':aE),dz [.tup (xs.map .int)] S=.ok (.ref P) S'/\ak S' P=some ((prs n).filter (wg xs))/\cZ S S'/\S.length<=P:=by
 have eq:=uZ (S:=S) (n:=(n:Int)) (by omega) (by omega);have hL:ak (S++[O.lst (prs n)]) S.length=some (prs n):=aU;obtain ⟨S',g1,g2⟩:=gf (s:=dF S.length (prs n).length) (g:=qJ 2 (jD (bH 0) (jD (bH 1) (qI)))) (t:=iS (aG tX (aG eK (ah 2) (aG aSub (ah 0) (eC (.int 1)))) (aG eK (ah 2) (aG aSub (ah 1) (eC (.int 1)))))) (e:=jF (aj (ah 0) (aj (ah 1) (aJ))))
  (P:=λ S1=>S1=S++[O.lst (prs n)]) (T:=λ τ'=>∃ y z,τ'=[y,z,.tup (xs.map .int)])
  (λ i=>(prs n).getD i .unb) (λ i=>wg xs ((prs n).getD i .unb)) (λ i=>(prs n).getD i .unb)
  (λ i S1 hi k=>by
   have hi:i < (prs n).length:=hi;show (ak S1 S.length).bind _=_;rw [k,hL,bind_some,getD_eq_getElem?_getD,List.getElem?_eq_getElem hi];rfl)
  (λ S1 k=>by
   show (match ak S1 S.length with
    | some ys=>decide (ys.length<=(prs n).length)
    | none=>false)=true
   rw [k,hL];simp)
  (λ i τ' S1 hi ⟨y,z,hy⟩ k=>by
   have hi:i < (prs n).length:=hi;subst hy k;have hm:(prs n).getD i .unb∈prs n:=by rw [getD_eq_getElem?_getD,List.getElem?_eq_getElem hi];exact getElem_mem hi
   obtain ⟨a,c,q1,q2,q3,eac⟩:=xS.mp hm;rw [eac];have x1:fL (xs.map A.int) (a - 1)=some (.int (xs.getD (a - 1).toNat 0)):=LX (by omega) (by omega);have x2:fL (xs.map A.int) (c - 1)=some (.int (xs.getD (c - 1).toNat 0)):=LX (by omega) (by omega);refine ⟨[.int a,.int c,.tup (xs.map .int)],S++[O.lst (prs n)],S++[O.lst (prs n)],by simp only [bf,bools,dI (show ([_,_]:List A).length=2 from rfl)],by simp only [bf,bools,x1,x2];rfl,⟨_,_,rfl⟩,λ _=>rfl,λ _=>⟨_,by simp only [bf,bools,jW (show ([_,_]:List A).length<=16777216 by simp)],rfl⟩⟩)
  (prs n).length 0 (d8 [none,none,some 0] [.tup (xs.map .int)]) (S++[O.lst (prs n)]) rfl ⟨_,_,rfl⟩ rfl
 subst g2;have ef:=je (prs n) (wg xs) (λ q=>q) .unb;rw [range_eq_range',map_id'] at ef;rw [ef] at g1;have ll:=rV (n:=(n:Int)) (by omega) (by omega);refine ⟨_,(S++[O.lst (prs n)])++[.lst ((prs n).filter (wg xs))],?_,aU,Kp.refl.lay.lay,by rw [length_append];omega⟩;have ec:bP [none,none,some 0] (eT (eFn bO (aj (aS (f1 cu) (aj (ah 0) (aJ))) (aJ)))) (qJ 2 (jD (bH 0) (jD (bH 1) (qI)))) (iS (aG tX (aG eK (ah 2) (aG aSub (ah 0) (eC (.int 1)))) (aG eK (ah 2) (aG aSub (ah 1) (eC (.int 1)))))) (jF (aj (ah 0) (aj (ah 1) (aJ)))) [.tup (xs.map .int)] S=.ok (.ref (S++[O.lst (prs n)]).length) ((S++[O.lst (prs n)])++[.lst ((prs n).filter (wg xs))]):=by
  unfold bP;rw [jz (S1:=S++[O.lst (prs n)]) (by simp only [bf,bools,length_map,hlen,eq]) hL,R.cI];show R.cV (dS (dF S.length (prs n).length) _ _ _ (prs n).length 0 _ _) _=_;rw [g1,R.cD,bW (Nat.le_trans (length_filter_le _ _) ll)]
 unfold dz iG kI;simp only [bf,bools,fJ,Nat.reduceAdd,Nat.reduceSub,ec]
noncomputable def jd (i hi:Int):List A:=(bq (i+1) hi).map λ j=>.tup [.int i,.int j]
theorem u0 (a:Int)(u:Nat):bq a (a+((u+1:Nat):Int))=bq a (a+(u:Int))++[a+(u:Int)]:=by
 unfold bq;rw [show (a+((u+1:Nat):Int) - a).toNat=u+1 by omega,show (a+(u:Int) - a).toNat=u by omega,List.range_succ,map_append];rfl
theorem vH (n:Nat):prs n=(bq 1 (n:Int)).flatMap λ i=>jd i ((n:Int)+1):=rfl
theorem Bp {xs:List Int}{i n:Int}:(((bq (i+1) n).filter λ j=>decide (xs.getD i.toNat 0 > xs.getD j.toNat 0)).map λ j=>A.tup [.int (i+1),.int (j+1)])=(jd (i+1) (n+1)).filter (wg xs):=by
 unfold jd;have e:bq (i+1+1) (n+1)=(bq (i+1) n).map (·+1):=by
  unfold bq;rw [List.map_map,show n+1 - (i+1+1)=n - (i+1) by omega];refine map_congr_left λ q _=>?_;show i+1+1+(q:Int)=i+1+(q:Int)+1;omega
 rw [e,List.map_map,filter_map];congr 1;refine List.filter_congr λ j _=>?_;show _=decide (xs.getD (i+1 - 1).toNat 0 > xs.getD (j+1 - 1).toNat 0);rw [show i+1 - 1=i by omega,show j+1 - 1=j by omega]
theorem JL {S:aE}{n m:Nat}{xs ys:List A}(h1:ak S n=some xs)(h2:ak S m=some ys)(h3:xs.length+ys.length<=16777216):tV (.ref n) [.ref m] S=.ok .non (S.set n (.lst (xs++ys))):=by
 show opt (ak S n) _=_;rw [h1];show opt (ak S m) _=_;rw [h2];exact K9 h3
theorem Ar {i hi:Int}(h0:0<=i)(h:hi<=21):(jd i hi).length<=20:=by
 unfold jd;rw [length_map,b9];omega
theorem Kh {S:aE}{n:Nat}{xs:List Int}{v:A}(hu:v.eU=false)(hv:∀ T,cZ S T->cu v T=.ok (.int n) T/\∀ (i:Int) (x:A),fL (xs.map A.int) i=some x->eK v (.int i) T=.ok x T)(hlen:xs.length=n)(h1:1<=n)(h2:n<=20):∃ (D:Nat) (S':aE),bw [v] S=.ok (.ref D) S'/\ak S' D=some ((prs n).filter (wg xs))/\cZ S S':=by
 unfold bw jQ nI;simp only [bf,bools,fJ,Nat.reduceAdd,Nat.reduceSub,hu,(hv S Kp.refl).1];refine eY (lo:=0) (hi:=(n:Int)) (S1:=S++[.lst []]) (show kK _ _=_ from dU (by simp only [bf,bools]) (cK (by omega) (by omega)))
  (λ t τ S1=>(∃ a3,τ=[v,.int n,.ref S.length,a3])/\ak S1 S.length=some (((bq 1 (1+(t:Int))).flatMap λ i=>jd i ((n:Int)+1)).filter (wg xs))/\cZ S S1)
  (λ r=>∃ (D:Nat) (S':aE),RS.end (RS.seq r _)=.ok (.ref D) S'/\ak S' D=some ((prs n).filter (wg xs))/\cZ S S') ⟨⟨_,rfl⟩,?_,Kp.refl.lay⟩ ?_ ?_
 ·rw [aU];rfl
 ·rintro t τ S1 ht ⟨⟨a3,rfl⟩,hL,kp⟩;left;have hb:(((bq 1 (1+(t:Int))).flatMap λ i=>jd i ((n:Int)+1)).filter (wg xs)).length<=1000:=by
   have q1:=length_filter_le (wg xs) ((bq 1 (1+(t:Int))).flatMap λ i=>jd i ((n:Int)+1));have q2:=qd (B:=20) (f:=λ i=>jd i ((n:Int)+1)) (bq 1 (1+(t:Int))) λ x hx=>Ar (by have:=fR.mp hx;omega) (by omega);rw [b9] at q2;have q3:(1+(t:Int) - 1).toNat * 20<=20 * 20:=Nat.mul_le_mul_right _ (by omega);omega
  have x0:fL (xs.map A.int) (0+(t:Int))=some (.int (xs.getD (0+(t:Int)).toNat 0)):=LX (by omega) (by omega);have ec:=Ew (lo:=0+(t:Int)+1) (hi:=(n:Int)) (cap:=[some 3,some 0]) (src:=iB (aG cC (ah 3) (eC (.int 1))) (ah 1)) (t:=iS (aG tX (aG eK (ah 2) (ah 1)) (aG eK (ah 2) (ah 0)))) (e:=jF (aj (aG cC (ah 1) (eC (.int 1))) (aj (aG cC (ah 0) (eC (.int 1))) (aJ)))) (τ:=[v,.int n,.ref S.length,.int (0+(t:Int))]) (S:=S1) (S1:=S1)
   (jU (S1:=S1) (by simp only [bf,bools]) (by simp only [bf,bools]) (cK (by omega) (by omega)) (cK (by omega) (by omega)))
   (λ j=>decide (xs.getD (0+(t:Int)).toNat 0 > xs.getD j.toNat 0)) (λ j=>.tup [.int (0+(t:Int)+1),.int (j+1)]) (λ j g1 g2=>by
    have x2:fL (xs.map A.int) j=some (.int (xs.getD j.toNat 0)):=LX (by omega) (by omega);simp only [bf,bools,hu,(hv S1 kp).2 _ _ x0,(hv S1 kp).2 _ _ x2]) (λ j _ _ _=>by simp only [bf,bools,jW (show ([_,_]:List A).length<=16777216 by simp)]) (by omega)
  rw [Bp] at ec;have hr:((jd (0+(t:Int)+1) ((n:Int)+1)).filter (wg xs)).length<=1000:=Nat.le_trans (length_filter_le _ _) (Nat.le_trans (Ar (by omega) (by omega)) (by decide));have lt:=dB hL;have ex:=JL (S:=S1++[.lst ((jd (0+(t:Int)+1) ((n:Int)+1)).filter (wg xs))]) (bL hL) aU (by omega);unfold kE;simp only [bf,bools,hu,hL,ec,ex];refine ⟨_,_,rfl,⟨_,rfl⟩,?_,kp.lay.set (.inr (Nat.le_refl _))⟩;rw [cJ (by rw [length_append];exact lt_of_lt_of_le lt (Nat.le_add_right _ _)),u0,flatMap_append,filter_append,show (0:Int)+(t:Int)+1=1+(t:Int) by omega];simp
 ·rintro τ S1 ⟨⟨a3,rfl⟩,hL,kp⟩;simp only [bf,bools];refine ⟨_,_,rfl,?_,kp⟩;rw [hL,show 1+(((n:Int) - 0).toNat:Int)=1+((((n - 1)+1:Nat)):Int) by omega,u0,flatMap_append,vH];have e:jd (1+((n - 1:Nat):Int)) ((n:Int)+1)=[]:=by
   unfold jd bq;rw [show ((n:Int)+1 - (1+((n - 1:Nat):Int)+1)).toNat=0 by omega];rfl
  rw [show (1:Int)+((n - 1:Nat):Int)=n by omega] at e ⊢;simp [e]
open Bl
theorem CO {xs:List Int}{i:Nat}(h:i<=xs.length):(bq ((i:Int)+1) ((xs.length:Int)+1)).map (λ j=>xs.getD (j - 1).toNat 0)=xs.drop i:=by
 apply List.ext_getElem?;intro p;rw [List.getElem?_map,getElem?_drop];by_cases c:i+p < xs.length
 ·have:(bq ((i:Int)+1) ((xs.length:Int)+1))[p]?=some ((i:Int)+1+p):=by
   unfold bq;rw [List.getElem?_map,getElem?_range (by omega)];rfl
  rw [this];show some (xs.getD ((i:Int)+1+p - 1).toNat 0)=_;rw [show ((i:Int)+1+p - 1).toNat=i+p by omega,<- Iv.gh c]
 ·rw [List.getElem?_eq_none (by rw [b9];omega),List.getElem?_eq_none (by omega)];rfl
theorem Gw {xs:List Int}{i:Nat}(h:i < xs.length):((jd ((i:Int)+1) ((xs.length:Int)+1)).filter (wg xs)).length=(xs.drop (i+1)).countP λ y=>decide (y < xs.getD i 0):=by
 rw [<- CO (xs:=xs) (i:=i+1) (by omega),List.countP_map,<- List.countP_eq_length_filter];unfold jd;rw [List.countP_map,show (((i+1:Nat):Int))=(i:Int)+1 by omega];refine List.countP_congr λ j _=>?_;show wg xs (.tup [.int ((i:Int)+1),.int j])=true ↔ decide (xs.getD (j - 1).toNat 0 < xs.getD i 0)=true;show decide (xs.getD ((i:Int)+1 - 1).toNat 0 > xs.getD (j - 1).toNat 0)=true ↔ _;rw [show ((i:Int)+1 - 1).toNat=i by omega]
theorem uC {xs:List Int}:∀ (k i:Nat),i+k=xs.length->(((List.range' i k).flatMap λ q:Nat=>jd ((q:Int)+1) ((xs.length:Int)+1)).filter (wg xs)).length=Iv.inv (xs.drop i)
 | 0,i,h=>by rw [List.drop_of_length_le (by omega)];rfl
 | k+1,i,h=>by
  have hi:i < xs.length:=by omega
  rw [range'_succ,flatMap_cons,filter_append,length_append,Gw hi,uC k (i+1) (by omega)];have:xs.drop i=xs.getD i 0::xs.drop (i+1):=by
   rw [drop_eq_getElem_cons hi];congr 1;have:=Iv.gh hi;rw [List.getElem?_eq_getElem hi] at this;exact Option.some.inj this
  rw [this];rfl
theorem CQ {xs:List Int}{n:Nat}(hl:xs.length=n)(h1:1<=n):((prs n).filter (wg xs)).length=Iv.inv xs:=by
 have h:=uC (xs:=xs) n 0 (by omega);rw [drop_zero] at h;rw [<- h,vH,hl];have e:(bq 1 (n:Int)).flatMap (λ i=>jd i ((n:Int)+1))=(List.range' 0 n).flatMap λ q:Nat=>jd ((q:Int)+1) ((n:Int)+1):=by
  obtain ⟨m,rfl⟩:∃ m,n=m+1:=⟨n - 1,by omega⟩;rw [List.range'_concat,flatMap_append];have z:jd (((0+1 * m:Nat):Int)+1) (((m+1:Nat):Int)+1)=[]:=by
   unfold jd bq;rw [show (((m+1:Nat):Int)+1 - ((((0+1 * m:Nat):Int)+1)+1)).toNat=0 by omega];rfl
  rw [flatMap_cons,z];unfold bq;rw [show (((m+1:Nat):Int) - 1).toNat=m by omega,flatMap_map,range_eq_range'];simp only [List.flatMap_nil,append_nil];congr 1
  funext q
  rw [Int.add_comm]
 rw [e]
theorem Ly {S:aE}{a:List Int}{i j:Nat}(hij:i < j)(hj:j < a.length)(hl:a.length<=1000):∃ S',bD [.tup (a.map .int),.int ((i:Int)+1),.int ((j:Int)+1)] S=.ok (.tup ((Iv.sw a i j).map .int)) S'/\cZ S S':=by
 have a1:fL (a.map A.int) (j:Int)=some (.int (a.getD j 0)):=Lb rfl hj;have a2:fL (a.map A.int) (i:Int)=some (.int (a.getD i 0)):=Lb rfl (by omega);have x1:pQ a.length (i:Int)=some i:=gP rfl (by omega);have x2:pQ a.length (j:Int)=some j:=gP rfl hj;have hL:ak (S++[O.lst (a.map .int)]) S.length=some (a.map .int):=aU;have lS:∀ ys,ak ((S++[O.lst (a.map .int)]).set S.length (.lst ys)) S.length=some ys:=λ ys=>cJ (by simp);have em:((a.map A.int).set i (.int (a.getD j 0))).set j (.int (a.getD i 0))=(Iv.sw a i j).map .int:=by unfold Iv.sw;rw [map_set,map_set]
 unfold bD d9 gS;simp only [bf,bools,fJ,Nat.reduceAdd,Nat.reduceSub,hL,show (j:Int)+1 - 1=j by omega,show (i:Int)+1 - 1=i by omega,a1,a2,dI (show 2<=sizeLine by decide),dI (show 2=2 from rfl),length_map,x1,lS,length_set,x2,em];rw [cJ (by simp)];simp only [bf,bools];exact ⟨_,rfl,((Kp.refl.lay).set (.inr (Nat.le_refl _))).set (.inr (Nat.le_refl _))⟩
open Stp
noncomputable abbrev aQ (w:List Int):A:=.tup (w.map .int)
noncomputable def pA (p:Nat×Nat):A:=.tup [.int ((p.1:Int)+1),.int ((p.2:Int)+1)]
noncomputable def Gy (n i:Nat):List (Nat×Nat):=(List.range' (i+1) (n - (i+1))).map λ j=>(i,j)
noncomputable def Lx (n:Nat):List (Nat×Nat):=(List.range n).flatMap (Gy n)
theorem zg {n:Nat}{p:Nat×Nat}(h:p∈Lx n):p.1 < p.2/\p.2 < n:=by
 obtain ⟨i,hi,h⟩:=mem_flatMap.mp h;obtain ⟨j,hj,rfl⟩:=mem_map.mp h;have:=mem_range.mp hi;rw [List.mem_range'_1] at hj;exact ⟨by show i < j;omega,by show j < n;omega⟩
theorem GW {n i j:Nat}(h1:i < j)(h2:j < n):(i,j)∈Lx n:=
 mem_flatMap.mpr ⟨i,mem_range.mpr (by omega),mem_map.mpr ⟨j,List.mem_range'_1.mpr (by omega),rfl⟩⟩
theorem Ai {n:Nat}(h1:1<=n):prs n=(Lx n).map pA:=by
 have e1:List.range n=List.range (n - 1)++[n - 1]:=by rw [<- List.range_succ,Nat.succ_eq_add_one,show n - 1+1=n by omega]
 have e2:Gy n (n - 1)=[]:=by unfold Gy;rw [show n - (n - 1+1)=0 by omega];rfl
 unfold Lx;rw [e1,flatMap_append,flatMap_cons,List.flatMap_nil,e2,append_nil,append_nil,List.map_flatMap];unfold prs;have e3:bq 1 (n:Int)=(List.range (n - 1)).map λ q:Nat=>(1:Int)+q:=by
  unfold bq;rw [show ((n:Int) - 1).toNat=n - 1 by omega]
 rw [e3,flatMap_map];congr 1
 funext i
 unfold Gy bq;rw [List.map_map,List.map_map,List.range'_eq_map_range,List.map_map,show ((n:Int)+1 - (1+(i:Int)+1)).toNat=n - (i+1) by omega];refine map_congr_left λ q _=>?_;show A.tup [.int (1+(i:Int)),.int (1+(i:Int)+1+(q:Int))]=A.tup [.int ((i:Int)+1),.int (((i+1+q:Nat):Int)+1)];rw [show (1:Int)+(i:Int)=(i:Int)+1 by omega,show ((i:Int)+1+1+(q:Int))=(((i+1+q:Nat):Int)+1) by omega]
theorem C8 {a:List Int}{i j:Nat}(hij:i < j)(hj:j < a.length):jO (a.map A.int) (some ((i:Int)+1)) (some ((j:Int)+1 - 1))=(mm a i j).map .int:=by
 unfold jO mm;have l:(a.map A.int).length=a.length:=length_map ..;have s1:HT.dY (a.map A.int).length 0 (some ((i:Int)+1))=i+1:=by
  rw [show (i:Int)+1=((i+1:Nat):Int) by omega,HT.j5,l];omega
 have s2:HT.dY (a.map A.int).length (a.map A.int).length (some ((j:Int)+1 - 1))=j:=by
  rw [show (j:Int)+1 - 1=(j:Int) by omega,HT.j5,l];omega
 rw [s1,s2,map_take,map_drop,show j - (i+1)=j - i - 1 by omega]
theorem Nr {f g:A->A->aE->R A}{ca cb cc:Ex}{τ:List A}{S:aE}{a b c:A}(h1:ca τ S=.ok a S)(h2:cb τ S=.ok b S)(h3:f a b S=.ok (.bl true) S)(h4:cc τ S=.ok c S):Bq f g ca cb cc τ S=g b c S:=by
 unfold Bq;rw [h1,R.cI,h2,R.cI,h3,R.cI];unfold PB;show (cc τ S).bind _=_;rw [h4];rfl
theorem Mb {f g:A->A->aE->R A}{ca cb cc:Ex}{τ:List A}{S:aE}{a b:A}(h1:ca τ S=.ok a S)(h2:cb τ S=.ok b S)(h3:f a b S=.ok (.bl false) S):Bq f g ca cb cc τ S=.ok (.bl false) S:=by
 unfold Bq;rw [h1,R.cI,h2,R.cI,h3,R.cI];rfl
theorem Lo {S:aE}{n:Nat}{xs:List A}{bs:List Bool}(h:ak S n=some xs)(hb:A.BE xs=some bs):Lq (.ref n) S=.ok (.bl (bs.any λ b=>b)) S:=by
 show opt (ak S n) _=_;rw [h];show opt (A.BE xs) _=_;rw [hb];rfl
theorem Ef {α:Type}(f:α->Bool):∀ (xs:List α),A.BE (xs.map λ x=>.bl (f x))=some (xs.map f)
 | []=>rfl
 | x::xs=>by rw [map_cons,m_,Ef f xs];rfl
theorem Gz {S:aE}{a:List Int}{i j:Nat}(hij:i < j)(hj:j < a.length)(hl:a.length<=20):eO [.tup (a.map .int),.int ((i:Int)+1),.int ((j:Int)+1)] S=.ok (.bl (qE a i j)) (S++[.lst ((mm a i j).map λ m=>.bl (nU (if a.getD j 0 < a.getD i 0 then a.getD j 0 else a.getD i 0) (if a.getD j 0 > a.getD i 0 then a.getD j 0 else a.getD i 0) m))]):=by
 have a1:fL (a.map A.int) (j:Int)=some (.int (a.getD j 0)):=Lb rfl hj;have a2:fL (a.map A.int) (i:Int)=some (.int (a.getD i 0)):=Lb rfl (by omega);obtain ⟨x,hx⟩:∃ x,x=(if a.getD j 0 < a.getD i 0 then a.getD j 0 else a.getD i 0):=⟨_,rfl⟩;obtain ⟨y,hy⟩:∃ y,y=(if a.getD j 0 > a.getD i 0 then a.getD j 0 else a.getD i 0):=⟨_,rfl⟩;have lm:(mm a i j).length<=20:=by unfold mm;rw [length_take,length_drop];omega
 have ec:=uL (cap:=[some 3,some 4]) (src:=eT (Io (ah 0) (jA (ah 1)) (jA (aG aSub (ah 2) (eC (.int 1)))))) (e:=Bq sQ sQ (ah 1) (ah 0) (ah 2)) (τ:=[.tup (a.map .int),.int ((i:Int)+1),.int ((j:Int)+1),.int x,.int y]) (S:=S) (S1:=S) (xs:=(mm a i j).map .int)
  (rZ (by
   simp only [bf,bools];have hg:¬ (HT.dY (a.map A.int).length 0 (some ((i:Int)+1))=0/\HT.dY (a.map A.int).length (a.map A.int).length (some ((j:Int)+1 - 1))=(a.map A.int).length):=by
    rw [show (i:Int)+1=((i+1:Nat):Int) by omega,HT.j5,length_map];omega
   have hs:JJ (.tup (a.map .int)) (some ((i:Int)+1)) (some ((j:Int)+1 - 1)) S=.ok (.tup (jO (a.map .int) (some ((i:Int)+1)) (some ((j:Int)+1 - 1)))) S:=dI hg;rw [hs,C8 hij hj]))
  (λ z=>match z with | .int m=>.bl (nU x y m) | _=>.non) (λ z hz=>by
   obtain ⟨m,_,rfl⟩:=mem_map.mp hz;show Bq sQ sQ (ah 1) (ah 0) (ah 2) [.int m,.int x,.int y] S=.ok (.bl (nU x y m)) S;unfold nU;by_cases c:x < m
   ·rw [Nr (a:=.int x) (b:=.int m) (c:=.int y) rfl rfl (by simp only [bf,decide_eq_true c]) rfl,decide_eq_true c,Bool.true_and];simp only [bf]
   ·rw [Mb (a:=.int x) (b:=.int m) rfl rfl (by simp only [bf,decide_eq_false c]),decide_eq_false c];rfl) (by rw [length_map];omega)
 rw [List.map_map,show ((λ z=>match z with | .int m=>A.bl (nU x y m) | _=>.non) ∘ A.int:Int->A)=(λ m=>A.bl (nU x y m)) from rfl] at ec;unfold eO mX qR;simp only [bf,bools,fJ,Nat.reduceAdd,Nat.reduceSub,show (j:Int)+1 - 1=j by omega,show (i:Int)+1 - 1=i by omega,a1,a2,<- hx,<- hy,ec];rw [Lo aU (Ef (nU x y) (mm a i j))];simp only [bf,bools];unfold qE;rw [<- hx,<- hy,List.any_map];rfl
end K19
namespace K19
open PySem L2 Am
open Stp
theorem zD:∀ {ls:List (List Int)},(∀ l∈ls,l≠[])->LG (ls.map aQ)=some ls
 | [],_=>rfl
 | l::ls,h=>by
  have hl:=h l (mem_cons_self ..);have ih:=zD λ k hk=>h k (mem_cons_of_mem _ hk);show LG (.tup (l.map .int)::ls.map aQ)=_;unfold LG;rw [ints_map]
  cases l with
  | nil=>exact absurd rfl hl
  | cons k ks=>dsimp only;rw [ih];rfl
theorem yj {S:aE}{n:Nat}{ls:List (List Int)}(h:ak S n=some (ls.map aQ))(hne:∀ l∈ls,l≠[]):mQ (.ref n) S=.ok (.ref S.length) (S++[.lst ((dR ls).map aQ)]):=by
 show wC n S=_;unfold wC;rw [h,br,zD hne,br]
theorem Ng {a:List Int}{i j:Nat}(h:1<=a.length):Iv.sw a i j≠[]:=λ z=>by
 have:=Iv.KG a i j;rw [z,length_nil] at this;omega
theorem pS {α β:Type}(ls:List α)(p:α->Bool)(f:α->β)(d:α):((List.range ls.length).filter λ i=>p (ls.getD i d)).map (λ i=>f (ls.getD i d))=(ls.filter p).map f:=by
 have e:ls=(List.range ls.length).map λ i=>ls.getD i d:=(range_getD ls d).symm
 conv=>rhs;rw [e,filter_map,List.map_map]
 rfl
noncomputable def stp (a:List Int)(ps:List (Nat×Nat)):List (List Int):=(ps.filter λ p=>qE a p.1 p.2).map λ p=>Iv.sw a p.1 p.2
theorem CA {S:aE}{a:List Int}{P:Nat}{ps:List (Nat×Nat)}(hp:ak S P=some (ps.map pA))(hps:∀ p∈ps,p.1 < p.2/\p.2 < a.length)(h1:1<=a.length)(hl:a.length<=20)(hlen:ps.length<=16777216) :
  ∃ (R:Nat) (S':aE),kc [aQ a,.ref P] S=.ok (.ref R) S'/\ak S' R=some ((dR (stp a ps)).map aQ)/\cZ S S'/\S.length<=R:=by
 have pm:∀ i,i < ps.length->ps.getD i (0,0)∈ps:=λ i hi=>by rw [getD_eq_getElem?_getD,List.getElem?_eq_getElem hi];exact getElem_mem hi
 have lm:(ps.map pA).length=ps.length:=length_map ..;obtain ⟨S',g1,g2,g3⟩:=gf (s:=dF P (ps.map pA).length) (g:=qJ 2 (jD (bH 0) (jD (bH 1) (qI)))) (t:=jk (eFn eO (aj (ah 2) (aj (ah 0) (aj (ah 1) (aJ)))))) (e:=eFn bD (aj (ah 2) (aj (ah 0) (aj (ah 1) (aJ)))))
  (P:=λ S1=>ak S1 P=some (ps.map pA)/\cZ S S1) (T:=λ τ'=>∃ y z,τ'=[y,z,aQ a])
  (λ i=>pA (ps.getD i (0,0))) (λ i=>qE a (ps.getD i (0,0)).1 (ps.getD i (0,0)).2) (λ i=>aQ (Iv.sw a (ps.getD i (0,0)).1 (ps.getD i (0,0)).2))
  (λ i S1 hi k=>by
   have hi:i < ps.length:=by rw [<- lm];exact hi
   show (ak S1 P).bind _=_;rw [k.1,bind_some,List.getElem?_map,getD_eq_getElem?_getD,List.getElem?_eq_getElem hi];rfl)
  (λ S1 k=>by
   show (match ak S1 P with
    | some ys=>decide (ys.length<=(ps.map pA).length)
    | none=>false)=true
   rw [k.1];simp)
  (λ i τ' S1 hi ⟨y,z,hy⟩ k=>by
   have hi:i < ps.length:=by rw [<- lm];exact hi
   subst hy;obtain ⟨q1,q2⟩:=hps _ (pm i hi);obtain ⟨p,hpe⟩:∃ p,p=ps.getD i (0,0):=⟨_,rfl⟩;rw [<- hpe] at q1 q2 ⊢;have s1:=Gz (S:=S1) q1 q2 hl;have k1:cZ S1 (S1++[.lst ((mm a p.1 p.2).map λ m=>.bl (nU (if a.getD p.2 0 < a.getD p.1 0 then a.getD p.2 0 else a.getD p.1 0) (if a.getD p.2 0 > a.getD p.1 0 then a.getD p.2 0 else a.getD p.1 0) m))]):=Kp.refl.lay;obtain ⟨S2,hS2⟩:∃ S2,S2=S1++[.lst ((mm a p.1 p.2).map λ m=>.bl (nU (if a.getD p.2 0 < a.getD p.1 0 then a.getD p.2 0 else a.getD p.1 0) (if a.getD p.2 0 > a.getD p.1 0 then a.getD p.2 0 else a.getD p.1 0) m))]:=⟨_,rfl⟩;rw [<- hS2] at s1 k1;obtain ⟨S3,e3,k3⟩:=Ly (S:=S2) q1 q2 (by omega);refine ⟨[.int ((p.1:Int)+1),.int ((p.2:Int)+1),aQ a],S1,S2,?_,?_,⟨_,_,rfl⟩,λ _=>⟨k1.lst _ _ (λ z=>z) k.1,k.2.trans k1⟩,λ _=>⟨S3,?_,(k1.trans k3).lst _ _ (λ z=>z) k.1,(k.2.trans k1).trans k3⟩⟩
   ·show qJ 2 (jD (bH 0) (jD (bH 1) (qI))) (.tup [.int ((p.1:Int)+1),.int ((p.2:Int)+1)]) _ _=_;simp only [bf,vR,bools,dI (show ([_,_]:List A).length=2 from rfl)]
   ·simp only [bf,vR,bools,s1]
   ·simp only [bf,vR,bools,e3])
  (ps.map pA).length 0 (d8 [none,none,some 0] [aQ a,.ref P]) S rfl ⟨_,_,rfl⟩ ⟨hp,Kp.refl⟩
 rw [lm,<- range_eq_range',pS ps (λ p=>qE a p.1 p.2) (λ p=>aQ (Iv.sw a p.1 p.2)) (0,0)] at g1;have e1:(ps.filter λ p=>qE a p.1 p.2).map (λ p=>aQ (Iv.sw a p.1 p.2))=(stp a ps).map aQ:=by unfold stp;rw [List.map_map];rfl
 rw [e1] at g1;have ll:((stp a ps).map aQ).length<=16777216:=by
  unfold stp;rw [length_map,length_map];exact Nat.le_trans (length_filter_le _ _) hlen
 have ec:bP [none,none,some 0] (eT (ah 1)) (qJ 2 (jD (bH 0) (jD (bH 1) (qI)))) (jk (eFn eO (aj (ah 2) (aj (ah 0) (aj (ah 1) (aJ)))))) (eFn bD (aj (ah 2) (aj (ah 0) (aj (ah 1) (aJ))))) [aQ a,.ref P] S=.ok (.ref S'.length) (S'++[.lst ((stp a ps).map aQ)]):=by
  unfold bP;rw [jz (S1:=S) (by simp only [bf,vR,bools]) hp,R.cI];show R.cV (dS (dF P (ps.map pA).length) _ _ _ (ps.map pA).length 0 _ _) _=_;rw [lm,g1,R.cD,bW ll]
 have so:=yj (S:=S'++[.lst ((stp a ps).map aQ)]) (n:=S'.length) aU λ l hl=>by
  unfold stp at hl;obtain ⟨p,_,rfl⟩:=mem_map.mp hl;exact Ng h1
 refine ⟨(S'++[O.lst ((stp a ps).map aQ)]).length,(S'++[O.lst ((stp a ps).map aQ)])++[.lst ((dR (stp a ps)).map aQ)],?_,aU,g3.lay.lay,by have:=g3.len;rw [length_append];omega⟩;unfold kc tu Aj;simp only [bf,vR,bools,fJ,Nat.reduceAdd,Nat.reduceSub,ec,so]
theorem G6 {n:Nat}(h1:1<=n)(h:n<=20):(Lx n).length<=16777216:=by
 have:=rV (n:=(n:Int)) (by omega) (by omega);rw [Ai h1,length_map] at this;exact this
theorem GX {n:Nat}(h1:1<=n)(q:A->Bool):(prs n).filter q=((Lx n).filter λ p=>q (pA p)).map pA:=by
 rw [Ai h1,filter_map];rfl
noncomputable def ups (a:List Int):List (Nat×Nat):=(Lx a.length).filter λ p=>decide (a.getD p.1 0 < a.getD p.2 0)
theorem E6 {S:aE}{a:List Int}(h1:1<=a.length)(hl:a.length<=20):∃ (R:Nat) (S':aE),dc [aQ a] S=.ok (.ref R) S'/\ak S' R=some ((dR (stp a (ups a))).map aQ)/\cZ S S'/\S.length<=R:=by
 have eq:=uZ (S:=S) (n:=(a.length:Int)) (by omega) (by omega);have hL:ak (S++[O.lst (prs a.length)]) S.length=some (prs a.length):=aU;obtain ⟨S',g1,g2⟩:=gf (s:=dF S.length (prs a.length).length) (g:=qJ 2 (jD (bH 0) (jD (bH 1) (qI)))) (t:=iS (aG sQ (aG eK (ah 2) (aG aSub (ah 0) (eC (.int 1)))) (aG eK (ah 2) (aG aSub (ah 1) (eC (.int 1)))))) (e:=jF (aj (ah 0) (aj (ah 1) (aJ))))
  (P:=λ S1=>S1=S++[O.lst (prs a.length)]) (T:=λ τ'=>∃ y z,τ'=[y,z,aQ a])
  (λ i=>(prs a.length).getD i .unb) (λ i=>match (prs a.length).getD i .unb with | .tup [.int i,.int j]=>decide (a.getD (i - 1).toNat 0 < a.getD (j - 1).toNat 0) | _=>false) (λ i=>(prs a.length).getD i .unb)
  (λ i S1 hi k=>by
   have hi:i < (prs a.length).length:=hi;show (ak S1 S.length).bind _=_;rw [k,hL,bind_some,getD_eq_getElem?_getD,List.getElem?_eq_getElem hi];rfl)
  (λ S1 k=>by
   show (match ak S1 S.length with
    | some ys=>decide (ys.length<=(prs a.length).length)
    | none=>false)=true
   rw [k,hL];simp)
  (λ i τ' S1 hi ⟨y,z,hy⟩ k=>by
   have hi:i < (prs a.length).length:=hi;subst hy k;have hm:(prs a.length).getD i .unb∈prs a.length:=by rw [getD_eq_getElem?_getD,List.getElem?_eq_getElem hi];exact getElem_mem hi
   obtain ⟨u,c,q1,q2,q3,eac⟩:=xS.mp hm;rw [eac];have x1:fL (a.map A.int) (u - 1)=some (.int (a.getD (u - 1).toNat 0)):=LX (by omega) (by omega);have x2:fL (a.map A.int) (c - 1)=some (.int (a.getD (c - 1).toNat 0)):=LX (by omega) (by omega);refine ⟨[.int u,.int c,aQ a],S++[O.lst (prs a.length)],S++[O.lst (prs a.length)],by simp only [bf,vR,bools,dI (show ([_,_]:List A).length=2 from rfl)],by simp only [bf,vR,bools,x1,x2],⟨_,_,rfl⟩,λ _=>rfl,λ _=>⟨_,by simp only [bf,vR,bools,jW (show ([_,_]:List A).length<=16777216 by simp)],rfl⟩⟩)
  (prs a.length).length 0 (d8 [none,none,some 0] [aQ a]) (S++[O.lst (prs a.length)]) rfl ⟨_,_,rfl⟩ rfl
 subst g2;rw [<- range_eq_range',pS (prs a.length) (λ z=>match z with | .tup [.int i,.int j]=>decide (a.getD (i - 1).toNat 0 < a.getD (j - 1).toNat 0) | _=>false) (λ q=>q) .unb,map_id'] at g1;have ef:(prs a.length).filter (λ z=>match z with | .tup [.int i,.int j]=>decide (a.getD (i - 1).toNat 0 < a.getD (j - 1).toNat 0) | _=>false)=(ups a).map pA:=by
  rw [GX h1];have:(λ p=>(λ z=>match z with | .tup [.int i,.int j]=>decide (a.getD (i - 1).toNat 0 < a.getD (j - 1).toNat 0) | _=>false) (pA p))=λ p:Nat×Nat=>decide (a.getD p.1 0 < a.getD p.2 0):=by
   funext p
   show decide (a.getD ((p.1:Int)+1 - 1).toNat 0 < a.getD ((p.2:Int)+1 - 1).toNat 0)=_;rw [show ((p.1:Int)+1 - 1).toNat=p.1 by omega,show ((p.2:Int)+1 - 1).toNat=p.2 by omega]
  rw [this];rfl
 rw [ef] at g1;have lu:(ups a).length<=16777216:=Nat.le_trans (length_filter_le _ _) (G6 h1 hl);have ec:bP [none,none,some 0] (eT (eFn bO (aj (aS (f1 cu) (aj (ah 0) (aJ))) (aJ)))) (qJ 2 (jD (bH 0) (jD (bH 1) (qI)))) (iS (aG sQ (aG eK (ah 2) (aG aSub (ah 0) (eC (.int 1)))) (aG eK (ah 2) (aG aSub (ah 1) (eC (.int 1)))))) (jF (aj (ah 0) (aj (ah 1) (aJ)))) [aQ a] S=.ok (.ref (S++[O.lst (prs a.length)]).length) ((S++[O.lst (prs a.length)])++[.lst ((ups a).map pA)]):=by
  unfold bP;rw [jz (S1:=S++[O.lst (prs a.length)]) (by simp only [bf,vR,bools,length_map,eq]) hL,R.cI];show R.cV (dS (dF S.length (prs a.length).length) _ _ _ (prs a.length).length 0 _ _) _=_;rw [g1,R.cD,bW (by rw [length_map];exact lu)]
 have k1:cZ S ((S++[O.lst (prs a.length)])++[.lst ((ups a).map pA)]):=Kp.refl.lay.lay;have l1:ak ((S++[O.lst (prs a.length)])++[.lst ((ups a).map pA)]) (S++[O.lst (prs a.length)]).length=some ((ups a).map pA):=aU;obtain ⟨R,S2,e2,g2,k2,b2⟩:=CA (a:=a) l1 (λ p hp=>zg (mem_filter.mp hp).1) h1 hl lu;refine ⟨R,S2,?_,g2,k1.trans k2,Nat.le_trans k1.len b2⟩;unfold dc iK kJ;simp only [bf,vR,bools,fJ,Nat.reduceAdd,Nat.reduceSub,ec,e2]
theorem NJ {S:aE}{a:List Int}(h1:1<=a.length)(hl:a.length<=20):∃ (D:Nat) (S':aE),bw [aQ a] S=.ok (.ref D) S'/\(∃ xs,ak S' D=some xs/\xs.length=Iv.inv a)/\cZ S S':=by
 obtain ⟨D,S',e,g,k⟩:=Kh (S:=S) (n:=a.length) (xs:=a) (v:=aQ a) rfl (λ T _=>⟨by simp only [bf,length_map],λ i x h=>by simp only [bf,h]⟩) rfl h1 hl;exact ⟨D,S',e,⟨_,g,CQ rfl h1⟩,k⟩
end K19
namespace K19
open PySem L2 Am
open Bl
theorem lN {S:aE}{xs ys:List Int}(h:xs.length=ys.length):cN [.tup (xs.map .int),.tup (ys.map .int)] S=.ok .non S:=by
 unfold cN jV nJ;simp only [bf,bools,fJ,Nat.reduceAdd,Nat.reduceSub,length_map,h,beq_self_eq_true,Bool.not_true]
theorem B7 {S:aE}{L:Nat}{ms:List Int}(hL:ak S L=some (ms.map .int))(hp:∃ m∈ms,0 < m)(hms:ms.length<=1000):∃ j:Nat,bK [.ref L] S=.ok (.int ((j:Int)+1)) S/\(∃ m,ms[j]?=some m/\0 < m)/\∀ (k:Nat) (m:Int),k < j->ms[k]?=some m->m<=0:=by
 unfold bK dN fM;simp only [bf,bools,fJ,Nat.reduceAdd,Nat.reduceSub];refine iX (λ τ S'=>S'=S/\∃ p:Nat,p < ms.length/\τ=[.ref L,.int ((p:Int)+1)]/\∀ (k:Nat) (m:Int),k < p->ms[k]?=some m->m<=0)
  (λ τ _=>match τ with
   | [_,.int i]=>(ms.length+1) - i.toNat
   | _=>0)
  (λ r=>∃ j:Nat,RS.end (RS.seq r _)=.ok (.int ((j:Int)+1)) S/\(∃ m,ms[j]?=some m/\0 < m)/\∀ (k:Nat) (m:Int),k < j->ms[k]?=some m->m<=0) ?_ 1000000 _ _ ⟨rfl,0,?_,rfl,λ k m hk=>absurd hk (not_lt_zero _)⟩ ?_
 ·rintro τ S' ⟨rfl,p,hpl,rfl,hall⟩;have ha:fL (ms.map A.int) ((p:Int)+1 - 1)=some (.int ms[p]):=dH (k:=p) (by omega) (List.getElem?_eq_getElem hpl);unfold eV eW;simp only [bf,bools,hL,ha];by_cases h0:ms[p]<=0
  ·right;refine ⟨S',by rw [decide_eq_true h0],.inl ⟨_,_,rfl,⟨rfl,p+1,?_,congrArg (λ z=>[A.ref L,A.int z]) (by omega),λ k m hk hm=>?_⟩,?_⟩⟩
   ·obtain ⟨m,hm,hm0⟩:=hp;obtain ⟨k,hk,e⟩:=List.mem_iff_getElem.mp hm;have:¬ k<=p:=λ hkp=>by
     rcases Nat.lt_or_ge k p with h | h
     ·have:=hall k m h (by rw [List.getElem?_eq_getElem hk,e]);omega
     ·have:k=p:=by omega
      subst this;omega
    omega
   ·rcases Nat.lt_or_ge k p with h | h
    ·exact hall k m h hm
    ·have:k=p:=by omega
     subst this;rw [List.getElem?_eq_getElem hpl] at hm
     cases hm
     exact h0
   ·show ms.length+1 - ((p:Int)+1+1).toNat < ms.length+1 - ((p:Int)+1).toNat;omega
  ·left;refine ⟨S',by rw [decide_eq_false h0],p,by simp only [bf,bools],⟨ms[p],List.getElem?_eq_getElem hpl,by omega⟩,hall⟩
 ·obtain ⟨m,hm,_⟩:=hp;exact List.length_pos_of_mem hm
 ·show ms.length+1 - (1:Int).toNat < 1000000;omega
theorem vn {f:A->A->aE->R A}{d:Int}(hf:∀ (m:Int) S,f (.int m) (.int 1) S=.ok (.int (m+d)) S){src:Ic}{L:Nat}{ms:List Int}{a0 a1 a3 a4:A}{x:Int}{S:aE}{Post:RS->Prop}(hx0:0<=x)(hx:x<=ms.length)
  (hsrc:src [a0,a1,.ref L,a3,a4] S=.ok (cS 0 x) S) (hL:ak S L=some (ms.map .int)) (fin:∀ a4' S',ak S' L=some ((dW x.toNat d ms).map .int)->Kp (·=L) S S'->Post (.nx [a0,a1,.ref L,a3,a4'] S')) :
  Post (fH src (bH 4) (qm (ah 2) (ah 4) (eC (.int 1)) f) [a0,a1,.ref L,a3,a4] S):=by
 refine eY (lo:=0) (hi:=x) hsrc (λ i τ S'=>∃ a4',τ=[a0,a1,.ref L,a3,a4']/\ak S' L=some ((dW i d ms).map .int)/\Kp (·=L) S S') Post ⟨a4,rfl,hL,Kp.refl⟩ ?_ ?_
 ·rintro i τ S' hi ⟨a4',rfl,hL',hk⟩;left;have hi':i < ms.length:=by omega
  have e1:((dW i d ms).map A.int)[((0:Int)+(i:Int)).toNat]?=some (.int ms[i]):=by
   rw [show ((0:Int)+(i:Int)).toNat=i by omega,List.getElem?_map,j6,List.getElem?_eq_getElem hi'];simp
  have e2:pQ (dW i d ms).length (0+(i:Int))=some i:=gP (by omega) (by rw [mY];exact hi');have lL:=dB hL';simp only [bf,bools,hL',dI (show (0:Int)<=0+(i:Int) by omega),e1,hf,length_map,e2];refine ⟨_,_,rfl,_,rfl,?_,hk.set (.inl rfl)⟩;rw [cJ lL,<- oW i d ms ms[i] (List.getElem?_eq_getElem hi'),map_set]
 ·rintro τ S' ⟨a4',rfl,hL',hk⟩;exact fin a4' S' (by rw [Int.sub_zero] at hL';exact hL') hk
noncomputable def Ak (xs ys:List Int)(i j:Nat):Prop:=cnt (ys.take i) j < cnt (xs.take i) j/\(∀ i' j':Nat,i' < i->1<=j'->j'<=xs.length->cnt (xs.take i') j'<=cnt (ys.take i') j')/\∀ j':Nat,1<=j'->j' < j->cnt (xs.take i) j'<=cnt (ys.take i) j'
theorem Lh {S:aE}{xs ys:List Int}{n:Nat}(px:xs.Perm (bq 1 ((n:Int)+1)))(py:ys.Perm (bq 1 ((n:Int)+1)))(h1:1<=n)(h2:n<=20):∃ S',((pU [.tup (xs.map .int),.tup (ys.map .int)] S=.ok .non S'/\Below xs ys) \/
  ∃ i j:Nat,pU [.tup (xs.map .int),.tup (ys.map .int)] S=.ok (.tup [.int i,.int j]) S'/\1<=i/\i<=n/\1<=j/\j<=n/\Ak xs ys i j)/\cZ S S':=by
 have lx:xs.length=n:=by have:=lO px (by omega);omega
 have ly:ys.length=n:=by have:=lO py (by omega);omega
 unfold pU CW HW;simp only [bf,bools,fJ,Nat.reduceAdd,Nat.reduceSub,lN (S:=S) (lx.trans ly.symm),length_map,lx];rw [Fl (k:=n) aU (by omega)];simp only [bf,bools];have hlen:(S++[O.lst [.int 0]]).length=S.length+1:=by simp
 rw [hlen];refine eY (lo:=0) (hi:=(n:Int)) (S1:=S++[O.lst [.int 0]]++[O.lst (List.replicate n (.int 0))]) ?_
  (λ t τ S'=>∃ a3 a4,τ=[.tup (xs.map .int),.tup (ys.map .int),.ref (S.length+1),a3,a4]/\ak S' (S.length+1)=some ((jb n xs ys t).map .int)/\cZ S S'/\∀ i' j':Nat,i'<=t->1<=j'->j'<=n->cnt (xs.take i') j'<=cnt (ys.take i') j')
  (λ r=>∃ S',((RS.end (RS.seq r _)=.ok .non S'/\Below xs ys)\/∃ i j:Nat,RS.end (RS.seq r _)=.ok (.tup [.int i,.int j]) S'/\1<=i/\i<=n/\1<=j/\j<=n/\Ak xs ys i j)/\cZ S S') ⟨.unb,.unb,rfl,?_,Kp.refl.lay.lay,?_⟩ ?_ ?_
 ·refine dU ?_ (cK (by omega) (by omega));simp only [bf,bools,length_map,lx]
 ·rw [FD,map_replicate,<- hlen];exact aU
 ·intro i' j' hi _ _;have:i'=0:=by omega
  subst this;simp [cnt]
 ·rintro t τ S' ht ⟨a3,a4,rfl,hL,hk,hok⟩;have ht':t < n:=by omega
  have hx:t < xs.length:=by omega
  have hy:t < ys.length:=by omega
  have mx:=ud px (getElem_mem hx);have my:=ud py (getElem_mem hy);have ax:fL (xs.map A.int) (0+(t:Int))=some (.int xs[t]):=dH (k:=t) (by omega) (List.getElem?_eq_getElem hx);have ay:fL (ys.map A.int) (0+(t:Int))=some (.int ys[t]):=dH (k:=t) (by omega) (List.getElem?_eq_getElem hy);unfold zF;simp only [bf,bools];obtain ⟨a4',S2,e2,hL2,hk2⟩:=vn (f:=AU) (d:=1) (ms:=jb n xs ys t) (x:=xs[t]) (src:=yk) (a0:=.tup (xs.map .int)) (a1:=.tup (ys.map .int)) (a3:=.int (0+(t:Int))) (a4:=a4) (Post:=λ r=>∃ a4' S2,r=.nx [.tup (xs.map .int),.tup (ys.map .int),.ref (S.length+1),.int (0+(t:Int)),a4'] S2/\ak S2 (S.length+1)=some ((dW xs[t].toNat 1 (jb n xs ys t)).map .int)/\Kp (·=S.length+1) S' S2) (λ _ _=>rfl) (by omega) (by rw [fF];omega)
   (dU (by simp only [bf,bools,ax]) (cK (by omega) (by omega))) hL (λ a4' S2 h1 h2=>⟨a4',S2,rfl,h1,h2⟩)
  obtain ⟨a4'',S3,e3,hL3,hk3⟩:=vn (f:=aSub) (d:=-1) (ms:=dW xs[t].toNat 1 (jb n xs ys t)) (x:=ys[t]) (src:=yC) (a0:=.tup (xs.map .int)) (a1:=.tup (ys.map .int)) (a3:=.int (0+(t:Int))) (a4:=a4') (Post:=λ r=>∃ a4'' S3,r=.nx [.tup (xs.map .int),.tup (ys.map .int),.ref (S.length+1),.int (0+(t:Int)),a4''] S3/\ak S3 (S.length+1)=some ((dW ys[t].toNat (-1) (dW xs[t].toNat 1 (jb n xs ys t))).map .int)/\Kp (·=S.length+1) S2 S3) (λ _ _=>rfl) (by omega) (by rw [mY,fF];omega)
   (dU (by simp only [bf,bools,ay]) (cK (by omega) (by omega))) hL2 (λ a4' S2 h1 h2=>⟨a4',S2,rfl,h1,h2⟩)
  rw [vS hx hy] at hL3;have hk':cZ S S3:=(hk.old hk2 λ n hn _=>by omega).old hk3 λ n hn _=>by omega
  obtain ⟨m,em,m1,m2⟩:=EJ hL3 (by intro z;have:=congrArg List.length z;rw [fF] at this;simp at this;omega);simp only [show yJ=qm (ah 2) (ah 4) (eC (.int 1)) AU from rfl,show za=qm (ah 2) (ah 4) (eC (.int 1)) aSub from rfl,e2,e3,bf,bools,em];by_cases hm:0 < m
  ·right;rw [decide_eq_true hm];obtain ⟨j,ej,⟨mj,hj1,hj2⟩,hj3⟩:=B7 hL3 ⟨m,m1,hm⟩ (by rw [fF];omega);simp only [bf,bools,ej,jW (show ([_,_]:List A).length<=16777216 by simp)];have hjn:j < n:=by
    have:=(List.getElem?_eq_some_iff.mp hj1).1
    rwa [fF] at this
   refine ⟨_,_,rfl,S3,.inr ⟨t+1,j+1,?_,by omega,by omega,by omega,by omega,?_,?_,?_⟩,hk'⟩
   ·have e5:(0:Int)+(t:Int)+1=((t+1:Nat):Int):=by omega
    have e6:(j:Int)+1=((j+1:Nat):Int):=by omega
    rw [e5,e6]
   ·rw [iV hjn] at hj1
    cases hj1
    have:((j+1:Nat):Int)=(j:Int)+1:=by omega
    rw [this];omega
   ·intro i' j' hi' h1' h2';exact hok i' j' (by omega) h1' (by omega)
   ·intro j' h1' h2';have:=hj3 (j' - 1) _ (by omega) (iV (by omega));rw [show (((j' - 1:Nat):Int)+1)=(j':Int) by omega] at this;omega
  ·left;rw [decide_eq_false hm];simp only [bf,bools];refine ⟨_,_,rfl,_,_,rfl,hL3,hk',λ i' j' hi' h1' h2'=>?_⟩;by_cases hi:i'<=t
   ·exact hok i' j' hi h1' h2'
   ·have:i'=t+1:=by omega
    subst this;have:=m2 _ (mem_of_getElem? (iV (n:=n) (xs:=xs) (ys:=ys) (t:=t+1) (j:=j' - 1) (by omega)));rw [show (((j' - 1:Nat):Int)+1)=(j':Int) by omega] at this;omega
 ·rintro τ S' ⟨a3,a4,rfl,hL,hk,hok⟩;refine ⟨S',.inl ⟨by simp only [bf,bools],?_⟩,hk⟩;refine (rm px py).mp λ i q hi hq=>?_;have:=hok (i+1) (q+1) (by omega) (by omega) (by omega);exact this
theorem uw {S:aE}{xs ys:List Int}{n:Nat}(px:xs.Perm (bq 1 ((n:Int)+1)))(py:ys.Perm (bq 1 ((n:Int)+1)))(h1:1<=n)(h2:n<=20):∃ (k:Bool) (S':aE),cT [.tup (xs.map .int),.tup (ys.map .int)] S=.ok (.bl k) S'/\(k=true ↔ Below xs ys)/\cZ S S':=by
 obtain ⟨S',h | ⟨i,j,e,i1,i2,j1,j2,h,_⟩,hk⟩:=Lh (S:=S) px py h1 h2
 ·refine ⟨true,S',?_,⟨λ _=>h.2,λ _=>rfl⟩,hk⟩;unfold cT jt lq;simp only [bf,bools,fJ,Nat.reduceAdd,Nat.reduceSub,h.1]
 ·refine ⟨false,S',?_,⟨λ z=>absurd z Bool.false_ne_true,λ z=>?_⟩,hk⟩
  ·unfold cT jt lq;simp only [bf,bools,fJ,Nat.reduceAdd,Nat.reduceSub,e]
  ·have:=z i j;omega
open Bl
noncomputable def eX (n:Nat)(xs:List Int)(i j:Nat):List Int:=(List.range (n+2)).map λ q:Nat=>if 1<=q/\q<=n then (if q < j then cnt (xs.take (i+1)) q else cnt (xs.take i) q) else 0
theorem i_ {n:Nat}{xs:List Int}{i j:Nat}:(eX n xs i j).length=n+2:=by unfold eX;rw [length_map,length_range]
theorem gK {n:Nat}{xs:List Int}{i j q:Nat}(h:q < n+2):(eX n xs i j)[q]?=some (if 1<=q/\q<=n then (if q < j then cnt (xs.take (i+1)) q else cnt (xs.take i) q) else 0):=by
 unfold eX;rw [List.getElem?_map,getElem?_range h];rfl
theorem pC {n:Nat}{l:List Int}{xs:List Int}{i j:Nat}(hl:l.length=n+2)(h:∀ q,q < n+2->l[q]?=some (if 1<=q/\q<=n then (if q < j then cnt (xs.take (i+1)) q else cnt (xs.take i) q) else 0)):l=eX n xs i j:=by
 apply List.ext_getElem?;intro q;by_cases hq:q < n+2
 ·rw [h q hq,gK hq]
 ·rw [List.getElem?_eq_none (by omega),List.getElem?_eq_none (by rw [i_];omega)]
theorem DU {n:Nat}{xs:List Int}:List.replicate (n+2) (0:Int)=eX n xs 0 1:=pC (by rw [List.length_replicate]) λ q hq=>by
 rw [getElem?_replicate,if_pos hq];congr 1;split
 ·rw [if_neg (by omega)];rfl
 ·rfl
theorem Aw {n:Nat}{xs:List Int}{i:Nat}:eX n xs i (n+1)=eX n xs (i+1) 1:=pC i_ λ q hq=>by
 rw [gK hq];congr 1;by_cases c:1<=q/\q<=n
 ·rw [if_pos c,if_pos c,if_pos (by omega),if_neg (by omega)]
 ·rw [if_neg c,if_neg c]
theorem uB {n:Nat}{xs:List Int}{i j:Nat}(h1:1<=j)(h2:j<=n):(eX n xs i j).set j (cnt (xs.take (i+1)) j)=eX n xs i (j+1):=pC (by rw [length_set,i_]) λ q hq=>by
 by_cases c:q=j
 ·subst c;rw [getElem?_set_self (by rw [i_];omega),if_pos ⟨h1,h2⟩,if_pos (by omega)]
 ·rw [getElem?_set_ne (Ne.symm c),gK hq];congr 1;by_cases d:1<=q/\q<=n
  ·rw [if_pos d,if_pos d];by_cases e:q < j
   ·rw [if_pos e,if_pos (by omega)]
   ·rw [if_neg e,if_neg (by omega)]
  ·rw [if_neg d,if_neg d]
theorem Gp {S:aE}{xs ys:List Int}{n:Nat}(px:xs.Perm (bq 1 ((n:Int)+1)))(py:ys.Perm (bq 1 ((n:Int)+1)))(h1:1<=n)(h2:n<=20):∃ S',((eE [.tup (xs.map .int),.tup (ys.map .int)] S=.ok .non S'/\Below xs ys) \/
  ∃ i j:Nat,eE [.tup (xs.map .int),.tup (ys.map .int)] S=.ok (.tup [.int i,.int j]) S'/\1<=i/\i<=n/\1<=j/\j<=n/\Ak xs ys i j)/\cZ S S':=by
 have lx:xs.length=n:=by have:=lO px (by omega);omega
 have ly:ys.length=n:=by have:=lO py (by omega);omega
 obtain ⟨Z,hZ⟩:∃ Z:List A,Z=List.replicate (n+2) (.int 0):=⟨_,rfl⟩;have r1:=Fl (S:=S++[O.lst [.int 0]]) (n:=S.length) (x:=.int 0) (k:=n+2) aU (by omega);rw [<- hZ] at r1;have l1:(S++[O.lst [A.int 0]]).length=S.length+1:=by simp
 have l2:(S++[O.lst [A.int 0]]++[O.lst Z]).length=S.length+2:=by simp
 have r2:=Fl (S:=S++[O.lst [A.int 0]]++[O.lst Z]++[O.lst [.int 0]]) (n:=S.length+2) (x:=.int 0) (k:=n+2) (by rw [<- l2];exact aU) (by omega);rw [<- hZ] at r2;have l3:(S++[O.lst [A.int 0]]++[O.lst Z]++[O.lst [A.int 0]]).length=S.length+3:=by simp
 rw [show ((n+2:Nat):Int)=(n:Int)+2 by omega] at r1 r2;unfold eE nF rB;simp only [bf,bools,fJ,Nat.reduceAdd,Nat.reduceSub,length_map,lx,r1,l1,l2,r2,l3];refine eY (lo:=0) (hi:=(n:Int)) (S1:=S++[O.lst [A.int 0]]++[O.lst Z]++[O.lst [.int 0]]++[O.lst Z]) (show nS _ _=_ from dU (by simp only [bf,bools]) (cK (by omega) (by omega)))
  (λ i τ S'=>∃ a5 a6,τ=[.tup (xs.map .int),.tup (ys.map .int),.int n,.ref (S.length+1),.ref (S.length+3),a5,a6]/\ak S' (S.length+1)=some ((eX n xs i 1).map .int)/\ak S' (S.length+3)=some ((eX n ys i 1).map .int)/\cZ S S'/\∀ i' j':Nat,i'<=i->1<=j'->j'<=n->cnt (xs.take i') j'<=cnt (ys.take i') j')
  (λ r=>∃ S',((RS.end (RS.seq r _)=.ok .non S'/\Below xs ys)\/∃ i j:Nat,RS.end (RS.seq r _)=.ok (.tup [.int i,.int j]) S'/\1<=i/\i<=n/\1<=j/\j<=n/\Ak xs ys i j)/\cZ S S')
  ⟨_,_,rfl,?_,?_,Kp.refl.lay.lay.lay.lay,?_⟩ ?_ ?_
 ·rw [<- DU,map_replicate,<- hZ,<- l1];exact bL (bL aU)
 ·rw [<- DU,map_replicate,<- hZ,<- l3];exact aU
 ·intro i' j' hi _ _;have:i'=0:=by omega
  subst this;simp [cnt]
 ·rintro i τ S1 hi ⟨a5,a6,rfl,hA,hB,kp,hok⟩;have hix:i < xs.length:=by omega
  have hiy:i < ys.length:=by omega
  have ax:fL (xs.map A.int) (0+(i:Int))=some (.int xs[i]):=dH (k:=i) (by omega) (List.getElem?_eq_getElem hix);have ay:fL (ys.map A.int) (0+(i:Int))=some (.int ys[i]):=dH (k:=i) (by omega) (List.getElem?_eq_getElem hiy);have inner:∃ (S2:aE),((∃ a6',fH ir (bH 6) iw [.tup (xs.map .int),.tup (ys.map .int),.int n,.ref (S.length+1),.ref (S.length+3),.int (0+(i:Int)),a6] S1=.nx [.tup (xs.map .int),.tup (ys.map .int),.int n,.ref (S.length+1),.ref (S.length+3),.int (0+(i:Int)),a6'] S2)/\ak S2 (S.length+1)=some ((eX n xs (i+1) 1).map .int)/\ak S2 (S.length+3)=some ((eX n ys (i+1) 1).map .int)/\(∀ j':Nat,1<=j'->j'<=n->cnt (xs.take (i+1)) j'<=cnt (ys.take (i+1)) j') \/
    ∃ j:Nat,fH ir (bH 6) iw [.tup (xs.map .int),.tup (ys.map .int),.int n,.ref (S.length+1),.ref (S.length+3),.int (0+(i:Int)),a6] S1=.rt (.tup [.int ((i+1:Nat):Int),.int j]) S2/\1<=j/\j<=n/\cnt (ys.take (i+1)) j < cnt (xs.take (i+1)) j/\∀ j':Nat,1<=j'->j' < j->cnt (xs.take (i+1)) j'<=cnt (ys.take (i+1)) j')/\cZ S S2:=by
   refine eY (lo:=1) (hi:=(n:Int)+1) (S1:=S1) (show ir _ _=_ from jU (S1:=S1) (by simp only [bf,bools]) (by simp only [bf,bools]) (cK (by omega) (by omega)) (cK (by omega) (by omega)))
    (λ t τ S'=>(∃ a6,τ=[.tup (xs.map .int),.tup (ys.map .int),.int n,.ref (S.length+1),.ref (S.length+3),.int (0+(i:Int)),a6])/\ak S' (S.length+1)=some ((eX n xs i (1+t)).map .int)/\ak S' (S.length+3)=some ((eX n ys i (1+t)).map .int)/\cZ S S'/\∀ j':Nat,1<=j'->j' < 1+t->cnt (xs.take (i+1)) j'<=cnt (ys.take (i+1)) j')
    (λ r=>∃ (S2:aE),((∃ a6',r=.nx [.tup (xs.map .int),.tup (ys.map .int),.int n,.ref (S.length+1),.ref (S.length+3),.int (0+(i:Int)),a6'] S2)/\ak S2 (S.length+1)=some ((eX n xs (i+1) 1).map .int)/\ak S2 (S.length+3)=some ((eX n ys (i+1) 1).map .int)/\(∀ j':Nat,1<=j'->j'<=n->cnt (xs.take (i+1)) j'<=cnt (ys.take (i+1)) j') \/
     ∃ j:Nat,r=.rt (.tup [.int ((i+1:Nat):Int),.int j]) S2/\1<=j/\j<=n/\cnt (ys.take (i+1)) j < cnt (xs.take (i+1)) j/\∀ j':Nat,1<=j'->j' < j->cnt (xs.take (i+1)) j'<=cnt (ys.take (i+1)) j')/\cZ S S2)
    ⟨⟨_,rfl⟩,hA,hB,kp,λ j' _ _=>by omega⟩ ?_ ?_
   ·rintro t τ S2 ht ⟨⟨a6,rfl⟩,gA,gB,k2,hj⟩;obtain ⟨j,hjt⟩:∃ j:Nat,j=1+t:=⟨_,rfl⟩;rw [<- hjt] at gA gB;rw [show (1:Int)+(t:Int)=(j:Int) by omega];have j1:1<=j:=by omega
    have j2:j<=n:=by omega
    have xA:fL ((eX n xs i j).map A.int) (j:Int)=some (.int (cnt (xs.take i) j)):=dH rfl (by rw [gK (by omega),if_pos ⟨j1,j2⟩,if_neg (by omega)]);have xB:fL ((eX n ys i j).map A.int) (j:Int)=some (.int (cnt (ys.take i) j)):=dH rfl (by rw [gK (by omega),if_pos ⟨j1,j2⟩,if_neg (by omega)]);have nA:pQ (eX n xs i j).length (j:Int)=some j:=gP rfl (by rw [i_];omega);have nB:pQ (eX n ys i j).length (j:Int)=some j:=gP rfl (by rw [i_];omega);have lA:=dB gA;have lB:=dB gB;have cA:cnt (xs.take i) j+(if decide (xs[i]>=(j:Int)) then 1 else 0)=cnt (xs.take (i+1)) j:=by
     rw [bQ hix];congr 1;simp
    have cB:cnt (ys.take i) j+(if decide (ys[i]>=(j:Int)) then 1 else 0)=cnt (ys.take (i+1)) j:=by
     rw [bQ hiy];congr 1;simp
    have sA:((eX n xs i j).map A.int).set j (.int (cnt (xs.take (i+1)) j))=(eX n xs i (j+1)).map .int:=by rw [<- map_set,uB j1 j2]
    have sB:((eX n ys i j).map A.int).set j (.int (cnt (ys.take (i+1)) j))=(eX n ys i (j+1)).map .int:=by rw [<- map_set,uB j1 j2]
    have yA:fL ((eX n xs i (j+1)).map A.int) (j:Int)=some (.int (cnt (xs.take (i+1)) j)):=dH rfl (by rw [gK (by omega),if_pos ⟨j1,j2⟩,if_pos (by omega)]);have yB:fL ((eX n ys i (j+1)).map A.int) (j:Int)=some (.int (cnt (ys.take (i+1)) j)):=dH rfl (by rw [gK (by omega),if_pos ⟨j1,j2⟩,if_pos (by omega)]);have gB':∀ zs,ak (S2.set (S.length+1) (.lst zs)) (S.length+3)=some ((eX n ys i j).map .int):=λ zs=>by rw [cO (by omega)];exact gB
    have gA':∀ zs ws,ak ((S2.set (S.length+1) (.lst zs)).set (S.length+3) (.lst ws)) (S.length+1)=some zs:=λ zs ws=>by rw [cO (by omega),cJ lA]
    have gB2:∀ zs ws,ak ((S2.set (S.length+1) (.lst zs)).set (S.length+3) (.lst ws)) (S.length+3)=some ws:=λ zs ws=>cJ (by rw [length_set];exact lB);have k3:∀ zs ws,cZ S ((S2.set (S.length+1) (.lst zs)).set (S.length+3) (.lst ws)):=λ zs ws=>(k2.set (.inr (by omega))).set (.inr (by omega));unfold iw;simp only [bf,bools,gA,xA,ax,cA,length_map,nA,sA,gB',xB,ay,cB,nB,sB,gA',yA,gB2,yB];by_cases c:cnt (ys.take (i+1)) j < cnt (xs.take (i+1)) j
    ·right;rw [decide_eq_true c];simp only [bf,bools,jW (show ([_,_]:List A).length<=16777216 by simp)];rw [show (0:Int)+(i:Int)+1=((i+1:Nat):Int) by omega];exact ⟨_,_,rfl,_,.inr ⟨j,rfl,j1,j2,c,λ j' q1 q2=>hj j' q1 (by omega)⟩,k3 _ _⟩
    ·left;rw [decide_eq_false c];simp only [bf,bools];refine ⟨_,_,rfl,⟨_,rfl⟩,?_,?_,k3 _ _,λ j' q1 q2=>?_⟩
     ·rw [gA',show 1+(t+1)=j+1 by omega]
     ·rw [gB2,show 1+(t+1)=j+1 by omega]
     ·by_cases d:j' < 1+t
      ·exact hj j' q1 d
      ·have:j'=j:=by omega
       subst this;omega
   ·rintro τ S2 ⟨⟨a6,rfl⟩,gA,gB,k2,hj⟩;rw [show 1+((n:Int)+1 - 1).toNat=n+1 by omega] at gA gB hj;rw [Aw] at gA gB;exact ⟨S2,.inl ⟨⟨_,rfl⟩,gA,gB,λ j' q1 q2=>hj j' q1 (by omega)⟩,k2⟩
  obtain ⟨S2,⟨⟨a6',e2⟩,gA,gB,hj⟩ | ⟨j,e2,j1,j2,c,hj⟩,k2⟩:=inner
  ·left;refine ⟨_,_,show jY _ _=_ from e2,_,_,rfl,gA,gB,k2,λ i' j' q0 q1 q2=>?_⟩;by_cases d:i'<=i
   ·exact hok i' j' d q1 q2
   ·have:i'=i+1:=by omega
    subst this;exact hj j' q1 q2
  ·right;refine ⟨_,_,show jY _ _=_ from e2,S2,.inr ⟨i+1,j,by simp only [bf,bools],by omega,by omega,j1,j2,c,λ i' j' q0 q1 q2=>hok i' j' (by omega) q1 (by omega),hj⟩,k2⟩
 ·rintro τ S1 ⟨a5,a6,rfl,hA,hB,kp,hok⟩;refine ⟨S1,.inl ⟨by simp only [bf,bools],?_⟩,kp⟩;refine (rm px py).mp λ i q hi hq=>?_;have:=hok (i+1) (q+1) (by omega) (by omega) (by omega);exact this
end K19
namespace K19
open PySem L2 Am
open Bl
open Stp
open Fw (rg)
section
variable {S:aE}
theorem tw {xs:List (List Int×A)}:aY (S++[.dct xs]) S.length=some xs:=mw (by simp)
theorem tW {o:O}{n:Nat}{xs:List (List Int×A)}(h:aY S n=some xs):aY (S++[o]) n=some xs:=by
 have h':=dX h;exact mw (by rw [getElem?_append_left (List.getElem?_eq_some_iff.mp h').1];exact h')
theorem jZ {n:Nat}{xs:List (List Int×A)}(h:aY S n=some xs):n < S.length:=(List.getElem?_eq_some_iff.mp (dX h)).1
theorem sF {n:Nat}{ys:List (List Int×A)}(h:n < S.length):aY (S.set n (.dct ys)) n=some ys:=mw (getElem?_set_self h)
theorem jl {n m:Nat}{o:O}(h:n≠m):aY (S.set n o) m=aY S m:=by unfold aY;rw [getElem?_set_ne h]
theorem qe {n m:Nat}{o:O}(h:n≠m):ak (S.set n o) m=ak S m:=by unfold ak;rw [getElem?_set_ne h]
end
noncomputable abbrev Eb:=List (List Int×Bool)
noncomputable def kb (es:Eb):List (List Int×A):=es.map λ e=>(e.1,.bl e.2)
theorem nW:∀ {es:Eb} {w:List Int},(fP (kb es) w).isSome=decide (w∈es.map (·.1))
 | [],w=>rfl
 | e::es,w=>by
  show (fP ((e.1,.bl e.2)::kb es) w).isSome=_;by_cases c:e.1=w
  ·rw [ng c,decide_eq_true (by rw [<- c];simp)];rfl
  ·rw [mV c,nW,decide_eq_decide];constructor
   ·exact λ z=>mem_cons_of_mem _ z
   ·intro z
    rcases mem_cons.mp z with z | z
    ·exact absurd z.symm c
    ·exact z
theorem vc:∀ {es:Eb} {w:List Int} {b:Bool},w∉es.map (·.1)->fP (kb (es++[(w,b)])) w=some (.bl b)
 | [],w,b,_=>ng rfl
 | e::es,w,b,h=>by
  show fP ((e.1,.bl e.2)::kb (es++[(w,b)])) w=_;rw [mV λ z=>h (by rw [<- z];simp)];exact vc λ z=>h (mem_cons_of_mem _ z)
theorem yb {es:Eb}{w:List Int}{b:Bool}(h:w∉es.map (·.1)):putD (kb es) w (.bl b)=kb (es++[(w,b)]):=by
 unfold putD;rw [nW,decide_eq_false h,if_neg Bool.false_ne_true];unfold kb;rw [map_append];rfl
theorem iW (w:List Int):A.ints (w.map .int)=some w:=ints_map w
theorem K7 {S:aE}{D:Nat}{es:Eb}{w:List Int}(h:aY S D=some (kb es)):Jk true (aQ w) (.ref D) S=.ok (.bl (!decide (w∈es.map (·.1)))) S:=by
 show opt (aY S D) _=_;rw [h,br];show opt (A.ints (w.map .int)) _=_;rw [iW,br,<- nW];rfl
theorem O7 {S:aE}{D:Nat}{es:Eb}{w:List Int}{v:A}(h:aY S D=some (kb es))(hl:fP (kb es) w=some v):G1 (.ref D) (aQ w) S=.ok v S:=by
 show opt (aY S D) _=_;rw [h,br];show opt (A.ints (w.map .int)) _=_;rw [iW,br,hl,br]
theorem few {n:Nat}(hn:n<=9){ks:List (List Int)}(nd:ks.Nodup)(h:∀ k∈ks,k.Perm (rg n)):ks.length<=362880:=by
 have hr:∀ k∈ks,Nu.rank k < Nu.gr n/\Nu.BD n (rg n) (Nu.rank k)=k:=λ k hk=>Nu.tD n (rg n) k (Wd.dZ n) (Nu.nv _ _) (h k hk);have h1:(ks.map Nu.rank).Nodup:=by
  unfold List.Nodup;rw [pairwise_map];exact List.Pairwise.imp_of_mem (λ {a b} ha hb hab z=>hab (by rw [<- (hr a ha).2,<- (hr b hb).2,z])) nd
 have:=Rd.oR (Nu.gr n) _ h1 λ x hx=>by
  obtain ⟨k,hk,rfl⟩:=mem_map.mp hx;exact (hr k hk).1
 rw [length_map] at this;exact Nat.le_trans this (Nat.le_trans (Nu.B4 hn) (by decide))
noncomputable def Cl (n:Nat)(z:List Int)(es:Eb):Prop:=∀ i j,i < j->j < n->z.getD i 0 < z.getD j 0->qE z i j=true->Iv.sw z i j∈es.map (·.1)
structure Lk (n:Nat)(u y:List Int)(es:Eb)(ws:List (List Int))(v:Option (List Int)):Prop where
 nd:(es.map (·.1)).Nodup
 pm:∀ e∈es,e.1.Perm (rg n)
 wt:∀ w∈ws,(w,true)∈es
 up:∀ e∈es,Below u e.1
 fl:∀ e∈es,(e.2=true ↔ Below e.1 y)
 st:u∈es.map (·.1)
 cl:∀ e∈es,e.2=true->e.1∈ws\/some e.1=v\/Cl n e.1 es
theorem Lk.few {n:Nat}{u y:List Int}{es:Eb}{ws:List (List Int)}{v:Option (List Int)}(h:Lk n u y es ws v)(hn:n<=9):es.length<=362880:=by
 have:=_root_.K19.few hn h.nd λ k hk=>by
  obtain ⟨e,he,rfl⟩:=mem_map.mp hk;exact h.pm e he
 rwa [length_map] at this
theorem EG {n i j:Nat}{a:List Int}(pa:a.Perm (rg n))(hij:i < j)(hj:j < n)(h:a.getD i 0 < a.getD j 0):Below a (Iv.sw a i j):=by
 have la:a.length=n:=by rw [pa.length_eq,Wd.dZ]
 unfold Iv.sw;rw [Eu.bE (show i < a.length by omega),Eu.bE (show j < a.length by omega)] at h ⊢;exact iC (by omega) (by omega) hij h
theorem Cl.more {n:Nat}{z:List Int}{es:Eb}{x:List Int×Bool}(h:Cl n z es):Cl n z (es++[x]):=λ i j a b c d=>by
 rw [map_append];exact mem_append_left _ (h i j a b c d)
theorem Lk.more {n:Nat}{u y x:List Int}{es:Eb}{ws:List (List Int)}{v:Option (List Int)}{k:Bool}(h:Lk n u y es ws v)(hx:x∉es.map (·.1))(px:x.Perm (rg n))(ux:Below u x)(hk:k=true ↔ Below x y):Lk n u y (es++[(x,k)]) (if k=true then ws++[x] else ws) v where
 nd:=by
  rw [map_append,nodup_append];refine ⟨h.nd,by simp,λ a ha b hb zz=>hx ?_⟩;have:b=x:=by simpa using hb
  rw [<- this,<- zz];exact ha
 pm:=λ e he=>by
  rcases mem_append.mp he with z | z
  ·exact h.pm e z
  ·have:e=(x,k):=by simpa using z
   rw [this];exact px
 wt:=λ w hw=>by
  cases k with
  | false=>exact mem_append_left _ (h.wt w hw)
  | true=>
   rcases mem_append.mp hw with z | z
   ·exact mem_append_left _ (h.wt w z)
   ·have:w=x:=by simpa using z
    rw [this];exact mem_append_right _ (by simp)
 up:=λ e he=>by
  rcases mem_append.mp he with z | z
  ·exact h.up e z
  ·have:e=(x,k):=by simpa using z
   rw [this];exact ux
 fl:=λ e he=>by
  rcases mem_append.mp he with z | z
  ·exact h.fl e z
  ·have:e=(x,k):=by simpa using z
   rw [this];exact hk
 st:=by rw [map_append];exact mem_append_left _ h.st
 cl:=λ e he h2=>by
  rcases mem_append.mp he with z | z
  ·rcases h.cl e z h2 with q | q | q
   ·left
    cases k with
    | false=>exact q
    | true=>exact mem_append_left _ q
   ·exact .inr (.inl q)
   ·exact .inr (.inr q.more)
  ·have:e=(x,k):=by simpa using z
   subst this;have h2:k=true:=h2;subst h2;left;exact mem_append_right _ (by simp)
theorem Af {n:Nat}{a:List Int}(la:a.length=n){l:List Int}:l∈dR (stp a (ups a)) ↔ ∃ i j,i < j/\j < n/\a.getD i 0 < a.getD j 0/\qE a i j=true/\l=Iv.sw a i j:=by
 rw [(k_ _).mem_iff];unfold stp ups;rw [mem_map];constructor
 ·rintro ⟨p,hp,rfl⟩;obtain ⟨h1,h2⟩:=mem_filter.mp hp;obtain ⟨h3,h4⟩:=mem_filter.mp h1;have:=zg h3;exact ⟨p.1,p.2,this.1,by omega,of_decide_eq_true h4,h2,rfl⟩
 ·rintro ⟨i,j,h1,h2,h3,h4,rfl⟩;exact ⟨(i,j),mem_filter.mpr ⟨mem_filter.mpr ⟨GW h1 (by omega),decide_eq_true h3⟩,h4⟩,rfl⟩
theorem looked {S0 S T:aE}{n D W M:Nat}{es:Eb}{ws:List (List Int)}{L:List (List Int)}{u v oth:List Int}(hn:n<=9)(h1:1<=n)(po:oth.Perm (rg n))(hD:aY S D=some (kb es))(hW:ak S W=some (ws.map aQ))(hM:ak S M=some (L.map aQ))(hL:∀ l∈L,l.Perm (rg n)/\Below u l)(lk:Lk n u oth es ws (some v))
  (hDS:S0.length<=D) (hWS:S0.length<=W) (hDW:D≠W) (hDM:D≠M) (hWM:W≠M) (hwe:ws.length<=es.length) (kp:cZ S0 S) {a0 a4 a5:A} (hsrc:iA [a0,aQ oth,.ref D,.ref W,a4,a5] T=.ok (dF M (L.map aQ).length) S) :
  ∃ (es':Eb) (ws':List (List Int)) (b5:A) (S':aE),fH iA (bH 5) jX [a0,aQ oth,.ref D,.ref W,a4,a5] T=.nx [a0,aQ oth,.ref D,.ref W,a4,b5] S'/\aY S' D=some (kb es')/\ak S' W=some (ws'.map aQ)/\Lk n u oth es' ws' (some v)/\(∀ l∈L,l∈es'.map (·.1))/\es.length<=es'.length/\ws'.length+es.length<=ws.length+es'.length/\cZ S0 S':=by
 refine rT (n:=M) (xs:=L.map aQ) (S1:=S) hsrc
  (λ i τ S'=>∃ (es':Eb) (ws':List (List Int)) (b5:A),τ=[a0,aQ oth,.ref D,.ref W,a4,b5]/\aY S' D=some (kb es')/\ak S' W=some (ws'.map aQ)/\ak S' M=some (L.map aQ)/\Lk n u oth es' ws' (some v)/\(∀ l∈L.take i,l∈es'.map (·.1))/\es.length<=es'.length/\ws'.length+es.length<=ws.length+es'.length/\cZ S0 S')
  (λ r=>∃ (es':Eb) (ws':List (List Int)) (b5:A) (S':aE),r=.nx [a0,aQ oth,.ref D,.ref W,a4,b5] S'/\aY S' D=some (kb es')/\ak S' W=some (ws'.map aQ)/\Lk n u oth es' ws' (some v)/\(∀ l∈L,l∈es'.map (·.1))/\es.length<=es'.length/\ws'.length+es.length<=ws.length+es'.length/\cZ S0 S')
  ⟨es,ws,_,rfl,hD,hW,hM,lk,λ l hl=>absurd hl (by simp),Nat.le_refl _,Nat.le_refl _,kp⟩ (λ i τ S' hh=>by obtain ⟨_,_,_,_,_,_,z,_⟩:=hh;exact z) ?_ ?_
 ·rintro i z τ S' hz ⟨es',ws',b5,rfl,hD',hW',hM',lk',hin,hle,hle2,kp'⟩;rw [List.getElem?_map] at hz;obtain ⟨x,hx,rfl⟩:=map_eq_some_iff.mp hz;obtain ⟨px,ux⟩:=hL x (mem_of_getElem? hx);have ht:L.take (i+1)=L.take i++[x]:=by
   obtain ⟨hi,e⟩:=List.getElem?_eq_some_iff.mp hx;rw [List.take_succ_eq_append_getElem hi,e]
  refine ⟨[a0,aQ oth,.ref D,.ref W,a4,aQ x],S',rfl,.inl ?_⟩;unfold jX;by_cases c:x∈es'.map (·.1)
  ·simp only [bf,vR,bools,K7 hD',decide_eq_true c,Bool.not_true];refine ⟨_,_,rfl,es',ws',_,rfl,hD',hW',hM',lk',λ l hl=>?_,hle,hle2,kp'⟩;rw [ht] at hl
   rcases mem_append.mp hl with z | z
   ·exact hin l z
   ·have:l=x:=by simpa using z
    rw [this];exact c
  ·obtain ⟨k,U,e1,hk,kU⟩:=uw (S:=S') (n:=n) px po h1 (by omega);have hDU:=kU.dct _ _ (λ z=>z) hD';have hWU:=kU.lst _ _ (λ z=>z) hW';have hMU:=kU.lst _ _ (λ z=>z) hM';have fw:=lk'.few hn;have lkb:(kb es').length=es'.length:=length_map ..;have sd:oO (.ref D) (aQ x) (.bl k) U=.ok () (U.set D (.dct (kb (es'++[(x,k)])))):=by
    show opt (aY U D) _=_;rw [hDU,br];show opt (A.ints (x.map .int)) _=_;rw [iW,br,K9 (by rw [lkb,sizeLine_eq];omega),yb c]
   have gw:xE (ah 2) (ah 5) (.bl k) [a0,aQ oth,.ref D,.ref W,a4,aQ x] U=.ok [a0,aQ oth,.ref D,.ref W,a4,aQ x] (U.set D (.dct (kb (es'++[(x,k)])))):=by
    show (oO (.ref D) (aQ x) (.bl k) U).bind _=_;rw [sd];rfl
   have lD:=jZ hDU;have hD2:aY (U.set D (.dct (kb (es'++[(x,k)])))) D=some (kb (es'++[(x,k)])):=sF lD;have hW2:ak (U.set D (.dct (kb (es'++[(x,k)])))) W=some (ws'.map aQ):=by rw [qe hDW];exact hWU
   have hM2:ak (U.set D (.dct (kb (es'++[(x,k)])))) M=some (L.map aQ):=by rw [qe hDM];exact hMU
   have ix:=O7 hD2 (vc c);have k2:cZ S0 (U.set D (.dct (kb (es'++[(x,k)])))):=(kp'.trans kU).wk (.inr hDS);have lk2:=lk'.more c px ux hk;have le2:(es'++[(x,k)]).length=es'.length+1:=by simp
   have hin2:∀ l∈L.take (i+1),l∈(es'++[(x,k)]).map (·.1):=λ l hl=>by
    rw [ht] at hl;rw [map_append]
    rcases mem_append.mp hl with z | z
    ·exact mem_append_left _ (hin l z)
    ·have:l=x:=by simpa using z
     rw [this];exact mem_append_right _ (by simp)
   have e1:cT [aQ x,aQ oth] S'=.ok (.bl k) U:=e1
   cases k with
   | false=>
    simp only [bf,vR,bools,K7 hD',decide_eq_false c,Bool.not_false,e1,gw,ix];exact ⟨_,_,rfl,_,ws',_,rfl,hD2,hW2,hM2,lk2,hin2,by omega,by omega,k2⟩
   | true=>
    have lW:=dB hW2;have ew:ws'.map aQ++[aQ x]=(ws'++[x]).map aQ:=by rw [map_append];rfl
    simp only [bf,vR,bools,K7 hD',decide_eq_false c,Bool.not_false,e1,gw,ix,hW2,EB (show (ws'.map aQ).length < 16777216 by rw [length_map];omega),ew];refine ⟨_,_,rfl,_,ws'++[x],_,rfl,?_,cJ lW,?_,lk2,hin2,by omega,?_,k2.set (.inr hWS)⟩
    ·rw [jl hDW.symm];exact hD2
    ·rw [cO hWM];exact hM2
    ·rw [length_append,le2];show _+1+_<=_;omega
 ·rintro τ S' ⟨es',ws',b5,rfl,hD',hW',hM',lk',hin,hle,hle2,kp'⟩;rw [length_map,take_length] at hin;exact ⟨es',ws',b5,S',rfl,hD',hW',lk',hin,hle,hle2,kp'⟩
end K19
namespace K19
open PySem L2 Am
open Bl
open Stp
open Fw (rg)
theorem IE {S:aE}{n:Nat}{xs:List A}(h:ak S n=some xs):A.LC (.ref n) S=some (!xs.isEmpty):=by
 show (ak S n).map _=_;rw [h];rfl
theorem fB {n:Nat}{x:List Int}(px:x.Perm (rg n)):x.length=n:=by rw [px.length_eq,Wd.dZ]
theorem JW {S:aE}{n:Nat}{xs:List Int}(hlen:xs.length=n)(h2:n<=20):∃ S',fO [.tup (xs.map .int)] S=.ok (.int (((prs n).filter (wg xs)).length:Int)) S'/\cZ S S':=by
 obtain ⟨P,S1,e1,g1,k1,_⟩:=Nj (S:=S) hlen h2;unfold fO pR vh;simp only [bf,bools,fJ,Nat.reduceAdd,Nat.reduceSub,e1,g1];exact ⟨_,rfl,k1⟩
theorem yl {S:aE}{n:Nat}{x:List Int}(px:x.Perm (rg n))(h1:1<=n)(h2:n<=20):∃ S',fO [aQ x] S=.ok (.int (Iv.inv x:Nat)) S'/\cZ S S':=by
 obtain ⟨S',e,k⟩:=JW (S:=S) (fB px) h2;rw [CQ (fB px) h1] at e;exact ⟨S',e,k⟩
theorem Ba {S:aE}{n:Nat}{x y:List Int}(px:x.Perm (rg n))(py:y.Perm (rg n))(h1:1<=n)(h9:n<=9)(ho:Iv.inv y<=Iv.inv x+4):∃ S',cY [aQ x,aQ y,.int 6,.int 9,.int 4] S=.ok .non S'/\cZ S S':=by
 have lx:=fB px;obtain ⟨S1,e1,k1⟩:=yl (S:=S) py h1 (by omega);obtain ⟨S2,e2,k2⟩:=yl (S:=S1) px h1 (by omega);unfold cY iO kG;by_cases c:n<=6
 ·simp only [bf,bools,fJ,Nat.reduceAdd,Nat.reduceSub,length_map,lx,decide_eq_true (show (n:Int)<=6 by omega)];exact ⟨_,rfl,Kp.refl⟩
 ·simp only [bf,bools,fJ,Nat.reduceAdd,Nat.reduceSub,length_map,lx,decide_eq_false (show ¬ (n:Int)<=6 by omega),decide_eq_false (show ¬ (9:Int) < n by omega),e1,e2,decide_eq_false (show ¬ (4:Int) < (Iv.inv y:Int) - (Iv.inv x:Int) by omega)];exact ⟨_,rfl,k1.trans k2⟩
theorem FH {S:aE}{n D:Nat}{es:Eb}{ws:List (List Int)}{u y:List Int}{v:Option (List Int)}{a0 a1 a3 a4 a5:A}(hD:aY S D=some (kb es))(lk:Lk n u y es ws v)(h1:1<=n)(hn:n<=9) :
  ∃ (V:Nat) (S':aE),RS.end (RS.seq (.nx [a0,a1,.ref D,a3,a4,a5] S) (cU (aS (f1 mQ) (aj (bP [none,none] (Br (ah 2)) (qJ 2 (jD (bH 0) (jD (bH 1) (qI)))) (jk (ah 1)) (ah 0)) (aJ)))))=.ok (.ref V) S'/\ak S' V=some ((dR ((es.filter (·.2)).map (·.1))).map aQ)/\S'=S.set D (.ins "" [])++[.lst ((es.filter (·.2)).map λ e=>aQ e.1)]++[.lst ((dR ((es.filter (·.2)).map (·.1))).map aQ)]/\S.length<=V:=by
 have hs:Br (ah 2) [a0,a1,.ref D,a3,a4,a5] S=.ok (dG ((kb es).map Ay)) (S.set D (.ins "" [])):=by
  show opt (aY S D) _=_;rw [hD,br]
 have lkb:((kb es).map Ay).length=es.length:=by unfold kb;rw [length_map,length_map]
 have fw:=lk.few hn;obtain ⟨T,g1,g2⟩:=gf (s:=dG ((kb es).map Ay)) (g:=qJ 2 (jD (bH 0) (jD (bH 1) (qI)))) (t:=jk (ah 1)) (e:=ah 0)
  (P:=λ S1=>S1=S.set D (.ins "" [])) (T:=λ τ=>∃ y z,τ=[y,z]) (λ i=>Ay ((es.getD i ([],false)).1,.bl (es.getD i ([],false)).2)) (λ i=>(es.getD i ([],false)).2) (λ i=>aQ (es.getD i ([],false)).1)
  (λ i S1 hi _=>by
   have hi:i < ((kb es).map Ay).length:=hi;rw [lkb] at hi;show ((kb es).map Ay)[i]?=_;unfold kb;rw [List.map_map,List.getElem?_map,getD_eq_getElem?_getD,List.getElem?_eq_getElem hi];rfl)
  (λ S1 _=>rfl)
  (λ i τ S1 hi ⟨y,z,hy⟩ k=>by
   subst hy k;refine ⟨[aQ (es.getD i ([],false)).1,.bl (es.getD i ([],false)).2],S.set D (.ins "" []),S.set D (.ins "" []),?_,by simp only [bf,bools],⟨_,_,rfl⟩,λ _=>rfl,λ _=>⟨_,by simp only [bf,bools],rfl⟩⟩;unfold Ay;simp only [bf,bools,dI (show ([_,_]:List A).length=2 from rfl)])
  es.length 0 (d8 [none,none] [a0,a1,.ref D,a3,a4,a5]) (S.set D (.ins "" [])) (by show es.length+0=((kb es).map Ay).length;rw [lkb];rfl) ⟨_,_,rfl⟩ rfl
 subst g2;have ef:=pS es (λ e=>e.2) (λ e=>aQ e.1) ([],false);rw [range_eq_range'] at ef;rw [ef] at g1;obtain ⟨fs,hfs⟩:∃ fs:List (List Int),fs=(es.filter (·.2)).map (·.1):=⟨_,rfl⟩;have efs:((es.filter (·.2)).map λ e=>aQ e.1)=fs.map aQ:=by rw [hfs,List.map_map];rfl
 have hne:∀ l∈fs,l≠[]:=λ l hl=>by
  rw [hfs] at hl;obtain ⟨e,he,rfl⟩:=mem_map.mp hl;have:=fB (lk.pm e (mem_filter.mp he).1);intro z;rw [z] at this;simp at this;omega
 have ec:bP [none,none] (Br (ah 2)) (qJ 2 (jD (bH 0) (jD (bH 1) (qI)))) (jk (ah 1)) (ah 0) [a0,a1,.ref D,a3,a4,a5] S=.ok (.ref (S.set D (.ins "" [])).length) (S.set D (.ins "" [])++[.lst (fs.map aQ)]):=by
  unfold bP;rw [hs,R.cI];show R.cV (dS (dG ((kb es).map Ay)) _ _ _ ((kb es).map Ay).length 0 _ _) _=_;rw [lkb,g1,R.cD,bW (by rw [length_map];exact Nat.le_trans (length_filter_le _ _) (by omega)),efs]
 have so:=yj (S:=S.set D (.ins "" [])++[.lst (fs.map aQ)]) (n:=(S.set D (.ins "" [])).length) aU hne;simp only [bf,bools,ec,so];rw [hfs] at so ⊢;refine ⟨_,_,rfl,aU,by rw [efs,hfs],?_⟩;rw [length_append,length_set];omega
theorem pB {S:aE}{n:Nat}{x y:List Int}(px:x.Perm (rg n))(py:y.Perm (rg n))(h1:1<=n)(hn:n<=9)(ho:Iv.inv y<=Iv.inv x+4)(q:List Int->Bool)(hq:∀ z,z.Perm (rg n)->(q z=true ↔ Below x z/\Below z y)):∃ (V:Nat) (S':aE),dm [aQ x,aQ y] S=.ok (.ref V) S'/\ak S' V=some (((Eu.inj n n).filter q).map aQ)/\cZ S S'/\S.length<=V:=by
 have h2:n<=20:=by omega
 have lx:=fB px;have ly:=fB py;have ep:=lN (S:=S) (xs:=x) (ys:=y) (by omega);obtain ⟨S1,e1,k1⟩:=Ba (S:=S) px py h1 hn ho;obtain ⟨k,S2,e2,hk,k2⟩:=uw (S:=S1) (n:=n) px py h1 h2;have k12:=k1.trans k2
 cases k with
 | false=>
  unfold dm ki nu;simp only [bf,vR,bools,fJ,Nat.reduceAdd,Nat.reduceSub,ep,e1,e2,Bool.not_false];have e0:(Eu.inj n n).filter q=[]:=filter_eq_nil_iff.mpr λ z hz hqz=>by
   obtain ⟨z1,z2⟩:=(hq z (Eu.mD.mp hz)).mp hqz;exact absurd (hk.mpr (z1.trans z2)) Bool.false_ne_true
  rw [e0];exact ⟨_,_,rfl,aU,k12.lay,k12.len⟩
 | true=>
  have ed:DM (ah 0) (eC (.bl true)) [aQ x,aQ y,.unb,.unb,.unb,.unb] S2=.ok (.ref S2.length) (S2++[.dct (kb [(x,true)])]):=by
   show opt (A.ints (x.map .int)) _=_;rw [iW,br];rfl
  have l1:(S2++[O.dct (kb [(x,true)])]).length=S2.length+1:=by simp
  have key:=iX (t:=jS) (c:=jR)
   (λ τ T=>∃ (a4 a5:A) (es:Eb) (ws:List (List Int)),τ=[aQ x,aQ y,.ref S2.length,.ref (S2.length+1),a4,a5]/\aY T S2.length=some (kb es)/\ak T (S2.length+1)=some (ws.map aQ)/\Lk n x y es ws none/\ws.length<=es.length/\cZ S2 T)
   (λ _ T=>2 * (362880 - ((aY T S2.length).getD []).length)+((ak T (S2.length+1)).getD []).length)
   (λ r=>∃ (V:Nat) (S':aE),RS.end (RS.seq r (cU (aS (f1 mQ) (aj (bP [none,none] (Br (ah 2)) (qJ 2 (jD (bH 0) (jD (bH 1) (qI)))) (jk (ah 1)) (ah 0)) (aJ)))))=.ok (.ref V) S'/\ak S' V=some (((Eu.inj n n).filter q).map aQ)/\cZ S S'/\S.length<=V) ?_ 1000000
  ·unfold dm ki nu;simp only [bf,vR,bools,fJ,Nat.reduceAdd,Nat.reduceSub,ep,e1,e2,Bool.not_true,ed,l1];have hd0:aY (S2++[O.dct (kb [(x,true)])]++[O.lst [aQ x]]) S2.length=some (kb [(x,true)]):=tW tw;have hw0:ak (S2++[O.dct (kb [(x,true)])]++[O.lst [aQ x]]) (S2.length+1)=some [aQ x]:=by rw [<- l1];exact aU
   refine key _ _ ⟨_,_,[(x,true)],[x],rfl,hd0,hw0,⟨by simp,λ e he=>?_,λ w hw=>?_,λ e he=>?_,λ e he=>?_,by simp,λ e he _=>?_⟩,Nat.le_refl _,Kp.refl.lay.lay⟩ ?_
   ·have:e=(x,true):=by simpa using he
    rw [this];exact px
   ·have:w=x:=by simpa using hw
    rw [this];simp
   ·have:e=(x,true):=by simpa using he
    rw [this];exact Below.refl _
   ·have:e=(x,true):=by simpa using he
    rw [this];exact hk
   ·have:e=(x,true):=by simpa using he
    rw [this];left;simp
   ·rw [hd0,hw0];show 2 * (362880 - 1)+1 < 1000000;decide
  ·rintro τ T ⟨a4,a5,es,ws,rfl,hD,hW,lk,hwe,kp⟩;have fw:=lk.few hn;unfold jS;have lk2:(kb es).length=es.length:=length_map ..
   rcases List.eq_nil_or_concat ws with c | ⟨vs,v,c⟩
   ·left;subst c;obtain ⟨V,T2,e3,h3,hT2,hV⟩:=FH (a0:=aQ x) (a1:=aQ y) (a3:=.ref (S2.length+1)) (a4:=a4) (a5:=a5) hD lk h1 hn;have dn:Eu.Done n x y es:=⟨lk.nd,lk.pm,lk.up,lk.fl,lk.st,λ e he h2=>by
     rcases lk.cl e he h2 with z | z | z
     ·cases z
     ·cases z
     ·exact z⟩
    rw [dn.told q hq] at h3;have l2:=k12.len;have lT:=kp.len;refine ⟨T,by simp only [bf,bools,IE hW];rfl,V,T2,e3,h3,?_,by omega⟩;rw [hT2];exact k12.trans (((kp.wk (.inr (Nat.le_refl _))).lay).lay)
   ·right;rw [List.concat_eq_append] at c;subst c;have tr:A.LC (.ref (S2.length+1)) T=some true:=by
     rw [IE hW]
     cases vs <;> rfl
    refine ⟨T,by simp only [bf,bools,tr],.inl ?_⟩;have ev:=lk.wt v (by simp);have pv:v.Perm (rg n):=lk.pm _ ev;have uv:Below x v:=lk.up _ ev;have lv:=fB pv;have pop:JF (.ref (S2.length+1)) [] T=.ok (aQ v) (T.set (S2.length+1) (.lst (vs.map aQ))):=by
     show opt (ak T (S2.length+1)) _=_;rw [hW,br,map_append];show opt ((vs.map aQ++[aQ v])[(vs.map aQ++[aQ v]).length - 1]?) _=_;rw [length_append,show (vs.map aQ).length+[aQ v].length - 1=(vs.map aQ).length by simp,List.getElem?_append_right (Nat.le_refl _),sub_self];show R.ok (aQ v) (T.set (S2.length+1) (.lst (vs.map aQ++[aQ v]).dropLast))=_;rw [List.dropLast_concat]
    have lW:=dB hW;have hD1:aY (T.set (S2.length+1) (.lst (vs.map aQ))) S2.length=some (kb es):=by rw [jl (by omega)];exact hD
    obtain ⟨M,U,e4,hM,k4,sM⟩:=E6 (S:=T.set (S2.length+1) (.lst (vs.map aQ))) (a:=v) (by omega) (by omega);have hDU:=k4.dct _ _ (λ z=>z) hD1;have hWU:=k4.lst _ _ (λ z=>z) (cJ (ys:=vs.map aQ) lW);rw [length_set] at sM;have hsrc:iA [aQ x,aQ y,.ref S2.length,.ref (S2.length+1),aQ v,a5] (T.set (S2.length+1) (.lst (vs.map aQ)))=.ok (dF M ((dR (stp v (ups v))).map aQ).length) U:=
     jz (by simp only [bf,bools,e4]) hM
    have kU:cZ S2 U:=(kp.set (.inr (by omega))).trans k4;rw [length_append] at hwe;have hwe':vs.length+1<=es.length:=hwe;have lk0:Lk n x y es vs (some v):=⟨lk.nd,lk.pm,λ w hw=>lk.wt w (mem_append_left _ hw),lk.up,lk.fl,lk.st,λ e he h2=>by
     rcases lk.cl e he h2 with z | z | z
     ·rcases mem_append.mp z with z | z
      ·exact .inl z
      ·have:e.1=v:=by simpa using z
       rw [this];exact .inr (.inl rfl)
     ·cases z
     ·exact .inr (.inr z)⟩
    obtain ⟨es',ws',b5,S',e5,hD',hW',lk',hin,hle,hle2,kp'⟩:=looked (S0:=S2) hn h1 py hDU hWU hM (λ l hl=>by
     obtain ⟨i,j,c1,c2,c3,c4,rfl⟩:=(Af lv).mp hl;exact ⟨(Stp.oE c1 (by omega)).trans pv,uv.trans (EG pv c1 c2 c3)⟩) lk0 (Nat.le_refl _) (by omega) (by omega) (by omega) (by omega) (by omega) kU hsrc
    have lkn:Lk n x y es' ws' none:=⟨lk'.nd,lk'.pm,lk'.wt,lk'.up,lk'.fl,lk'.st,λ e he h2=>by
     rcases lk'.cl e he h2 with z | z | z
     ·exact .inl z
     ·have z:e.1=v:=Option.some.inj z;right;right;intro i j c1 c2 c3 c4;rw [z] at c3 c4 ⊢;exact hin _ ((Af lv).mpr ⟨i,j,c1,c2,c3,c4,rfl⟩)
     ·exact .inr (.inr z)⟩
    unfold jR;simp only [bf,vR,bools,hW,pop,e5];refine ⟨_,_,rfl,⟨_,_,es',ws',rfl,hD',hW',lkn,by omega,kp'⟩,?_⟩;have fw':=lk'.few hn;have lk3:(kb es').length=es'.length:=length_map ..;simp only [hD',hW',hD,hW,getD_some,length_map,length_append,lk2,lk3];show 2 * (362880 - es'.length)+ws'.length < 2 * (362880 - es.length)+(vs.length+1);omega
end K19
namespace K19
open PySem L2 Am
open Bl
open Stp
open Fw (rg)
theorem G9 {a:List Int}{i j:Nat}(hij:i < j)(hj:j < a.length):jO (a.map A.int) (some ((i:Int)+1)) (some (j:Int))=(mm a i j).map .int:=by
 have:=C8 hij hj
 rwa [show (j:Int)+1 - 1=(j:Int) by omega] at this
theorem Ke {a:List Int}{i j:Nat}(h:a.getD i 0 < a.getD j 0):qE a i j=((mm a i j).filter (nU (a.getD i 0) (a.getD j 0))).isEmpty:=by
 unfold qE;rw [if_neg (by omega),if_pos h];generalize mm a i j=M
 induction M with
 | nil=>rfl
 | cons m M ih=>
  rw [any_cons,filter_cons]
  cases c:nU (a.getD i 0) (a.getD j 0) m with
  | true=>rfl
  | false=>rw [Bool.false_or,ih];rfl
theorem Mu {S0 S:aE}{n i j F:Nat}{a:List Int}{L:List (List Int)}{a4 a5:A}(la:a.length=n)(hn:n<=9)(hij:i < j)(hj:j < n)(hF:ak S F=some (L.map aQ))(lL:L.length<=400)(hFS:S0.length<=F)(kp:cZ S0 S) :
  ∃ (b4 b5:A) (S':aE),jq [aQ a,.ref F,.int i,.int j,a4,a5] S=.nx [aQ a,.ref F,.int i,.int j,b4,b5] S'/\ak S' F=some ((if a.getD i 0 < a.getD j 0/\qE a i j=true then L++[Iv.sw a i j] else L).map aQ)/\cZ S0 S':=by
 have a1:fL (a.map A.int) (j:Int)=some (.int (a.getD j 0)):=Lb rfl (by omega);have a2:fL (a.map A.int) (i:Int)=some (.int (a.getD i 0)):=Lb rfl (by omega);have x1:pQ a.length (i:Int)=some i:=gP rfl (by omega);have x2:pQ a.length (j:Int)=some j:=gP rfl (by omega);have lm:(mm a i j).length<=20:=by unfold mm;rw [length_take,length_drop];omega
 obtain ⟨x,hx⟩:∃ x,x=a.getD i 0:=⟨_,rfl⟩;obtain ⟨y,hy⟩:∃ y,y=a.getD j 0:=⟨_,rfl⟩;rw [<- hy] at a1;rw [<- hx] at a2;have ec:=vd (cap:=[some 0,some 2,some 3]) (src:=eT (Io (ah 0) (jA (aG cC (ah 2) (eC (.int 1)))) (jA (ah 3)))) (t:=iS (Bq sQ sQ (aG eK (ah 1) (ah 2)) (ah 0) (aG eK (ah 1) (ah 3)))) (e:=ah 0) (τ:=[aQ a,.ref F,.int i,.int j,a4,a5]) (S:=S) (S1:=S) (xs:=(mm a i j).map .int)
  (rZ (by
   simp only [bf,bools];have hg:¬ (HT.dY (a.map A.int).length 0 (some ((i:Int)+1))=0/\HT.dY (a.map A.int).length (a.map A.int).length (some (j:Int))=(a.map A.int).length):=by
    rw [show (i:Int)+1=((i+1:Nat):Int) by omega,HT.j5,length_map];omega
   have hs:JJ (.tup (a.map .int)) (some ((i:Int)+1)) (some (j:Int)) S=.ok (.tup (jO (a.map .int) (some ((i:Int)+1)) (some (j:Int)))) S:=dI hg;rw [hs,G9 hij (by omega)]))
  (λ z=>match z with | .int m=>nU x y m | _=>false) (λ z=>z) (λ z hz=>by
   obtain ⟨m,_,rfl⟩:=mem_map.mp hz;show iS (Bq sQ sQ (aG eK (ah 1) (ah 2)) (ah 0) (aG eK (ah 1) (ah 3))) [.int m,aQ a,.int i,.int j] S=.ok (nU x y m) S;have f1:aG eK (ah 1) (ah 2) [.int m,aQ a,.int i,.int j] S=.ok (.int x) S:=by simp only [bf,bools,a2]
   have f2:aG eK (ah 1) (ah 3) [.int m,aQ a,.int i,.int j] S=.ok (.int y) S:=by simp only [bf,bools,a1]
   unfold nU iS;by_cases c:x < m
   ·rw [Nr (a:=.int x) (b:=.int m) (c:=.int y) f1 rfl (by simp only [bf,decide_eq_true c]) f2,decide_eq_true c,Bool.true_and];simp only [bf]
   ·rw [Mb (a:=.int x) (b:=.int m) f1 rfl (by simp only [bf,decide_eq_false c]),decide_eq_false c,Bool.false_and];rfl) (λ z hz _=>by
   obtain ⟨m,_,rfl⟩:=mem_map.mp hz;simp only [bf,bools]) (by rw [length_map];omega)
 obtain ⟨ms,hms⟩:∃ ms:List A,ms=((((mm a i j).map A.int).filter λ z=>match z with | .int m=>nU x y m | _=>false).map λ z=>z):=⟨_,rfl⟩;have eM:ms.isEmpty=((mm a i j).filter (nU x y)).isEmpty:=by
  rw [hms,map_id',filter_map,List.isEmpty_map];rfl
 rw [<- hms] at ec;have lF:=dB hF;unfold jq;by_cases c:x < y
 ·have eS:ms.isEmpty=qE a i j:=by rw [eM,Ke (by omega),hx,hy]
  have e1:nN false (.ref S.length) (.ref (S++[O.lst ms]).length) (S++[O.lst ms]++[O.lst []])=.ok (.bl (qE a i j)) (S++[O.lst ms]++[O.lst []]):=by rw [<- eS];exact BH (eq_nil (bL aU) aU)
  have hT:∀ o,ak (S++[O.lst ms]++[O.lst []]++[o]) F=some (L.map aQ):=λ o=>bL (bL (bL hF))
  cases hs:qE a i j with
  | false=>
   rw [hs] at e1;rw [if_neg (λ z=>Bool.false_ne_true z.2)];simp only [bf,bools,ec,a1,a2,decide_eq_true c,e1];exact ⟨_,_,_,rfl,bL (bL hF),kp.lay.lay⟩
  | true=>
   rw [hs] at e1;rw [if_pos ⟨by omega,rfl⟩];obtain ⟨T,hTT⟩:∃ T,T=S++[O.lst ms]++[O.lst []]:=⟨_,rfl⟩;have kT:cZ S0 T:=by rw [hTT];exact kp.lay.lay
   have hFT:ak T F=some (L.map aQ):=by rw [hTT];exact bL (bL hF)
   rw [<- hTT] at e1;have lT:=dB hFT;have hL:ak (T++[O.lst (a.map .int)]) T.length=some (a.map .int):=aU;have lS:∀ ys,ak ((T++[O.lst (a.map .int)]).set T.length (.lst ys)) T.length=some ys:=λ ys=>cJ (by simp);have lS2:∀ ys zs,ak (((T++[O.lst (a.map .int)]).set T.length (.lst ys)).set T.length (.lst zs)) T.length=some zs:=λ ys zs=>cJ (by simp);have hF2:∀ ys zs,ak (((T++[O.lst (a.map .int)]).set T.length (.lst ys)).set T.length (.lst zs)) F=some (L.map aQ):=λ ys zs=>by rw [cO (by omega),cO (by omega)];exact bL hFT
   have em:((a.map A.int).set i (.int y)).set j (.int x)=(Iv.sw a i j).map .int:=by unfold Iv.sw;rw [map_set,map_set,hx,hy]
   have ea:L.map aQ++[.tup ((Iv.sw a i j).map .int)]=(L++[Iv.sw a i j]).map aQ:=by rw [map_append];rfl
   simp only [bf,bools,ec,a1,a2,decide_eq_true c,<- hTT,e1,hL,jW (show ([_,_]:List A).length<=16777216 by simp),dI (show ([_,_]:List A).length=2 from rfl),length_map,x1,lS,length_set,x2,em,lS2,hF2,EB (show L.length < 16777216 by omega),ea];exact ⟨_,_,_,rfl,cJ (by simp;omega),(((kT.lay).set (.inr (by have:=kT.len;omega))).set (.inr (by have:=kT.len;omega))).set (.inr hFS)⟩
 ·rw [if_neg (λ z=>c (by omega))];simp only [bf,bools,ec,a1,a2,decide_eq_false c];exact ⟨_,_,_,rfl,bL hF,kp.lay⟩
noncomputable def Uq (n:Nat)(a:List Int)(i j:Nat)(l:List Int):Prop:=∃ p q,(p < i\/(p=i/\q < j))/\p < q/\q < n/\a.getD p 0 < a.getD q 0/\qE a p q=true/\l=Iv.sw a p q
theorem yY {S:aE}{n:Nat}{a:List Int}(la:a.length=n)(h1:1<=n)(hn:n<=9):∃ (R:Nat) (L:List (List Int)) (S':aE),cW [aQ a] S=.ok (.ref R) S'/\ak S' R=some (L.map aQ)/\(∀ l,l∈L ↔ Eu.Up n a l)/\L.length<=400/\cZ S S'/\S.length<=R:=by
 unfold cW oY um;simp only [bf,bools,fJ,Nat.reduceAdd,Nat.reduceSub];refine eY (lo:=0) (hi:=(n:Int)) (S1:=S++[O.lst []]) (show pW _ _=_ from dU (by simp only [bf,bools,length_map,la]) (cK (by omega) (by omega)))
  (λ i τ T=>∃ (a3 a4 a5:A) (a2:A) (L:List (List Int)),τ=[aQ a,.ref S.length,a2,a3,a4,a5]/\ak T S.length=some (L.map aQ)/\(∀ l,l∈L ↔ Uq n a i 0 l)/\L.length<=i * 9/\cZ S T)
  (λ r=>∃ (R:Nat) (L:List (List Int)) (S':aE),RS.end (RS.seq r _)=.ok (.ref R) S'/\ak S' R=some (L.map aQ)/\(∀ l,l∈L ↔ Eu.Up n a l)/\L.length<=400/\cZ S S'/\S.length<=R)
  ⟨_,_,_,_,[],rfl,aU,(λ l=>⟨λ h=>(not_mem_nil h).elim,λ ⟨p,q,h,_⟩=>by omega⟩),zero_le _,Kp.refl.lay⟩ ?_ ?_
 ·rintro i τ T hi ⟨a3,a4,a5,a2,L,rfl,hL,mL,nL,kp⟩;left;have hi':i < n:=by omega
  have e0:(0:Int)+(i:Int)=(i:Int):=by omega
  show ∃ τ' S',kO [aQ a,.ref S.length,.int (0+(i:Int)),a3,a4,a5] T=.nx τ' S'/\_;rw [e0];unfold kO;refine eY (lo:=(i:Int)+1) (hi:=(n:Int)) (S1:=T) (show pZ _ _=_ from jU (S1:=T) (by simp only [bf,bools]) (by simp only [bf,bools,length_map,la]) (cK (by omega) (by omega)) (cK (by omega) (by omega)))
   (λ k τ T'=>∃ (a3 a4 a5:A) (L:List (List Int)),τ=[aQ a,.ref S.length,.int i,a3,a4,a5]/\ak T' S.length=some (L.map aQ)/\(∀ l,l∈L ↔ Uq n a i (i+1+k) l)/\L.length<=i * 9+k/\cZ S T')
   (λ r=>∃ τ' S',r=.nx τ' S'/\∃ (a3 a4 a5:A) (a2:A) (L:List (List Int)),τ'=[aQ a,.ref S.length,a2,a3,a4,a5]/\ak S' S.length=some (L.map aQ)/\(∀ l,l∈L ↔ Uq n a (i+1) 0 l)/\L.length<=(i+1) * 9/\cZ S S')
   ⟨a3,a4,a5,L,rfl,hL,(λ l=>(mL l).trans ⟨λ ⟨p,q,h,h2,r⟩=>⟨p,q,by omega,h2,r⟩,λ ⟨p,q,h,h2,r⟩=>⟨p,q,by omega,h2,r⟩⟩),nL,kp⟩ ?_ ?_
  ·rintro k τ T' hk ⟨a3,a4,a5,L,rfl,hL,mL,nL,kp⟩;left;have ej:(i:Int)+1+(k:Int)=((i+1+k:Nat):Int):=by omega
   show ∃ τ' S',jq [aQ a,.ref S.length,.int i,.int ((i:Int)+1+(k:Int)),a4,a5] T'=.nx τ' S'/\_;rw [ej];obtain ⟨b4,b5,S',e1,h1,k1⟩:=Mu (S0:=S) (S:=T') (n:=n) (i:=i) (j:=i+1+k) (F:=S.length) (a:=a) (L:=L) (a4:=a4) (a5:=a5) la hn (by omega) (by omega) hL (by omega) (Nat.le_refl _) kp;refine ⟨_,_,e1,_,_,_,_,rfl,h1,λ l=>?_,?_,k1⟩
   ·constructor
    ·intro hl;by_cases c:a.getD i 0 < a.getD (i+1+k) 0/\qE a i (i+1+k)=true
     ·rw [if_pos c] at hl
      rcases mem_append.mp hl with z | z
      ·obtain ⟨p,q,h,r⟩:=(mL l).mp z;exact ⟨p,q,by omega,r⟩
      ·have:l=Iv.sw a i (i+1+k):=by simpa using z
       exact ⟨i,i+1+k,by omega,by omega,by omega,c.1,c.2,this⟩
     ·rw [if_neg c] at hl;obtain ⟨p,q,h,r⟩:=(mL l).mp hl;exact ⟨p,q,by omega,r⟩
    ·rintro ⟨p,q,h,h2,h3,h4,h5,h6⟩;by_cases e:p=i/\q=i+1+k
     ·obtain ⟨rfl,rfl⟩:=e;rw [if_pos ⟨h4,h5⟩,h6];simp
     ·have:l∈L:=(mL l).mpr ⟨p,q,by omega,h2,h3,h4,h5,h6⟩;split
      ·exact mem_append_left _ this
      ·exact this
   ·split
    ·rw [length_append];show _+1<=_;omega
    ·omega
  ·rintro τ T' ⟨a3,a4,a5,L,rfl,hL,mL,nL,kp⟩;refine ⟨_,_,rfl,_,_,_,_,L,rfl,hL,λ l=>(mL l).trans ⟨λ ⟨p,q,h,h2,r⟩=>⟨p,q,by omega,h2,r⟩,λ ⟨p,q,h,h2,h3,r⟩=>⟨p,q,by omega,h2,h3,r⟩⟩,by omega,kp⟩
 ·rintro τ T ⟨a3,a4,a5,a2,L,rfl,hL,mL,nL,kp⟩;simp only [bf,bools];exact ⟨_,L,_,rfl,hL,λ l=>(mL l).trans ⟨λ ⟨p,q,h,r⟩=>⟨p,q,r⟩,λ ⟨p,q,h2,h3,r⟩=>⟨p,q,by omega,h2,h3,r⟩⟩,by omega,kp,Nat.le_refl _⟩
end K19
namespace K19
open PySem L2 Am
open Bl
open Stp
open Fw (rg)
noncomputable def qb (x z:List Int):Bool:=@decide (Below x z) (Classical.propDecidable _)
theorem oX {x z:List Int}:qb x z=true ↔ Below x z:=@decide_eq_true_iff _ (Classical.propDecidable _)
theorem IS {x z:List Int}(h:¬ Below x z):qb x z=false:=by
 cases c:qb x z with
 | false=>rfl
 | true=>exact absurd (oX.mp c) h
theorem Jm {S:aE}{n:Nat}{x y:List Int}(px:x.Perm (rg n))(py:y.Perm (rg n))(h1:1<=n)(h2:n<=20):∃ S' v,eE [aQ x,aQ y] S=.ok v S'/\v.eU=false/\wA false v .non S'=.ok (.bl (qb x y)) S'/\cZ S S':=by
 obtain ⟨S',h,k⟩:=Gp (S:=S) px py h1 h2
 rcases h with ⟨e,hb⟩ | ⟨i,j,e,_,_,_,_,hb⟩
 ·exact ⟨S',_,e,rfl,by rw [oX.mpr hb];rfl,k⟩
 ·refine ⟨S',_,e,rfl,?_,k⟩;rw [IS λ z=>by have:=hb.1;have:=z i j;omega];rfl
noncomputable def te (ks:List (List Int)):Eb:=ks.map λ k=>(k,true)
theorem zU (ks:List (List Int)):(te ks).map (·.1)=ks:=by unfold te;rw [List.map_map];exact map_id' ks
theorem JG (ks:List (List Int)):(kb (te ks)).length=ks.length:=by unfold kb te;rw [length_map,length_map]
noncomputable def ad (ks:List (List Int))(w:List Int):List (List Int):=if w∈ks then ks else ks++[w]
theorem Dg {ks:List (List Int)}{w l:List Int}:l∈ad ks w ↔ l∈ks\/l=w:=by
 unfold ad;by_cases c:w∈ks
 ·rw [if_pos c];exact ⟨.inl,λ h=>h.elim (λ z=>z) λ z=>by rw [z];exact c⟩
 ·rw [if_neg c,mem_append,mem_singleton]
theorem Je {ks:List (List Int)}{w:List Int}(h:ks.Nodup):(ad ks w).Nodup:=by
 unfold ad;by_cases c:w∈ks
 ·rw [if_pos c];exact h
 ·rw [if_neg c,nodup_append];refine ⟨h,by simp,λ a ha b hb z=>c ?_⟩;have:b=w:=by simpa using hb
  rw [<- this,<- z];exact ha
theorem Mz {ks:List (List Int)}{w:List Int}:putD (kb (te ks)) w (.bl true)=kb (te (ad ks w)):=by
 by_cases c:w∈ks
 ·unfold putD ad;rw [nW,zU,decide_eq_true c,if_pos rfl,if_pos c];refine (map_congr_left λ kv hk=>?_).trans (map_id' _);unfold kb te at hk;rw [List.map_map] at hk;obtain ⟨k,_,rfl⟩:=mem_map.mp hk;show (if k=w then (k,A.bl true) else (k,A.bl true))=(k,A.bl true);split <;> rfl
 ·rw [yb (by rw [zU];exact c)];unfold ad te;rw [if_neg c,map_append];rfl
theorem Il {S:aE}{D:Nat}{ks:List (List Int)}{w:List Int}(h:aY S D=some (kb (te ks)))(hl:ks.length<=362880):oO (.ref D) (aQ w) (.bl true) S=.ok () (S.set D (.dct (kb (te (ad ks w))))):=by
 show opt (aY S D) _=_;rw [h,br];show opt (A.ints (w.map .int)) _=_;rw [iW,br,K9 (by rw [JG,sizeLine_eq];omega),Mz]
theorem GJ {S0 S:aE}{n D R:Nat}{ks L:List (List Int)}{a0 a1 a2 a3 a5 a6:A}{src:Ic}{T:aE}(hn:n<=9)(hD:aY S D=some (kb (te ks)))(hR:ak S R=some (L.map aQ))(hs:src [a0,a1,a2,a3,.ref D,a5,a6] T=.ok (dF R (L.map aQ).length) S)(pk:∀ k∈ks,k.Perm (rg n))(pL:∀ l∈L,l.Perm (rg n))(nk:ks.Nodup)(hDS:S0.length<=D)(hDR:D≠R)(kp:cZ S0 S) :
  ∃ (b6:A) (ks':List (List Int)) (S':aE),fH src (bH 6) fY [a0,a1,a2,a3,.ref D,a5,a6] T=.nx [a0,a1,a2,a3,.ref D,a5,b6] S'/\aY S' D=some (kb (te ks'))/\ks'.Nodup/\(∀ l,l∈ks' ↔ l∈ks\/l∈L)/\cZ S0 S'/\Kp (·=D) S S':=by
 refine rT (n:=R) (xs:=L.map aQ) (S1:=S) hs
  (λ i τ S'=>∃ (b6:A) (ks':List (List Int)),τ=[a0,a1,a2,a3,.ref D,a5,b6]/\aY S' D=some (kb (te ks'))/\ks'.Nodup/\(∀ l,l∈ks' ↔ l∈ks\/l∈L.take i)/\cZ S0 S'/\Kp (·=D) S S')
  (λ r=>∃ (b6:A) (ks':List (List Int)) (S':aE),r=.nx [a0,a1,a2,a3,.ref D,a5,b6] S'/\aY S' D=some (kb (te ks'))/\ks'.Nodup/\(∀ l,l∈ks' ↔ l∈ks\/l∈L)/\cZ S0 S'/\Kp (·=D) S S')
  ⟨_,ks,rfl,hD,nk,λ l=>by simp,kp,Kp.refl⟩ (λ i τ S' ⟨_,_,_,_,_,_,_,k⟩=>k.lst _ _ (λ z=>hDR z.symm) hR) ?_ ?_
 ·rintro i z τ S' hz ⟨b6,ks',rfl,hD',nk',mk,kp',k'⟩;rw [List.getElem?_map] at hz;obtain ⟨x,hx,rfl⟩:=map_eq_some_iff.mp hz;have ht:L.take (i+1)=L.take i++[x]:=by
   obtain ⟨hi,e⟩:=List.getElem?_eq_some_iff.mp hx;rw [List.take_succ_eq_append_getElem hi,e]
  have fw:ks'.length<=362880:=few hn nk' λ k hk=>by
   rcases (mk k).mp hk with z | z
   ·exact pk k z
   ·exact pL k (mem_of_mem_take z)
  have sd:=Il (w:=x) hD' fw;have gw:xE (ah 4) (ah 6) (.bl true) [a0,a1,a2,a3,.ref D,a5,aQ x] S'=.ok [a0,a1,a2,a3,.ref D,a5,aQ x] (S'.set D (.dct (kb (te (ad ks' x))))):=by
   show (oO (.ref D) (aQ x) (.bl true) S').bind _=_;rw [sd];rfl
  refine ⟨[a0,a1,a2,a3,.ref D,a5,aQ x],S',rfl,.inl ?_⟩;unfold fY;simp only [bf,bools,gw];refine ⟨_,_,rfl,_,_,rfl,sF (jZ hD'),Je nk',λ l=>?_,kp'.wk (.inr hDS),k'.wk (.inl rfl)⟩;rw [Dg,mk,ht,mem_append,mem_singleton,or_assoc]
 ·rintro τ S' ⟨b6,ks',rfl,hD',nk',mk,kp',k'⟩;rw [length_map,take_length] at mk;exact ⟨b6,ks',S',rfl,hD',nk',mk,kp',k'⟩
theorem BK {S0 S:aE}{n D F W k:Nat}{la fs:List (List Int)}{x y:List Int}{a0 a5 a6:A}(h1:1<=n)(hn:n<=9)(px:x.Perm (rg n))(py:y.Perm (rg n))(cb:Eu.Cb n x y k la fs)(hW:ak S W=some (la.map aQ))(hF:aY S F=some (kb (te fs)))(hD:aY S D=some (kb (te [])))
  (hDS:S0.length<=D) (hFS:S0.length<=F) (hDF:D≠F) (hDW:D≠W) (hFW:F≠W) (kp:cZ S0 S) :
  ∃ (b5 b6:A) (ks fs':List (List Int)) (S':aE),fH fV (bH 5) fX [a0,aQ y,.ref W,.ref F,.ref D,a5,a6] S=.nx [a0,aQ y,.ref W,.ref F,.ref D,b5,b6] S'/\aY S' D=some (kb (te ks))/\aY S' F=some (kb (te fs'))/\ks.Nodup/\fs'.Nodup /\
   (∀ l,l∈ks ↔ ∃ z∈la,Below z y/\Eu.Up n z l)/\(∀ f,f∈fs' ↔ f∈fs\/(f∈la/\Below f y))/\cZ S0 S':=by
 refine rT (n:=W) (xs:=la.map aQ) (S1:=S) (show fV _ _=_ from jz (by simp only [bf,bools]) hW)
  (λ i τ S'=>∃ (b5 b6:A) (ks fs':List (List Int)),τ=[a0,aQ y,.ref W,.ref F,.ref D,b5,b6]/\aY S' D=some (kb (te ks))/\aY S' F=some (kb (te fs'))/\ak S' W=some (la.map aQ)/\ks.Nodup/\fs'.Nodup /\
   (∀ l,l∈ks ↔ ∃ z∈la.take i,Below z y/\Eu.Up n z l)/\(∀ f,f∈fs' ↔ f∈fs\/(f∈la.take i/\Below f y))/\cZ S0 S')
  (λ r=>∃ (b5 b6:A) (ks fs':List (List Int)) (S':aE),r=.nx [a0,aQ y,.ref W,.ref F,.ref D,b5,b6] S'/\aY S' D=some (kb (te ks))/\aY S' F=some (kb (te fs'))/\ks.Nodup/\fs'.Nodup /\
   (∀ l,l∈ks ↔ ∃ z∈la,Below z y/\Eu.Up n z l)/\(∀ f,f∈fs' ↔ f∈fs\/(f∈la/\Below f y))/\cZ S0 S')
  ⟨_,_,[],fs,rfl,hD,hF,hW,nodup_nil,cb.nf,(λ l=>by simp),(λ l=>by simp),kp⟩ (λ i τ S' ⟨_,_,_,_,_,_,_,h,_⟩=>h) ?_ ?_
 ·rintro i z τ S' hz ⟨b5,b6,ks,fs',rfl,hD',hF',hW',nk,nf,mk,mf,kp'⟩;rw [List.getElem?_map] at hz;obtain ⟨v,hv,rfl⟩:=map_eq_some_iff.mp hz;have pv:=(cb.ly v (mem_of_getElem? hv)).1;have ht:la.take (i+1)=la.take i++[v]:=by
   obtain ⟨hi,e⟩:=List.getElem?_eq_some_iff.mp hv;rw [List.take_succ_eq_append_getElem hi,e]
  refine ⟨[a0,aQ y,.ref W,.ref F,.ref D,aQ v,b6],S',rfl,.inl ?_⟩;obtain ⟨S1,w,e1,wu,e2,k1⟩:=Jm (S:=S') pv py h1 (by omega);have hD1:=k1.dct _ _ (λ z=>z) hD';have hF1:=k1.dct _ _ (λ z=>z) hF';have hW1:=k1.lst _ _ (λ z=>z) hW';unfold fX;by_cases c:Below v y
  ·rw [oX.mpr c] at e2;have fw:fs'.length<=362880:=few hn nf λ f hf=>by
    rcases (mf f).mp hf with z | z
    ·exact ((cb.fd f).mp z).1
    ·exact (cb.ly f (mem_of_mem_take z.1)).1
   have sd:=Il (w:=v) hF1 fw;have gw:xE (ah 3) (ah 5) (.bl true) [a0,aQ y,.ref W,.ref F,.ref D,aQ v,b6] S1=.ok [a0,aQ y,.ref W,.ref F,.ref D,aQ v,b6] (S1.set F (.dct (kb (te (ad fs' v))))):=by
    show (oO (.ref F) (aQ v) (.bl true) S1).bind _=_;rw [sd];rfl
   obtain ⟨S2,hS2⟩:∃ S2,S2=S1.set F (.dct (kb (te (ad fs' v)))):=⟨_,rfl⟩;rw [<- hS2] at gw;have lF:=jZ hF1;have hD2:aY S2 D=some (kb (te ks)):=by rw [hS2,jl (Ne.symm hDF)];exact hD1
   have hF2:aY S2 F=some (kb (te (ad fs' v))):=by rw [hS2];exact sF lF
   have hW2:ak S2 W=some (la.map aQ):=by rw [hS2,qe hFW];exact hW1
   have k2:cZ S0 S2:=by rw [hS2];exact (kp'.trans k1).wk (.inr hFS)
   obtain ⟨R,L,S3,e3,hR,mL,lL,k3,hRS⟩:=yY (S:=S2) (Eu.ln pv) h1 hn;have hD3:=k3.dct _ _ (λ z=>z) hD2;have hF3:=k3.dct _ _ (λ z=>z) hF2;have hW3:=k3.lst _ _ (λ z=>z) hW2;have lD:=jZ hD2;have lF2:=jZ hF2;have lW2:=dB hW2;have hsrc:jC [a0,aQ y,.ref W,.ref F,.ref D,aQ v,b6] S2=.ok (dF R (L.map aQ).length) S3:=jz (by simp only [bf,bools,e3]) hR;obtain ⟨c6,ks',S4,e4,hD4,nk4,mk4,k4,k4'⟩:=GJ (S0:=S0) (n:=n) hn hD3 hR hsrc (λ l hl=>by
    obtain ⟨z,hz,_,u⟩:=(mk l).mp hl;exact (u.ok (cb.ly z (mem_of_mem_take hz)).1).1) (λ l hl=>(((mL l).mp hl).ok pv).1) nk hDS (by omega) (k2.trans k3)
   simp only [bf,bools,e1,e2,gw,e4];refine ⟨_,_,rfl,_,_,ks',ad fs' v,rfl,hD4,k4'.dct _ _ (λ z=>hDF z.symm) hF3,k4'.lst _ _ (λ z=>hDW z.symm) hW3,nk4,Je nf,λ l=>?_,λ f=>?_,k4⟩
   ·rw [mk4,mk,mL,ht];constructor
    ·rintro (⟨z,hz,r⟩ | u)
     ·exact ⟨z,mem_append_left _ hz,r⟩
     ·exact ⟨v,by simp,c,u⟩
    ·rintro ⟨z,hz,zb,u⟩
     rcases mem_append.mp hz with q | q
     ·exact .inl ⟨z,q,zb,u⟩
     ·have:z=v:=by simpa using q
      rw [this] at u;exact .inr u
   ·rw [Dg,mf,ht];constructor
    ·rintro ((h | ⟨h,h'⟩) | rfl)
     ·exact .inl h
     ·exact .inr ⟨mem_append_left _ h,h'⟩
     ·exact .inr ⟨by simp,c⟩
    ·rintro (h | ⟨h,h'⟩)
     ·exact .inl (.inl h)
     ·rcases mem_append.mp h with q | q
      ·exact .inl (.inr ⟨q,h'⟩)
      ·exact .inr (by simpa using q)
  ·rw [IS c] at e2;simp only [bf,bools,e1,e2];refine ⟨_,_,rfl,_,_,ks,fs',rfl,hD1,hF1,hW1,nk,nf,λ l=>?_,λ f=>?_,kp'.trans k1⟩
   ·rw [mk,ht];constructor
    ·rintro ⟨z,hz,r⟩;exact ⟨z,mem_append_left _ hz,r⟩
    ·rintro ⟨z,hz,zb,u⟩
     rcases mem_append.mp hz with q | q
     ·exact ⟨z,q,zb,u⟩
     ·have:z=v:=by simpa using q
      rw [this] at zb;exact absurd zb c
   ·rw [mf,ht];constructor
    ·rintro (h | ⟨h,h'⟩)
     ·exact .inl h
     ·exact .inr ⟨mem_append_left _ h,h'⟩
    ·rintro (h | ⟨h,h'⟩)
     ·exact .inl h
     ·rcases mem_append.mp h with q | q
      ·exact .inr ⟨q,h'⟩
      ·have:f=v:=by simpa using q
       rw [this] at h';exact absurd h' c
 ·rintro τ S' ⟨b5,b6,ks,fs',rfl,hD',hF',hW',nk,nf,mk,mf,kp'⟩;rw [length_map,take_length] at mk mf;exact ⟨b5,b6,ks,fs',S',rfl,hD',hF',nk,nf,mk,mf,kp'⟩
end K19
namespace K19
open PySem L2 Am
open Bl
open Stp
open Fw (rg)
theorem Jt {S:aE}{D:Nat}{ks:List (List Int)}{te':Te}{τ:List A}{cap:List (Option Nat)}{z0:List A}{c:Ex}(hc0:c τ S=.ok (.ref D) S)(hD:aY S D=some (kb (te ks)))(hl:ks.length<=16777216)(hc:d8 cap τ=z0)(q:List Int->Bool)
  (ht:∀ l∈ks,∀ T1,cZ (S.set D (.ins "" [])) T1->∃ T2,te' (aQ l::z0) T1=.ok (q l) T2/\cZ T1 T2):∃ T',bP (none::cap) (DC c) (bH 0) te' (ah 0) τ S=.ok (.ref T'.length) (T'++[.lst ((ks.filter q).map aQ)])/\cZ (S.set D (.ins "" [])) T':=by
 have ek:(kb (te ks)).map NY=ks.map aQ:=by unfold kb te;rw [List.map_map,List.map_map];rfl
 have hs:DC c τ S=.ok (dG (ks.map aQ)) (S.set D (.ins "" [])):=by
  unfold DC;rw [hc0,R.cI];show opt (aY S D) _=_;rw [hD,br,ek]
 obtain ⟨T',g1,g2⟩:=gf (s:=dG (ks.map aQ)) (g:=bH 0) (t:=te') (e:=ah 0) (P:=λ S1=>cZ (S.set D (.ins "" [])) S1) (T:=λ τ'=>∃ y,τ'=y::z0) (λ i=>aQ (ks.getD i [])) (λ i=>q (ks.getD i [])) (λ i=>aQ (ks.getD i []))
  (λ i S1 hi _=>by
   have hi:i < (ks.map aQ).length:=hi;rw [length_map] at hi;show (ks.map aQ)[i]?=_;rw [List.getElem?_map,getD_eq_getElem?_getD,List.getElem?_eq_getElem hi];rfl)
  (λ S1 _=>rfl)
  (λ i τ' S1 hi ⟨y,hy⟩ k=>by
   have hi:i < (ks.map aQ).length:=hi;rw [length_map] at hi;subst hy;have hm:ks.getD i []∈ks:=by rw [getD_eq_getElem?_getD,List.getElem?_eq_getElem hi];exact getElem_mem hi
   obtain ⟨T2,e2,k2⟩:=ht _ hm S1 k;exact ⟨aQ (ks.getD i [])::z0,S1,T2,rfl,e2,⟨_,rfl⟩,λ _=>k.trans k2,λ _=>⟨T2,by simp only [bf,bools],k.trans k2⟩⟩)
  (ks.map aQ).length 0 (d8 (none::cap) τ) (S.set D (.ins "" [])) rfl ⟨.unb,by rw [<- hc];rfl⟩ Kp.refl
 have ef:=pS ks q aQ [];rw [range_eq_range'] at ef;rw [length_map,ef] at g1;refine ⟨T',?_,g2⟩;unfold bP;rw [hs,R.cI];show R.cV (dS (dG (ks.map aQ)) _ _ _ (ks.map aQ).length 0 _ _) _=_;rw [length_map,g1,R.cD,bW (by rw [length_map];exact Nat.le_trans (length_filter_le _ _) hl)]
noncomputable def mu (τ:List A)(T:aE):Nat:=match τ.getD 2 .unb with
 | .ref W=>match ak T W with
  | some (.tup xs::_)=>200 - Iv.inv ((A.ints xs).getD [])
  | _=>0
 | _=>0
theorem sP {a0 a1:A}{r:List A}{T:aE}{W:Nat}{z:List Int}{la:List (List Int)}(h:ak T W=some ((z::la).map aQ)):mu (a0::a1::.ref W::r) T=200 - Iv.inv z:=by
 show (match ak T W with
  | some (.tup xs::_)=>200 - Iv.inv ((A.ints xs).getD [])
  | _=>0)=_
 rw [h];show 200 - Iv.inv ((A.ints (z.map .int)).getD [])=_;rw [iW];rfl
theorem Kf {a0 a1:A}{r:List A}{T:aE}{W:Nat}(h:ak T W=some (([]:List (List Int)).map aQ)):mu (a0::a1::.ref W::r) T=0:=by
 show (match ak T W with
  | some (.tup xs::_)=>200 - Iv.inv ((A.ints xs).getD [])
  | _=>0)=_
 rw [h];rfl
theorem M4 {n:Nat}{z:List Int}(hn:n<=9)(pz:z.Perm (rg n)):Iv.inv z<=81:=by
 have h:=Iv.sW z;rw [Eu.ln pz] at h;exact Nat.le_trans h (Nat.le_trans (Nat.mul_le_mul hn hn) (by decide))
theorem Ks {S:aE}{D:Nat}{ks:List (List Int)}(h:aY S D=some (kb (te ks)))(hne:∀ l∈ks,l≠[]):rR (.ref D) S=.ok (.ref S.length) (S++[.lst ((dR ks).map aQ)]):=by
 have ek:(kb (te ks)).map Prod.fst=ks:=by unfold kb te;rw [List.map_map,List.map_map];exact map_id' ks
 have ea:ks.all (λ ks=>!ks.isEmpty)=true:=all_eq_true.mpr λ l hl=>by
  cases l with
  | nil=>exact absurd rfl (hne _ hl)
  | cons _ _=>rfl
 show opt (aY S D) _=_;rw [h,br,ek,ea]
theorem Mn (τ:List A)(T:aE):zP τ T=.ok (.ref T.length) (T++[.dct []]):=rfl
theorem vV {S:aE}{n:Nat}{x y:List Int}(px:x.Perm (rg n))(py:y.Perm (rg n))(h1:1<=n)(hn:n<=9)(q:List Int->Bool)(hq:∀ z,z.Perm (rg n)->(q z=true ↔ Below x z/\Below z y)):∃ (V:Nat) (S':aE),cX [aQ x,aQ y] S=.ok (.ref V) S'/\ak S' V=some (((Eu.inj n n).filter q).map aQ)/\cZ S S'/\S.length<=V:=by
 have ly:=fB py;have key:=iX (t:=fU) (c:=fW)
  (λ τ T=>∃ (a4 a5 a6:A) (W k:Nat) (la fs:List (List Int)),τ=[aQ x,aQ y,.ref W,.ref (S.length+1),a4,a5,a6]/\ak T W=some (la.map aQ)/\aY T (S.length+1)=some (kb (te fs))/\Eu.Cb n x y k la fs/\cZ S T/\S.length+1≠W)
  mu (λ r=>∃ (V:Nat) (S':aE),RS.end (RS.seq r (cU (aS (f1 rR) (aj (ah 3) (aJ)))))=.ok (.ref V) S'/\ak S' V=some (((Eu.inj n n).filter q).map aQ)/\cZ S S'/\S.length<=V) ?_ 1000000
 ·unfold cX iP kD;have l1:(S++[O.lst [aQ x]]).length=S.length+1:=by simp
  simp only [bf,bools,fJ,Nat.reduceAdd,Nat.reduceSub,Mn,l1];have hW:ak (S++[O.lst [aQ x]]++[O.dct []]) S.length=some ([x].map aQ):=bL aU;refine key _ _ ⟨_,_,_,S.length,0,[x],[],rfl,hW,?_,Eu.Cb.start px,Kp.refl.lay.lay,by omega⟩ ?_
  ·rw [<- l1];exact tw
  ·rw [sP hW];omega
 ·rintro τ T ⟨a4,a5,a6,W,k,la,fs,rfl,hW,hF,cb,kp,hne⟩;have lW:=dB hW;have lF:=jZ hF;have ll:la.length<=362880:=few hn cb.nl λ l hl=>(cb.ly l hl).1;unfold fU
  cases la with
  | nil=>
   left;have so:=Ks hF λ l hl z=>by
    have:=fB ((cb.fd l).mp hl).1;rw [z] at this;simp at this;omega
   refine ⟨T,by simp only [bf,bools,hW];rfl,?_⟩;simp only [bf,bools,so];refine ⟨_,_,rfl,?_,kp.lay,kp.len⟩;rw [<- cb.told px q hq];exact aU
  | cons z la=>
   right;refine ⟨T,?_,.inl ?_⟩
   ·simp only [bf,bools,hW,length_map,length_cons];rw [decide_eq_true (show (0:Int) < ((la.length+1:Nat):Int) by omega)]
   have pz:=cb.ly z (mem_cons_self ..);have kp1:cZ S (T++[O.dct []]):=kp.lay;have hlen:=kp.len;obtain ⟨b5,b6,ks,fs',S1,e1,hD1,hF1,nk,nf,mk,mf,k1⟩:=BK (S0:=S) (S:=T++[O.dct []]) (D:=T.length) (F:=S.length+1) (W:=W) (a0:=aQ x) (a5:=a5) (a6:=a6) h1 hn px py cb (bL hW) (tW hF) tw hlen (by omega) (by omega) (by omega) hne kp1;have cb':=cb.next px py mk nk mf nf;have lk:ks.length<=362880:=few hn nk λ l hl=>by
    obtain ⟨v,hv,_,u⟩:=(mk l).mp hl;exact (u.ok (cb.ly v hv).1).1
   obtain ⟨T',e2,k2⟩:=Jt (S:=S1) (D:=T.length) (ks:=ks) (te':=iS (aG JX (aS (f1 cu) (aj (eFn bw (aj (ah 0) (aJ))) (aJ))) (aS (f1 cu) (aj (eFn bw (aj (ah 1) (aJ))) (aJ))))) (τ:=[aQ x,aQ y,.ref W,.ref (S.length+1),.ref T.length,b5,b6]) (cap:=[some 1]) (z0:=[aQ y]) (c:=ah 4) (by simp only [bf,bools]) hD1 (by omega) rfl (λ z=>decide (Iv.inv z<=Iv.inv y)) (λ l hl T1 _=>by
    obtain ⟨v,hv,_,u⟩:=(mk l).mp hl;have ll:=fB (u.ok (cb.ly v hv).1).1;obtain ⟨E,T2,f1,⟨us,g1,g2⟩,f3⟩:=NJ (S:=T1) (a:=l) (by omega) (by omega);obtain ⟨E',T3,f1',⟨us',g1',g2'⟩,f3'⟩:=NJ (S:=T2) (a:=y) (by omega) (by omega);refine ⟨T3,?_,f3.trans f3'⟩;have ed:decide ((Iv.inv l:Int)<=(Iv.inv y:Int))=decide (Iv.inv l<=Iv.inv y):=decide_eq_decide.mpr Int.ofNat_le;simp only [bf,bools,f1,g1,g2,f1',g1',g2',ed])
   unfold fW;simp only [bf,bools,Mn,e1,e2];have lD1:=jZ hD1;have hF2:aY T' (S.length+1)=some (kb (te fs')):=k2.dct _ _ (λ z=>z) (by rw [jl (by omega)];exact hF1);have hW2:ak (T'++[O.lst ((ks.filter λ z=>decide (Iv.inv z<=Iv.inv y)).map aQ)]) T'.length=some ((ks.filter λ z=>decide (Iv.inv z<=Iv.inv y)).map aQ):=aU;have lT':=jZ hF2;refine ⟨_,_,rfl,⟨_,_,_,T'.length,k+1,_,fs',rfl,hW2,tW hF2,cb',((k1.wk (.inr hlen)).trans k2).lay,by omega⟩,?_⟩;rw [sP hW];have h81:=M4 hn pz.1
   cases hc:(ks.filter λ z=>decide (Iv.inv z<=Iv.inv y)) with
   | nil=>
    rw [hc] at hW2;rw [Kf hW2];omega
   | cons z' la'=>
    rw [hc] at hW2 cb';rw [sP hW2];have p1:=cb'.ly z' (mem_cons_self ..);have:=pz.2.2;have:=p1.2.2;omega
end K19
namespace K19
open PySem L2 Am
open Bl
open Stp
open Fw (rg)
open Eu (inj ext)
theorem qM {f:A->A->Option Bool}:∀ {L:List A},(∀ x∈L,f x x=some true)->kq f L L=some true
 | [],_=>rfl
 | x::L,h=>by
  show (f x x).bind (λ p=>(kq f L L).map λ q=>p && q)=_;rw [h x (mem_cons_self ..),qM λ y hy=>h y (mem_cons_of_mem _ hy)];rfl
theorem Ld {S:aE}{a b:Nat}{L:List (List Int)}(h:ak S a=some (L.map aQ))(h':ak S b=some (L.map aQ)):qD S 12 (.ref a) (.ref b)=some true:=by
 show (ak S a).bind (λ xs=>(ak S b).bind λ ys=>kq (qD S 11) xs ys)=_;rw [h,bind_some,h',bind_some];refine qM λ x hx=>?_;obtain ⟨l,_,rfl⟩:=mem_map.mp hx;show kq (qD S 10) (l.map .int) (l.map .int)=_;rw [mZ,decide_eq_true rfl]
theorem Lu {S T:aE}{V:Nat}{L:List (List Int)}{src:Ic}{te:Te}{el:Ex}{τ:List A}{cap:List (Option Nat)}{z0:List A}(hs:src τ S=.ok (dF V (L.map aQ).length) T)(hV:ak T V=some (L.map aQ))(hl:L.length<=16777216)(hc:d8 cap τ=z0)(q:List Int->Bool)(f:List Int->A)
  (ht:∀ l∈L,∀ T1,cZ T T1->∃ T2,te (aQ l::z0) T1=.ok (q l) T2/\cZ T1 T2)
  (he:∀ l∈L,∀ T1,cZ T T1->∃ T2,el (aQ l::z0) T1=.ok (f l) T2/\cZ T1 T2):∃ T',bP (none::cap) src (bH 0) te el τ S=.ok (.ref T'.length) (T'++[.lst ((L.filter q).map f)])/\cZ T T':=by
 obtain ⟨T',g1,g2⟩:=gf (s:=dF V (L.map aQ).length) (g:=bH 0) (t:=te) (e:=el) (P:=λ S1=>cZ T S1) (T:=λ τ'=>∃ y,τ'=y::z0) (λ i=>aQ (L.getD i [])) (λ i=>q (L.getD i [])) (λ i=>f (L.getD i []))
  (λ i S1 hi k=>by
   have hi:i < (L.map aQ).length:=hi;rw [length_map] at hi;show (ak S1 V).bind _=_;rw [k.lst _ _ (λ z=>z) hV,bind_some,List.getElem?_map,getD_eq_getElem?_getD,List.getElem?_eq_getElem hi];rfl)
  (λ S1 k=>by
   show (match ak S1 V with
    | some ys=>decide (ys.length<=(L.map aQ).length)
    | none=>false)=true
   rw [k.lst _ _ (λ z=>z) hV];simp)
  (λ i τ' S1 hi ⟨y,hy⟩ k=>by
   have hi:i < (L.map aQ).length:=hi;rw [length_map] at hi;subst hy;have hm:L.getD i []∈L:=by rw [getD_eq_getElem?_getD,List.getElem?_eq_getElem hi];exact getElem_mem hi
   obtain ⟨T2,e2,k2⟩:=ht _ hm S1 k;exact ⟨aQ (L.getD i [])::z0,S1,T2,rfl,e2,⟨_,rfl⟩,λ _=>k.trans k2,λ _=>by
    obtain ⟨T3,e3,k3⟩:=he _ hm T2 (k.trans k2);exact ⟨T3,e3,(k.trans k2).trans k3⟩⟩)
  (L.map aQ).length 0 (d8 (none::cap) τ) T rfl ⟨.unb,by rw [<- hc];rfl⟩ Kp.refl
 have ef:=pS L q f [];rw [range_eq_range'] at ef;rw [length_map,ef] at g1;refine ⟨T',?_,g2⟩;unfold bP;rw [hs,R.cI];show R.cV (dS (dF V (L.map aQ).length) _ _ _ (L.map aQ).length 0 _ _) _=_;rw [length_map,g1,R.cD,bW (by rw [length_map];exact Nat.le_trans (length_filter_le _ _) hl)]
noncomputable def qx (x y z:List Int):Bool:=qb z y && qb x z
theorem mR {x y z:List Int}:qx x y z=true ↔ Below x z/\Below z y:=by
 unfold qx;rw [and_eq_true,oX,oX];exact ⟨λ h=>⟨h.2,h.1⟩,λ h=>⟨h.2,h.1⟩⟩
theorem ED {n:Nat}{x y:List Int}:∀ l∈(inj n n).filter (qx x y),l.Perm (rg n):=λ l hl=>Eu.mD.mp (mem_filter.mp hl).1
theorem FT {n:Nat}{x y:List Int}(hn:n<=9):((inj n n).filter (qx x y)).length<=362880:=few hn (by
 refine List.Pairwise.sublist filter_sublist (List.Pairwise.imp (λ {a b} h z=>?_) (Eu.oS n));rw [z,Sx.jj] at h;cases h) ED
theorem LI {S:aE}{n:Nat}{xs:List A}{bs:List Bool}(h:ak S n=some xs)(hb:A.BE xs=some bs):GP (.ref n) S=.ok (.bl (bs.all λ b=>b)) S:=by
 show opt (ak S n) _=_;rw [h];show opt (A.BE xs) _=_;rw [hb];rfl
theorem n5 {S:aE}{n:Nat}{x y:List Int}(px:x.Perm (rg n))(py:y.Perm (rg n))(h1:1<=n)(hn:n<=9)(ho:Iv.inv y<=Iv.inv x+4):∃ S',cR [aQ x,aQ y] S=.ok (.bl true) S'/\cZ S S':=by
 obtain ⟨D,S1,e1,hD1,k1,sD⟩:=vV (S:=S) px py h1 hn (qx x y) (λ z _=>mR);obtain ⟨V,S2,e2,hV,k2,sV⟩:=pB (S:=S1) px py h1 hn ho (qx x y) (λ z _=>mR);have hD2:=k2.lst _ _ (λ z=>z) hD1;have df:=FT (x:=x) (y:=y) hn;have q1:=J9 (Ld hV hD2);obtain ⟨T,e3,k3⟩:=Lu (S:=S2) (T:=S2) (V:=V) (L:=(inj n n).filter (qx x y)) (src:=eT (ah 3)) (te:=jN) (el:=aS (f2 Es) (aj (ah 0) (aj (eC (.ty "tuple")) (aJ)))) (τ:=[aQ x,aQ y,.ref D,.ref V,.unb]) (cap:=[]) (z0:=[])
  (jz (by simp only [bf,bools]) hV) hV (by omega) rfl (λ _=>true) (λ _=>.bl true) (λ l hl T1 _=>⟨T1,rfl,Kp.refl⟩) (λ l hl T1 _=>⟨T1,by simp only [bf,bools,show w9 .tup "tuple" = some true from rfl],Kp.refl⟩)
 have ea:GP (.ref T.length) (T++[O.lst ((((inj n n).filter (qx x y)).filter λ _=>true).map λ _=>A.bl true)])=.ok (.bl true) (T++[O.lst ((((inj n n).filter (qx x y)).filter λ _=>true).map λ _=>A.bl true)]):=by
  rw [LI aU (Ef (λ _=>true) _)];congr 2;rw [all_eq_true];intro b hb;obtain ⟨_,_,rfl⟩:=mem_map.mp hb;rfl
 obtain ⟨U,hU⟩:∃ U,U=T++[O.lst ((((inj n n).filter (qx x y)).filter λ _=>true).map λ _=>A.bl true)]:=⟨_,rfl⟩;rw [<- hU] at e3 ea;have kU:cZ S2 U:=by rw [hU];exact k3.lay
 have hD3:=kU.lst _ _ (λ z=>z) hD2;obtain ⟨T1,e4,k4⟩:=Lu (S:=U) (T:=U) (V:=D) (L:=(inj n n).filter (qx x y)) (src:=eT (ah 2)) (te:=iS (aG (nN false) (aG kX (aS (f1 cu) (aj (eFn bw (aj (ah 0) (aJ))) (aJ))) (eC (.int 2))) (eC (.int 1)))) (el:=ah 0) (τ:=[aQ x,aQ y,.ref D,.ref V,.unb]) (cap:=[]) (z0:=[])
  (jz (by simp only [bf,bools]) hD3) hD3 (by omega) rfl (λ z=>decide (Iv.inv z % 2=1)) aQ (λ l hl T1 _=>by
   have ll:=fB (ED l hl);obtain ⟨E,T2,f1,⟨us,g1,g2⟩,f3⟩:=NJ (S:=T1) (a:=l) (by omega) (by omega);have em:kX (.int (Iv.inv l:Nat)) (.int 2) T2=.ok (.int ((Iv.inv l:Int) % 2)) T2:=oZ (by decide);have eq:(((Iv.inv l:Int) % 2) == 1)=decide (Iv.inv l % 2=1):=by
    by_cases c:Iv.inv l % 2=1
    ·rw [decide_eq_true c,beq_iff_eq];omega
    ·rw [decide_eq_false c,beq_eq_false_iff_ne];omega
   exact ⟨T2,by simp only [bf,bools,f1,g1,g2,em,eq],f3⟩) (λ l hl T1 _=>⟨T1,by simp only [bf,bools],Kp.refl⟩)
 have lo:(((inj n n).filter (qx x y)).filter λ z=>decide (Iv.inv z % 2=1)).length<=362880:=Nat.le_trans (length_filter_le _ _) df;have hD4:ak (T1++[O.lst ((((inj n n).filter (qx x y)).filter λ z=>decide (Iv.inv z % 2=1)).map aQ)]) D=some (((inj n n).filter (qx x y)).map aQ):=bL (k4.lst _ _ (λ z=>z) hD3);generalize hk:(((inj n n).filter (qx x y)).filter λ z=>decide (Iv.inv z % 2=1))=od at e4 hD4 lo;have mm2:∀ S',gH (.int 2) (.int (od.length:Nat)) S'=.ok (.int (2 * (od.length:Int))) S':=λ S'=>uJ (by decide) (by decide);have kk:=((k1.trans k2).trans kU).trans k4;unfold cR kZ qj;by_cases c:x=y
 ·simp only [bf,bools,fJ,Nat.reduceAdd,Nat.reduceSub,e1,e2,hV,map_some,show w9 .lst "list" = some true from rfl,Bool.not_true,q1,e3,ea,e4,length_map,lZ,decide_eq_true c];exact ⟨_,rfl,kk.lay⟩
 ·have hh:2 * od.length=((inj n n).filter (qx x y)).length:=by
   by_cases hb:Below x y
   ·rw [<- hk];exact Eu.half px py hb c (qx x y) λ z _=>mR
   ·have e0:(inj n n).filter (qx x y)=[]:=filter_eq_nil_iff.mpr λ z _ hq=>by
     obtain ⟨z1,z2⟩:=mR.mp hq;exact hb (z1.trans z2)
    rw [<- hk,e0];rfl
  have q2:((2 * (od.length:Int)) == (((inj n n).filter (qx x y)).length:Int))=true:=by rw [beq_iff_eq];omega
  simp only [bf,bools,fJ,Nat.reduceAdd,Nat.reduceSub,e1,e2,hV,map_some,show w9 .lst "list" = some true from rfl,Bool.not_true,q1,e3,ea,e4,length_map,lZ,decide_eq_false c,mm2,hD4,q2];exact ⟨_,rfl,kk.lay⟩
end K19
namespace K19
open PySem L2 Am
open Bl
open Stp
open Fw (rg)
theorem pick {S:aE}{b V:Nat}{L:List (List Int)}(h:jG S b)(hV:ak S V=some (L.map aQ))(hL:L.length<=400)(hne:L≠[])(hb:V≠b):∃ (d:Int) (l:List Int) (S':aE),aV [.ref b,.int (L.length:Nat)] S=.ok (.int d) S'/\fL (L.map aQ) d=some (aQ l)/\l∈L/\ak S' V=some (L.map aQ)/\jG S' b/\Kp (·=b) S S':=by
 have l0:0 < L.length:=length_pos_iff.mpr hne;obtain ⟨d,S',e,d0,d1,hb',k⟩:=digit (m:=((L.length:Nat):Int)) h (by omega) (by omega);have hd:d.toNat < L.length:=by omega
 exact ⟨d,L[d.toNat],S',e,rQ (k:=d.toNat) (by omega) (by rw [List.getElem?_map,List.getElem?_eq_getElem hd];rfl),getElem_mem hd,k.lst _ _ hb hV,hb',k⟩
theorem Bm {S T U:aE}{b:Nat}(k:Kp (·=b) S T)(k':cZ T U):Kp (·=b) S U:=k.trans (Kp.of0 k')
theorem KJ {S0 S:aE}{b n:Nat}{f x:List Int}{a0 a2 a3 a5 a6 a7:A}(h:jG S b)(hb:b < S.length)(pf:f.Perm (rg n))(h1:1<=n)(hn:n<=9)(kp:Kp (·=b) S0 S):∃ (g:List Int) (b6:A) (S':aE),ow [a0,.ref b,a2,a3,aQ f,a5,a6,a7] S=.nx [a0,.ref b,a2,a3,aQ g,a5,b6,a7] S'/\g.Perm (rg n)/\Below f g/\Iv.inv g<=Iv.inv f+1/\jG S' b/\Kp (·=b) S0 S':=by
 obtain ⟨R,L,S1,e1,hR,mL,lL,k1,sR⟩:=yY (S:=S) (Eu.ln pf) h1 hn;have h1':=h.kp k1 λ z=>z;unfold ow;by_cases c:L=[]
 ·subst c;simp only [bf,bools,e1,hR];exact ⟨f,_,_,rfl,pf,Below.refl _,by omega,h1',Bm kp k1⟩
 ·obtain ⟨d,l,S2,e2,at2,ml,hR2,hb2,k2⟩:=pick h1' hR lL c (by omega);have l0:0 < L.length:=length_pos_iff.mpr c;obtain ⟨u1,u2,u3⟩:=((mL l).mp ml).ok pf;simp only [bf,bools,e1,hR,length_map,decide_eq_true (show (0:Int) < (L.length:Int) by omega),e2,hR2,at2];exact ⟨l,_,_,rfl,u1,u2,by omega,hb2,(Bm kp k1).trans k2⟩
theorem Hl {S0 S:aE}{b n:Nat}{f:List Int}{a1 a2 a4 a5 a6:A}(h:jG S b)(hb:b < S.length)(pf:f.Perm (rg n))(h1:1<=n)(hn:n<=9)(kp:Kp (·=b) S0 S):∃ (g:List Int) (b6:A) (S':aE),ji [.ref b,a1,a2,aQ f,a4,a5,a6] S=.nx [.ref b,a1,a2,aQ g,a4,a5,b6] S'/\g.Perm (rg n)/\Iv.inv g<=Iv.inv f+1/\jG S' b/\Kp (·=b) S0 S':=by
 obtain ⟨R,L,S1,e1,hR,mL,lL,k1,sR⟩:=yY (S:=S) (Eu.ln pf) h1 hn;have h1':=h.kp k1 λ z=>z;unfold ji;by_cases c:L=[]
 ·subst c;simp only [bf,bools,e1,hR];exact ⟨f,_,_,rfl,pf,by omega,h1',Bm kp k1⟩
 ·obtain ⟨d,l,S2,e2,at2,ml,hR2,hb2,k2⟩:=pick h1' hR lL c (by omega);have l0:0 < L.length:=length_pos_iff.mpr c;obtain ⟨u1,u2,u3⟩:=((mL l).mp ml).ok pf;simp only [bf,bools,e1,hR,length_map,decide_eq_true (show (0:Int) < (L.length:Int) by omega),e2,hR2,at2];exact ⟨l,_,_,rfl,u1,by omega,hb2,(Bm kp k1).trans k2⟩
noncomputable def cp (n:Nat)(l:List Int):List Int:=l.map λ t=>(n:Int)+1 - t
theorem Nf (n:Nat)(l:List Int):cp n (cp n l)=l:=by
 unfold cp;rw [List.map_map];refine (map_congr_left λ t _=>?_).trans (map_id' l);show (n:Int)+1 - ((n:Int)+1 - t)=t;omega
theorem sH {n k:Nat}{l:List Int}(h:k < l.length):(cp n l).getD k 0=(n:Int)+1 - l.getD k 0:=by
 unfold cp;rw [getD_eq_getElem?_getD,getD_eq_getElem?_getD,List.getElem?_map,List.getElem?_eq_getElem h];rfl
theorem Na {n:Nat}{f l:List Int}(pf:f.Perm (rg n))(h:Eu.Up n (cp n f) l):(cp n l).Perm (rg n)/\Iv.inv (cp n l)<=Iv.inv f:=by
 obtain ⟨i,j,h1,h2,h3,h4,rfl⟩:=h;have lf:=Eu.ln pf;have e:cp n (Iv.sw (cp n f) i j)=Iv.sw f i j:=by
  have e1:cp n (Iv.sw (cp n f) i j)=((cp n (cp n f)).set i ((n:Int)+1 - (cp n f).getD j 0)).set j ((n:Int)+1 - (cp n f).getD i 0):=by
   unfold Iv.sw;show List.map _ ((List.set _ _ _).set _ _)=_;rw [map_set,map_set];rfl
  rw [e1,Nf,sH (by omega),sH (by omega)];unfold Iv.sw;congr 1
  ·congr 1;omega
  ·omega
 rw [sH (by omega),sH (by omega)] at h3;have ps:(Iv.sw f i j).Perm (rg n):=(oE h1 (by omega)).trans pf;rw [e];refine ⟨ps,?_⟩;have r:=EG (a:=Iv.sw f i j) ps h1 h2 (by rw [MZ h1 (by omega),Mp h1 (by omega)];omega);rw [M8 h1 (by omega)] at r;exact (Eu.mono pf _ _ rfl ps r).1
theorem zL {S:aE}{n k:Nat}{cap:List (Option Nat)}{src:Ic}{τ:List A}{f g:List Int}(lf:f.length=n)(lg:g.length<=1000)(hs:src τ S=.ok (dG (g.map .int)) S)(hc:d8 cap τ=[aQ f]):bP (none::cap) src (bH 0) jN (aG aSub (aG cC (aS (f1 cu) (aj (ah 1) (aJ))) (eC (.int 1))) (ah 0)) τ S=.ok (.ref S.length) (S++[.lst ((cp n g).map .int)]):=by
 have ec:=uL (cap:=cap) (src:=src) (e:=aG aSub (aG cC (aS (f1 cu) (aj (ah 1) (aJ))) (eC (.int 1))) (ah 0)) (τ:=τ) (S:=S) (S1:=S) (xs:=g.map .int) hs
  (λ z=>match z with | .int m=>.int ((n:Int)+1 - m) | _=>.non) (λ z hz=>by
   obtain ⟨m,_,rfl⟩:=mem_map.mp hz;rw [hc];simp only [bf,bools,length_map,lf]) (by rw [length_map];omega)
 rw [ec,List.map_map];unfold cp;rw [List.map_map];rfl
theorem FP {S0 S:aE}{b n:Nat}{f:List Int}{a1 a2 a4 a5 a6:A}(h:jG S b)(hb:b < S.length)(pf:f.Perm (rg n))(h1:1<=n)(hn:n<=9)(kp:Kp (·=b) S0 S):∃ (g:List Int) (b5 b6:A) (S':aE),gu [.ref b,a1,a2,aQ f,a4,a5,a6] S=.nx [.ref b,a1,a2,aQ g,a4,b5,b6] S'/\g.Perm (rg n)/\Iv.inv g<=Iv.inv f/\jG S' b/\Kp (·=b) S0 S':=by
 have lf:=Eu.ln pf;have e0:=zL (S:=S) (cap:=[some 3]) (src:=eT (ah 3)) (τ:=[.ref b,a1,a2,aQ f,a4,a5,a6]) (k:=0) lf (show f.length<=1000 by omega) (rZ (by simp only [bf,bools])) rfl;have lc:(cp n f).length=n:=by unfold cp;rw [length_map,lf]
 obtain ⟨R,L,S1,e1,hR,mL,lL,k1,sR⟩:=yY (S:=S++[O.lst ((cp n f).map .int)]) lc h1 hn;have hT:ak (S++[O.lst ((cp n f).map .int)]) S.length=some ((cp n f).map .int):=aU;obtain ⟨T,e2,k2⟩:=Lu (S:=S++[O.lst ((cp n f).map .int)]) (T:=S1) (V:=R) (L:=L) (src:=eT (eFn cW (aj (aS (f1 fm) (aj (ah 5) (aJ))) (aJ)))) (te:=jN) (el:=aS (f1 fm) (aj (bP [none,some 1] (eT (ah 0)) (bH 0) (jN) (aG aSub (aG cC (aS (f1 cu) (aj (ah 1) (aJ))) (eC (.int 1))) (ah 0))) (aJ))) (τ:=[.ref b,a1,a2,aQ f,a4,.ref S.length,a6]) (cap:=[some 3]) (z0:=[aQ f])
  (jz (by simp only [bf,bools,hT,e1]) hR) hR (by omega) rfl (λ _=>true) (λ l=>aQ (cp n l)) (λ l hl T1 _=>⟨T1,rfl,Kp.refl⟩) (λ l hl T1 _=>by
   obtain ⟨i,j,q1,q2,_,_,q5⟩:=(mL l).mp hl;have ll:l.length=n:=by rw [q5,(oE q1 (by omega)).length_eq,lc]
   have e3:=zL (S:=T1) (cap:=[some 1]) (src:=eT (ah 0)) (τ:=[aQ l,aQ f]) (k:=0) lf (show l.length<=1000 by omega) (rZ (by simp only [bf,bools])) rfl;have h3:ak (T1++[O.lst ((cp n l).map .int)]) T1.length=some ((cp n l).map .int):=aU;exact ⟨T1++[O.lst ((cp n l).map .int)],by simp only [bf,bools,e3,h3],Kp.refl.lay⟩)
 have eL:((L.filter λ _=>true).map λ l=>aQ (cp n l))=(L.map (cp n)).map aQ:=by rw [List.filter_eq_self.mpr λ _ _=>rfl,List.map_map];rfl
 rw [eL] at e2;have k3:cZ S (T++[O.lst ((L.map (cp n)).map aQ)]):=((Kp.refl.lay.trans k1).trans k2).lay;have h3:=h.kp k3 λ z=>z;have hV:ak (T++[O.lst ((L.map (cp n)).map aQ)]) T.length=some ((L.map (cp n)).map aQ):=aU;have lS:=(Kp.refl.lay.trans k1:cZ S S1).len;have lT:=k2.len;unfold gu;by_cases c:L=[]
 ·subst c;simp only [bf,bools,e0,e2,hV];exact ⟨f,_,_,_,rfl,pf,Nat.le_refl _,h3,Bm kp k3⟩
 ·obtain ⟨d,l,S2,e4,at2,ml,hR2,hb2,k4⟩:=pick h3 hV (by rw [length_map];exact lL) (λ z=>c (List.map_eq_nil_iff.mp z)) (by omega);have l0:0 < L.length:=length_pos_iff.mpr c;obtain ⟨l',hl',rfl⟩:=mem_map.mp ml;obtain ⟨u1,u2⟩:=Na pf ((mL l').mp hl');rw [length_map] at e4;simp only [bf,bools,e0,e2,hV,length_map,decide_eq_true (show (0:Int) < (L.length:Int) by omega),e4,hR2,at2];exact ⟨cp n l',_,_,_,rfl,u1,u2,hb2,(Bm kp k3).trans k4⟩
theorem G7 {S:aE}{b n:Nat}{x:List Int}(h:jG S b)(px:x.Perm (rg n))(h1:1<=n)(hn:n<=9):∃ (y:List Int) (S':aE),fE [.ref b,aQ x] S=.ok (aQ y) S'/\y.Perm (rg n)/\Iv.inv y<=Iv.inv x+4/\jG S' b/\Kp (·=b) S S':=by
 obtain ⟨m,S1,e1,m0,m1,b1,k1⟩:=digit (m:=3) h (by decide) (by decide);have hbS:b < S.length:=by obtain ⟨_,_,e,_⟩:=h;exact dB e
 unfold fE kM pX;simp only [bf,bools,fJ,Nat.reduceAdd,Nat.reduceSub,e1];obtain ⟨f,c4,c5,c6,T,ef,pf,jf,bT,kT⟩:=eY (lo:=0) (hi:=m) (j:=4) (c:=gu) (τ:=[.ref b,aQ x,.int m,aQ x,.unb,.unb,.unb]) (S:=S1) (S1:=S1) (src:=jv) (show jv _ _=_ from dU (by simp only [bf,bools]) (cK (by omega) (by omega)))
  (λ i τ T=>∃ (f:List Int) (a4 a5 a6:A),τ=[.ref b,aQ x,.int m,aQ f,a4,a5,a6]/\f.Perm (rg n)/\Iv.inv f<=Iv.inv x/\jG T b/\Kp (·=b) S T)
  (λ r=>∃ (f:List Int) (a4 a5 a6:A) (T:aE),r=.nx [.ref b,aQ x,.int m,aQ f,a4,a5,a6] T/\f.Perm (rg n)/\Iv.inv f<=Iv.inv x/\jG T b/\Kp (·=b) S T) ⟨x,_,_,_,rfl,px,Nat.le_refl _,b1,k1⟩ (by
   rintro i τ T hi ⟨f,a4,a5,a6,rfl,pf,jf,bT,kT⟩;left;obtain ⟨g,b5,b6,S',e,pg,ig,bg,kg⟩:=FP (S0:=S) (a1:=aQ x) (a2:=.int m) (a4:=.int (0+(i:Int))) (a5:=a5) (a6:=a6) bT (by have:=kT.len;omega) pf h1 hn kT;exact ⟨_,_,e,g,_,_,_,rfl,pg,by omega,bg,kg⟩) (by
   rintro τ T ⟨f,a4,a5,a6,rfl,pf,jf,bT,kT⟩;exact ⟨f,a4,a5,a6,T,rfl,pf,jf,bT,kT⟩)
 rw [ef];simp only [bf,bools];obtain ⟨m',S2,e2,m0',m1',b2,k2⟩:=digit (m:=5) bT (by decide) (by decide);refine eY (lo:=0) (hi:=m') (S1:=S2) (show mF _ _=_ from dU (by simp only [bf,bools,e2]) (cK (by omega) (by omega)))
  (λ i τ T=>∃ (f:List Int) (a4 a5 a6:A),τ=[.ref b,aQ x,.int m,aQ f,a4,a5,a6]/\f.Perm (rg n)/\Iv.inv f<=Iv.inv x+i/\jG T b/\Kp (·=b) S T)
  (λ r=>∃ (y:List Int) (S':aE),RS.end (RS.seq r _)=.ok (aQ y) S'/\y.Perm (rg n)/\Iv.inv y<=Iv.inv x+4/\jG S' b/\Kp (·=b) S S') ⟨f,_,_,_,rfl,pf,by omega,b2,kT.trans k2⟩ ?_ ?_
 ·rintro i τ T hi ⟨f,a4,a5,a6,rfl,pf,jf,bT,kT⟩;left;obtain ⟨g,b6,S',e,pg,ig,bg,kg⟩:=Hl (S0:=S) (a1:=aQ x) (a2:=.int m) (a4:=.int (0+(i:Int))) (a5:=a5) (a6:=a6) bT (by have:=kT.len;omega) pf h1 hn kT;exact ⟨_,_,e,g,_,_,_,rfl,pg,by omega,bg,kg⟩
 ·rintro τ T ⟨f,a4,a5,a6,rfl,pf,jf,bT,kT⟩;simp only [bf,bools];exact ⟨f,T,rfl,pf,by omega,bT,kT⟩
end K19
namespace K19
open PySem L2 Am
open Bl
open Stp
open Fw (rg)
theorem anti {n:Nat}{x y:List Int}(px:x.Perm (rg n))(py:y.Perm (rg n))(h:Below x y)(h':Below y x):x=y:=by
 have a:=Eu.mono py _ _ rfl px h;have b:=Eu.mono px _ _ rfl py h';exact a.2 (by omega)
theorem K6 (ns:List Int)(hl:ns.length<=63):∃ S',qN [.frz (ns.map .int)] []=.ok (.bl true) S':=by
 obtain ⟨S1,e1,b1,kp1⟩:=GH (S:=[]) (ns:=ns) (k:=0) (by decide) (by decide);have e1:fq [.frz (ns.map .int),.int 0] []=.ok (.ref 0) S1:=e1;have b1:jG S1 0:=b1;have l1:0 < S1.length:=by obtain ⟨_,_,e,_⟩:=b1;exact dB e
 obtain ⟨d,S2,e2,d0,d1,b2,kp2⟩:=digit (m:=4) b1 (by decide) (by decide);obtain ⟨n,hn⟩:∃ n:Nat,(n:Int)=6+d:=⟨(6+d).toNat,by omega⟩;have h1:1<=n:=by omega
 have h9:n<=9:=by omega
 obtain ⟨x,S3,e3,px,b3,kp3⟩:=uo (n:=(n:Int)) b2 (by omega) (by omega);have px:x.Perm (rg n):=px;obtain ⟨m,S4,e4,m0,m1,b4,kp4⟩:=digit (m:=5) b3 (by decide) (by decide);have l4:0 < S4.length:=by have:=kp2.len;have:=kp3.len;have:=kp4.len;omega
 obtain ⟨y,c5,c6,T,ef,py,xy,iy,bT,kT⟩:=eY (lo:=0) (hi:=m) (j:=5) (c:=ow) (τ:=[.frz (ns.map .int),.ref 0,.int n,aQ x,aQ x,.unb,.unb,.unb]) (S:=S3) (S1:=S4) (src:=s_) (show s_ _ _=_ from dU (by simp only [bf,bools,e4]) (cK (by omega) (by omega)))
  (λ i τ T=>∃ (f:List Int) (a5 a6:A),τ=[.frz (ns.map .int),.ref 0,.int n,aQ x,aQ f,a5,a6,.unb]/\f.Perm (rg n)/\Below x f/\Iv.inv f<=Iv.inv x+i/\jG T 0/\Kp (·=0) S4 T)
  (λ r=>∃ (f:List Int) (a5 a6:A) (T:aE),r=.nx [.frz (ns.map .int),.ref 0,.int n,aQ x,aQ f,a5,a6,.unb] T/\f.Perm (rg n)/\Below x f/\Iv.inv f<=Iv.inv x+4/\jG T 0/\Kp (·=0) S4 T) ⟨x,_,_,rfl,px,Below.refl _,Nat.le_refl _,b4,Kp.refl⟩ (by
   rintro i τ T hi ⟨f,a5,a6,rfl,pf,xf,jf,bT,kT⟩;left;obtain ⟨g,b6,S',e,pg,fg,ig,bg,kg⟩:=KJ (S0:=S4) (x:=x) (a0:=.frz (ns.map .int)) (a2:=.int n) (a3:=aQ x) (a5:=.int (0+(i:Int))) (a6:=a6) (a7:=.unb) bT (by have:=kT.len;omega) pf h1 h9 kT;exact ⟨_,_,e,g,_,_,rfl,pg,xf.trans fg,by omega,bg,kg⟩) (by
   rintro τ T ⟨f,a5,a6,rfl,pf,xf,jf,bT,kT⟩;exact ⟨f,a5,a6,T,rfl,pf,xf,by omega,bT,kT⟩)
 obtain ⟨t,S5,e5,pt,b5,kp5⟩:=uo (n:=(n:Int)) bT (by omega) (by omega);have pt:t.Perm (rg n):=pt;obtain ⟨S6,e6,k6⟩:=n5 (S:=S5) px py h1 h9 iy;obtain ⟨S7,e7,k7⟩:=n5 (S:=S6) px px h1 h9 (by omega);obtain ⟨z,S8,e8,pz,iz,b8,k8⟩:=G7 ((b5.kp k6 λ z=>z).kp k7 λ z=>z) px h1 h9;obtain ⟨S9,e9,k9⟩:=n5 (S:=S8) px pz h1 h9 iz;have lx:=fB px;have lt:=fB pt;obtain ⟨E,S10,e10,⟨us,g1,g2⟩,k10⟩:=NJ (S:=S9) (a:=t) (by omega) (by omega);obtain ⟨E',S11,e11,⟨us',g1',g2'⟩,k11⟩:=NJ (S:=S10) (a:=x) (by omega) (by omega);have fin:∀ U:aE,∃ S',RS.end (cU (LQ (aG (nN false) (ah 3) (ah 4)) (aG (nN false) (eFn dm (aj (ah 4) (aj (ah 3) (aJ)))) (kB (aJ)))) [.frz (ns.map .int),.ref 0,.int n,aQ x,aQ y,c5,c6,aQ t] U)=.ok (.bl true) S':=λ U=>by
  by_cases c:x=y
  ·simp only [bf,bools,lZ,decide_eq_true c];exact ⟨_,rfl⟩
  ·obtain ⟨V,U1,f1,hV,_,_⟩:=pB (S:=U) py px h1 h9 (by have:=(Eu.mono py _ _ rfl px xy).1;omega) (qx y x) (λ z _=>mR);have e0:(Eu.inj n n).filter (qx y x)=[]:=filter_eq_nil_iff.mpr λ w _ hq=>by
    obtain ⟨z1,z2⟩:=mR.mp hq;exact c (anti px py xy (z1.trans z2))
   rw [e0] at hV;have q:nN false (.ref V) (.ref U1.length) (U1++[O.lst []])=.ok (.bl true) (U1++[O.lst []]):=BH (eq_nil (bL hV) aU);simp only [bf,bools,lZ,decide_eq_false c,f1,q];exact ⟨_,rfl⟩
 unfold qN EH HL;simp only [bf,bools,fJ,Nat.reduceAdd,Nat.reduceSub,e1,e2,<- hn,e3];rw [ef];simp only [bf,bools,e5,e6,e7,e8,e9,Bool.not_true,e10,g1,g2,e11,g1',g2'];by_cases c:Iv.inv t<=Iv.inv x+4
 ·obtain ⟨S12,e12,k12⟩:=n5 (S:=S11) px pt h1 h9 c;obtain ⟨S',f⟩:=fin S12;simp only [bf,bools,decide_eq_true (show (Iv.inv t:Int)<=(Iv.inv x:Int)+4 by omega),e12,Bool.not_true];simp only [bf,bools] at f;exact ⟨S',f⟩
 ·obtain ⟨S',f⟩:=fin S11;simp only [bf,bools,decide_eq_false (show ¬ (Iv.inv t:Int)<=(Iv.inv x:Int)+4 by omega)];simp only [bf,bools] at f;exact ⟨S',f⟩
end K19
namespace K19
open PySem L2 Am
theorem all_mk {l:PySem.W.OpenLaw}{w:World}{K:PySem.W.Frag}{h:Heap}{mg:Str->Option Value}{fa f1 f2 f3 f4 f5 f6 f7 f8 f9 f10 f11 f12 f13 f14 f15 f16 f17 f18 f19 f20 f21 f22 f23 f24:Addr}(X:K.In h)(G:h.Ns mainGlobals mg)(hfa:mg "law" = some (.ref fa))
  {od1 an1 od2 an2 od3 an3 od4 an4 od5 an5 od6 an6 od7 an7 od8 an8 od9 an9 od10 an10 od11 an11 od12 an12 od13 an13 od14 an14 od15 an15 od16 an16 od17 an17 od18 an18 od19 an19 od20 an20 od21 an21 od22 an22 od23 an23 od24 an24:Option Addr} {sl1 sl2 sl3 sl4 sl5 sl6 sl7 sl8 sl9 sl10 sl11 sl12 sl13 sl14 sl15 sl16 sl17 sl18 sl19 sl20 sl21 sl22 sl23 sl24:Array (Option Value)} {oc1 kV1 dc1 pm1 cd1 ct1 oc2 kV2 dc2 pm2 cd2 ct2 oc3 kV3 dc3 pm3 cd3 ct3 oc4 kV4 dc4 pm4 cd4 ct4 oc5 kV5 dc5 pm5 cd5 ct5 oc6 kV6 dc6 pm6 cd6 ct6 oc7 kV7 dc7 pm7 cd7 ct7 oc8 kV8 dc8 pm8 cd8 ct8 oc9 kV9 dc9 pm9 cd9 ct9 oc10 kV10 dc10 pm10 cd10 ct10 oc11 kV11 dc11 pm11 cd11 ct11 oc12 kV12 dc12 pm12 cd12 ct12 oc13 kV13 dc13 pm13 cd13 ct13 oc14 kV14 dc14 pm14 cd14 ct14 oc15 kV15 dc15 pm15 cd15 ct15 oc16 kV16 dc16 pm16 cd16 ct16 oc17 kV17 dc17 pm17 cd17 ct17 oc18 kV18 dc18 pm18 cd18 ct18 oc19 kV19 dc19 pm19 cd19 ct19 oc20 kV20 dc20 pm20 cd20 ct20 oc21 kV21 dc21 pm21 cd21 ct21 oc22 kV22 dc22 pm22 cd22 ct22 oc23 kV23 dc23 pm23 cd23 ct23 oc24 kV24 dc24 pm24 cd24 ct24:Value}
  (a1:PySem.W.nsIn K mainGlobals "need_pair" = some (some (.ref f1))) (l1:K.lookup f1=some ⟨oc1,od1,.func (PySem.W.fnOf "need_pair" "need_pair" (bx eN) (bh eN) (aH eN) .none kV1 dc1 pm1 an1 cd1 ct1),sl1⟩) (c1:PySem.W.codeIn K cd1 "need_pair" = true) (k1:PySem.W.keepIn K (.ref f1)=true)
  (a2:PySem.W.nsIn K mainGlobals "exchanged_places" = some (some (.ref f2))) (l2:K.lookup f2=some ⟨oc2,od2,.func (PySem.W.fnOf "exchanged_places" "exchanged_places" (bx bS) (bh bS) (aH bS) .none kV2 dc2 pm2 an2 cd2 ct2),sl2⟩) (c2:PySem.W.codeIn K cd2 "exchanged_places" = true) (k2:PySem.W.keepIn K (.ref f2)=true)
  (a3:PySem.W.nsIn K mainGlobals "place_pairs" = some (some (.ref f3))) (l3:K.lookup f3=some ⟨oc3,od3,.func (PySem.W.fnOf "place_pairs" "place_pairs" (bx dj) (bh dj) (aH dj) .none kV3 dc3 pm3 an3 cd3 ct3),sl3⟩) (c3:PySem.W.codeIn K cd3 "place_pairs" = true) (k3:PySem.W.keepIn K (.ref f3)=true)
  (a4:PySem.W.nsIn K mainGlobals "wrong_pairs" = some (some (.ref f4))) (l4:K.lookup f4=some ⟨oc4,od4,.func (PySem.W.fnOf "wrong_pairs" "wrong_pairs" (bx dh) (bh dh) (aH dh) .none kV4 dc4 pm4 an4 cd4 ct4),sl4⟩) (c4:PySem.W.codeIn K cd4 "wrong_pairs" = true) (k4:PySem.W.keepIn K (.ref f4)=true)
  (a5:PySem.W.nsIn K mainGlobals "length" = some (some (.ref f5))) (l5:K.lookup f5=some ⟨oc5,od5,.func (PySem.W.fnOf "length" "length" (bx iZ) (bh iZ) (aH iZ) .none kV5 dc5 pm5 an5 cd5 ct5),sl5⟩) (c5:PySem.W.codeIn K cd5 "length" = true) (k5:PySem.W.keepIn K (.ref f5)=true)
  (a6:PySem.W.nsIn K mainGlobals "first_above_nought" = some (some (.ref f6))) (l6:K.lookup f6=some ⟨oc6,od6,.func (PySem.W.fnOf "first_above_nought" "first_above_nought" (bx bJ) (bh bJ) (aH bJ) .none kV6 dc6 pm6 an6 cd6 ct6),sl6⟩) (c6:PySem.W.codeIn K cd6 "first_above_nought" = true) (k6:PySem.W.keepIn K (.ref f6)=true)
  (a7:PySem.W.nsIn K mainGlobals "bar" = some (some (.ref f7))) (l7:K.lookup f7=some ⟨oc7,od7,.func (PySem.W.fnOf "bar" "bar" (bx rG) (bh rG) (aH rG) .none kV7 dc7 pm7 an7 cd7 ct7),sl7⟩) (c7:PySem.W.codeIn K cd7 "bar" = true) (k7:PySem.W.keepIn K (.ref f7)=true)
  (a8:PySem.W.nsIn K mainGlobals "is_below" = some (some (.ref f8))) (l8:K.lookup f8=some ⟨oc8,od8,.func (PySem.W.fnOf "is_below" "is_below" (bx fy) (bh fy) (aH fy) .none kV8 dc8 pm8 an8 cd8 ct8),sl8⟩) (c8:PySem.W.codeIn K cd8 "is_below" = true) (k8:PySem.W.keepIn K (.ref f8)=true)
  (a9:PySem.W.nsIn K mainGlobals "need_bounds" = some (some (.ref f9))) (l9:K.lookup f9=some ⟨oc9,od9,.func (PySem.W.fnOf "need_bounds" "need_bounds" (bx di) (bh di) (aH di) .none kV9 dc9 pm9 an9 cd9 ct9),sl9⟩) (c9:PySem.W.codeIn K cd9 "need_bounds" = true) (k9:PySem.W.keepIn K (.ref f9)=true)
  (a10:PySem.W.nsIn K mainGlobals "is_step" = some (some (.ref f10))) (l10:K.lookup f10=some ⟨oc10,od10,.func (PySem.W.fnOf "is_step" "is_step" (bx gG) (bh gG) (aH gG) .none kV10 dc10 pm10 an10 cd10 ct10),sl10⟩) (c10:PySem.W.codeIn K cd10 "is_step" = true) (k10:PySem.W.keepIn K (.ref f10)=true)
  (a11:PySem.W.nsIn K mainGlobals "steps" = some (some (.ref f11))) (l11:K.lookup f11=some ⟨oc11,od11,.func (PySem.W.fnOf "steps" "steps" (bx kj) (bh kj) (aH kj) .none kV11 dc11 pm11 an11 cd11 ct11),sl11⟩) (c11:PySem.W.codeIn K cd11 "steps" = true) (k11:PySem.W.keepIn K (.ref f11)=true)
  (a12:PySem.W.nsIn K mainGlobals "steps_above" = some (some (.ref f12))) (l12:K.lookup f12=some ⟨oc12,od12,.func (PySem.W.fnOf "steps_above" "steps_above" (bx dg) (bh dg) (aH dg) .none kV12 dc12 pm12 an12 cd12 ct12),sl12⟩) (c12:PySem.W.codeIn K cd12 "steps_above" = true) (k12:PySem.W.keepIn K (.ref f12)=true)
  (a13:PySem.W.nsIn K mainGlobals "between" = some (some (.ref f13))) (l13:K.lookup f13=some ⟨oc13,od13,.func (PySem.W.fnOf "between" "between" (bx gv) (bh gv) (aH gv) .none kV13 dc13 pm13 an13 cd13 ct13),sl13⟩) (c13:PySem.W.codeIn K cd13 "between" = true) (k13:PySem.W.keepIn K (.ref f13)=true)
  (a14:PySem.W.nsIn K mainGlobals "_law_bag" = some (some (.ref f14))) (l14:K.lookup f14=some ⟨oc14,od14,.func (PySem.W.fnOf "_law_bag" "_law_bag" (bx gC) (bh gC) (aH gC) .none kV14 dc14 pm14 an14 cd14 ct14),sl14⟩) (c14:PySem.W.codeIn K cd14 "_law_bag" = true) (k14:PySem.W.keepIn K (.ref f14)=true)
  (a15:PySem.W.nsIn K mainGlobals "_law_digit" = some (some (.ref f15))) (l15:K.lookup f15=some ⟨oc15,od15,.func (PySem.W.fnOf "_law_digit" "_law_digit" (bx eg) (bh eg) (aH eg) .none kV15 dc15 pm15 an15 cd15 ct15),sl15⟩) (c15:PySem.W.codeIn K cd15 "_law_digit" = true) (k15:PySem.W.keepIn K (.ref f15)=true)
  (a16:PySem.W.nsIn K mainGlobals "_law_any" = some (some (.ref f16))) (l16:K.lookup f16=some ⟨oc16,od16,.func (PySem.W.fnOf "_law_any" "_law_any" (bx gF) (bh gF) (aH gF) .none kV16 dc16 pm16 an16 cd16 ct16),sl16⟩) (c16:PySem.W.codeIn K cd16 "_law_any" = true) (k16:PySem.W.keepIn K (.ref f16)=true)
  (a17:PySem.W.nsIn K mainGlobals "_law_order" = some (some (.ref f17))) (l17:K.lookup f17=some ⟨oc17,od17,.func (PySem.W.fnOf "_law_order" "_law_order" (bx eB) (bh eB) (aH eB) .none kV17 dc17 pm17 an17 cd17 ct17),sl17⟩) (c17:PySem.W.codeIn K cd17 "_law_order" = true) (k17:PySem.W.keepIn K (.ref f17)=true)
  (a18:PySem.W.nsIn K mainGlobals "_law_bar" = some (some (.ref f18))) (l18:K.lookup f18=some ⟨oc18,od18,.func (PySem.W.fnOf "_law_bar" "_law_bar" (bx gE) (bh gE) (aH gE) .none kV18 dc18 pm18 an18 cd18 ct18),sl18⟩) (c18:PySem.W.codeIn K cd18 "_law_bar" = true) (k18:PySem.W.keepIn K (.ref f18)=true)
  (a19:PySem.W.nsIn K mainGlobals "_law_wrong" = some (some (.ref f19))) (l19:K.lookup f19=some ⟨oc19,od19,.func (PySem.W.fnOf "_law_wrong" "_law_wrong" (bx eF) (bh eF) (aH eF) .none kV19 dc19 pm19 an19 cd19 ct19),sl19⟩) (c19:PySem.W.codeIn K cd19 "_law_wrong" = true) (k19:PySem.W.keepIn K (.ref f19)=true)
  (a20:PySem.W.nsIn K mainGlobals "_law_up" = some (some (.ref f20))) (l20:K.lookup f20=some ⟨oc20,od20,.func (PySem.W.fnOf "_law_up" "_law_up" (bx ja) (bh ja) (aH ja) .none kV20 dc20 pm20 an20 cd20 ct20),sl20⟩) (c20:PySem.W.codeIn K cd20 "_law_up" = true) (k20:PySem.W.keepIn K (.ref f20)=true)
  (a21:PySem.W.nsIn K mainGlobals "_law_climbed" = some (some (.ref f21))) (l21:K.lookup f21=some ⟨oc21,od21,.func (PySem.W.fnOf "_law_climbed" "_law_climbed" (bx c_) (bh c_) (aH c_) .none kV21 dc21 pm21 an21 cd21 ct21),sl21⟩) (c21:PySem.W.codeIn K cd21 "_law_climbed" = true) (k21:PySem.W.keepIn K (.ref f21)=true)
  (a22:PySem.W.nsIn K mainGlobals "_law_good" = some (some (.ref f22))) (l22:K.lookup f22=some ⟨oc22,od22,.func (PySem.W.fnOf "_law_good" "_law_good" (bx fD) (bh fD) (aH fD) .none kV22 dc22 pm22 an22 cd22 ct22),sl22⟩) (c22:PySem.W.codeIn K cd22 "_law_good" = true) (k22:PySem.W.keepIn K (.ref f22)=true)
  (a23:PySem.W.nsIn K mainGlobals "_law_near" = some (some (.ref f23))) (l23:K.lookup f23=some ⟨oc23,od23,.func (PySem.W.fnOf "_law_near" "_law_near" (bx fj) (bh fj) (aH fj) .none kV23 dc23 pm23 an23 cd23 ct23),sl23⟩) (c23:PySem.W.codeIn K cd23 "_law_near" = true) (k23:PySem.W.keepIn K (.ref f23)=true)
  (a24:PySem.W.nsIn K mainGlobals "law" = some (some (.ref f24))) (l24:K.lookup f24=some ⟨oc24,od24,.func (PySem.W.fnOf "law" "law" (bx l_) (bh l_) (aH l_) .none kV24 dc24 pm24 an24 cd24 ct24),sl24⟩) (c24:PySem.W.codeIn K cd24 "law" = true) (k24:PySem.W.keepIn K (.ref f24)=true)
  (QO:PySem.W.nsIn K mainGlobals "len" = some none)
  (QS:PySem.W.nsIn K mainGlobals "list" = some none)
  (QT:PySem.W.nsIn K mainGlobals "tuple" = some none)
  (QU:PySem.W.nsIn K mainGlobals "range" = some none)
  (QV:PySem.W.nsIn K mainGlobals "max" = some none)
  (QW:PySem.W.nsIn K mainGlobals "min" = some none)
  (QX:PySem.W.nsIn K mainGlobals "any" = some none)
  (QY:PySem.W.nsIn K mainGlobals "sorted" = some none)
  (QZ:PySem.W.nsIn K mainGlobals "abs" = some none)
  (Q0:PySem.W.nsIn K mainGlobals "int" = some none)
  (Q2:PySem.W.nsIn K mainGlobals "all" = some none)
  (Q3:PySem.W.nsIn K mainGlobals "isinstance" = some none)
  {QL:Tok} (Q4:PySem.W.nsIn K mainGlobals "MOST_CLIMBED_PAIRS" = some (some (.int 4 QL)))
  {QM:Tok} (Q5:PySem.W.nsIn K mainGlobals "MOST_CLIMBED_THINGS" = some (some (.int 9 QM)))
  {QN:Tok} (Q6:PySem.W.nsIn K mainGlobals "MOST_THINGS" = some (some (.int 6 QN)))
  : ∃ fd:FuncData,(∀ (s:Shared) (v:Value),BindsTo s fd ⟨[v],[]⟩ [("_law_script",v)])/\∀ base:Heap,K.In base->base.Ns mainGlobals mg->FnOk l.prog w K mg base j9 7 fa fd ["_law_script"] (lC K 1 qN):=by
 have e:=hfa.symm.trans (PySem.W.mg_of X G a24)
 cases e
 have P8:=PySem.W.mg_none_of X G QO;have Qc:=PySem.W.mg_none_of X G QS;have Qa:=PySem.W.mg_none_of X G QT;have P9:=PySem.W.mg_none_of X G QU;have Qi:=PySem.W.mg_none_of X G QV;have Qu:=PySem.W.mg_none_of X G QW;have Qv:=PySem.W.mg_none_of X G QX;have Qf:=PySem.W.mg_none_of X G QY;have QE:=PySem.W.mg_none_of X G QZ;have Qg:=PySem.W.mg_none_of X G Q0;have QH:=PySem.W.mg_none_of X G Q2;have Qo:=PySem.W.mg_none_of X G Q3;have Qz:∃ t,mg "MOST_CLIMBED_PAIRS" = some (.int 4 t):=⟨QL,PySem.W.mg_of X G Q4⟩;have QA:∃ t,mg "MOST_CLIMBED_THINGS" = some (.int 9 t):=⟨QM,PySem.W.mg_of X G Q5⟩;have QB:∃ t,mg "MOST_THINGS" = some (.int 6 t):=⟨QN,PySem.W.mg_of X G Q6⟩;have F1:=bV (st:=eN) l1 c1 k1;have i1:=F1.binds (ps:=["one", "other"]) λ _ _ _ _ _ _=>Ax λ _ _=>rfl;have F2:=bV (st:=bS) l2 c2 k2;have i2:=F2.binds (ps:=["order", "i", "j"]) λ _ _ _ _ _ _=>Pp λ _ _ _=>rfl;have F3:=bV (st:=dj) l3 c3 k3;have i3:=F3.binds (ps:=["n"]) λ _ _ _ _ _ _=>Ij λ _=>rfl;have F4:=bV (st:=dh) l4 c4 k4;have i4:=F4.binds (ps:=["order"]) λ _ _ _ _ _ _=>Ij λ _=>rfl;have F5:=bV (st:=iZ) l5 c5 k5;have i5:=F5.binds (ps:=["order"]) λ _ _ _ _ _ _=>Ij λ _=>rfl;have F6:=bV (st:=bJ) l6 c6 k6;have i6:=F6.binds (ps:=["numbers"]) λ _ _ _ _ _ _=>Ij λ _=>rfl;have F7:=bV (st:=rG) l7 c7 k7;have i7:=F7.binds (ps:=["one", "other"]) λ _ _ _ _ _ _=>Ax λ _ _=>rfl;have F8:=bV (st:=fy) l8 c8 k8;have i8:=F8.binds (ps:=["one", "other"]) λ _ _ _ _ _ _=>Ax λ _ _=>rfl;have F9:=bV (st:=di) l9 c9 k9;have i9:=F9.binds (ps:=["one", "other", "free_things", "most_things", "most_pairs"]) λ _ _ _ _ _ _=>PU λ _ _ _ _ _=>rfl;have F10:=bV (st:=gG) l10 c10 k10;have i10:=F10.binds (ps:=["order", "i", "j"]) λ _ _ _ _ _ _=>Pp λ _ _ _=>rfl;have F11:=bV (st:=kj) l11 c11 k11;have i11:=F11.binds (ps:=["order", "pairs"]) λ _ _ _ _ _ _=>Ax λ _ _=>rfl;have F12:=bV (st:=dg) l12 c12 k12;have i12:=F12.binds (ps:=["order"]) λ _ _ _ _ _ _=>Ij λ _=>rfl;have F13:=bV (st:=gv) l13 c13 k13;have i13:=F13.binds (ps:=["one", "other"]) λ _ _ _ _ _ _=>Ax λ _ _=>rfl;have F14:=bV (st:=gC) l14 c14 k14;have i14:=F14.binds (ps:=["_law_script", "_law_k"]) λ _ _ _ _ _ _=>Ax λ _ _=>rfl;have F15:=bV (st:=eg) l15 c15 k15;have i15:=F15.binds (ps:=["_law_bag_here", "_law_many"]) λ _ _ _ _ _ _=>Ax λ _ _=>rfl;have F16:=bV (st:=gF) l16 c16 k16;have i16:=F16.binds (ps:=["_law_bag_here", "_law_n"]) λ _ _ _ _ _ _=>Ax λ _ _=>rfl;have F17:=bV (st:=eB) l17 c17 k17;have i17:=F17.binds (ps:=["_law_bag_here", "_law_n"]) λ _ _ _ _ _ _=>Ax λ _ _=>rfl;have F18:=bV (st:=gE) l18 c18 k18;have i18:=F18.binds (ps:=["_law_one", "_law_other"]) λ _ _ _ _ _ _=>Ax λ _ _=>rfl;have F19:=bV (st:=eF) l19 c19 k19;have i19:=F19.binds (ps:=["_law_order_here"]) λ _ _ _ _ _ _=>Ij λ _=>rfl;have F20:=bV (st:=ja) l20 c20 k20;have i20:=F20.binds (ps:=["_law_order_here"]) λ _ _ _ _ _ _=>Ij λ _=>rfl;have F21:=bV (st:=c_) l21 c21 k21;have i21:=F21.binds (ps:=["_law_one", "_law_other"]) λ _ _ _ _ _ _=>Ax λ _ _=>rfl;have F22:=bV (st:=fD) l22 c22 k22;have i22:=F22.binds (ps:=["_law_one", "_law_other"]) λ _ _ _ _ _ _=>Ax λ _ _=>rfl;have F23:=bV (st:=fj) l23 c23 k23;have i23:=F23.binds (ps:=["_law_bag_here", "_law_order_here"]) λ _ _ _ _ _ _=>Ax λ _ _=>rfl;have F24:=bV (st:=l_) l24 c24 k24;have i24:=F24.binds (ps:=["_law_script"]) λ _ _ _ _ _ _=>Ij λ _=>rfl;refine ⟨PySem.W.fnOf "law" "law" (bx l_) (bh l_) (aH l_) .none kV24 dc24 pm24 an24 cd24 ct24,λ s v=>.of_eq rfl,λ base _ _=>?_⟩;have Qj:fh l.prog w K mg base 1 "need_pair" ["one", "other"] cN:=⟨f1,_,sj F1 P8,PySem.W.mg_of X G a1,k1,i1⟩;have Qx:fh l.prog w K mg base 1 "exchanged_places" ["order", "i", "j"] bD:=⟨f2,_,kr F2 Qc Qa,PySem.W.mg_of X G a2,k2,i2⟩;have Qh:fh l.prog w K mg base 1 "place_pairs" ["n"] bO:=⟨f3,_,qi F3 P9,PySem.W.mg_of X G a3,k3,i3⟩;have Qq:fh l.prog w K mg base 2 "wrong_pairs" ["order"] dz:=⟨f4,_,pJ F4 P8 Qh,PySem.W.mg_of X G a4,k4,i4⟩;have Qm:fh l.prog w K mg base 3 "length" ["order"] fO:=⟨f5,_,AY F5 P8 Qq,PySem.W.mg_of X G a5,k5,i5⟩;have Qs:fh l.prog w K mg base 1 "first_above_nought" ["numbers"] bK:=⟨f6,_,jH F6,PySem.W.mg_of X G a6,k6,i6⟩;have Qt:fh l.prog w K mg base 2 "bar" ["one", "other"] pU:=⟨f7,_,J0 F7 P8 P9 Qi Qj Qs,PySem.W.mg_of X G a7,k7,i7⟩;have Qn:fh l.prog w K mg base 3 "is_below" ["one", "other"] cT:=⟨f8,_,vj F8 Qt,PySem.W.mg_of X G a8,k8,i8⟩;have QC:fh l.prog w K mg base 4 "need_bounds" ["one", "other", "free_things", "most_things", "most_pairs"] cY:=⟨f9,_,qp F9 P8 Qm,PySem.W.mg_of X G a9,k9,i9⟩;have Qw:fh l.prog w K mg base 1 "is_step" ["order", "i", "j"] eO:=⟨f10,_,wK F10 Qu Qi Qv,PySem.W.mg_of X G a10,k10,i10⟩;have Qy:fh l.prog w K mg base 2 "steps" ["order", "pairs"] kc:=⟨f11,_,BS F11 Qf Qw Qx,PySem.W.mg_of X G a11,k11,i11⟩;have QD:fh l.prog w K mg base 3 "steps_above" ["order"] dc:=⟨f12,_,pY F12 P8 Qy Qh,PySem.W.mg_of X G a12,k12,i12⟩;have Qk:fh l.prog w K mg base 5 "between" ["one", "other"] dm:=⟨f13,_,xj F13 Qf Qz QA QB Qj QC Qn QD,PySem.W.mg_of X G a13,k13,i13⟩;have QJ:fh l.prog w K mg base 1 "_law_bag" ["_law_script", "_law_k"] fq:=⟨f14,_,wV F14 P8 QE Qg,PySem.W.mg_of X G a14,k14,i14⟩;have P_:fh l.prog w K mg base 1 "_law_digit" ["_law_bag_here", "_law_many"] aV:=⟨f15,_,r8 F15,PySem.W.mg_of X G a15,k15,i15⟩;have QF:fh l.prog w K mg base 2 "_law_any" ["_law_bag_here", "_law_n"] gz:=⟨f16,_,xG F16 Qc P9 P8 Qa P_,PySem.W.mg_of X G a16,k16,i16⟩;have Qp:fh l.prog w K mg base 3 "_law_order" ["_law_bag_here", "_law_n"] dM:=⟨f17,_,tQ F17 Qc P9 Qa P_ QF,PySem.W.mg_of X G a17,k17,i17⟩;have QG:fh l.prog w K mg base 1 "_law_bar" ["_law_one", "_law_other"] eE:=⟨f18,_,xr F18 P8 P9 Qg,PySem.W.mg_of X G a18,k18,i18⟩;have Qd:fh l.prog w K mg base 1 "_law_wrong" ["_law_order_here"] bw:=⟨f19,_,rW F19 P8 P9,PySem.W.mg_of X G a19,k19,i19⟩;have Qe:fh l.prog w K mg base 1 "_law_up" ["_law_order_here"] cW:=⟨f20,_,AB F20 P9 P8 Qc Qa,PySem.W.mg_of X G a20,k20,i20⟩;have QI:fh l.prog w K mg base 2 "_law_climbed" ["_law_one", "_law_other"] cX:=⟨f21,_,p9 F21 P8 Qf QG Qe Qd,PySem.W.mg_of X G a21,k21,i21⟩;have Ql:fh l.prog w K mg base 6 "_law_good" ["_law_one", "_law_other"] cR:=⟨f22,_,uq F22 QH Qo Qa Qc P8 QI Qk Qd,PySem.W.mg_of X G a22,k22,i22⟩;have QK:fh l.prog w K mg base 2 "_law_near" ["_law_bag_here", "_law_order_here"] fE:=⟨f23,_,uf F23 P9 P8 Qa P_ Qe,PySem.W.mg_of X G a23,k23,i23⟩;exact LK F24 P9 P8 QJ P_ Qp Qe Ql QK Qd Qk
theorem walk {l:PySem.W.OpenLaw}{q:Program}{loose:List Str}{XP:(Str->Option Value)->Heap->Prop}{YP:World->Heap->Prop}{d:DefRec}{K:Params->PySem.W.Frag}(hn:l.most=some 63)(hdf:d.params.defaults=[])
  (hY:∀ (w:World) (h:Heap),YP w h->(K w.params).In h)
  (F:∀ (w:World) (mg:Str->Option Value) (fa:Addr) (h:Heap),(K w.params).In h->h.Ns mainGlobals mg->mg d.name=some (.ref fa) ->
   ∃ fd:FuncData,(∀ (s:Shared) (u:Value),BindsTo s fd ⟨[u],[]⟩ [("_law_script",u)])/\∀ base:Heap,(K w.params).In base->base.Ns mainGlobals mg->FnOk l.prog w (K w.params) mg base j9 7 fa fd ["_law_script"] (lC (K w.params) 1 qN)) :
  PySem.W.WalkO q loose XP YP l.row.toRowW d [] (λ f vs=>PySem.call f vs):=
 L2.GG (n:=63) (k:=7) (x := "_law_script") (CX:=λ _=>j9) (sp:=λ w=>lC (K w.params) 1 qN) hn (by decide) hdf ⟨rfl,by decide,by decide⟩ hY F (λ _ H a ns hl hO hS=>BA hO hS (K6 ns hl)) λ _ _ _ _ _ z=>z
end K19
open PySem PySem.W PyProof.Rows
namespace PySem.W.Fast
theorem tw8543595895711836811:True:=trivial
theorem tw5758156036142245845:True:=trivial
theorem tw17794399740830814215:True:=trivial
theorem tw13332207558677483334:True:=trivial
theorem tw13378814472035644204:True:=trivial
theorem tw6213498258782117044:True:=trivial
theorem tw3192410551219579723:True:=trivial
theorem tw14636414871787908865:True:=trivial
theorem tw7693638106384688460:True:=trivial
theorem tw15021809135264058392:True:=trivial
theorem tw412751934563239312:True:=trivial
theorem tw8177705754028974500:True:=trivial
theorem tw10591762185679411123:True:=trivial
theorem tw617197609334507068:True:=trivial
theorem tw7670993699485358949:True:=trivial
theorem tw10413085875067731551:True:=trivial
theorem tw8092276019541442317:True:=trivial
theorem tw16183454153423417669:True:=trivial
theorem tw274146068188444152:True:=trivial
theorem tw3751714467149485037:True:=trivial
theorem tw7544678471454112561:True:=trivial
theorem tw15842024867224721531:True:=trivial
theorem tw11986510268356087010:True:=trivial
theorem tw9637406068601614231:True:=trivial
theorem tw11610503248020906498:True:=trivial
theorem tw1510215866155106554:True:=trivial
theorem tw8244308562773461284:True:=trivial
theorem tw6783355334107034082:True:=trivial
theorem tw9576976674615988062:True:=trivial
theorem tw9388916999159914795:True:=trivial
theorem tw1502342508802418279:True:=trivial
theorem tw11471696562754044261:True:=trivial
theorem tw17215566241416833552:True:=trivial
theorem tw13252601616751626140:True:=trivial
theorem tw17400585696852476264:True:=trivial
theorem tw11634438916028883460:True:=trivial
theorem tw2653042562046407713:True:=trivial
theorem tw4635408358741327013:True:=trivial
theorem tw11808418767194175832:True:=trivial
theorem tw4594999292432353108:True:=trivial
theorem tw12126112492136027385:True:=trivial
theorem tw4754344875899701946:True:=trivial
theorem tw3065429454368488737:True:=trivial
theorem tw17606794836508259411:True:=trivial
theorem tw11492383479648413464:True:=trivial
theorem tw15251068291532057858:True:=trivial
theorem tw15753786017576575248:True:=trivial
theorem tw4992379040069142668:True:=trivial
theorem tw3841271568582390850:True:=trivial
theorem tw18002452848983023895:True:=trivial
theorem tw8862553259664899048:True:=trivial
theorem tw16634814745743340741:True:=trivial
theorem tw4889787214723828831:True:=trivial
theorem tw18314630100538576743:True:=trivial
theorem tw8453325258715958928:True:=trivial
theorem tw7042778095537712475:True:=trivial
theorem tw9777674769976246440:True:=trivial
theorem tw5746956198632155263:True:=trivial
theorem tw14774029021561059087:True:=trivial
theorem tw15471301751012920367:True:=trivial
end PySem.W.Fast
set_option maxRecDepth 100000 in
set_option maxHeartbeats 0 in
theorem PySem.Challenge.cw_undercells_k19_between_two_near_ones_holds : PySem.Challenge.rw_undercells_k19_between_two_near_ones.Holds := by
 w_on;o_law;k_head;(case hw=>w_witness2)
 k_fill
 refine K19.walk (l:=PySem.Challenge.rw_undercells_k19_between_two_near_ones) rfl rfl (fun w h Y=>PySem.W.kIn_of Y) ?F
 case F=>
  intro w mg fa h KX G hmg;refine' K19.all_mk KX G hmg ?a1 ?l1 ?c1 ?k1 ?a2 ?l2 ?c2 ?k2 ?a3 ?l3 ?c3 ?k3 ?a4 ?l4 ?c4 ?k4 ?a5 ?l5 ?c5 ?k5 ?a6 ?l6 ?c6 ?k6 ?a7 ?l7 ?c7 ?k7 ?a8 ?l8 ?c8 ?k8 ?a9 ?l9 ?c9 ?k9 ?a10 ?l10 ?c10 ?k10 ?a11 ?l11 ?c11 ?k11 ?a12 ?l12 ?c12 ?k12 ?a13 ?l13 ?c13 ?k13 ?a14 ?l14 ?c14 ?k14 ?a15 ?l15 ?c15 ?k15 ?a16 ?l16 ?c16 ?k16 ?a17 ?l17 ?c17 ?k17 ?a18 ?l18 ?c18 ?k18 ?a19 ?l19 ?c19 ?k19 ?a20 ?l20 ?c20 ?k20 ?a21 ?l21 ?c21 ?k21 ?a22 ?l22 ?c22 ?k22 ?a23 ?l23 ?c23 ?k23 ?a24 ?l24 ?c24 ?k24 ?z_len ?z_list ?z_tuple ?z_range ?z_max ?z_min ?z_any ?z_sorted ?z_abs ?z_int ?z_all ?z_isinstance ?y_MOST_CLIMBED_PAIRS ?y_MOST_CLIMBED_THINGS ?y_MOST_THINGS
  (case a1=>k_is)
  (case l1=>k_is)
  (case c1=>k_is)
  (case k1=>k_is)
  (case a2=>k_is)
  (case l2=>k_is)
  (case c2=>k_is)
  (case k2=>k_is)
  (case a3=>k_is)
  (case l3=>k_is)
  (case c3=>k_is)
  (case k3=>k_is)
  (case a4=>k_is)
  (case l4=>k_is)
  (case c4=>k_is)
  (case k4=>k_is)
  (case a5=>k_is)
  (case l5=>k_is)
  (case c5=>k_is)
  (case k5=>k_is)
  (case a6=>k_is)
  (case l6=>k_is)
  (case c6=>k_is)
  (case k6=>k_is)
  (case a7=>k_is)
  (case l7=>k_is)
  (case c7=>k_is)
  (case k7=>k_is)
  (case a8=>k_is)
  (case l8=>k_is)
  (case c8=>k_is)
  (case k8=>k_is)
  (case a9=>k_is)
  (case l9=>k_is)
  (case c9=>k_is)
  (case k9=>k_is)
  (case a10=>k_is)
  (case l10=>k_is)
  (case c10=>k_is)
  (case k10=>k_is)
  (case a11=>k_is)
  (case l11=>k_is)
  (case c11=>k_is)
  (case k11=>k_is)
  (case a12=>k_is)
  (case l12=>k_is)
  (case c12=>k_is)
  (case k12=>k_is)
  (case a13=>k_is)
  (case l13=>k_is)
  (case c13=>k_is)
  (case k13=>k_is)
  (case a14=>k_is)
  (case l14=>k_is)
  (case c14=>k_is)
  (case k14=>k_is)
  (case a15=>k_is)
  (case l15=>k_is)
  (case c15=>k_is)
  (case k15=>k_is)
  (case a16=>k_is)
  (case l16=>k_is)
  (case c16=>k_is)
  (case k16=>k_is)
  (case a17=>k_is)
  (case l17=>k_is)
  (case c17=>k_is)
  (case k17=>k_is)
  (case a18=>k_is)
  (case l18=>k_is)
  (case c18=>k_is)
  (case k18=>k_is)
  (case a19=>k_is)
  (case l19=>k_is)
  (case c19=>k_is)
  (case k19=>k_is)
  (case a20=>k_is)
  (case l20=>k_is)
  (case c20=>k_is)
  (case k20=>k_is)
  (case a21=>k_is)
  (case l21=>k_is)
  (case c21=>k_is)
  (case k21=>k_is)
  (case a22=>k_is)
  (case l22=>k_is)
  (case c22=>k_is)
  (case k22=>k_is)
  (case a23=>k_is)
  (case l23=>k_is)
  (case c23=>k_is)
  (case k23=>k_is)
  (case a24=>k_is)
  (case l24=>k_is)
  (case c24=>k_is)
  (case k24=>k_is)
  (case z_len=>k_is)
  (case z_list=>k_is)
  (case z_tuple=>k_is)
  (case z_range=>k_is)
  (case z_max=>k_is)
  (case z_min=>k_is)
  (case z_any=>k_is)
  (case z_sorted=>k_is)
  (case z_abs=>k_is)
  (case z_int=>k_is)
  (case z_all=>k_is)
  (case z_isinstance=>k_is)
  (case y_MOST_CLIMBED_PAIRS=>k_is)
  (case y_MOST_CLIMBED_THINGS=>k_is)
  (case y_MOST_THINGS=>k_is)
