import PyProof.Rows.All
import Wide.All
import OpenK.AllK
import Wide.FinOn
import Lean
import PyProof.EqAt
import PyProof.EqKinds
import PyProof.TupleCall
import PySem.Challenge.RW_undercells_k25_polynomials
set_option Elab.async false
set_option linter.all false
set_option maxRecDepth 100000
set_option maxHeartbeats 4000000
namespace L2
open PySem PySem.Spec PyProof.Rows
noncomputable abbrev Key:=Sum Int Str
noncomputable def lz:Key->Value->Bool
 | .inl k,v=>Value.isInt k v
 | .inr x,v=>Value.isStrOf x v
noncomputable def Gd (w:World):Key->Int
 | .inl k=>hashInt k
 | .inr x=>hashStr w x
theorem bJ:∀ {k:Key} {v:Value},lz k v=true->(∃ i t,k=Sum.inl i/\v=Value.int i t)\/(∃ x t,k=Sum.inr x/\v=Value.str x t)
 | .inl i,v,h=>by
  obtain ⟨t,e⟩:=Value.isInt_shape (k:=i) (v:=v) h
  exact .inl ⟨i,t,rfl,e⟩
 | .inr x,v,h=>by
  obtain ⟨t,e⟩:=Value.isStrOf_shape (x:=x) (v:=v) h
  exact .inr ⟨x,t,rfl,e⟩
theorem tP (i:Int) (t:Tok):lz (.inl i) (.int i t)=true:=by simp [lz,Value.isInt]
theorem t_ (x:Str) (t:Tok):lz (.inr x) (.str x t)=true:=by simp [lz,Value.isStrOf]
theorem Cq (a b:Int):decide ((Sum.inl a:Key)=Sum.inl b)=(a == b):=by
 by_cases e:a=b
 ·subst e;simp
 ·have h:¬ (Sum.inl a:Key)=Sum.inl b:=fun q=>e (Sum.inl.inj q)
  rw [decide_eq_false h]
  exact (beq_eq_false_iff_ne.mpr e).symm
theorem BB (a b:Str):decide ((Sum.inr a:Key)=Sum.inr b)=decide (a=b):=by
 by_cases e:a=b
 ·subst e;simp
 ·have h:¬ (Sum.inr a:Key)=Sum.inr b:=fun q=>e (Sum.inr.inj q)
  rw [decide_eq_false h,decide_eq_false e]
theorem CM (a:Int) (b:Str):decide ((Sum.inl a:Key)=Sum.inr b)=false:=decide_eq_false (fun q=>nomatch q)
theorem CV (a:Str) (b:Int):decide ((Sum.inr a:Key)=Sum.inl b)=false:=decide_eq_false (fun q=>nomatch q)
noncomputable def bf (prog:Program) (w:World):PySem.KeyKind prog w Key where
 is:=lz
 hash:=Gd w
 inj:=fun v a b ha hb=>by
  rcases bJ ha with ⟨i,t,rfl,rfl⟩ | ⟨x,t,rfl,rfl⟩
  ·rcases bJ hb with ⟨j,u,rfl,e⟩ | ⟨y,u,rfl,e⟩
   ·injection e with e1 _;rw [e1]
   ·exact nomatch e
  ·rcases bJ hb with ⟨j,u,rfl,e⟩ | ⟨y,u,rfl,e⟩
   ·exact nomatch e
   ·injection e with e1 _;rw [e1]
 byValue:=fun k v h=>by
  rcases bJ h with ⟨i,t,rfl,rfl⟩ | ⟨x,t,rfl,rfl⟩ <;> rfl
 pyHash:=fun hv h=>by
  rcases bJ hv with ⟨i,t,rfl,rfl⟩ | ⟨x,t,rfl,rfl⟩
  ·exact wpAny_pyHash_int h
  ·exact wpAny_pyHash_str h
 eqBool:=fun hu hv h=>by
  rcases bJ hu with ⟨i,t,rfl,rfl⟩ | ⟨x,t,rfl,rfl⟩
  ·rcases bJ hv with ⟨j,u,rfl,rfl⟩ | ⟨y,u,rfl,rfl⟩
   ·rw [Cq] at h;exact wpAny_eqBool_int h
   ·rw [CM] at h;exact SeqAt.EqAt.int_str i t y u _ _ _ _ h
  ·rcases bJ hv with ⟨j,u,rfl,rfl⟩ | ⟨y,u,rfl,rfl⟩
   ·rw [CV] at h;exact SeqAt.EqAt.str_int x t j u _ _ _ _ h
   ·rw [BB] at h;exact wpAny_eqBool_str h
 «strs»:=fun k x t v h=>by
  rcases bJ h with ⟨i,u,rfl,e⟩ | ⟨y,u,rfl,e⟩
  ·exact nomatch e
  ·injection e with e1 _
   subst e1
   cases v <;> rfl
theorem ng (prog:Program) (w:World) (i:Int) (t:Tok):(bf prog w).is (.inl i) (.int i t)=true:=tP i t
theorem oU (prog:Program) (w:World) (x:Str) (t:Tok):(bf prog w).is (.inr x) (.str x t)=true:=t_ x t
inductive V where
 | non | bl (b:Bool) | int (i:Int) | str (x:Str) | byt (b:Array UInt8) | flt (b:UInt64) | ref (a:Addr) | ty (n:String)
 deriving DecidableEq
noncomputable def RelV:V->Value->Prop
 | .non,u=>u=Value.none
 | .bl b,u=>u=Value.bool b
 | .int i,u=>∃ t,u=Value.int i t
 | .str x,u=>∃ t,u=Value.str x t
 | .byt b,u=>∃ t,u=Value.bytes b t
 | .flt b,u=>∃ t,u=Value.float b t
 | .ref a,u=>u=Value.ref a
 | .ty n,u=>u=Value.type n
noncomputable abbrev Vals:List V->List Value->Prop:=Paired RelV
theorem Vals.length {xs:List V} {us:List Value} (r:Vals xs us):xs.length=us.length:=Paired.length r
theorem Vals.get:∀ {xs:List V} {us:List Value} {i:Nat} {x:V},Vals xs us->xs[i]?=some x->∃ u,us[i]?=some u/\RelV x u
 | _,_,_,_,.nil,e=>by simp at e
 | _,_,0,_,.cons r _,e=>by simp at e;subst e;exact ⟨_,rfl,r⟩
 | _,_,i+1,x,.cons _ t,e=>by
  obtain ⟨u,h1,h2⟩:=Vals.get (i:=i) (x:=x) t (by simpa using e)
  exact ⟨u,by simpa using h1,h2⟩
theorem Vals.set {x:V} {u:Value} (r:RelV x u):∀ {xs:List V} {us:List Value} (i:Nat),Vals xs us->Vals (xs.set i x) (us.set i u)
 | _,_,_,.nil=>.nil
 | _,_,0,.cons _ t=>.cons r t
 | _,_,i+1,.cons q t=>.cons q (Vals.set r i t)
theorem Vals.append:∀ {xs ys:List V} {us ws:List Value},Vals xs us->Vals ys ws->Vals (xs++ys) (us++ws)
 | _,_,_,_,.nil,s=>s
 | _,_,_,_,.cons r t,s=>.cons r (Vals.append t s)
noncomputable def iF:Option V->Option Value->Prop
 | some v,some u=>RelV v u
 | none,none=>True
 | _,_=>False
noncomputable def KV {κ:Type}:List (κ×V)->List (κ×Value)->Prop:=Paired fun (p:κ×V) (q:κ×Value)=>p.1=q.1/\RelV p.2 q.2
noncomputable def kV:Key->V
 | .inl i=>.int i
 | .inr x=>.str x
inductive HO where
 | lst (xs:List V)
 | tup (xs:List V)
 | dK (kvs:List (Key×V)) | dT (kvs:List (List Key×V))
 | set (S:Int->Bool) (n:Nat)
 | ins (C dx:Addr) (fs:List (Str×V))
 | own (x:Addr)
 | xd (fs:List (Str×V))
 | met (f x:Addr)
 | rng (lo hi:Int)
 | frz (o:Obj) (u:HO)
 | tbl (ps:Array Value)
 | ext (φ:Heap->Prop)
noncomputable abbrev Hp:=Addr->Option HO
noncomputable def upd (H:Hp) (a:Addr) (o:HO):Hp:=fun b=>if b=a then some o else H b
theorem cF {H:Hp} {a:Addr} {o:HO}:upd H a o a=some o:=by unfold upd;rw [if_pos rfl]
theorem aL {H:Hp} {a b:Addr} {o:HO} (h:b≠a):upd H a o b=H b:=by unfold upd;rw [if_neg h]
theorem EB {H:Hp} {a b:Addr} {o u:HO} (h:H a=some o) (h':H b=some u) (d:o≠u):a≠b:=by
 intro e;subst e;rw [h] at h';exact d (Option.some.inj h')
theorem aT {H:Hp} {a b:Addr} {o:HO} (h:H a=some o) (h':H b=none):a≠b:=by
 intro e;subst e;rw [h] at h';cases h'
noncomputable def eU (h:Heap) (a:Addr) (items:Array Value):Prop:=∃ o,h.get? a=some o/\o.cls=.type "tuple" /\ o.dict=none/\∃ n,o.data=.seq items n
theorem eU.tup {h:Heap} {a:Addr} {items:Array Value}:eU h a items->IsTup h a items:=fun ⟨o,e,c,_,n,d⟩=>⟨o,e,c,n,d⟩
theorem eU.new (h:Heap) (items:Array Value):eU (h.push { cls:=.type "tuple",data:=.seq items }) h.objs.size items:=⟨_,Heap.get?_push_size _ rfl,rfl,rfl,_,rfl⟩
theorem eU.lt {h:Heap} {a:Addr} {items:Array Value} (x:eU h a items):a < h.objs.size:=let ⟨_,ho,_⟩:=x;Heap.lt_size ho
section
variable (P:Program) (w:World)
noncomputable def bO (H:Hp) (h:Heap) (a:Addr):HO->Prop
 | .lst xs=>xs.length<=sizeLine/\∃ (its:List Value) (n:Nat),Vals xs its/\h.get? a=some { cls:=.type "list",data:=.seq its.toArray n }
 | .tup xs=>xs.length<=sizeLine/\∃ its:List Value,Vals xs its/\eU h a its.toArray
 | .dK kvs=>kvs.length<=sizeLine/\(a == sysModules)=false/\∃ vs,KV kvs vs/\h.DictOf (bf P w) a vs
 | .dT kvs=>kvs.length<=sizeLine/\(a == sysModules)=false/\∃ xs:List (List Key×Addr×Value),
   Paired (fun (p:List Key×V) (q:List Key×Addr×Value)=>p.1=q.1/\H q.2.1=some (.tup (p.1.map kV))/\RelV p.2 q.2.2) kvs xs /\
   ∃ o es ep,h.get? a=some o/\o.ExactDict/\o.data=.dict es ep/\es.toList=xs.map (entryOfKey (tupleKind (bf P w)))/\(xs.map (·.1)).Nodup
 | .set S n=>h.SetOf (intKind P w) a S n
 | .ins C dx fs=>H dx=some (.own a)/\fs.length<=1000/\dx≠a/\h.get? a=some (PySem.W.instObj C dx) /\
   ∃ mA,h.Ns1 dx mA/\(∀ f,iF (fs.lookup f) (mA f))/\PySem.Within mA (fs.map (·.1))
 | .own _=>∃ o,h.get? a=some o
 | .xd fs=>∃ mA,h.Ns1 a mA/\∀ f,iF (fs.lookup f) (mA f)
 | .rng lo hi=>∃ t u v,h.get? a=some { cls:=.type "range",data:=.fields #[.int lo t,.int hi u,.int 1 v] }
 | .frz o u=>h.get? a=some o/\bO H h a u
 | .tbl ps=>h.get? a=some { cls:=.none,data:=.fields ps }
 | .met f x=>h.get? a=some (PySem.W.methodObj (.ref f) (.ref x))
 | .ext φ=>φ h/\(∃ o,h.get? a=some o)/\∀ h1 h2:Heap,φ h1->(∀ o,h1.get? a=some o->h2.get? a=some o)->φ h2
noncomputable def gC (H:Hp) (h:Heap):Prop:=∀ a o,H a=some o->bO P w H h a o
end
section
variable {P:Program} {w:World} {H H':Hp} {h h':Heap} {a:Addr} {o:HO}
theorem bO.lt (x:bO P w H h a o):a < h.objs.size:=by
 cases o with
 | lst xs=>obtain ⟨_,_,_,_,e⟩:=x;exact Heap.lt_size e
 | tup xs=>obtain ⟨_,_,_,p⟩:=x;exact eU.lt p
 | dK kvs=>obtain ⟨_,_,_,_,o,_,_,e,_⟩:=x;exact Heap.lt_size e
 | dT kvs=>obtain ⟨_,_,_,_,o,_,_,e,_⟩:=x;exact Heap.lt_size e
 | set S n=>obtain ⟨o,_,_,_,e,_⟩:=x;exact Heap.lt_size e
 | ins C dx fs=>obtain ⟨_,_,_,e,_⟩:=x;exact Heap.lt_size e
 | own y=>obtain ⟨_,e⟩:=x;exact Heap.lt_size e
 | xd fs=>obtain ⟨_,⟨_,_,_,e,_⟩,_⟩:=x;exact Heap.lt_size e
 | rng lo hi=>obtain ⟨_,_,_,e⟩:=x;exact Heap.lt_size e
 | frz ob u=>obtain ⟨e,_⟩:=x;exact Heap.lt_size e
 | tbl ps=>exact Heap.lt_size (show h.get? a=some _ from x)
 | met f y=>exact Heap.lt_size (show h.get? a=some _ from x)
 | ext φ=>obtain ⟨_,⟨_,e⟩,_⟩:=x;exact Heap.lt_size e
theorem Paired.CW {α β:Type} {F G:α->β->Prop}:∀ {l₁:List α} {l₂:List β},Paired F l₁ l₂->(∀ a b,F a b->G a b)->Paired G l₁ l₂
 | _,_,.nil,_=>.nil
 | _,_,.cons r t,f=>.cons (f _ _ r) (Paired.CW t f)
theorem bO.stay (x:bO P w H h a o) (k:∀ b u,(b=a\/H b=some (.own a))->h.get? b=some u->h'.get? b=some u)
  (ho:∀ b,H b=some (.own a)->H' b=some (.own a)) (ht:∀ b xs,H b=some (.tup xs)->H' b=some (.tup xs)):bO P w H' h' a o:=by
 induction o with
 | lst xs=>obtain ⟨z,its,n,r,e⟩:=x;exact ⟨z,its,n,r,k _ _ (.inl rfl) e⟩
 | tup xs=>obtain ⟨z,its,r,ob,e,c⟩:=x;exact ⟨z,its,r,ob,k _ _ (.inl rfl) e,c⟩
 | dK kvs=>obtain ⟨z,y,vs,r,ob,es,ep,e,c⟩:=x;exact ⟨z,y,vs,r,ob,es,ep,k _ _ (.inl rfl) e,c⟩
 | dT kvs=>
  obtain ⟨z,y,xs,r,ob,es,ep,e,c⟩:=x
  exact ⟨z,y,xs,Paired.CW r fun p q z=>⟨z.1,ht _ _ z.2.1,z.2.2⟩,ob,es,ep,k _ _ (.inl rfl) e,c⟩
 | set S n=>obtain ⟨ob,es,ep,t,e,c⟩:=x;exact ⟨ob,es,ep,t,k _ _ (.inl rfl) e,c⟩
 | ins C dx fs=>
  obtain ⟨d,z,ne,e,mA,⟨od,es,ep,e2,c⟩,r⟩:=x
  exact ⟨ho _ d,z,ne,k _ _ (.inl rfl) e,mA,⟨od,es,ep,k _ _ (.inr d) e2,c⟩,r⟩
 | own y=>obtain ⟨ob,e⟩:=x;exact ⟨ob,k _ _ (.inl rfl) e⟩
 | xd fs=>obtain ⟨mA,⟨od,es,ep,e,c⟩,r⟩:=x;exact ⟨mA,⟨od,es,ep,k _ _ (.inl rfl) e,c⟩,r⟩
 | rng lo hi=>obtain ⟨t,u,v,e⟩:=x;exact ⟨t,u,v,k _ _ (.inl rfl) e⟩
 | frz ob u ih=>obtain ⟨e,q⟩:=x;exact ⟨k _ _ (.inl rfl) e,ih q⟩
 | tbl ps=>
  have e:h.get? a=some { cls:=.none,data:=.fields ps }:=x
  show h'.get? a=some { cls:=.none,data:=.fields ps }
  exact k a _ (.inl rfl) e
 | met f y=>
  have e:h.get? a=some (PySem.W.methodObj (.ref f) (.ref y)):=x
  show h'.get? a=some (PySem.W.methodObj (.ref f) (.ref y))
  exact k a _ (.inl rfl) e
 | ext φ=>obtain ⟨p,⟨o,e⟩,st⟩:=x;exact ⟨st _ _ p fun o q=>k _ _ (.inl rfl) q,⟨o,k _ _ (.inl rfl) e⟩,st⟩
theorem gC.lt (x:gC P w H h) (e:H a=some o):a < h.objs.size:=(x a o e).lt
theorem gC.fresh (x:gC P w H h) (e:h.objs.size<=a):H a=none:=by
 cases q:H a with
 | none=>rfl
 | some u=>exact absurd (Nat.lt_of_lt_of_le (x.lt q) e) (Nat.lt_irrefl _)
theorem gC.kept (x:gC P w H h) (k:∀ b u,h.get? b=some u->h'.get? b=some u):gC P w H h':=fun a o e=>
 (x a o e).stay (fun b u _ q=>k b u q) (fun _ q=>q) fun _ _ q=>q
theorem gC.laid (x:gC P w H h) (k:∀ b u,h.get? b=some u->h'.get? b=some u) (hp:h.objs.size<=a) (new:bO P w (upd H a o) h' a o):gC P w (upd H a o) h':=fun b u e=>by
 have hn:=x.fresh hp
 by_cases hb:b=a
 ·subst hb;rw [cF] at e;cases e;exact new
 ·rw [aL hb] at e
  exact (x b u e).stay (fun c v _ q=>k c v q) (fun c q=>by rw [aL (aT q hn)];exact q) fun c xs q=>by rw [aL (aT q hn)];exact q
end
noncomputable def Rd (H:Hp) (a:Addr) (u:HO):Prop:=H a=some u\/∃ o,H a=some (.frz o u)
theorem Rd.ok {P:Program} {w:World} {H:Hp} {h:Heap} {a:Addr} {u:HO} (r:Rd H a u) (x:gC P w H h):bO P w H h a u:=by
 rcases r with r | ⟨o,r⟩
 ·exact x a u r
 ·obtain ⟨_,q⟩:=x a _ r
  exact q
noncomputable def Es:Option HO->Prop
 | some (.lst _)=>True
 | some (.dK _)=>True
 | some (.dT _)=>True
 | some (.set _ _)=>True
 | some (.ins _ _ _)=>True
 | some (.ext _)=>True
 | _=>False
section
variable {P:Program} {w:World} {H:Hp} {h h':Heap} {x e:Addr} {o':HO}
theorem gC.write (ok:gC P w H h) (mu:Es (H x)) (he:e=x\/H e=some (.own x)) (k:∀ b u,b≠e->h.get? b=some u->h'.get? b=some u) (heo:∃ u,h'.get? e=some u)
  (new:bO P w (upd H x o') h' x o'):gC P w (upd H x o') h':=fun b u q=>by
 have nown:∀ c y,H c=some (.own y)->c≠x:=fun c y r z=>by subst z;rw [r] at mu;exact mu
 have ntup:∀ c xs,H c=some (.tup xs)->c≠x:=fun c xs r z=>by subst z;rw [r] at mu;exact mu
 by_cases hb:b=x
 ·subst hb;rw [cF] at q;cases q;exact new
 ·rw [aL hb] at q
  by_cases hbe:b=e
  ·have q':H b=some (.own x):=by
    rcases he with z | z
    ·exact absurd (hbe.trans z) hb
    ·rw [hbe];exact z
   rw [q] at q';cases q'
   obtain ⟨v,hv⟩:=heo
   exact ⟨v,by rw [hbe];exact hv⟩
  ·refine (ok b u q).stay (fun c v hc r=>k c v ?_ r) (fun c r=>by rw [aL (nown c b r)];exact r) fun c xs r=>by rw [aL (ntup c xs r)];exact r
   rcases hc with rfl | hc
   ·exact hbe
   ·rintro rfl
    rcases he with z | z
    ·exact nown c b hc z
    ·rw [hc] at z;cases z;exact hb rfl
end
structure Un (fs ex:List Addr) (H H':Hp) (h h':Heap):Prop where
 keep:∀ b o,h.get? b=some o->H b=none->b∉fs->b∉ex->h'.get? b=some o
 slot:∀ b o,h.get? b=some o->H b=none->b∈fs->b∉ex->∃ sl,h'.get? b=some { o with slots:=sl }
 free:∀ b o,h.get? b=some o->H b=none->b∉ex->H' b=none
 there:∀ b o,h.get? b=some o->b∉ex->∃ o',h'.get? b=some o'
 tups:∀ b xs,H b=some (.tup xs)->H' b=some (.tup xs)
 frzs:∀ b o u,H b=some (.frz o u)->H' b=some (.frz o u)
 tbls:∀ b ps,H b=some (.tbl ps)->∃ more,H' b=some (.tbl (ps++more))
section
variable {fs fs' ex ex':List Addr} {H H1 H2:Hp} {h h1 h2 h':Heap} {a x e:Addr} {o:HO}
theorem Un.any (u:Un fs ex H H1 h h1) {b:Addr} {ob:Obj} (q:h.get? b=some ob) (n:H b=none) (hx:b∉ex):∃ sl,h1.get? b=some { ob with slots:=sl }:=by
 by_cases hb:b∈fs
 ·exact u.slot b ob q n hb hx
 ·exact ⟨ob.slots,u.keep b ob q n hb hx⟩
theorem Un.kept (k:∀ b u,h.get? b=some u->h'.get? b=some u):Un fs ex H H h h':=
 ⟨fun b ob q _ _ _=>k b ob q,fun b ob q _ _ _=>⟨ob.slots,k b ob q⟩,fun _ _ _ n _=>n,fun b ob q _=>⟨ob,k b ob q⟩,fun _ _ q=>q,fun _ _ _ q=>q,fun _ ps q=>⟨#[],by rw [q];simp⟩⟩
theorem Un.refl:Un fs ex H H h h:=Un.kept fun _ _ q=>q
theorem Un.laid (k:∀ b u,h.get? b=some u->h'.get? b=some u) (hp:h.objs.size<=a) (hn:H a=none):Un fs ex H (upd H a o) h h' where
 keep:=fun b u q _ _ _=>k b u q
 slot:=fun b u q _ _ _=>⟨u.slots,k b u q⟩
 free:=fun b u q n _=>by rw [aL (Nat.ne_of_lt (Nat.lt_of_lt_of_le (Heap.lt_size q) hp))];exact n
 there:=fun b u q _=>⟨u,k b u q⟩
 tups:=fun b xs q=>by rw [aL (aT q hn)];exact q
 frzs:=fun b u xs q=>by rw [aL (aT q hn)];exact q
 tbls:=fun b ps q=>⟨#[],by rw [aL (aT q hn),q];simp⟩
theorem Un.write (mu:Es (H x)) (he:e=x\/H e=some (.own x)) (k:∀ b u,b≠e->h.get? b=some u->h'.get? b=some u) (heo:∃ u,h'.get? e=some u):Un fs ex H (upd H x o) h h':=by
 have hx:∀ b,H b=none->b≠x:=fun b n z=>by subst z;rw [n] at mu;exact mu
 have hb:∀ b,H b=none->b≠e:=fun b n z=>by
  subst z
  rcases he with r | r
  ·exact hx b n r
  ·rw [n] at r;cases r
 have hm:∀ b u,H b=some u->¬ Es (some u)->b≠x:=fun b u q nm z=>by subst z;rw [q] at mu;exact nm mu
 refine ⟨fun b u q n _ _=>k b u (hb b n) q,fun b u q n _ _=>⟨u.slots,k b u (hb b n) q⟩,fun b u q n _=>by rw [aL (hx b n)];exact n,fun b u q _=>?_,
  fun b xs q=>by rw [aL (hm b _ q fun z=>z)];exact q,fun b u xs q=>by rw [aL (hm b _ q fun z=>z)];exact q,fun b ps q=>⟨#[],by rw [aL (hm b _ q fun z=>z),q];simp⟩⟩
 by_cases hbe:b=e
 ·subst hbe;exact heo
 ·exact ⟨u,k b u hbe q⟩
end
noncomputable def ET (h:Heap) (H:Hp):List Addr:=(List.range h.objs.size).filter fun a=>(H a).isSome
noncomputable def mO (h:Heap) (H:Hp):Heap:=PySem.W.hideAll h (ET h H)
theorem tN (h:Heap) (H:Hp):(mO h H).objs.size=h.objs.size:=PySem.W.hideAll_size _ _
theorem wm {h:Heap} {H:Hp} {b:Addr} {o:Obj} (e:h.get? b=some o) (n:H b=none):(mO h H).get? b=some o:=
 PySem.W.hideAll_get _ e fun hm=>by
  have q:(H b).isSome=true:=(List.mem_filter.mp hm).2
  rw [n] at q;simp at q
theorem yT {h:Heap} {H:Hp} {b:Addr} {o:Obj} (e:(mO h H).get? b=some o):h.get? b=some o/\H b=none:=by
 have e':h.get? b=some o:=PySem.W.of_hideAll (ET h H) e
 refine ⟨e',?_⟩
 cases q:H b with
 | none=>rfl
 | some x=>
  have hm:b∈ET h H:=List.mem_filter.mpr ⟨List.mem_range.mpr (Heap.lt_size e'),by simp [q]⟩
  have z:(mO h H).get? b=none:=PySem.W.hideAll_none (ET h H) hm
  rw [z] at e;cases e
noncomputable def zO (g h:Heap) (L:Addr):List (Addr×Obj):=(List.range h.objs.size).filterMap fun a=>if a=L\/(g.get? a).isSome=true then none else (h.get? a).map fun o=>(a,o)
noncomputable def rest (g h:Heap) (L d:Addr):List (Addr×Obj):=(zO g h L).filter fun p=>decide (p.1≠d)
structure Mod (K:PySem.W.Frag) (mg:Str->Option Value) (base:Heap):Prop where
 kin:K.In base
 glob:base.Ns mainGlobals mg
 blt:∃ mb,base.Ns builtinsNs mb/\∀ x:Str,x ≠ "__name__" -> mb x=bootBuiltins x
 nolimit:base.NoLimit
structure Cx where
 prog:Program
 w:World
 K:PySem.W.Frag
 mg:Str->Option Value
 base:Heap
 A:Around
 N:List Str
 s₀:Shared
 H₀:Hp
 env:Env
 outer:List Env
 stack:List Env
 ex:List Addr
 fn:Str->Bool
 calm:Bool
 pn:List (Addr×Obj)
 xe:Value->Shared->Prop
noncomputable def frs (l:List Env):List Addr:=l.filterMap (·.frame)
noncomputable abbrev Cx.fs (X:Cx):List Addr:=frs X.outer
noncomputable def Dg (sc:Scope) (x:Str):Prop:=sc.names.lookup x=some .local\/sc.names.lookup x=some .cell\/sc.names.lookup x=some .free
noncomputable def Loc (sc:Scope) (x:Str):Prop:=sc.names.lookup x=some .local\/sc.names.lookup x=some .cell
noncomputable def Look (env:Env) (h:Heap) (m:Str->Option Value) (x:Str) (u:Value):Prop:=
 (env.kindOf x=some .local/\m x=some u)\/((env.kindOf x=some .cell\/env.kindOf x=some .free)/\∃ c,env.cells.lookup x=some c/\h.IsCell c (some u))
structure Cx.Ok (X:Cx):Prop where
 mod:Mod X.K X.mg X.base
 kind:X.env.scope.kind=.function
 glob:X.env.globals=mainGlobals
 blt:X.env.builtins=builtinsNs
 above:X.s₀.heap.objs.size<=X.env.locals
 inj:∀ x y c,X.env.cells.lookup x=some c->X.env.cells.lookup y=some c->x=y
 has:∀ x,(X.env.kindOf x=some .cell\/X.env.kindOf x=some .free)->∃ c,X.env.cells.lookup x=some c
 cab:∀ x c,X.fn x=true->X.env.cells.lookup x=some c->X.s₀.heap.objs.size<=c
 hd:X.calm=true->X.A.handled=none
 frames:X.A.frames=some X.stack
 stk:X.stack=X.outer\/(X.stack=X.env::X.outer/\X.env.frame=some X.env.locals)
 exf:∀ b∈X.ex,b≠X.env.locals/\∀ x c,X.env.cells.lookup x=some c->c≠b
 bs:∀ b o,X.base.get? b=some o->X.s₀.heap.get? b=some o/\X.H₀ b=none
 bsz:X.base.objs.size<=X.s₀.heap.objs.size
 noex:∀ b o,X.base.get? b=some o->b∉X.ex
 exfs:∀ b∈X.ex,b∉X.fs
 j6:X.s₀.heap.FunFrames X.base X.outer
 frf:∀ b∈X.fs,X.H₀ b=none
structure Inv (X:Cx) (pins:List (Addr×Obj)) (σ:List (Option V)) (H:Hp) (s:Shared):Prop where
 ok:X.Ok
 os:s.os=X.s₀.os
 bare:AllBare s.gens
 base:Un X.fs X.ex X.H₀ H X.s₀.heap s.heap
 loc:∃ m,s.heap.Ns X.env.locals m/\∀ (i:Nat) (x:Str) (v:V),X.N[i]?=some x->σ[i]?=some (some v)->Dg X.env.scope x->∃ u,RelV v u/\Look X.env s.heap m x u
 cell:∀ x c,X.env.cells.lookup x=some c->∃ v,s.heap.IsCell c v
 free:H X.env.locals=none
 freeC:∀ x c,X.env.cells.lookup x=some c->H c=none
 pin:∀ p∈X.pn++pins,s.heap.get? p.1=some p.2/\H p.1=none/\p.1≠X.env.locals/\p.1∉X.fs/\∀ v,p.2.data≠.cell v
 hok:gC X.prog X.w H s.heap
 len:σ.length=X.N.length
section
variable {X:Cx} {pins:List (Addr×Obj)} {σ:List (Option V)} {H H':Hp} {s:Shared} {h':Heap}
theorem Cx.Ok.FT (ok:X.Ok) {b:Addr} {o:Obj} (e:X.base.get? b=some o):b∉X.fs:=fun hb=>by
 have:=(ok.j6.mem hb).1
 rw [e] at this;cases this
theorem Inv.bs (I:Inv X pins σ H s):∀ b o,X.base.get? b=some o->s.heap.get? b=some o/\H b=none:=fun b o e=>
 ⟨I.base.keep b o (I.ok.bs b o e).1 (I.ok.bs b o e).2 (I.ok.FT e) (I.ok.noex b o e),I.base.free b o (I.ok.bs b o e).1 (I.ok.bs b o e).2 (I.ok.noex b o e)⟩
theorem Inv.bk (I:Inv X pins σ H s):∀ b o,X.base.get? b=some o->s.heap.get? b=some o:=fun b o e=>(I.bs b o e).1
theorem Inv.mod (I:Inv X pins σ H s):Mod X.K X.mg X.base:=I.ok.mod
theorem Inv.m5 (I:Inv X pins σ H s):X.K.In s.heap:=I.ok.mod.kin.keeps I.bk
theorem Inv.lt (I:Inv X pins σ H s):X.env.locals < s.heap.objs.size:=let ⟨_,hn,_⟩:=I.loc;hn.lt
theorem Inv.sz (I:Inv X pins σ H s):X.s₀.heap.objs.size<=s.heap.objs.size:=Nat.le_trans I.ok.above (Nat.le_of_lt I.lt)
theorem Inv.Fo (I:Inv X pins σ H s) {a:Addr} (h:s.heap.objs.size<=a):a∉X.fs:=fun hb=>by
 obtain ⟨_,o,ho,_⟩:=I.ok.j6.mem hb
 exact absurd (Nat.lt_of_lt_of_le (Heap.lt_size ho) (Nat.le_trans I.sz h)) (Nat.lt_irrefl _)
theorem Inv.CH (I:Inv X pins σ H s):∀ x c,X.env.cells.lookup x=some c->c≠X.env.locals:=fun x c e z=>by
 obtain ⟨v,o,ho,hd⟩:=I.cell x c e
 obtain ⟨m,⟨o',es,ep,ho',hd',_⟩,_⟩:=I.loc
 rw [z,ho'] at ho;cases ho;rw [hd'] at hd;cases hd
theorem Inv.j6 (I:Inv X pins σ H s):s.heap.FunFrames X.base X.outer:=by
 have all:∀ (l:List Env),(∀ b∈frs l,b∈X.fs)->X.s₀.heap.FunFrames X.base l->s.heap.FunFrames X.base l:=by
  intro l
  induction l with
  | nil=>intro _ _;trivial
  | cons env r ih=>
   intro hs hl
   obtain ⟨hk,⟨L,o,hf,hn,ho,hd⟩,hr⟩:=hl
   have hL:L∈X.fs:=hs L (by unfold frs;rw [List.filterMap_cons,hf];exact List.mem_cons_self)
   obtain ⟨sl,e⟩:=I.base.slot L o ho (I.ok.frf L hL) hL fun z=>I.ok.exfs L z hL
   exact ⟨hk,⟨L,_,hf,hn,e,hd⟩,ih (fun b hb=>hs b (by unfold frs;rw [List.filterMap_cons,hf];exact List.mem_cons_of_mem _ hb)) hr⟩
 exact all X.outer (fun _ hb=>hb) I.ok.j6
theorem Inv.stack (I:Inv X pins σ H s):s.heap.FunFrames X.base X.stack:=by
 rcases I.ok.stk with e | ⟨e,hf⟩
 ·rw [e];exact I.j6
 ·rw [e]
  obtain ⟨m,hn,_⟩:=I.loc
  refine .cons (by rw [I.ok.kind];decide) hf hn ?_ I.j6
  exact Heap.get?_none_of_le (Nat.le_trans I.ok.bsz I.ok.above)
theorem Inv.pS (I:Inv X pins σ H s):∀ b∈frs X.stack,b∈X.env.locals::X.fs:=fun b hb=>by
 rcases I.ok.stk with e | ⟨e,hf⟩
 ·rw [e] at hb;exact List.mem_cons_of_mem _ hb
 ·rw [e] at hb
  unfold frs at hb
  rw [List.filterMap_cons,hf] at hb
  exact hb
theorem Inv.qd (I:Inv X pins σ H s):∀ b∈frs X.stack,H b=none:=fun b hb=>by
 rcases List.mem_cons.mp (I.pS b hb) with e | hb
 ·rw [e];exact I.free
 ·obtain ⟨_,o,ho,_⟩:=I.ok.j6.mem hb
  exact I.base.free b o ho (I.ok.frf b hb) fun z=>I.ok.exfs b z hb
theorem Inv.step {g':Array GenState} {t':Nat} {d':Drawn} {ch:List Addr} (I:Inv X pins σ H s)
  (hch:∀ b∈ch,(b∈X.ex\/X.s₀.heap.objs.size<=b)/\b≠X.env.locals/\(∀ x c,X.env.cells.lookup x=some c->c≠b)/\∀ p∈X.pn++pins,p.1≠b)
  (keep:∀ b o,b≠X.env.locals->b∉X.fs->b∉ch->s.heap.get? b=some o->H b=none->h'.get? b=some o)
  (slot:∀ b o,b≠X.env.locals->b∈X.fs->b∉ch->s.heap.get? b=some o->H b=none->∃ sl,h'.get? b=some { o with slots:=sl }) (free:∀ b o,b∉ch->s.heap.get? b=some o->H b=none->H' b=none)
  (there:∀ b o,b∉ch->s.heap.get? b=some o->∃ o',h'.get? b=some o')
  (tups:∀ b xs,H b=some (.tup xs)->H' b=some (.tup xs)) (frzs:∀ b o u,H b=some (.frz o u)->H' b=some (.frz o u)) (tbls:∀ b ps,H b=some (.tbl ps)->∃ more,H' b=some (.tbl (ps++more)))
  (ns:∀ m,s.heap.Ns X.env.locals m->h'.Ns X.env.locals m) (hok:gC X.prog X.w H' h') (hg:AllBare g') :
  Inv X pins σ H' { s with heap:=h',gens:=g',drawn:=d',toks:=t' }:=by
 have neL:∀ b o,X.s₀.heap.get? b=some o->b≠X.env.locals:=fun b o e=>Nat.ne_of_lt (Nat.lt_of_lt_of_le (Heap.lt_size e) I.ok.above)
 have neC:∀ b o,X.s₀.heap.get? b=some o->b∉X.ex->b∉ch:=fun b o e hx hb=>by
  rcases (hch b hb).1 with z | z
  ·exact hx z
  ·exact absurd (Nat.lt_of_lt_of_le (Heap.lt_size e) z) (Nat.lt_irrefl _)
 have cellK:∀ x c,X.env.cells.lookup x=some c->∀ v,s.heap.IsCell c v->h'.IsCell c v:=fun x c e v ⟨o,ho,hd⟩=>by
  have nch:c∉ch:=fun z=>(hch c z).2.2.1 x c e rfl
  by_cases hc:c∈X.fs
  ·obtain ⟨sl,q⟩:=slot c o (I.CH x c e) hc nch ho (I.freeC x c e)
   exact ⟨_,q,hd⟩
  ·exact ⟨o,keep c o (I.CH x c e) hc nch ho (I.freeC x c e),hd⟩
 refine ⟨I.ok,I.os,hg,⟨fun b o e n hb hx=>?_,fun b o e n hb hx=>?_,fun b o e n hx=>?_,fun b o e hx=>?_,fun b xs e=>tups b xs (I.base.tups b xs e),fun b o xs e=>frzs b o xs (I.base.frzs b o xs e),fun b ps e=>?_⟩,?_,fun x c e=>?_,?_,fun x c e=>?_,fun p hp=>?_,hok,I.len⟩
 ·exact keep b o (neL b o e) hb (neC b o e hx) (I.base.keep b o e n hb hx) (I.base.free b o e n hx)
 ·obtain ⟨sl,e1⟩:=I.base.slot b o e n hb hx
  obtain ⟨sl',e2⟩:=slot b _ (neL b o e) hb (neC b o e hx) e1 (I.base.free b o e n hx)
  exact ⟨sl',e2⟩
 ·obtain ⟨o',e1⟩:=I.base.there b o e hx
  exact free b o' (neC b o e hx) e1 (I.base.free b o e n hx)
 ·obtain ⟨o',e1⟩:=I.base.there b o e hx
  exact there b o' (neC b o e hx) e1
 ·obtain ⟨m1,e1⟩:=I.base.tbls b ps e
  obtain ⟨m2,e2⟩:=tbls b _ e1
  exact ⟨m1++m2,by rw [e2,Array.append_assoc]⟩
 ·obtain ⟨m,hn,hl⟩:=I.loc
  refine ⟨m,ns m hn,fun i x v e1 e2 e3=>?_⟩
  obtain ⟨u,r,l⟩:=hl i x v e1 e2 e3
  refine ⟨u,r,?_⟩
  rcases l with l | ⟨k,c,e,z⟩
  ·exact .inl l
  ·exact .inr ⟨k,c,e,cellK x c e _ z⟩
 ·obtain ⟨v,z⟩:=I.cell x c e
  exact ⟨v,cellK x c e v z⟩
 ·obtain ⟨m,⟨o,_,_,ho,_⟩,_⟩:=I.loc
  exact free _ o (fun z=>(hch _ z).2.1 rfl) ho I.free
 ·obtain ⟨v,o,ho,hd⟩:=I.cell x c e
  exact free c o (fun z=>(hch c z).2.2.1 x c e rfl) ho (I.freeC x c e)
 ·obtain ⟨e,n,ne,nf,d⟩:=I.pin p hp
  have nch:p.1∉ch:=fun z=>(hch p.1 z).2.2.2 p hp rfl
  exact ⟨keep p.1 p.2 ne nf nch e n,free p.1 p.2 nch e n,ne,nf,d⟩
theorem Inv.un {t':Nat} (I:Inv X pins σ H s) (u:Un X.fs [] H H' s.heap h') (hok:gC X.prog X.w H' h'):Inv X pins σ H' { s with heap:=h',toks:=t' }:=by
 obtain ⟨m,⟨o,es,ep,ho,r⟩,_⟩:=id I.loc
 obtain ⟨sl,hL⟩:=u.any ho I.free (by simp)
 exact I.step (g':=s.gens) (d':=s.drawn) (ch:=[]) (fun _ z=>nomatch z) (fun b o _ hb _ e n=>u.keep b o e n hb (by simp)) (fun b o _ hb _ e n=>u.slot b o e n hb (by simp)) (fun b o _ e n=>u.free b o e n (by simp)) (fun b o _ e=>u.there b o e (by simp)) u.tups u.frzs u.tbls (fun m' hm=>by
  obtain ⟨o',es',ep',ho',r'⟩:=hm
  rw [ho] at ho';cases ho'
  exact ⟨_,es',ep',hL,r'⟩) hok I.bare
theorem Inv.call {g':Array GenState} {t':Nat} {d':Drawn} {ch:List Addr} (I:Inv X pins σ H s) (u:Un (frs X.stack) ch H H' s.heap h') (hok:gC X.prog X.w H' h') (hg:AllBare g')
  (hch:∀ b∈ch,(b∈X.ex\/X.s₀.heap.objs.size<=b)/\b≠X.env.locals/\(∀ x c,X.env.cells.lookup x=some c->c≠b)/\∀ p∈X.pn++pins,p.1≠b) :
  Inv X pins σ H' { s with heap:=h',gens:=g',drawn:=d',toks:=t' }:=by
 obtain ⟨m,⟨o,es,ep,ho,r⟩,_⟩:=id I.loc
 obtain ⟨sl,hL⟩:=u.any ho I.free fun z=>(hch _ z).2.1 rfl
 exact I.step (ch:=ch) hch (fun b o hL hb hc e n=>u.keep b o e n (fun z=>(List.mem_cons.mp (I.pS b z)).elim hL hb) hc) (fun b o _ _ hc e n=>u.any e n hc) (fun b o hc e n=>u.free b o e n hc) (fun b o hc e=>u.there b o e hc) u.tups u.frzs u.tbls (fun m' hm=>by
  obtain ⟨o',es',ep',ho',r'⟩:=hm
  rw [ho] at ho';cases ho'
  exact ⟨_,es',ep',hL,r'⟩) hok hg
theorem Inv.turned {t':Nat} {it:Addr} (I:Inv X pins σ H s) (k:∀ b o,b≠it->s.heap.get? b=some o->h'.get? b=some o) (hn:H it=none) (hL:it≠X.env.locals)
  (h1:it∈X.ex\/X.s₀.heap.objs.size<=it) (h2:∀ x c,X.env.cells.lookup x=some c->c≠it) (h3:∀ p∈X.pn++pins,p.1≠it):Inv X pins σ H { s with heap:=h',toks:=t' }:=by
 have nit:∀ b u,H b=some u->b≠it:=fun b u e z=>by rw [z,hn] at e;cases e
 refine I.step (g':=s.gens) (d':=s.drawn) (ch:=[it]) (fun b hb=>?_) (fun b o _ _ hc e _=>k b o (fun z=>hc (by simp [z])) e) (fun b o _ _ hc e _=>⟨o.slots,k b o (fun z=>hc (by simp [z])) e⟩) (fun _ _ _ _ n=>n)
  (fun b o hc e=>⟨o,k b o (fun z=>hc (by simp [z])) e⟩) (fun _ _ e=>e) (fun _ _ _ e=>e) (fun b ps e=>⟨#[],by rw [e];simp⟩) (fun m hm=>?_) (fun b u e=>?_) I.bare
 ·have e:b=it:=by simpa using hb
  subst e
  exact ⟨h1,hL,h2,h3⟩
 ·obtain ⟨o,es,ep,ho,r⟩:=hm
  exact ⟨o,es,ep,k _ o (Ne.symm hL) ho,r⟩
 ·refine (I.hok b u e).stay (fun c v hc q=>k c v ?_ q) (fun _ q=>q) fun _ _ q=>q
  rcases hc with z | z
  ·rw [z];exact nit b u e
  ·exact nit c _ z
theorem Inv.tok (I:Inv X pins σ H s) (t:Nat):Inv X pins σ H { s with toks:=t }:=I.un (h':=s.heap) (t':=t) Un.refl I.hok
theorem Inv.kept {t':Nat} (I:Inv X pins σ H s) (k:∀ b u,s.heap.get? b=some u->h'.get? b=some u):Inv X pins σ H { s with heap:=h',toks:=t' }:=I.un (Un.kept k) (I.hok.kept k)
theorem Inv.laid {a:Addr} {o:HO} {t':Nat} (I:Inv X pins σ H s) (k:∀ b u,s.heap.get? b=some u->h'.get? b=some u) (hp:s.heap.objs.size<=a) (new:bO X.prog X.w (upd H a o) h' a o) :
  Inv X pins σ (upd H a o) { s with heap:=h',toks:=t' }:=I.un (Un.laid k hp (I.hok.fresh hp)) (I.hok.laid k hp new)
theorem Inv.write {x e:Addr} {o:HO} {t':Nat} (I:Inv X pins σ H s) (mu:Es (H x)) (he:e=x\/H e=some (.own x)) (k:∀ b u,b≠e->s.heap.get? b=some u->h'.get? b=some u) (heo:∃ u,h'.get? e=some u)
  (new:bO X.prog X.w (upd H x o) h' x o):Inv X pins σ (upd H x o) { s with heap:=h',toks:=t' }:=I.un (Un.write mu he k heo) (I.hok.write mu he k heo new)
theorem Inv.sM {pins':List (Addr×Obj)} (I:Inv X pins σ H s) (h:∀ p∈pins',s.heap.get? p.1=some p.2/\H p.1=none/\p.1≠X.env.locals/\p.1∉X.fs/\∀ v,p.2.data≠.cell v):Inv X pins' σ H s:=
 ⟨I.ok,I.os,I.bare,I.base,I.loc,I.cell,I.free,I.freeC,fun p hp=>(List.mem_append.mp hp).elim (fun z=>I.pin p (List.mem_append_left _ z)) (h p),I.hok,I.len⟩
theorem oJ {N:List Str} (hN:N.Nodup) {i j:Nat} {x:Str} (a:N[i]?=some x) (b:N[j]?=some x):i=j:=by
 obtain ⟨h1,e1⟩:=List.getElem?_eq_some_iff.mp a
 obtain ⟨h2,e2⟩:=List.getElem?_eq_some_iff.mp b
 exact (List.getElem_inj hN).mp (e1.trans e2.symm)
theorem uf {M:Model} {A:Around} {E:Value->Shared->Prop} {i:Nat} {x:Str} {v:V} {u:Value} {Q:Unit->Shared->Prop} (I:Inv X pins σ H s) (hN:X.N.Nodup) (hi:X.N[i]?=some x) (hx:Loc X.env.scope x) (r:RelV v u)
  (h:∀ s',Inv X pins (σ.set i (some v)) H s'->(∃ a,Heap.SameBut a s.heap s'.heap/\(a=X.env.locals\/X.env.cells.lookup x=some a))->Q () s') (hf:X.fn x=true\/X.env.scope.names.lookup x=some .local:=by first | exact .inl rfl | exact .inr rfl | assumption):wpAny M A (storeName X.env x u) Q E s:=by
 obtain ⟨m,hn,hl⟩:=id I.loc
 have hcls:(X.env.scope.kind == .class || (X.env.scope.kind == .module && X.env.locals != X.env.globals))=false:=by rw [I.ok.kind];rfl
 have hiσ:i < σ.length:=by rw [I.len];exact (List.getElem?_eq_some_iff.mp hi).1
 have CH:=I.CH
 have tracked:∀ {a:Addr} {h':Heap},(∃ o,s.heap.get? a=some o/\H a=none)->Heap.SameBut a s.heap h'->gC X.prog X.w H h':=fun {a h'} ha hs b ob e=>by
  obtain ⟨_,_,hfree⟩:=ha
  refine (I.hok b ob e).stay (fun c w' hc q=>(hs.2 c ?_).trans q) (fun _ q=>q) fun _ _ q=>q
  rintro rfl
  rcases hc with rfl | hc
  ·rw [hfree] at e;cases e
  ·rw [hfree] at hc;cases hc
 rcases hx with hk | hk
 ·refine wpAny_storeName_local hk hn (fun h' hn' hs=>?_) hcls
  obtain ⟨oL,_,_,hoL,_⟩:=id hn
  refine h _ ⟨I.ok,I.os,I.bare,⟨fun b o e n hb hx=>?_,fun b o e n hb hx=>?_,I.base.free,fun b o e hx=>?_,I.base.tups,I.base.frzs,I.base.tbls⟩,⟨_,hn',fun j y v' e1 e2 e3=>?_⟩,fun y c e=>?_,I.free,I.freeC,fun p hp=>?_,tracked ⟨oL,hoL,I.free⟩ hs,by simpa using I.len⟩ ⟨_,hs,.inl rfl⟩
  ·exact (hs.2 b (Nat.ne_of_lt (Nat.lt_of_lt_of_le (Heap.lt_size e) I.ok.above))).trans (I.base.keep b o e n hb hx)
  ·obtain ⟨sl,e1⟩:=I.base.slot b o e n hb hx
   exact ⟨sl,(hs.2 b (Nat.ne_of_lt (Nat.lt_of_lt_of_le (Heap.lt_size e) I.ok.above))).trans e1⟩
  ·obtain ⟨o',e1⟩:=I.base.there b o e hx
   exact ⟨o',(hs.2 b (Nat.ne_of_lt (Nat.lt_of_lt_of_le (Heap.lt_size e) I.ok.above))).trans e1⟩
  ·by_cases hj:j=i
   ·subst hj
    rw [hi] at e1;cases e1
    rw [List.getElem?_set_self hiσ] at e2
    cases e2
    exact ⟨u,r,.inl ⟨hk,by simp⟩⟩
   ·rw [List.getElem?_set_ne (Ne.symm hj)] at e2
    obtain ⟨u',r',q⟩:=hl j y v' e1 e2 e3
    refine ⟨u',r',?_⟩
    rcases q with ⟨k,e⟩ | ⟨k,c,e,z⟩
    ·refine .inl ⟨k,?_⟩
     have:y≠x:=fun e=>hj (oJ hN e1 (e ▸ hi))
     simp [this,e]
    ·exact .inr ⟨k,c,e,z.sameBut hs (CH y c e)⟩
  ·obtain ⟨w',z⟩:=I.cell y c e
   exact ⟨w',z.sameBut hs (CH y c e)⟩
  ·obtain ⟨e,n,ne,nf,d⟩:=I.pin p hp
   exact ⟨(hs.2 p.1 ne).trans e,n,ne,nf,d⟩
 ·have hfn:X.fn x=true:=by
   rcases hf with z | z
   ·exact z
   ·rw [z] at hk;cases hk
  obtain ⟨c,hc⟩:=I.ok.has x (.inl hk)
  obtain ⟨w',z⟩:=I.cell x c hc
  refine wpAny_storeName_cell I.ok.kind hk hc z (fun h' hc' hs=>?_)
  obtain ⟨oc,hoc,hocd⟩:=id z
  refine h { s with heap:=h' } ⟨I.ok,I.os,I.bare,⟨fun b o e n hb hx=>?_,fun b o e n hb hx=>?_,I.base.free,fun b o e hx=>?_,I.base.tups,I.base.frzs,I.base.tbls⟩,⟨m,hn.sameBut hs (Ne.symm (CH x c hc)),fun j y v' e1 e2 e3=>?_⟩,fun y c' e=>?_,I.free,I.freeC,fun p hp=>?_,tracked ⟨oc,hoc,I.freeC x c hc⟩ hs,by simpa using I.len⟩ ⟨c,hs,.inr hc⟩
  ·exact (hs.2 b (Nat.ne_of_lt (Nat.lt_of_lt_of_le (Heap.lt_size e) (I.ok.cab x c hfn hc)))).trans (I.base.keep b o e n hb hx)
  ·obtain ⟨sl,e1⟩:=I.base.slot b o e n hb hx
   exact ⟨sl,(hs.2 b (Nat.ne_of_lt (Nat.lt_of_lt_of_le (Heap.lt_size e) (I.ok.cab x c hfn hc)))).trans e1⟩
  ·obtain ⟨o',e1⟩:=I.base.there b o e hx
   exact ⟨o',(hs.2 b (Nat.ne_of_lt (Nat.lt_of_lt_of_le (Heap.lt_size e) (I.ok.cab x c hfn hc)))).trans e1⟩
  ·by_cases hj:j=i
   ·subst hj
    rw [hi] at e1;cases e1
    rw [List.getElem?_set_self hiσ] at e2
    cases e2
    exact ⟨u,r,.inr ⟨.inl hk,c,hc,hc'⟩⟩
   ·rw [List.getElem?_set_ne (Ne.symm hj)] at e2
    obtain ⟨u',r',q⟩:=hl j y v' e1 e2 e3
    refine ⟨u',r',?_⟩
    rcases q with q | ⟨k,c',e,z'⟩
    ·exact .inl q
    ·refine .inr ⟨k,c',e,z'.sameBut hs ?_⟩
     rintro rfl
     exact hj (oJ hN e1 (I.ok.inj _ _ _ e hc ▸ hi))
  ·by_cases hcc:c'=c
   ·subst hcc;exact ⟨_,hc'⟩
   ·obtain ⟨w2,z2⟩:=I.cell y c' e
    exact ⟨w2,z2.sameBut hs hcc⟩
  ·obtain ⟨e,n,ne,nf,d⟩:=I.pin p hp
   refine ⟨(hs.2 p.1 ?_).trans e,n,ne,nf,d⟩
   intro q
   rw [q,hoc] at e
   have q':oc=p.2:=Option.some.inj e
   exact d w' (by rw [<- q'];exact hocd)
theorem nY {M:Model} {A:Around} {E:Value->Shared->Prop} {i:Nat} {x:Str} {v:V} {u:Value} {Q:Unit->Shared->Prop} (I:Inv X pins σ H s) (hN:X.N.Nodup) (hi:X.N[i]?=some x) (hx:Loc X.env.scope x) (r:RelV v u)
  (h:∀ s',Inv X pins (σ.set i (some v)) H s'->Q () s') (hf:X.fn x=true\/X.env.scope.names.lookup x=some .local:=by first | exact .inl rfl | exact .inr rfl | assumption):wpAny M A (storeName X.env x u) Q E s:=
 uf I hN hi hx r (fun s' I' _=>h s' I') hf
theorem Inv.AJ {s':Shared} {ch:List Addr} (I:Inv X pins σ H s) (ho:s'.os=s.os) (u:Un (frs X.stack) ch H H' s.heap s'.heap) (hok:gC X.prog X.w H' s'.heap) (hg:AllBare s'.gens)
  (hch:∀ b∈ch,(b∈X.ex\/X.s₀.heap.objs.size<=b)/\b≠X.env.locals/\(∀ x c,X.env.cells.lookup x=some c->c≠b)/\∀ p∈X.pn++pins,p.1≠b):Inv X pins σ H' s':=by
 obtain ⟨h',g',d',t',o'⟩:=s'
 have e:o'=s.os:=ho
 subst e
 exact I.call (g':=g') (t':=t') (d':=d') u hok hg hch
end
noncomputable abbrev XK:=Value->Option Addr->Hp->Prop
noncomputable abbrev St:=List (Option V)
noncomputable abbrev VK:=V->Hp->Prop
noncomputable abbrev TE:=St->Hp->VK->Prop
noncomputable abbrev TT:=St->Hp->(Bool->Hp->Prop)->Prop
noncomputable abbrev TA:=St->Hp->(List V->Hp->Prop)->Prop
structure Ends where
 nx:St->Hp->Prop
 rt:VK
 bk:St->Hp->Prop:=fun _ _=>False
 ct:St->Hp->Prop:=fun _ _=>False
noncomputable abbrev TS:=Ends->St->Hp->Prop
noncomputable def EP (X:Cx) (pins:List (Addr×Obj)) (σ:St) (Q:VK) (u:Value) (s':Shared):Prop:=∃ v H',Inv X pins σ H' s'/\RelV v u/\Q v H'
noncomputable def TP (X:Cx) (pins:List (Addr×Obj)) (σ:St) (Q:Bool->Hp->Prop) (b:Bool) (s':Shared):Prop:=∃ H',Inv X pins σ H' s'/\Q b H'
noncomputable def AP (X:Cx) (pins:List (Addr×Obj)) (σ:St) (Q:List V->Hp->Prop) (us:List Value) (s':Shared):Prop:=∃ vs H',Inv X pins σ H' s'/\Vals vs us/\Q vs H'
noncomputable def SP (X:Cx) (pins:List (Addr×Obj)) (D:Ends) (f:Flow) (s':Shared):Prop:=
 match f with
 | .next=>∃ σ' H',Inv X pins σ' H' s'/\D.nx σ' H'
 | .brk=>∃ σ' H',Inv X pins σ' H' s'/\D.bk σ' H'
 | .cont=>∃ σ' H',Inv X pins σ' H' s'/\D.ct σ' H'
 | .ret u=>∃ v σ' H',Inv X pins σ' H' s'/\RelV v u/\D.rt v H'
noncomputable def PE (X:Cx) (e:Expr) (t:TE):Prop:=
 ∀ (pins:List (Addr×Obj)) (s:Shared) (σ:St) (H:Hp) (Q:VK),Inv X pins σ H s->t σ H Q->wpAny (model X.prog X.w) X.A (eval e X.env) (EP X pins σ Q) X.xe s
noncomputable def PT (X:Cx) (e:Expr) (t:TT):Prop:=
 ∀ (pins:List (Addr×Obj)) (s:Shared) (σ:St) (H:Hp) (Q:Bool->Hp->Prop),Inv X pins σ H s->t σ H Q->wpAny (model X.prog X.w) X.A (isTrue e X.env (eval e X.env)) (TP X pins σ Q) X.xe s
noncomputable def PW (X:Cx) (e:Expr) (t:TT):Prop:=
 ∀ (whole:Sem Value) (pins:List (Addr×Obj)) (s:Shared) (σ:St) (H:Hp) (Q:Bool->Hp->Prop),Inv X pins σ H s->t σ H Q->wpAny (model X.prog X.w) X.A (isTrue e X.env whole) (TP X pins σ Q) X.xe s
noncomputable def PA (X:Cx) (es:List Expr) (t:TA):Prop:=
 ∀ (pos:Pos) (pins:List (Addr×Obj)) (s:Shared) (σ:St) (H:Hp) (Q:List V->Hp->Prop),Inv X pins σ H s->t σ H Q->wpAny (model X.prog X.w) X.A (spliced (backTo pos (starEach es X.env))) (AP X pins σ Q) X.xe s
noncomputable def PS (X:Cx) (st:Stmt) (t:TS):Prop:=
 ∀ (pins:List (Addr×Obj)) (s:Shared) (σ:St) (H:Hp) (D:Ends),Inv X pins σ H s->t D σ H->wpAny (model X.prog X.w) X.A (exec st X.env) (SP X pins D) X.xe s
noncomputable def m7 (X:Cx) (st:List Stmt) (t:TS):Prop:=
 ∀ (pins:List (Addr×Obj)) (s:Shared) (σ:St) (H:Hp) (D:Ends),Inv X pins σ H s->t D σ H->wpAny (model X.prog X.w) X.A (execs st X.env) (SP X pins D) X.xe s
theorem cX {α:Type} {t:Sem α} {Q Q':α->Shared->Prop} {M:Model} {A:Around} {E:Value->Shared->Prop} {s:Shared} (h:wpAny M A t Q E s) (hQ:∀ a s,Q a s->Q' a s):wpAny M A t Q' E s:=wpAny_mono h hQ fun _ _ x=>x
section
variable {X:Cx}
noncomputable def D0 (i:Nat):TE:=fun σ H Q=>∃ v,σ[i]?=some (some v)/\Q v H
noncomputable def tC (v:V):TE:=fun _ H Q=>Q v H
theorem uU {i:Nat} {x:Str} {pos:Pos} (hN:X.N[i]?=some x) (hv:Dg X.env.scope x) (hd:(x == ("__debug__" : Str))=false:=by decide) (hcd:(x == ("__classdict__" : Str))=false:=by decide):PE X (.Name x pos) (D0 i):=by
 intro pins s σ H Q I h
 obtain ⟨v,e,h⟩:=h
 obtain ⟨m,hn,hl⟩:=I.loc
 obtain ⟨u,r,l⟩:=hl i x v hN e hv
 have fin:EP X pins σ Q u s:=⟨v,H,I,r,h⟩
 rcases l with ⟨hk,hm⟩ | ⟨hk,c,hc,hcell⟩
 ·exact wpAny_Name (wpAny_loadName_local I.ok.kind hk hn hm fin) hd
 ·rcases hk with hk | hk
  ·exact wpAny_Name (wpAny_loadName_cell I.ok.kind hk hc hcell fin) hd
  ·exact wpAny_Name (wpAny_loadName_free I.ok.kind hk hc hcell fin hcd) hd
theorem B5 {i j pos}:PE X (.Constant (.int i) j pos) (tC (.int i)):=fun _ _ _ H _ I h=>wpAny_Constant_int ⟨.int i,H,I.tok _,⟨_,rfl⟩,h⟩
theorem Eu {b j pos}:PE X (.Constant (.bool b) j pos) (tC (.bl b)):=fun _ _ _ H _ I h=>Constant_bool ⟨.bl b,H,I,rfl,h⟩
noncomputable def Gl (X:Cx) (x:Str):Prop:=X.env.kindOf x=some .globalImplicit
theorem zV {E:Value->Shared->Prop} {pins:List (Addr×Obj)} {s:Shared} {σ:St} {H:Hp} {x:Str} {u:Value} {pos:Pos} {Q:Value->Shared->Prop} (I:Inv X pins σ H s) (hg:Gl X x) (hm:X.mg x=some u) (h:Q u s)
  (hd:(x == ("__debug__" : Str))=false:=by decide):wpAny (model X.prog X.w) X.A (eval (.Name x pos) X.env) Q E s:=
 Calls.Name_function_global I.ok.kind hg (Calls.loadGlobal_global (by rw [I.ok.glob];exact I.mod.glob.keeps I.bk) hm h) hd
theorem jH {E:Value->Shared->Prop} {pins:List (Addr×Obj)} {s:Shared} {σ:St} {H:Hp} {x:Str} {u:Value} {pos:Pos} {Q:Value->Shared->Prop} (I:Inv X pins σ H s) (hg:Gl X x) (hm:X.mg x=none) (hv:bootBuiltins x=some u) (h:Q u s)
  (hn:x ≠ "__name__" := by decide) (hd:(x == ("__debug__" : Str))=false:=by decide):wpAny (model X.prog X.w) X.A (eval (.Name x pos) X.env) Q E s:=by
 obtain ⟨mb,h1,h2⟩:=I.mod.blt
 exact Calls.Name_function_global I.ok.kind hg (Calls.loadGlobal_builtin (by rw [I.ok.glob];exact I.mod.glob.keeps I.bk) hm (by rw [I.ok.blt];exact h1.keeps I.bk) ((h2 x hn).trans hv) h) hd
theorem zq {x:Str} {v:V} {u:Value} {pos:Pos} (hg:Gl X x) (hm:X.mg x=none) (hv:bootBuiltins x=some u) (r:RelV v u) (hn:x ≠ "__name__" := by decide) (hd:(x == ("__debug__" : Str))=false:=by decide):PE X (.Name x pos) (tC v):=
 fun _ _ _ H _ I h=>jH I hg hm hv ⟨v,H,I,r,h⟩ hn hd
variable {a b:Expr} {ta tb:TE} {pos:Pos}
variable {tA tB':TT} {rest:List Expr}
noncomputable def Dm (t u:TT):TT:=fun σ H Q=>t σ H fun c H1=>if c=true then u σ H1 Q else Q false H1
noncomputable def GA (t u:TT):TT:=fun σ H Q=>t σ H fun c H1=>if c=true then Q true H1 else u σ H1 Q
noncomputable def Fl (t:TT):TT:=fun σ H Q=>t σ H fun c H1=>Q (!c) H1
theorem z8 (ha:PT X a tA):PW X (.BoolOp .And [a] pos) tA:=by
 intro wh pins s σ H Q I h
 refine isTrue_and (cX (ha pins s σ H Q I h) fun c s1 e=>?_)
 cases c with
 | true=>exact isTrue_and_nil e
 | false=>exact e
theorem BY (ha:PT X a tA):PW X (.BoolOp .Or [a] pos) tA:=by
 intro wh pins s σ H Q I h
 refine isTrue_or (cX (ha pins s σ H Q I h) fun c s1 e=>?_)
 cases c with
 | false=>exact isTrue_or_nil e
 | true=>exact e
theorem Cw (ha:PT X a tA) (hb:PW X (.BoolOp .And (b::rest) pos) tB'):PW X (.BoolOp .And (a::b::rest) pos) (Dm tA tB'):=by
 intro wh pins s σ H Q I h
 refine isTrue_and (cX (ha pins s σ H _ I h) fun c s1 ⟨H1,I1,q1⟩=>?_)
 cases c with
 | true=>exact hb wh pins s1 σ H1 Q I1 q1
 | false=>exact ⟨H1,I1,q1⟩
theorem Dv (ha:PT X a tA) (hb:PW X (.BoolOp .Or (b::rest) pos) tB'):PW X (.BoolOp .Or (a::b::rest) pos) (GA tA tB'):=by
 intro wh pins s σ H Q I h
 refine isTrue_or (cX (ha pins s σ H _ I h) fun c s1 ⟨H1,I1,q1⟩=>?_)
 cases c with
 | true=>exact ⟨H1,I1,q1⟩
 | false=>exact hb wh pins s1 σ H1 Q I1 q1
theorem Ce (ha:PT X a tA):PT X (.UnaryOp .Not a pos) (Fl tA):=by
 intro pins s σ H Q I h
 exact isTrue_not (ha pins s σ H (fun c H1=>Q (!c) H1) I h)
noncomputable def Er (ta tb:TE):TE:=fun σ H Q=>ta σ H fun x H1=>∃ c,x=.bl c/\if c=true then tb σ H1 Q else Q (.bl false) H1
theorem A_ {op} {t:TE} (h:PE X a t):PE X (.BoolOp op [a] pos) t:=fun pins s σ H Q I hw=>BoolOp_one (h pins s σ H Q I hw)
theorem CG (ha:PE X a ta) (hb:PE X (.BoolOp .And (b::rest) pos) tb):PE X (.BoolOp .And (a::b::rest) pos) (Er ta tb):=by
 intro pins s σ H Q I h
 refine BoolOp_and (cX (ha pins s σ H _ I h) fun v s1 ⟨x,H1,I1,r1,q1⟩=>?_)
 obtain ⟨c,rfl,q1⟩:=q1
 cases r1
 refine wpAny_truthy_bool ?_
 cases c with
 | true=>exact hb pins s1 σ H1 Q I1 q1
 | false=>exact ⟨.bl false,H1,I1,rfl,q1⟩
end
noncomputable def dW (K:PySem.W.Frag) (H:Hp) (a:Addr) (xs:List V):Prop:=
 Rd H a (.lst xs) \/
  ∃ (o:Obj) (its:Array Value) (n:Nat),K.lookup a=some o/\o.cls=.type "list" /\ o.dict=none/\o.data=.seq its n/\its.size<=sizeLine/\Vals xs its.toList
noncomputable def dF (K:PySem.W.Frag) (H:Hp) (a:Addr) (xs:List V):Prop:=
 Rd H a (.tup xs) \/
  ∃ (o:Obj) (its:Array Value) (n:Nat),K.lookup a=some o/\o.cls=.type "tuple" /\ o.dict=none/\o.data=.seq its n/\its.size<=sizeLine/\Vals xs its.toList
noncomputable def Fy:Value->Option V
 | .none=>some .non
 | .bool b=>some (.bl b)
 | .int i _=>some (.int i)
 | .str x _=>some (.str x)
 | .bytes b _=>some (.byt b)
 | .float b _=>some (.flt b)
 | .ref a=>some (.ref a)
 | .type n=>some (.ty n)
 | _=>none
theorem RelV.abs {x:V} {u:Value} (r:RelV x u):Fy u=some x:=by
 cases x with
 | non=>cases r;rfl
 | bl _=>cases r;rfl
 | int _=>obtain ⟨t,rfl⟩:=r;rfl
 | str _=>obtain ⟨t,rfl⟩:=r;rfl
 | byt _=>obtain ⟨t,rfl⟩:=r;rfl
 | flt _=>obtain ⟨t,rfl⟩:=r;rfl
 | ref _=>cases r;rfl
 | ty _=>cases r;rfl
theorem RelV.inj {x y:V} {u:Value} (r:RelV x u) (q:RelV y u):x=y:=Option.some.inj (r.abs.symm.trans q.abs)
theorem Vals.inj:∀ {xs ys:List V} {us:List Value},Vals xs us->Vals ys us->xs=ys
 | _,_,_,.nil,.nil=>rfl
 | _,_,_,.cons r t,.cons r' t'=>by rw [r.inj r',Vals.inj t t']
section
variable {X:Cx} {pins:List (Addr×Obj)} {σ:St} {H:Hp} {s:Shared} {a:Addr} {xs ys:List V}
theorem dW.of {K:PySem.W.Frag} (h:H a=some (.lst xs)):dW K H a xs:=.inl (.inl h)
theorem dF.of {K:PySem.W.Frag} (h:H a=some (.tup xs)):dF K H a xs:=.inl (.inl h)
theorem Inv.list (I:Inv X pins σ H s) (h:dW X.K H a xs):∃ its:List Value,Vals xs its/\PlainL s.heap a its.toArray/\xs.length<=sizeLine:=by
 rcases h with h | ⟨o,its,n,hk,hc,hd,hs,hz,r⟩
 ·obtain ⟨z,its,n,r,e⟩:=h.ok I.hok
  exact ⟨its,r,⟨_,n,e,rfl,rfl,rfl⟩,z⟩
 ·refine ⟨its.toList,r,⟨o,n,I.m5 a o hk,hc,hd,by simpa using hs⟩,?_⟩
  have e:=r.length
  simp only [Array.length_toList] at e
  omega
theorem Inv.tuple (I:Inv X pins σ H s) (h:dF X.K H a xs):∃ its:List Value,Vals xs its/\IsTup s.heap a its.toArray/\xs.length<=sizeLine:=by
 rcases h with h | ⟨o,its,n,hk,hc,_,hs,hz,r⟩
 ·obtain ⟨z,its,r,p⟩:=h.ok I.hok
  exact ⟨its,r,p.tup,z⟩
 ·refine ⟨its.toList,r,⟨o,I.m5 a o hk,hc,n,by simpa using hs⟩,?_⟩
  have e:=r.length
  simp only [Array.length_toList] at e
  omega
theorem Inv.oN (I:Inv X pins σ H s) (h:dW X.K H a xs) (h':dW X.K H a ys):xs=ys:=by
 obtain ⟨its,r,⟨o,n,e,_,_,d⟩,_⟩:=I.list h
 obtain ⟨its',r',⟨o',n',e',_,_,d'⟩,_⟩:=I.list h'
 rw [e] at e';cases e'
 rw [d] at d'
 injection d' with d1 _
 have:its=its':=by simpa using congrArg Array.toList d1
 subst this
 exact r.inj r'
theorem Inv.kN (I:Inv X pins σ H s) (h:dF X.K H a xs) (h':dF X.K H a ys):xs=ys:=by
 obtain ⟨its,r,⟨o,e,_,n,d⟩,_⟩:=I.tuple h
 obtain ⟨its',r',⟨o',e',_,n',d'⟩,_⟩:=I.tuple h'
 rw [e] at e';cases e'
 rw [d] at d'
 injection d' with d1 _
 have:its=its':=by simpa using congrArg Array.toList d1
 subst this
 exact r.inj r'
end
noncomputable abbrev Cx.kG (X:Cx) (E:Value->Shared->Prop):Cx:={ X with xe:=E }
noncomputable abbrev Cx.Et (X:Cx):Cx:=X.kG fun _ _=>False
theorem Cx.Ok.kG {X:Cx} (ok:X.Ok) (E:Value->Shared->Prop):(X.kG E).Ok:=
 ⟨ok.mod,ok.kind,ok.glob,ok.blt,ok.above,ok.inj,ok.has,ok.cab,ok.hd,ok.frames,ok.stk,ok.exf,ok.bs,ok.bsz,ok.noex,ok.exfs,ok.j6,ok.frf⟩
theorem Cx.Ok.fF {X:Cx} {E:Value->Shared->Prop} (ok:(X.kG E).Ok):X.Ok:=
 ⟨ok.mod,ok.kind,ok.glob,ok.blt,ok.above,ok.inj,ok.has,ok.cab,ok.hd,ok.frames,ok.stk,ok.exf,ok.bs,ok.bsz,ok.noex,ok.exfs,ok.j6,ok.frf⟩
section
variable {X:Cx} {pins:List (Addr×Obj)} {σ:St} {H:Hp} {s:Shared} {E:Value->Shared->Prop}
theorem Inv.kG (I:Inv X pins σ H s) (E:Value->Shared->Prop):Inv (X.kG E) pins σ H s:=⟨I.ok.kG E,I.os,I.bare,I.base,I.loc,I.cell,I.free,I.freeC,I.pin,I.hok,I.len⟩
theorem Inv.fF (I:Inv (X.kG E) pins σ H s):Inv X pins σ H s:=⟨I.ok.fF,I.os,I.bare,I.base,I.loc,I.cell,I.free,I.freeC,I.pin,I.hok,I.len⟩
theorem SP.fF {D:Ends} {f:Flow} {s':Shared} (h:SP (X.kG E) pins D f s'):SP X pins D f s':=by
 cases f with
 | next=>obtain ⟨σ',H',I,q⟩:=h;exact ⟨σ',H',I.fF,q⟩
 | brk=>obtain ⟨σ',H',I,q⟩:=h;exact ⟨σ',H',I.fF,q⟩
 | cont=>obtain ⟨σ',H',I,q⟩:=h;exact ⟨σ',H',I.fF,q⟩
 | ret u=>obtain ⟨v,σ',H',I,r,q⟩:=h;exact ⟨v,σ',H',I.fF,r,q⟩
theorem m7.Et {st:List Stmt} {t:TS} (h:m7 X.Et st t):m7 X st t:=fun pins s σ H D I hw=>
 wpAny_mono (h pins s σ H D (I.kG _) hw) (fun _ _ q=>q.fF) fun _ _ z=>False.elim z
end
section
variable {X:Cx} {st:Stmt} {rest:List Stmt} {t u:TS} {e:Expr} {te:TE} {pos:Pos}
noncomputable def D_:TS:=fun D σ H=>D.nx σ H
noncomputable def DX (t u:TS):TS:=fun D σ H=>t { D with nx:=u D } σ H
theorem zH:m7 X [] D_:=fun _ _ σ H _ I h=>wpAny_execs_nil ⟨σ,H,I,h⟩
theorem wU (h1:PS X st t) (h2:m7 X rest u):m7 X (st::rest) (DX t u):=by
 intro pins s σ H D I h
 refine wpAny_execs_cons (cX (h1 pins s σ H { D with nx:=u D } I h) fun f s1 q=>?_)
 cases f with
 | next=>
  obtain ⟨σ',H',I',q⟩:=q
  exact h2 pins s1 σ' H' D I' q
 | ret v=>exact q
 | brk=>exact q
 | cont=>exact q
theorem yK (h1:PS X st t):m7 X [st] t:=by
 intro pins s σ H D I h
 refine wpAny_execs_cons (cX (h1 pins s σ H D I h) fun f s1 q=>?_)
 cases f with
 | next=>exact wpAny_execs_nil q
 | ret v=>exact q
 | brk=>exact q
 | cont=>exact q
theorem Inv.quiet {pins:List (Addr×Obj)} {σ:St} {H:Hp} {s:Shared} (I:Inv X pins σ H s):interactive X.env=false:=by simp [interactive,I.ok.kind]
noncomputable def Eh (te:TE):TS:=fun D σ H=>te σ H fun _ H1=>D.nx σ H1
theorem z7 (he:PE X e te) (hs:swapsWith e none pos.line X.env=pure false:=by rfl):PS X (.Expr e pos) (Eh te):=by
 intro pins s σ H D I h
 exact wpAny_Expr_any (cX (he pins s σ H _ I h) fun v s1 ⟨x,H1,I1,r1,q1⟩=>⟨σ,H1,I1,q1⟩) I.quiet hs
noncomputable def F0 (te:TE):TS:=fun D σ H=>te σ H D.rt
theorem BP (he:PE X e te):PS X (.Return (some e) pos) (F0 te):=by
 intro pins s σ H D I h
 exact wpAny_Return_some (cX (he pins s σ H _ I h) fun v s1 ⟨x,H1,I1,r1,q1⟩=>⟨x,σ,H1,I1,r1,q1⟩)
noncomputable def Ff (c:TT) (t u:TS):TS:=fun D σ H=>c σ H fun b H1=>if b=true then t D σ H1 else u D σ H1
theorem Dh {c:Expr} {a b:List Stmt} {tc:TT} (hc:PT X c tc) (ha:m7 X a t) (hb:m7 X b u):PS X (.If c a b pos) (Ff tc t u):=by
 intro pins s σ H D I h
 refine wpAny_If (cX (hc pins s σ H _ I h) fun d s1 ⟨H1,I1,q1⟩=>?_)
 cases d with
 | true=>exact ha pins s1 σ H1 D I1 q1
 | false=>exact hb pins s1 σ H1 D I1 q1
end
noncomputable abbrev TG:=V->St->Hp->(St->Hp->Prop)->Prop
noncomputable abbrev Ar:=List V->St->Hp->(St->Hp->Prop)->Prop
noncomputable def PG (X:Cx) (target:Expr) (t:TG):Prop:=
 ∀ (pins:List (Addr×Obj)) (s:Shared) (σ:St) (H:Hp) (v:V) (u:Value) (Q:St->Hp->Prop),Inv X pins σ H s->RelV v u->t v σ H Q ->
  wpAny (model X.prog X.w) X.A (assign target X.env u) (fun _ s'=>∃ σ' H',Inv X pins σ' H' s'/\Q σ' H') X.xe s
noncomputable def DB (X:Cx) (ts:List Expr) (t:Ar):Prop:=
 ∀ (pins:List (Addr×Obj)) (s:Shared) (σ:St) (H:Hp) (vs:List V) (us:List Value) (Q:St->Hp->Prop),Inv X pins σ H s->Vals vs us->t vs σ H Q ->
  wpAny (model X.prog X.w) X.A (assignInOrder ((assignEach ts X.env).map (·.2)) us) (fun _ s'=>∃ σ' H',Inv X pins σ' H' s'/\Q σ' H') X.xe s
noncomputable abbrev wN:=V->V->V->Hp->(Hp->Prop)->Prop
noncomputable def vd (X:Cx) (t:wN):Prop:=
 ∀ (pins:List (Addr×Obj)) (s:Shared) (σ:St) (H:Hp) (o i v:V) (ov iv u:Value) (Q:Hp->Prop),Inv X pins σ H s->RelV o ov->RelV i iv->RelV v u->t o i v H Q ->
  wpAny (model X.prog X.w) X.A (setItem ov iv u) (fun _ s'=>∃ H',Inv X pins σ H' s'/\Q H') X.xe s
section
variable {X:Cx} {pos:Pos}
noncomputable def vN (i:Nat):TG:=fun v σ H Q=>Q (σ.set i (some v)) H
theorem rj {i:Nat} {x:Str} (hN:X.N.Nodup) (hi:X.N[i]?=some x) (hx:Loc X.env.scope x) (hf:X.fn x=true\/X.env.scope.names.lookup x=some .local:=by first | exact .inl rfl | exact .inr rfl | assumption):PG X (.Name x pos) (vN i):=by
 intro pins s σ H v u Q I r h
 exact wpAny_assign_Name (nY I hN hi hx r (fun s' I'=>⟨_,H,I',h⟩) hf)
noncomputable def FP:Ar:=fun vs σ H Q=>vs=[]/\Q σ H
noncomputable def El (t:TG) (u:Ar):Ar:=fun vs σ H Q=>∃ v r,vs=v::r/\t v σ H fun σ' H'=>u r σ' H' Q
theorem y9:DB X [] FP:=by
 intro pins s σ H vs us Q I r h
 obtain ⟨e,h⟩:=h
 subst e
 cases r
 exact assignInOrder_nil ⟨σ,H,I,h⟩
theorem uY {e:Expr} {es:List Expr} {t:TG} {u:Ar} (h1:PG X e t) (h2:DB X es u)
  (hs:(assignEach (e::es) X.env).map (·.2)=assign e X.env::(assignEach es X.env).map (·.2):=by rfl):DB X (e::es) (El t u):=by
 intro pins s σ H vs us Q I r h
 obtain ⟨v,vr,e1,h⟩:=h
 subst e1
 cases r with
 | cons r rr=>
  rw [hs]
  refine assignInOrder_cons (cX (h1 pins s σ H _ _ _ I r h) fun _ s1 ⟨σ1,H1,I1,q1⟩=>?_)
  exact h2 pins s1 σ1 H1 _ _ Q I1 rr q1
noncomputable def EY (K:PySem.W.Frag) (n:Nat) (t:Ar):TG:=fun v σ H Q=>∃ a xs,v=.ref a/\dF K H a xs/\xs.length=n/\t xs σ H Q
theorem By {es:List Expr} {k:Nat} {t:Ar} {n:Nat} (hc:X.calm=true) (h:DB X es t)
  (hn:(assignEach es X.env).length=n:=by rfl) (hst:(assignEach es X.env).findIdx? (·.1)=none:=by rfl):PG X (.Tuple es k pos) (EY X.K n t):=by
 intro pins s σ H v u Q I r hw
 obtain ⟨a,xs,e1,hq,hl,hw⟩:=hw
 subst e1
 cases r
 obtain ⟨its,rv,ht,hz⟩:=I.tuple hq
 refine assign_Tuple_tuple (I.ok.hd hc) ht (by simp [hn,<- hl,rv.length]) hst fun h' hx=>?_
 have I1:Inv X pins σ H { s with heap:=h' }:=I.kept (t':=s.toks) fun b o e=>hx b o (Nat.ne_of_lt (Heap.lt_size e)) e
 exact h pins _ σ H xs _ Q I1 (by simpa using rv) hw
noncomputable def E9 (to ti:TE) (t:wN):TG:=fun v σ H Q=>to σ H fun o H1=>ti σ H1 fun i H2=>t o i v H2 fun H3=>Q σ H3
theorem w9 {o i:Expr} {to ti:TE} {t:wN} (ho:PE X o to) (hi:PE X i ti) (hs:vd X t)
  (ha:∀ v,assign (.Subscript o i pos) X.env v=(do
   let ov <- holding [v] (eval o X.env)
   let iv <- holding [v,ov] (eval i X.env)
   standAt pos
   holding [v,ov,iv] (setItem ov iv v)
   release [v,ov,iv] []):=by intro _;rfl):PG X (.Subscript o i pos) (E9 to ti t):=by
 intro pins s σ H v u Q I r h
 rw [ha]
 refine wpAny_bind (wpAny_holding (cX (ho pins s σ H _ I h) fun ov s1 ⟨x,H1,I1,r1,q1⟩=>?_))
 refine wpAny_bind (wpAny_holding (cX (hi pins s1 σ H1 _ I1 q1) fun iv s2 ⟨y,H2,I2,r2,q2⟩=>?_))
 refine wpAny_bind (wpAny_standAt (wpAny_bind (wpAny_holding (cX (hs pins s2 σ H2 x y v ov iv u _ I2 r1 r2 r q2) fun _ s3 ⟨H3,I3,q3⟩=>?_))))
 exact wpAny_release ⟨σ,H3,I3,q3⟩
noncomputable def zU (te:TE) (g:TG):TS:=fun D σ H=>te σ H fun x H1=>g x σ H1 D.nx
theorem Cj {tg e:Expr} {te:TE} {g:TG} (he:PE X e te) (hg:PG X tg g) (hs:swapsWithSole [tg] e pos.line X.env=pure false:=by rfl) (hw:swappedStores [tg] e X.env=pure none:=by rfl)
  (h1:(assignEach [tg] X.env).map (·.2)=[assign tg X.env]:=by rfl):PS X (.Assign [tg] e pos) (zU te g):=by
 intro pins s σ H D I h
 refine wpAny_Assign_stores (cX (he pins s σ H _ I h) fun v s1 ⟨x,H1,I1,r1,q1⟩=>?_) hs hw
 rw [h1]
 exact cX (hg pins s1 σ H1 x v _ I1 r1 q1) fun _ s2 q=>q
theorem CI {i:Nat} {x:Str} {e:Expr} {te:TE} {pos':Pos} (hN:X.N.Nodup) (hi:X.N[i]?=some x) (hx:Loc X.env.scope x) (he:PE X e te) (hs:swapsWith e (some (.Name x pos')) pos.line X.env=pure false:=by rfl) (hf:X.fn x=true\/X.env.scope.names.lookup x=some .local:=by first | exact .inl rfl | exact .inr rfl | assumption) :
  PS X (.Assign [.Name x pos'] e pos) (zU te (vN i)):=by
 intro pins s σ H D I h
 refine wpAny_Assign_Name (cX (he pins s σ H _ I h) fun v s1 ⟨y,H1,I1,r1,q1⟩=>?_) hs
 exact nY I1 hN hi hx r1 (fun s2 I2=>⟨_,H1,I2,q1⟩) hf
end
section
variable {X:Cx} {pos:Pos}
end
structure It where
 go:Nat->Hp->Prop
 yld:Nat->Hp->V->Hp->Prop
 stop:Nat->Hp->Prop
noncomputable def iJ (X:Cx) (pins:List (Addr×Obj)) (H:Hp) (b:Addr):Prop:=
 H b=none/\b≠X.env.locals/\b∉X.fs/\(b∈X.ex\/X.s₀.heap.objs.size<=b)/\(∀ x c,X.env.cells.lookup x=some c->c≠b)/\∀ p∈X.pn++pins,p.1≠b
theorem Inv.tM {X:Cx} {pins:List (Addr×Obj)} {σ:St} {H H':Hp} {s:Shared} {b:Addr} (I:Inv X pins σ H s) (hb:s.heap.objs.size<=b) (hn:H' b=none):iJ X pins H' b:=by
 refine ⟨hn,Nat.ne_of_gt (Nat.lt_of_lt_of_le I.lt hb),I.Fo hb,.inr (Nat.le_trans I.sz hb),fun x c e z=>?_,fun p hp z=>?_⟩
 ·obtain ⟨v,q⟩:=I.cell x c e
  exact absurd (Nat.lt_of_lt_of_le q.lt (by rw [z];exact hb)) (Nat.lt_irrefl _)
 ·exact absurd (Nat.lt_of_lt_of_le (Heap.lt_size (I.pin p hp).1) (by rw [z];exact hb)) (Nat.lt_irrefl _)
structure Turn (P:Program) (w:World) (K:PySem.W.Frag) (tg:Expr) (J:It) (fp:List Addr) (it:Addr) (tn:Nat->Heap->Prop):Prop where
 mem:it∈fp
 obj:∀ i h,tn i h->∀ b∈fp,∃ o,h.get? b=some o/\∀ v,o.data≠.cell v
 keep:∀ i h h',tn i h->(∀ b∈fp,∀ o,h.get? b=some o->h'.get? b=some o)->tn i h'
 item:∀ (X:Cx),X.prog=P->X.w=w->X.K=K->X.calm=true->∀ (i:Nat) (pins:List (Addr×Obj)) (s:Shared) (σ:St) (H:Hp) (E:Value->Shared->Prop),Inv X pins σ H s->(∀ b∈fp,iJ X pins H b)->tn i s.heap->J.go i H ->
  wpAny (model P w) X.A (pyNext (.ref it)) (fun r s1=>∃ u,r=some u /\
   wpAny (model P w) X.A (letOwnedTupleGo tg (.ref it) u) (fun _ s2=>∃ x H',Inv X pins σ H' s2/\RelV x u/\J.yld i H x H'/\tn (i+1) s2.heap/\∀ b∈fp,H' b=none) E s1) E s
 done:∀ (X:Cx),X.prog=P->X.w=w->X.K=K->X.calm=true->∀ (i:Nat) (pins:List (Addr×Obj)) (s:Shared) (σ:St) (H:Hp) (E:Value->Shared->Prop),Inv X pins σ H s->(∀ b∈fp,iJ X pins H b)->tn i s.heap->J.stop i H ->
  wpAny (model P w) X.A (pyNext (.ref it)) (fun r s1=>r=none/\Inv X pins σ H s1) E s
 self:∀ (A:Around) (i:Nat) (s:Shared) (Q:Value->Shared->Prop) (E:Value->Shared->Prop),tn i s.heap->Q (.ref it) s->wpAny (model P w) A (pyIter (.ref it)) Q E s
noncomputable abbrev TI:=St->Hp->(It->Hp->Prop)->Prop
noncomputable def Gj (X:Cx) (pins:List (Addr×Obj)) (σ:St) (tg:Expr) (R:It->Hp->Prop) (itv:Value) (s2:Shared):Prop:=
 ∃ (it:Addr) (fp:List Addr) (tn:Nat->Heap->Prop) (J:It) (H':Hp),itv=.ref it/\Inv X pins σ H' s2/\Turn X.prog X.w X.K tg J fp it tn/\tn 0 s2.heap/\(∀ b∈fp,iJ X pins H' b)/\R J H'
noncomputable def PI (X:Cx) (tg iter:Expr) (wi:TI):Prop:=
 ∀ (pins:List (Addr×Obj)) (s:Shared) (σ:St) (H:Hp) (R:It->Hp->Prop),Inv X pins σ H s->wi σ H R ->
  wpAny (model X.prog X.w) X.A (eval iter X.env) (fun v s1=>wpAny (model X.prog X.w) X.A (pyIter v) (Gj X pins σ tg R) X.xe s1) X.xe s
theorem nU {M:Model} {A:Around} {E:Value->Shared->Prop} {s:Shared} {tg:Expr} {it:Addr} {u:Value} {o:Obj} {n:String} {vs:Array Value} {Q:Unit->Shared->Prop} (ho:s.heap.get? it=some o) (hc:o.cls=.type n) (hd:o.data=.fields vs)
  (hn:["enumerate", "zip", "dict_itemiterator", "dict_reverseitemiterator", "odict_iterator", "itertools.zip_longest", "itertools.pairwise"].contains n=false) (hQ:Q () s):wpAny M A (letOwnedTupleGo tg (.ref it) u) Q E s:=by
 unfold letOwnedTupleGo
 cases tg <;> first
  | exact wpAny_pure hQ
  | (cases u <;> first
    | exact wpAny_pure hQ
    | (refine wpAny_bind (wpAny_load ho ?_)
       rw [hc,hd]
       show wpAny M A (if (["enumerate", "zip", "dict_itemiterator", "dict_reverseitemiterator", "odict_iterator", "itertools.zip_longest", "itertools.pairwise"].contains n && vs[0]? == some (rawInt _))=true then _ else _) Q E s
       rw [if_neg (by intro h;rw [hn,Bool.false_and] at h;cases h)]
       exact wpAny_pure hQ))
noncomputable def EO (K:PySem.W.Frag) (a:Addr):It:=
 ⟨fun i H=>∃ xs x,dW K H a xs/\xs[i]?=some x,fun i H x H'=>H'=H/\∀ xs,dW K H a xs->xs[i]?=some x,fun i H=>∃ xs,dW K H a xs/\xs.length<=i⟩
noncomputable def C7 (K:PySem.W.Frag) (a:Addr):It:=
 ⟨fun i H=>∃ xs x,dF K H a xs/\xs[i]?=some x,fun i H x H'=>H'=H/\∀ xs,dF K H a xs->xs[i]?=some x,fun i H=>∃ xs,dF K H a xs/\xs.length<=i⟩
noncomputable def EN (lo:Int) (n:Nat):It:=⟨fun i _=>i < n,fun i H x H'=>H'=H/\x=.int (lo+i),fun i _=>n<=i⟩
theorem s_ {P:Program} {w:World} {K:PySem.W.Frag} {tg:Expr} (a it:Addr):Turn P w K tg (EO K a) [it] it (fun i h=>h.IsListIter it a i) where
 mem:=by simp
 obj:=fun i h st b hb=>by
  have e:b=it:=by simpa using hb
  subst e
  obtain ⟨o,e,c,d⟩:=st
  exact ⟨o,e,fun v z=>by rw [d] at z;cases z⟩
 keep:=fun i h h' st k=>st.at fun o e=>k it (by simp) o e
 item:=by
  intro X hP hw hK hc i pins s σ H E I hf st hg
  subst hP hw hK
  obtain ⟨xs,x,hq,hx⟩:=hg
  obtain ⟨its,rv,p,hz⟩:=I.list hq
  obtain ⟨u,hu,ru⟩:=rv.get hx
  obtain ⟨f0,f1,f2,f3,f4,f5⟩:=hf it (by simp)
  refine wpAny_pyNext_list_item st p.isList (x:=u) (by simpa using hu) fun h' st' sb=>?_
  have I1:Inv X pins σ H { s with heap:=h' }:=I.turned (t':=s.toks) (fun b o hb e=>(sb.2 b hb).trans e) f0 f1 f3 f4 f5
  obtain ⟨o,e,c,d⟩:=id st'
  exact ⟨u,rfl,nU (s:={ s with heap:=h' }) e c d (by decide) ⟨x,H,I1,ru,⟨rfl,fun ys hy=>by rw [I.oN hy hq];exact hx⟩,st',fun b hb=>(hf b hb).1⟩⟩
 done:=by
  intro X hP hw hK hc i pins s σ H E I hf st hg
  subst hP hw hK
  obtain ⟨xs,hq,hx⟩:=hg
  obtain ⟨its,rv,p,hz⟩:=I.list hq
  obtain ⟨f0,f1,f2,f3,f4,f5⟩:=hf it (by simp)
  have hl:=rv.length
  exact wpAny_pyNext_list_end (I.ok.hd hc) st p.isList (by simp;omega) fun h' eb=>⟨rfl,I.turned (t':=s.toks) (fun b o hb e=>eb b o hb e) f0 f1 f3 f4 f5⟩
 self:=fun _ _ _ _ _ st h=>wpAny_pyIter_listiter st h
theorem oZ {P:Program} {w:World} {K:PySem.W.Frag} {tg:Expr} (a it:Addr):Turn P w K tg (C7 K a) [it] it (fun i h=>h.IsTupleIter it a i) where
 mem:=by simp
 obj:=fun i h st b hb=>by
  have e:b=it:=by simpa using hb
  subst e
  obtain ⟨o,e,c,d⟩:=st
  exact ⟨o,e,fun v z=>by rw [d] at z;cases z⟩
 keep:=fun i h h' st k=>st.at fun o e=>k it (by simp) o e
 item:=by
  intro X hP hw hK hc i pins s σ H E I hf st hg
  subst hP hw hK
  obtain ⟨xs,x,hq,hx⟩:=hg
  obtain ⟨its,rv,p,hz⟩:=I.tuple hq
  obtain ⟨u,hu,ru⟩:=rv.get hx
  obtain ⟨f0,f1,f2,f3,f4,f5⟩:=hf it (by simp)
  refine wpAny_pyNext_tuple_item st (show s.heap.IsTuple a its.toArray from p) (x:=u) (by simpa using hu) fun h' st' sb=>?_
  have I1:Inv X pins σ H { s with heap:=h' }:=I.turned (t':=s.toks) (fun b o hb e=>(sb.2 b hb).trans e) f0 f1 f3 f4 f5
  obtain ⟨o,e,c,d⟩:=id st'
  exact ⟨u,rfl,nU (s:={ s with heap:=h' }) e c d (by decide) ⟨x,H,I1,ru,⟨rfl,fun ys hy=>by rw [I.kN hy hq];exact hx⟩,st',fun b hb=>(hf b hb).1⟩⟩
 done:=by
  intro X hP hw hK hc i pins s σ H E I hf st hg
  subst hP hw hK
  obtain ⟨xs,hq,hx⟩:=hg
  obtain ⟨its,rv,p,hz⟩:=I.tuple hq
  obtain ⟨f0,f1,f2,f3,f4,f5⟩:=hf it (by simp)
  have hl:=rv.length
  exact wpAny_pyNext_tuple_end (I.ok.hd hc) st (show s.heap.IsTuple a its.toArray from p) (by simp;omega) fun h' eb=>⟨rfl,I.turned (t':=s.toks) (fun b o hb e=>eb b o hb e) f0 f1 f3 f4 f5⟩
 self:=fun _ _ _ _ _ st h=>wpAny_pyIter_tupleiter st h
theorem pJ {P:Program} {w:World} {K:PySem.W.Frag} {tg:Expr} (it:Addr) (lo:Int) (n:Nat):Turn P w K tg (EN lo n) [it] it (fun i h=>IsRangeIter h it (lo+(i:Nat) * 1) ((n:Int) - (i:Nat)) 1) where
 mem:=by simp
 obj:=fun i h st b hb=>by
  have e:b=it:=by simpa using hb
  subst e
  exact ⟨_,st,fun v z=>by
   have z':Data.fields _=Data.cell v:=z
   cases z'⟩
 keep:=fun i h h' st k=>k it (by simp) _ st
 item:=by
  intro X hP hw hK hc i pins s σ H E I hf st hg
  subst hP hw hK
  obtain ⟨f0,f1,f2,f3,f4,f5⟩:=hf it (by simp)
  have W:=Walks.range (prog:=X.prog) (w:=X.w) (I.ok.hd hc) it lo 1 n
  refine W.item i s _ _ hg st fun v h' tk hv st' kk=>?_
  obtain ⟨t,rfl⟩:=hv
  have I1:Inv X pins σ H { s with heap:=h',toks:=tk }:=I.turned (fun b o hb e=>kk b o (by simpa using hb) e) f0 f1 f3 f4 f5
  refine ⟨_,rfl,nU (s:={ s with heap:=h',toks:=tk }) (n := "range_iterator") st' rfl rfl (by decide) ⟨.int (lo+i),H,I1,⟨t,?_⟩,⟨rfl,rfl⟩,st',fun b hb=>(hf b hb).1⟩⟩
  rw [Int.mul_one]
 done:=by
  intro X hP hw hK hc i pins s σ H E I hf st hg
  subst hP hw hK
  obtain ⟨f0,f1,f2,f3,f4,f5⟩:=hf it (by simp)
  exact wpAny_pyNext_range_end (I.ok.hd hc) st (by have:n<=i:=hg;omega) fun h' eb=>⟨rfl,I.turned (t':=s.toks) (fun b o hb e=>eb b o hb e) f0 f1 f3 f4 f5⟩
 self:=fun _ _ _ _ _ st h=>wpAny_pyIter_rangeiter st h
section
variable {X:Cx} {tg:Expr}
noncomputable def D9 (K:PySem.W.Frag) (tl:TE):TI:=fun σ H R=>tl σ H fun x H1=>∃ a,x=.ref a/\(∃ xs,dW K H1 a xs)/\R (EO K a) H1
noncomputable def FY (K:PySem.W.Frag) (tl:TE):TI:=fun σ H R=>tl σ H fun x H1=>∃ a,x=.ref a/\(∃ xs,dF K H1 a xs)/\R (C7 K a) H1
theorem qh {l:Expr} {tl:TE} (hl:PE X l tl):PI X tg l (D9 X.K tl):=by
 intro pins s σ H R I h
 refine cX (hl pins s σ H _ I h) fun v s1 ⟨x,H1,I1,r1,q1⟩=>?_
 obtain ⟨a,e,⟨xs,hq⟩,q⟩:=q1
 subst e
 cases r1
 obtain ⟨its,rv,p,hz⟩:=I1.list hq
 refine wpAny_pyIter_list p.isList ?_
 refine ⟨s1.heap.objs.size,[s1.heap.objs.size],_,_,H1,rfl,I1.kept (t':=s1.toks) fun b o e=>Heap.get?_push_of_some _ e,s_ a _,⟨_,Heap.get?_push_size _ rfl,rfl,rfl⟩,fun b hb=>?_,q⟩
 have e:b=s1.heap.objs.size:=by simpa using hb
 subst e
 exact I1.tM (Nat.le_refl _) (I1.hok.fresh (Nat.le_refl _))
theorem vZ {l:Expr} {tl:TE} (hl:PE X l tl):PI X tg l (FY X.K tl):=by
 intro pins s σ H R I h
 refine cX (hl pins s σ H _ I h) fun v s1 ⟨x,H1,I1,r1,q1⟩=>?_
 obtain ⟨a,e,⟨xs,hq⟩,q⟩:=q1
 subst e
 cases r1
 obtain ⟨its,rv,p,hz⟩:=I1.tuple hq
 refine wpAny_pyIter_tuple (show s1.heap.IsTuple a its.toArray from p) ?_
 refine ⟨s1.heap.objs.size,[s1.heap.objs.size],_,_,H1,rfl,I1.kept (t':=s1.toks) fun b o e=>Heap.get?_push_of_some _ e,oZ a _,⟨_,Heap.get?_push_size _ rfl,rfl,rfl⟩,fun b hb=>?_,q⟩
 have e:b=s1.heap.objs.size:=by simpa using hb
 subst e
 exact I1.tM (Nat.le_refl _) (I1.hok.fresh (Nat.le_refl _))
theorem v8 {pins:List (Addr×Obj)} {σ:St} {H:Hp} {s:Shared} {R:It->Hp->Prop} {E:Value->Shared->Prop} {lo hi:Int} {t u v:Tok} {tk:Nat} (I:Inv X pins σ H s) (h1:-(2 ^ 62)<=lo) (h2:lo < 2 ^ 62) (h3:-(2 ^ 62)<=hi) (h4:hi < 2 ^ 62)
  (q:R (EN lo (hi - lo).toNat) H):wpAny (model X.prog X.w) X.A (pyIter (.ref s.heap.objs.size)) (Gj X pins σ tg R) E { s with heap:=s.heap.push { cls:=.type "range",data:=.fields #[.int lo t,.int hi u,.int 1 v] },toks:=tk }:=by
 refine wpAny_pyIter_range (IsRange.new ..) (small_one h1 h2 h3 h4) ?_
 have I1:Inv X pins σ H { s with heap:=s.heap.push { cls:=.type "range",data:=.fields #[.int lo t,.int hi u,.int 1 v] },toks:=tk }:=I.kept fun b o e=>Heap.get?_push_of_some _ e
 refine ⟨(s.heap.push { cls:=.type "range",data:=.fields #[.int lo t,.int hi u,.int 1 v] }).objs.size,[(s.heap.push { cls:=.type "range",data:=.fields #[.int lo t,.int hi u,.int 1 v] }).objs.size],_,_,H,rfl,
  I1.kept (t':=tk) fun b o e=>Heap.get?_push_of_some _ e,pJ _ lo (hi - lo).toNat,?_,fun b hb=>?_,q⟩
 ·have e1:lo+((0:Nat):Int) * 1=lo:=by simp
  have e2:(((hi - lo).toNat:Nat):Int) - ((0:Nat):Int)=Builtin.Range.rangeSize lo hi 1:=by rw [rangeSize_one];split <;> omega
  show IsRangeIter _ _ (lo+((0:Nat):Int) * 1) ((((hi - lo).toNat:Nat):Int) - ((0:Nat):Int)) 1
  rw [e1,e2]
  exact Heap.get?_push_size _ rfl
 ·have e:b=(s.heap.push { cls:=.type "range",data:=.fields #[.int lo t,.int hi u,.int 1 v] }).objs.size:=by simpa using hb
  subst e
  exact I1.tM (Nat.le_refl _) (I1.hok.fresh (Nat.le_refl _))
noncomputable def fm (ta:TA):TI:=fun σ H R=>ta σ H fun vs H1=>∃ j:Int,vs=[.int j]/\-(2 ^ 62)<=j/\j < 2 ^ 62/\R (EN 0 j.toNat) H1
theorem um {a:Expr} {ta:TA} {p pos:Pos} (hg:Gl X "range") (hm:X.mg "range" = none) (ha:PA X [a] ta) (hs:starEach [a] X.env=[(false,eval a X.env)]:=by rfl):PI X tg (.Call (.Name "range" p) [a] [] pos) (fm ta):=by
 intro pins s σ H R I h
 refine Call_ (jH I hg hm boot_range (PyProof.Rows.callWith_type1 (cX (ha pos pins s σ H _ I h) fun us s1 ⟨vs,H1,I1,r1,q1⟩=>?_) hs rfl))
 obtain ⟨j,e,q1,q2,q⟩:=q1
 subst e
 cases r1 with
 | cons r rr=>
  cases rr
  obtain ⟨t,rfl⟩:=r
  exact call_range_1 (v8 I1 (by omega) (by omega) q1 q2 (by simpa using q))
noncomputable def E8 (wi:TI) (g:TG) (tb:TS):TS:=fun D σ H=>wi σ H fun J H1=>∃ W:Nat->Nat->St->Hp->Prop,(∃ m,W 0 m σ H1)/\∀ i m σ H,W i m σ H ->
 (J.stop i H/\D.nx σ H)\/(J.go i H/\∃ N:St->Hp->Prop,(∀ σ' H',N σ' H'->∃ m',m' < m/\W (i+1) m' σ' H')/\∀ x H',J.yld i H x H'->g x σ H' fun σ2 H2=>tb { D with nx:=N,ct:=N,bk:=D.nx } σ2 H2)
noncomputable def jR (fp:List Addr) (h:Heap):List (Addr×Obj):=fp.filterMap fun b=>(h.get? b).map fun o=>(b,o)
theorem dJ {fp:List Addr} {h:Heap} {b:Addr} {o:Obj} (hb:b∈fp) (e:h.get? b=some o):(b,o)∈jR fp h:=List.mem_filterMap.mpr ⟨b,hb,by rw [e];rfl⟩
theorem uc {fp:List Addr} {h:Heap} {p:Addr×Obj} (hp:p∈jR fp h):p.1∈fp/\h.get? p.1=some p.2:=by
 obtain ⟨b,hb,e⟩:=List.mem_filterMap.mp hp
 cases q:h.get? b with
 | none=>rw [q] at e;cases e
 | some o=>
  rw [q] at e
  have e':(b,o)=p:=Option.some.inj e
  subst e'
  exact ⟨hb,q⟩
theorem Inv.pinned {pins:List (Addr×Obj)} {σ:St} {H:Hp} {s:Shared} {fp:List Addr} (I:Inv X pins σ H s) (hf:∀ b∈fp,iJ X pins H b) (ho:∀ b∈fp,∃ o,s.heap.get? b=some o/\∀ v,o.data≠.cell v):Inv X (pins++jR fp s.heap) σ H s:=
 I.sM fun p hp=>(List.mem_append.mp hp).elim (fun z=>I.pin p (List.mem_append_right _ z)) fun z=>by
  obtain ⟨hb,e⟩:=uc z
  obtain ⟨f0,f1,f2,_⟩:=hf p.1 hb
  obtain ⟨o,e',d⟩:=ho p.1 hb
  rw [e] at e';cases e'
  exact ⟨e,f0,f1,f2,d⟩
theorem Inv.fN {pins pl:List (Addr×Obj)} {σ:St} {H:Hp} {s:Shared} (I:Inv X (pins++pl) σ H s):Inv X pins σ H s:=I.sM fun p hp=>I.pin p (List.mem_append_right _ (List.mem_append_left _ hp))
theorem BU {iter:Expr} {body:List Stmt} {wi:TI} {g:TG} {tb:TS} {pos:Pos} (hp:PassesOwn (model X.prog X.w) X.A X.env X.xe) (hc:X.calm=true) (hi:PI X tg iter wi) (hg:PG X tg g) (hb:m7 X body tb)
  (hs:∀ x,foldedSetIterable iter X.env x=pure x:=by intro _;rfl):PS X (.For tg iter body [] pos) (E8 wi g tb):=by
 intro pins s σ H D I h
 refine wpAny_For (cX (hi pins s σ H _ I h) fun v s1 h1=>cX h1 fun itv s2 h2=>?_) hs
 obtain ⟨it,fp,tn,J,H2,e,I2,T,st2,f2,W,⟨m0,w0⟩,turn⟩:=h2
 subst e
 have stat:∀ {H':Hp},(∀ b∈fp,H' b=none)->∀ b∈fp,iJ X pins H' b:=fun hn b hb=>⟨hn b hb,(f2 b hb).2⟩
 refine codeAny_forLoop_any (fun n s'=>∃ i σ' H',Inv X pins σ' H' s'/\tn i s'.heap/\(∀ b∈fp,H' b=none)/\W i n σ' H') ?_ m0 ⟨0,σ,H2,I2,st2,fun b hb=>(f2 b hb).1,w0⟩
 rintro n s3 ⟨i,σ3,H3,I3,st3,fr3,w3⟩
 rcases turn i n σ3 H3 w3 with ⟨stop,qn⟩ | ⟨go,N,hN,step⟩
 ·refine wpAny_passesOwn hp (cX (T.done X rfl rfl rfl hc i pins s3 σ3 H3 X.xe I3 (stat fr3) st3 stop) fun r s4 ⟨hr,I4⟩=>?_)
  subst hr
  exact wpAny_execs_nil ⟨σ3,H3,I4,qn⟩
 ·refine wpAny_passesOwn hp (cX (T.item X rfl rfl rfl hc i pins s3 σ3 H3 X.xe I3 (stat fr3) st3 go) fun r s4 ⟨u,hr,h4⟩=>?_)
  subst hr
  refine wpAny_passesOwn hp (cX h4 fun _ s5 ⟨x,H5,I5,r5,y5,st5,fr5⟩=>?_)
  have I5':=I5.pinned (stat fr5) (T.obj _ _ st5)
  refine wpAny_passesOwn hp (cX (hg _ s5 σ3 H5 x u _ I5' r5 (step x H5 y5)) fun _ s6 ⟨σ6,H6,I6,q6⟩=>?_)
  refine wpAny_passesOwn hp (cX (hb _ s6 σ6 H6 _ I6 q6) fun f s7 q7=>?_)
  have again:∀ {σ7:St} {H7:Hp},Inv X (pins++jR fp s5.heap) σ7 H7 s7->N σ7 H7->∃ m,m < n/\∃ i σ' H',Inv X pins σ' H' s7/\tn i s7.heap/\(∀ b∈fp,H' b=none)/\W i m σ' H':=fun {σ7 H7} I7 n7=>by
   obtain ⟨m',hm,w7⟩:=hN σ7 H7 n7
   refine ⟨m',hm,i+1,σ7,H7,I7.fN,T.keep _ _ _ st5 fun b hb o e=>(I7.pin (b,o) (List.mem_append_right _ (List.mem_append_right _ (dJ hb e)))).1,fun b hb=>?_,w7⟩
   obtain ⟨o,e,d⟩:=T.obj _ _ st5 b hb
   exact (I7.pin (b,o) (List.mem_append_right _ (List.mem_append_right _ (dJ hb e)))).2.1
  cases f with
  | next=>obtain ⟨σ7,H7,I7,n7⟩:=q7;exact again I7 n7
  | cont=>obtain ⟨σ7,H7,I7,n7⟩:=q7;exact again I7 n7
  | brk=>obtain ⟨σ7,H7,I7,q7⟩:=q7;exact ⟨σ7,H7,I7.fN,q7⟩
  | ret v=>obtain ⟨x7,σ7,H7,I7,r7,q7⟩:=q7;exact ⟨x7,σ7,H7,I7.fN,r7,q7⟩
end
theorem p5 {K:PySem.W.Frag} {a:Addr} {xs:List V} {g:TG} {tb:TS} {D:Ends} {σ:St} {H:Hp} (Pv:Nat->St->Hp->Prop) (h0:Pv 0 σ H) (hl:∀ i σ H,i<=xs.length->Pv i σ H->dF K H a xs)
  (hs:∀ i x σ H,xs[i]?=some x->Pv i σ H->g x σ H fun σ2 H2=>tb { D with nx:=Pv (i+1),ct:=Pv (i+1),bk:=D.nx } σ2 H2) (hd:∀ σ H,Pv xs.length σ H->D.nx σ H) :
  ∃ W:Nat->Nat->St->Hp->Prop,(∃ m,W 0 m σ H)/\∀ i m σ H,W i m σ H ->
   ((C7 K a).stop i H/\D.nx σ H)\/((C7 K a).go i H/\∃ N:St->Hp->Prop,(∀ σ' H',N σ' H'->∃ m',m' < m/\W (i+1) m' σ' H')/\∀ x H',(C7 K a).yld i H x H'->g x σ H' fun σ2 H2=>tb { D with nx:=N,ct:=N,bk:=D.nx } σ2 H2):=by
 refine ⟨fun i m σ H=>m=xs.length - i/\i<=xs.length/\Pv i σ H,⟨xs.length,by simp,Nat.zero_le _,h0⟩,?_⟩
 rintro i m σ H ⟨rfl,hi,p⟩
 have q:=hl i σ H hi p
 by_cases hlt:i < xs.length
 ·refine .inr ⟨⟨xs,xs[i],q,by simp [hlt]⟩,Pv (i+1),fun σ' H' p'=>⟨xs.length - (i+1),by omega,rfl,hlt,p'⟩,fun x H' y=>?_⟩
  obtain ⟨e,y⟩:=y
  subst e
  exact hs i x σ _ (y xs q) p
 ·have e:i=xs.length:=by omega
  subst e
  exact .inl ⟨⟨xs,q,Nat.le_refl _⟩,hd σ H p⟩
noncomputable abbrev R2:=V->V->Hp->VK->Prop
noncomputable def dO (X:Cx) (f:Value->Value->Sem Value) (r:R2):Prop:=
 ∀ (pins:List (Addr×Obj)) (s:Shared) (σ:St) (H:Hp) (x y:V) (v u:Value) (Q:VK),Inv X pins σ H s->RelV x v->RelV y u->r x y H Q ->
  wpAny (model X.prog X.w) X.A (f v u) (EP X pins σ Q) X.xe s
noncomputable def EK (X:Cx) (f:Value->Sem Value) (r:V->Hp->VK->Prop):Prop:=
 ∀ (pins:List (Addr×Obj)) (s:Shared) (σ:St) (H:Hp) (x:V) (v:Value) (Q:VK),Inv X pins σ H s->RelV x v->r x H Q ->
  wpAny (model X.prog X.w) X.A (f v) (EP X pins σ Q) X.xe s
noncomputable def bw (X:Cx) (f:Value) (r:List V->Hp->VK->Prop):Prop:=
 ∀ (pins:List (Addr×Obj)) (s:Shared) (σ:St) (H:Hp) (xs:List V) (us:List Value) (Q:VK),Inv X pins σ H s->Vals xs us->r xs H Q ->
  wpAny (model X.prog X.w) X.A (call f us) (EP X pins σ Q) X.xe s
noncomputable def E3 (X:Cx) (r:V->Hp->(Bool->Hp->Prop)->Prop):Prop:=
 ∀ (pins:List (Addr×Obj)) (s:Shared) (σ:St) (H:Hp) (x:V) (v:Value) (Q:Bool->Hp->Prop),Inv X pins σ H s->RelV x v->r x H Q ->
  wpAny (model X.prog X.w) X.A (truthy v) (TP X pins σ Q) X.xe s
noncomputable def DR (r:R2) (ta tb:TE):TE:=fun σ H Q=>ta σ H fun x H1=>tb σ H1 fun y H2=>r x y H2 Q
noncomputable def GD (r:V->Hp->VK->Prop) (ta:TE):TE:=fun σ H Q=>ta σ H fun x H1=>r x H1 Q
noncomputable def rI (C:Int->Int->Prop) (g:Int->Int->V):R2:=fun x y H Q=>∃ i j,x=.int i/\y=.int j/\C i j/\Q (g i j) H
noncomputable def AD (g:Int->Int->V):R2:=fun x y H Q=>∃ i j,x=.int i/\y=.int j/\Q (g i j) H
noncomputable def rU (g:Int->V):V->Hp->VK->Prop:=fun x H Q=>∃ i,x=.int i/\Q (g i) H
section
variable {X:Cx} {a b c:Expr} {ta tb tc:TE} {pos:Pos}
theorem BI (ha:PE X a ta) (hb:PE X b tb) {pins:List (Addr×Obj)} {s:Shared} {σ:St} {H:Hp} {R:V->V->Hp->Prop} (I:Inv X pins σ H s)
  (h:ta σ H fun x H1=>tb σ H1 fun y H2=>R x y H2) {Q:Value->Shared->Prop} {f:Value->Value->Sem Value}
  (hf:∀ v u s2 x y H2,Inv X pins σ H2 s2->RelV x v->RelV y u->R x y H2->wpAny (model X.prog X.w) X.A (f v u) Q X.xe s2) :
  wpAny (model X.prog X.w) X.A (eval a X.env) (fun v s₁=>wpAny (model X.prog X.w) X.A (eval b X.env) (fun u s₂=>wpAny (model X.prog X.w) X.A (f v u) Q X.xe s₂) X.xe s₁) X.xe s:=by
 refine cX (ha pins s σ H _ I h) fun v s1 ⟨x,H1,I1,r1,q1⟩=>?_
 refine cX (hb pins s1 σ H1 _ I1 q1) fun u s2 ⟨y,H2,I2,r2,q2⟩=>?_
 exact hf v u s2 x y H2 I2 r1 r2 q2
theorem Eo {op:Operator} {r:R2} (ho:dO X (binaryOp op) r) (ha:PE X a ta) (hb:PE X b tb):PE X (.BinOp a op b pos) (DR r ta tb):=by
 intro pins s σ H Q I h
 exact wpAny_BinOp (BI ha hb I h fun v u s2 x y H2 I2 rx ry q=>ho pins s2 σ H2 x y v u Q I2 rx ry q)
theorem Ew {op:UnaryOp} {r:V->Hp->VK->Prop} (ho:EK X (unaryOp op) r) (ha:PE X a ta):PE X (.UnaryOp op a pos) (GD r ta):=by
 intro pins s σ H Q I h
 exact UnaryOp_ (cX (ha pins s σ H _ I h) fun v s1 ⟨x,H1,I1,r1,q1⟩=>ho pins s1 σ H1 x v Q I1 r1 q1)
theorem EL {f:Value->Value->Sem Value} {C:Int->Int->Prop} {g:Int->Int->Int}
  (rule:∀ (i j:Int) (t u:Tok) (s:Shared) (Q:Value->Shared->Prop) (E:Value->Shared->Prop),C i j->Q (.int (g i j) s.toks) { s with toks:=s.toks+1 }->wpAny (model X.prog X.w) X.A (f (.int i t) (.int j u)) Q E s) :
  dO X f (rI C fun i j=>.int (g i j)):=by
 intro pins s σ H x y v u Q I rx ry h
 obtain ⟨i,j,rfl,rfl,hc,q⟩:=h
 obtain ⟨t,rfl⟩:=rx
 obtain ⟨t',rfl⟩:=ry
 exact rule i j t t' s _ _ hc ⟨.int (g i j),H,I.tok _,⟨_,rfl⟩,q⟩
theorem DQ {f:Value->Value->Sem Value} {g:Int->Int->Int}
  (rule:∀ (i j:Int) (t u:Tok) (s:Shared) (Q:Value->Shared->Prop) (E:Value->Shared->Prop),Q (.int (g i j) s.toks) { s with toks:=s.toks+1 }->wpAny (model X.prog X.w) X.A (f (.int i t) (.int j u)) Q E s) :
  dO X f (AD fun i j=>.int (g i j)):=by
 intro pins s σ H x y v u Q I rx ry h
 obtain ⟨i,j,rfl,rfl,q⟩:=h
 obtain ⟨t,rfl⟩:=rx
 obtain ⟨t',rfl⟩:=ry
 exact rule i j t t' s _ _ ⟨.int (g i j),H,I.tok _,⟨_,rfl⟩,q⟩
theorem yW {f:Value->Value->Sem Value} {g:Int->Int->Bool}
  (rule:∀ (i j:Int) (t u:Tok) (s:Shared) (Q:Value->Shared->Prop) (E:Value->Shared->Prop),Q (.bool (g i j)) s->wpAny (model X.prog X.w) X.A (f (.int i t) (.int j u)) Q E s) :
  dO X f (AD fun i j=>.bl (g i j)):=by
 intro pins s σ H x y v u Q I rx ry h
 obtain ⟨i,j,rfl,rfl,q⟩:=h
 obtain ⟨t,rfl⟩:=rx
 obtain ⟨t',rfl⟩:=ry
 exact rule i j t t' s _ _ ⟨.bl (g i j),H,I,rfl,q⟩
noncomputable def Ft (i j:Int):Prop:=0<=j/\j<=1000000/\i.natAbs < 2 ^ 64
noncomputable def yF (i j:Int):Prop:=(-(2 ^ 64) < i/\i < 2 ^ 64)\/(-(2 ^ 64) < j/\j < 2 ^ 64)
theorem yF.ok {i j:Int} (h:yF i j):IntMulOk i j:=by
 rcases h with ⟨h1,h2⟩ | ⟨h1,h2⟩
 ·exact .of_left (intBits_le_64 h1 h2)
 ·exact .of_right (intBits_le_64 h1 h2)
theorem Ct:dO X (binaryOp .Add) (AD fun i j=>.int (i+j)):=DQ fun _ _ _ _ _ _ _ q=>add_int q
theorem Cs:dO X (binaryOp .Sub) (AD fun i j=>.int (i - j)):=DQ fun _ _ _ _ _ _ _ q=>sub_int q
theorem BW:dO X (binaryOp .Mult) (rI yF fun i j=>.int (i * j)):=EL fun _ _ _ _ _ _ _ hc q=>mul_int q hc.ok
theorem BA:dO X (binaryOp .Mod) (rI (fun _ j=>0 < j) fun i j=>.int (i % j)):=EL fun i j _ _ _ _ _ hc q=>by
 have h1:(0:Int) < j:=hc
 exact mod_int' (by omega) (by rw [Int.fmod_eq_emod_of_nonneg i (by omega)];exact q)
theorem Cm:dO X (binaryOp .Pow) (rI Ft fun i j=>.int (i ^ j.toNat)):=EL fun _ _ _ _ _ _ _ hc q=>pow_int_small hc.1 hc.2.1 hc.2.2 q
theorem GK {f:Value->Sem Value} {g:Int->Int}
  (rule:∀ (i:Int) (t:Tok) (s:Shared) (Q:Value->Shared->Prop) (E:Value->Shared->Prop),Q (.int (g i) s.toks) { s with toks:=s.toks+1 }->wpAny (model X.prog X.w) X.A (f (.int i t)) Q E s) :
  EK X f (rU fun i=>.int (g i)):=by
 intro pins s σ H x v Q I rx h
 obtain ⟨i,rfl,q⟩:=h
 obtain ⟨t,rfl⟩:=rx
 exact rule i t s _ _ ⟨.int (g i),H,I.tok _,⟨_,rfl⟩,q⟩
theorem Bg:EK X (unaryOp .USub) (rU fun i=>.int (-i)):=GK fun _ _ _ _ _ q=>neg_int q
end
section
variable {X:Cx} {a b c:Expr} {ta tb tc:TE} {pos:Pos}
theorem Dy:dO X (compareOp .Lt) (AD fun i j=>.bl (decide (i < j))):=yW fun _ _ _ _ _ _ _ q=>lt_int q
theorem D5:dO X (compareOp .LtE) (AD fun i j=>.bl (decide (i<=j))):=yW fun _ _ _ _ _ _ _ q=>le_int q
theorem DH:dO X (compareOp .Gt) (AD fun i j=>.bl (decide (j < i))):=yW fun _ _ _ _ _ _ _ q=>gt_int q
theorem DE:dO X (compareOp .GtE) (AD fun i j=>.bl (decide (j<=i))):=yW fun _ _ _ _ _ _ _ q=>ge_int q
theorem ya (b:Expr) {op:CmpOp} (h:op≠.In:=by decide) (h2:op≠.NotIn:=by decide):behindInMarks op b=false:=by
 have e1:(op == CmpOp.In)=false:=by cases op <;> first | rfl | exact absurd rfl h
 have e2:(op == CmpOp.NotIn)=false:=by cases op <;> first | rfl | exact absurd rfl h2
 cases b <;> simp [behindInMarks,e1,e2]
theorem zd {op:CmpOp} {r:R2} (ho:dO X (compareOp op) r) (ha:PE X a ta) (hb:PE X b tb) (hm:behindInMarks op b=false):PE X (.Compare a [op] [b] pos) (DR r ta tb):=by
 intro pins s σ H Q I h
 exact wpAny_Compare1 (BI ha hb I h fun v u s2 x y H2 I2 rx ry q=>ho pins s2 σ H2 x y v u Q I2 rx ry q) hm
noncomputable def Dw (t:TE):TT:=fun σ H Q=>t σ H fun x H'=>∃ k,x=.bl k/\Q k H'
theorem zg {op:CmpOp} {r:R2} (ho:dO X (compareOp op) r) (ha:PE X a ta) (hb:PE X b tb) (hm:behindInMarks op b=false):PT X (.Compare a [op] [b] pos) (Dw (DR r ta tb)):=by
 intro pins s σ H Q I h
 refine wpAny_isTrue_Compare1 (cX (ha pins s σ H _ I h) fun v s1 ⟨x,H1,I1,r1,q1⟩=>cX (hb pins s1 σ H1 _ I1 q1) fun u s2 ⟨y,H2,I2,r2,q2⟩=>
  cX (ho pins s2 σ H2 x y v u _ I2 r1 r2 q2) fun c s3 ⟨z,H3,I3,r3,k,e,q3⟩=>?_) hm
 subst e
 cases r3
 exact wpAny_truthy_bool ⟨H3,I3,q3⟩
noncomputable def BJ (K:PySem.W.Frag) (x:V) (H:Hp) (k:Bool):Prop:=
 match x with
 | .non=>k=false
 | .bl b=>k=b
 | .int i=>k=(i != 0)
 | .str y=>y.length<=sizeLine/\k=((y.length:Int) != 0)
 | .byt y=>y.size<=sizeLine/\k=((y.size:Int) != 0)
 | .ref p=>(∃ xs,dW K H p xs/\k=!xs.isEmpty)\/(∃ xs,dF K H p xs/\k=!xs.isEmpty)\/∃ kvs,H p=some (.dK kvs)/\k=!kvs.isEmpty
 | _=>False
theorem o5 {κ:Type} {kvs:List (κ×V)} {vs:List (κ×Value)} (r:KV kvs vs):(!vs.isEmpty)=!kvs.isEmpty:=by
 cases r <;> rfl
theorem jS {xs:List V} {its:List Value} (r:Vals xs its):(!its.toArray.isEmpty)=!xs.isEmpty:=by
 cases r <;> simp
theorem iK:(sizeLine:Nat) < 2 ^ 63:=by rw [sizeLine_eq];decide
theorem BX:E3 X (fun x H Q=>∃ k,BJ X.K x H k/\Q k H):=by
 intro pins s σ H x v Q I rx h
 obtain ⟨k,e,q⟩:=h
 have hl:=iK
 have hs:sizeLine=16777216:=sizeLine_eq
 cases x with
 | non=>
  cases rx
  have e':k=false:=e
  subst e'
  exact truthy_none ⟨H,I,q⟩
 | bl b=>
  cases rx
  have e':k=b:=e
  subst e'
  exact wpAny_truthy_bool ⟨H,I,q⟩
 | int i=>
  obtain ⟨t,rfl⟩:=rx
  have e':k=(i != 0):=e
  subst e'
  exact PySem.P.truthy_int ⟨H,I,q⟩
 | str y=>
  obtain ⟨t,rfl⟩:=rx
  obtain ⟨hy,e'⟩:y.length<=sizeLine/\k=((y.length:Int) != 0):=e
  subst e'
  exact PySem.P.truthy_str (by omega) ⟨H,I.tok _,q⟩
 | byt y=>
  obtain ⟨t,rfl⟩:=rx
  obtain ⟨hy,e'⟩:y.size<=sizeLine/\k=((y.size:Int) != 0):=e
  subst e'
  exact PySem.W.truthy_bytes (by omega) ⟨H,I.tok _,q⟩
 | ref p=>
  cases rx
  have e':(∃ xs,dW X.K H p xs/\k=!xs.isEmpty)\/(∃ xs,dF X.K H p xs/\k=!xs.isEmpty)\/∃ kvs,H p=some (.dK kvs)/\k=!kvs.isEmpty:=e
  rcases e' with ⟨xs,hx,e'⟩ | ⟨xs,hx,e'⟩ | ⟨kvs,hx,e'⟩
  ·subst e'
   obtain ⟨its,r,pl,hz⟩:=I.list hx
   have hlen:=r.length
   exact wpAny_truthy_list pl.isList (by simp only [List.size_toArray];omega) ⟨H,I.tok _,by rw [jS r];exact q⟩
  ·subst e'
   obtain ⟨its,r,pl,hz⟩:=I.tuple hx
   have hlen:=r.length
   exact truthy_tuple pl (by simp only [List.size_toArray];omega) ⟨H,I.tok _,by rw [jS r];exact q⟩
  ·subst e'
   obtain ⟨hz,hS,vs,r,m⟩:kvs.length<=sizeLine/\(p == sysModules)=false/\∃ vs,KV kvs vs/\s.heap.DictOf (bf X.prog X.w) p vs:=I.hok p _ hx
   have hlen:kvs.length=vs.length:=Paired.length r
   exact wpAny_truthy_dict hS m (by omega) ⟨H,I.tok _,by rw [o5 r];exact q⟩
 | _=>exact (show False from e).elim
theorem w6 (ha:PE X a ta) (he:∀ whole,isTrue a X.env whole=(do let v <- whole;standAt a.pos;holding [v] (truthy v))) :
  PT X a (fun σ H Q=>ta σ H fun x H'=>∃ k,BJ X.K x H' k/\Q k H'):=by
 intro pins s σ H Q I h
 exact isTrue_plain (cX (ha pins s σ H _ I h) fun v s1 ⟨x,H1,I1,r1,q1⟩=>BX pins s1 σ H1 x v Q I1 r1 q1) (he _)
theorem pQ:dO X (binaryOp .Add) (fun x y H Q=>∃ i j,x=.str i/\y=.str j/\i.length+j.length<=sizeLine/\Q (.str (i++j)) H):=by
 intro pins s σ H x y v u Q I rx ry h
 obtain ⟨i,j,rfl,rfl,hz,q⟩:=h
 obtain ⟨t,rfl⟩:=rx
 obtain ⟨t',rfl⟩:=ry
 exact add_str (fun t' tk=>⟨.str (i++j),H,I.tok _,⟨_,rfl⟩,q⟩) hz
theorem vals1 {x:V} {us:List Value} (r:Vals [x] us):∃ u,us=[u]/\RelV x u:=by
 cases r with
 | cons r1 r2=>cases r2;exact ⟨_,rfl,r1⟩
theorem vals2 {x y:V} {us:List Value} (r:Vals [x,y] us):∃ u w',us=[u,w']/\RelV x u/\RelV y w':=by
 cases r with
 | cons r1 r2=>
  cases r2 with
  | cons r3 r4=>cases r4;exact ⟨_,_,rfl,r1,r3⟩
theorem tW (hc:X.calm=true):bw X (.builtin "max") (fun xs H Q=>∃ i j,xs=[.int i,.int j]/\Q (.int (if j > i then j else i)) H):=by
 intro pins s σ H xs us Q I r h
 obtain ⟨i,j,rfl,q⟩:=h
 obtain ⟨u,w',rfl,⟨t,rfl⟩,⟨t',rfl⟩⟩:=vals2 r
 refine max_two_ints (I.ok.hd hc) fun h' tk k=>⟨_,H,I.kept k,?_,q⟩
 by_cases hj:j > i
 ·rw [if_pos hj,if_pos hj];exact ⟨_,rfl⟩
 ·rw [if_neg hj,if_neg hj];exact ⟨_,rfl⟩
theorem uq (hc:X.calm=true):bw X (.builtin "min") (fun xs H Q=>∃ i j,xs=[.int i,.int j]/\Q (.int (if j < i then j else i)) H):=by
 intro pins s σ H xs us Q I r h
 obtain ⟨i,j,rfl,q⟩:=h
 obtain ⟨u,w',rfl,⟨t,rfl⟩,⟨t',rfl⟩⟩:=vals2 r
 refine min_two_ints (I.ok.hd hc) fun h' tk k=>⟨_,H,I.kept k,?_,q⟩
 by_cases hj:j < i
 ·rw [if_pos hj,if_pos hj];exact ⟨_,rfl⟩
 ·rw [if_neg hj,if_neg hj];exact ⟨_,rfl⟩
theorem kQ:bw X (.type "int") (fun xs H Q=>(∃ i,xs=[.int i]/\Q (.int i) H)\/∃ k,xs=[.bl k]/\Q (.int (if k then 1 else 0)) H):=by
 intro pins s σ H xs us Q I r h
 rcases h with ⟨i,rfl,q⟩ | ⟨k,rfl,q⟩
 ·obtain ⟨u,rfl,t,rfl⟩:=vals1 r
  exact call_int_int ⟨.int i,H,I,⟨_,rfl⟩,q⟩
 ·obtain ⟨u,rfl,r1⟩:=vals1 r
  cases r1
  exact call_int_bool ⟨.int (if k then 1 else 0),H,I.tok _,⟨_,rfl⟩,q⟩
noncomputable def FQ (K:PySem.W.Frag) (x:V) (H:Hp) (n:Nat):Prop:=
 match x with
 | .str y=>y.length<=sizeLine/\n=y.length
 | .byt y=>y.size<=sizeLine/\n=y.size
 | .ref p=>(∃ xs,dW K H p xs/\n=xs.length)\/∃ xs,dF K H p xs/\n=xs.length
 | _=>False
theorem uX:bw X (.builtin "len") (fun xs H Q=>∃ x n,xs=[x]/\FQ X.K x H n/\Q (.int n) H):=by
 intro pins s σ H xs us Q I r h
 obtain ⟨x,n,rfl,e,q⟩:=h
 obtain ⟨u,rfl,rx⟩:=vals1 r
 have hl:=iK
 have hs:sizeLine=16777216:=sizeLine_eq
 cases x with
 | str y=>
  obtain ⟨t,rfl⟩:=rx
  obtain ⟨hy,e'⟩:y.length<=sizeLine/\n=y.length:=e
  subst e'
  exact len_str (by omega) ⟨.int _,H,I.tok _,⟨_,rfl⟩,q⟩
 | byt y=>
  obtain ⟨t,rfl⟩:=rx
  obtain ⟨hy,e'⟩:y.size<=sizeLine/\n=y.size:=e
  subst e'
  exact PySem.W.len_bytes (by omega) ⟨.int _,H,I.tok _,⟨_,rfl⟩,q⟩
 | ref p=>
  cases rx
  have e':(∃ xs,dW X.K H p xs/\n=xs.length)\/∃ xs,dF X.K H p xs/\n=xs.length:=e
  rcases e' with ⟨xs,hx,e'⟩ | ⟨xs,hx,e'⟩
  ·subst e'
   obtain ⟨its,r',pl,hz⟩:=I.list hx
   have hlen:=r'.length
   exact Calls.call_len_list pl.isList (by simp only [List.size_toArray];omega) ⟨.int xs.length,H,I.tok _,⟨_,by simp only [List.size_toArray];rw [hlen]⟩,q⟩
  ·subst e'
   obtain ⟨its,r',pl,hz⟩:=I.tuple hx
   have hlen:=r'.length
   exact len_tuple pl (by simp only [List.size_toArray];omega) ⟨.int xs.length,H,I.tok _,⟨_,by simp only [List.size_toArray];rw [hlen]⟩,q⟩
 | _=>exact (show False from e).elim
end
structure ObjM (h:Heap) (x dx C:Addr) (mA:Str->Option Value):Prop where
 obj:h.get? x=some (PySem.W.instObj C dx)
 ns:h.Ns1 dx mA
 ne:dx≠x
theorem tV {h:Heap} {dx:Addr} {mA:Str->Option Value} (n:h.Ns1 dx mA):∃ od,h.get? dx=some od/\∀ name,PySem.W.lookIn name od=some (mA name):=by
 obtain ⟨o,es,ep,ho,hd,hk,_,hm⟩:=n
 refine ⟨o,ho,fun name=>?_⟩
 have e:=hm name
 unfold nsFind findBy at e
 rw [<- Array.find?_toList] at e
 unfold PySem.W.lookIn
 rw [hd]
 dsimp only
 split
 ·rename_i y q
  rw [q] at e
  exact congrArg some e
 ·rename_i q
  rw [q] at e
  have a:es.toList.any (·.refKey)=false:=by
   rw [List.any_eq_false]
   intro y hy
   obtain ⟨z,t,hkey⟩:=hk y (Array.mem_toList_iff.mp hy)
   simp [DictEntry.refKey,hkey]
  have a':¬ es.toList.any (·.refKey)=true:=by rw [a];exact Bool.false_ne_true
  rw [if_neg a']
  exact congrArg some e
theorem ObjM.look {h:Heap} {x dx C:Addr} {mA:Str->Option Value} (I:ObjM h x dx C mA):∃ od,PySem.W.InstAt h x (PySem.W.instObj C dx) C (some od)/\∀ name,PySem.W.lookIn name od=some (mA name):=
 let ⟨od,ho,hl⟩:=tV I.ns
 ⟨od,⟨I.obj,rfl,rfl,ho⟩,hl⟩
section
variable {prog:Program} {w:World} {A:Around} {E:Value->Shared->Prop} {s:Shared} {K:PySem.W.Frag} {x dx C f:Addr} {mA:Str->Option Value} {name:Str} {v:Value}
end
theorem iF.some_of {v:V} {o:Option Value} (r:iF (some v) o):∃ u,o=some u/\RelV v u:=by
 cases o with
 | none=>exact (show False from r).elim
 | some u=>exact ⟨u,rfl,r⟩
section
variable {P:Program} {w:World} {H H':Hp} {h h':Heap} {a C dx:Addr} {fs fs':List (Str×V)}
theorem zv (hok:gC P w H h) (e:H a=some (.ins C dx fs)):∃ mA,ObjM h a dx C mA/\(∀ f,iF (fs.lookup f) (mA f))/\PySem.Within mA (fs.map (·.1))/\fs.length<=1000/\H dx=some (.own a):=by
 obtain ⟨d,z,ne,ob,mA,n,r,q⟩:=(show bO P w H h a (.ins C dx fs) from hok a _ e)
 exact ⟨mA,⟨ob,n,ne⟩,r,q,z,d⟩
end
structure Cls (K:PySem.W.Frag) (C:Addr):Prop where
 pg:PySem.W.plainGet K C Str.empty=true
 hd:PySem.W.hasDictIn K C=true
 po:PySem.W.plainOver K C=true
 sa:PySem.W.findIn K (.ref C) "__setattr__" = some (some (.builtin "object.__setattr__"))
theorem Cls.get {K:PySem.W.Frag} {C:Addr} (c:Cls K C) (f:Str):PySem.W.plainGet K C f=true:=c.pg
structure Con (K:PySem.W.Frag) (C:Addr) (f:Str) (v:V) (u:Value):Prop where
 at_:PySem.W.findIn K (.ref C) f=some (some u)
 rel:RelV v u
 get:PySem.W.specialIn K u "__get__" = some none
 cp:PySem.W.copiedNames.contains f=false
structure Meth (K:PySem.W.Frag) (C:Addr) (m:Str) (f:Addr):Prop where
 at_:PySem.W.findIn K (.ref C) m=some (some (.ref f))
 fn:PySem.W.isFn K (.ref f)=true
 kp:PySem.W.keepIn K (.ref f)=true
section
variable {X:Cx} {pins:List (Addr×Obj)} {σ:St} {H:Hp} {s:Shared} {a C dx:Addr} {fs:List (Str×V)} {f:Str} {v:V} {A:Around} {E:Value->Shared->Prop}
end
section
variable {X:Cx} {o e value:Expr} {f:Str} {pos pos' tpos:Pos} {ta tv:TE}
end
section
variable {X:Cx} {pins:List (Addr×Obj)} {σ:St} {H:Hp} {s:Shared} {A:Around} {E:Value->Shared->Prop} {Q:Value->Shared->Prop} {c:Value} {b:Bool}
inductive TyOf (K:PySem.W.Frag) (H:Hp):V->Value->Prop where
 | non:TyOf K H .non (.type "NoneType")
 | bl (x:Bool):TyOf K H (.bl x) (.type "bool")
 | int (i:Int):TyOf K H (.int i) (.type "int")
 | str (x:Str):TyOf K H (.str x) (.type "str")
 | flt (x:UInt64):TyOf K H (.flt x) (.type "float")
 | lst {a:Addr} {xs:List V} (e:H a=some (.lst xs)):TyOf K H (.ref a) (.type "list")
 | frz {a:Addr} {o:Obj} {xs:List V} (e:H a=some (.frz o (.lst xs))):TyOf K H (.ref a) (.type "list")
 | tup {a:Addr} {xs:List V} (e:H a=some (.tup xs)):TyOf K H (.ref a) (.type "tuple")
 | dK {a:Addr} {kvs:List (Key×V)} (e:H a=some (.dK kvs)):TyOf K H (.ref a) (.type "dict")
 | dT {a:Addr} {kvs:List (List Key×V)} (e:H a=some (.dT kvs)):TyOf K H (.ref a) (.type "dict")
 | ins {a C dx:Addr} {fs:List (Str×V)} (e:H a=some (.ins C dx fs)) (cl:Cls K C) (ha:PySem.W.findIn K (.ref C) "__class__" = some (some (.builtin "object.__class__")))
   (hn:PySem.W.specialIn K (.builtin "object.__class__") "__get__" = some (some (.builtin "getset_descriptor.__get__"))) (htk:PySem.W.takesIn K (.builtin "object.__class__")=some true)
   (hm:PySem.W.mroIn K C (.type "object")=some true):TyOf K H (.ref a) (.ref C)
theorem sW {x:V} {u t:Value} (I:Inv X pins σ H s) (rx:RelV x u) (ty:TyOf X.K H x t) (e:PySem.W.kitOne X.K t c=some b) (h:∀ tk,Q (.bool b) { s with toks:=tk }) :
  wpAny (model X.prog X.w) A (call (.builtin "isinstance") [u,c]) Q E s:=by
 cases ty with
 | non=>cases (show u=Value.none from rx);exact PySem.W.kia_one PySem.W.kitx_none I.m5 True.intro e (fun z=>nomatch z) h
 | bl y=>cases (show u=Value.bool y from rx);exact PySem.W.kia_one PySem.W.kitx_bool I.m5 True.intro e (fun z=>nomatch z) h
 | int i=>obtain ⟨t,q⟩:=(show ∃ t,u=Value.int i t from rx);cases q;exact PySem.W.kia_one PySem.W.kitx_int I.m5 True.intro e (fun z=>nomatch z) h
 | str y=>obtain ⟨t,q⟩:=(show ∃ t,u=Value.str y t from rx);cases q;exact PySem.W.kia_one PySem.W.kitx_str I.m5 True.intro e (fun z=>nomatch z) h
 | flt y=>obtain ⟨t,q⟩:=(show ∃ t,u=Value.float y t from rx);cases q;exact PySem.W.kia_one PySem.W.kitx_float I.m5 True.intro e (fun z=>nomatch z) h
 | @lst a xs ea=>
  cases (show u=Value.ref a from rx)
  obtain ⟨_,_,n,_,h1⟩:=(show bO X.prog X.w H s.heap a (.lst xs) from I.hok a _ ea)
  exact PySem.W.kia_one PySem.W.kitx_list I.m5 ⟨_,h1,rfl⟩ e (fun z=>nomatch z) h
 | @frz a ob xs ea=>
  cases (show u=Value.ref a from rx)
  obtain ⟨_,_,_,n,_,h1⟩:=(show bO X.prog X.w H s.heap a (.frz ob (.lst xs)) from I.hok a _ ea)
  exact PySem.W.kia_one PySem.W.kitx_list I.m5 ⟨_,h1,rfl⟩ e (fun z=>nomatch z) h
 | @tup a xs ea=>
  cases (show u=Value.ref a from rx)
  obtain ⟨_,_,_,p⟩:=(show bO X.prog X.w H s.heap a (.tup xs) from I.hok a _ ea)
  obtain ⟨o,h1,h2,_⟩:=p
  exact PySem.W.kia_one PySem.W.kitx_tuple I.m5 ⟨o,h1,h2⟩ e (fun z=>nomatch z) h
 | @dK a kvs ea=>
  cases (show u=Value.ref a from rx)
  obtain ⟨_,_,vs,_,p⟩:=(show bO X.prog X.w H s.heap a (.dK kvs) from I.hok a _ ea)
  obtain ⟨o,es,ep,h1,h2,_⟩:=p
  exact PySem.W.kia_one PySem.W.kitx_dict I.m5 ⟨o,h1,h2.1⟩ e (fun z=>nomatch z) h
 | @dT a kvs ea=>
  cases (show u=Value.ref a from rx)
  obtain ⟨_,_,xs,_,o,es,ep,h1,h2,_⟩:=(show bO X.prog X.w H s.heap a (.dT kvs) from I.hok a _ ea)
  exact PySem.W.kia_one PySem.W.kitx_dict I.m5 ⟨o,h1,h2.1⟩ e (fun z=>nomatch z) h
 | @ins a C dx fs ea cl ha hn htk hm=>
  cases (show u=Value.ref a from rx)
  obtain ⟨mA,O,_⟩:=zv I.hok ea
  obtain ⟨od,J,_⟩:=O.look
  exact PySem.W.kia_one (PySem.W.kitx_own (cl.get _) cl.hd ha hn htk hm) I.m5 J e (fun z=>nomatch z) h
end
structure Room (k:Nat) (A:Around):Prop where
 hd:A.handled=none
 dp:A.depth+3 * k+5 < recursionLimit
 un:A.units+16 * k+200 < cLine
theorem Room.mono {j k:Nat} {A:Around} (r:Room k A) (h:j<=k):Room j A:=⟨r.hd,by have:=r.dp;omega,by have:=r.un;omega⟩
theorem Room.deeper {k:Nat} {A:Around} (r:Room (k+1) A) (env:Env):Room k (A.deeper env):=
 ⟨r.hd,by have:=r.dp;show A.depth+1+3 * k+5 < _;omega,by have:=r.un;show A.units+3+16 * k+200 < _;omega⟩
theorem Room.depth {k:Nat} {A:Around} (r:Room k A):A.depth < recursionLimit:=by have:=r.dp;omega
theorem Room.units {k:Nat} {A:Around} (r:Room k A):A.units+64 < cLine:=by have:=r.un;omega
noncomputable def FD:TA:=fun _ H Q=>Q [] H
noncomputable def Dj (ta:TE) (tr:TA):TA:=fun σ H Q=>ta σ H fun x H1=>tr σ H1 fun xs H2=>Q (x::xs) H2
section
variable {X:Cx} {e:Expr} {es:List Expr} {te:TE} {t:TA} {pos:Pos}
theorem pM:PA X [] FD:=fun _ _ _ _ H Q I h=>Calls.spliced_nil ⟨[],H,I,.nil,h⟩
theorem mW (ha:PE X e te) (hr:PA X es t) (hs:starEach (e::es) X.env=(false,eval e X.env)::starEach es X.env:=by rfl):PA X (e::es) (Dj te t):=by
 intro pos pins s σ H Q I h
 rw [hs]
 show wpAny _ _ (spliced ((false,eval e X.env)::backTo pos (starEach es X.env))) _ _ s
 refine Calls.spliced_cons (cX (ha pins s σ H _ I h) fun u s1 ⟨x,H1,I1,r1,q1⟩=>?_)
 exact cX (hr pos pins s1 σ H1 _ I1 q1) fun us s2 ⟨xs,H2,I2,r2,q2⟩=>⟨x::xs,H2,I2,.cons r1 r2,q2⟩
noncomputable def Fp (t:TA):TE:=fun σ H Q=>t σ H fun xs H1=>xs.length<=sizeLine/\∀ p,H1 p=none->Q (.ref p) (upd H1 p (.tup xs))
noncomputable def FA (t:TA):TE:=fun σ H Q=>t σ H fun xs H1=>xs.length<=sizeLine/\∀ p,H1 p=none->Q (.ref p) (upd H1 p (.lst xs))
theorem C1 {x1} (h:PA X es t):PE X (.Tuple es x1 pos) (Fp t):=by
 intro pins s σ H Q I hq
 refine wpAny_Tuple_spliced (cX (h pos pins s σ H _ I hq) fun us s1 ⟨xs,H1,I1,r,z,q⟩=>⟨by rw [<- r.length];exact z,?_⟩)
 have hf:H1 s1.heap.objs.size=none:=I1.hok.fresh (Nat.le_refl _)
 refine ⟨.ref s1.heap.objs.size,upd H1 s1.heap.objs.size (.tup xs),I1.laid (t':=s1.toks) (fun b u e=>Heap.get?_push_of_some _ e) (Nat.le_refl _) ?_,rfl,q _ hf⟩
 exact ⟨z,us,r,⟨_,Heap.get?_push_size _ rfl,rfl,rfl,_,rfl⟩⟩
theorem Be (h:PA X es t):PE X (.List es pos) (FA t):=by
 intro pins s σ H Q I hq
 refine wpAny_List_spliced (cX (h pos pins s σ H _ I hq) fun us s1 ⟨xs,H1,I1,r,z,q⟩=>⟨by rw [<- r.length];exact z,?_⟩)
 have hf:H1 s1.heap.objs.size=none:=I1.hok.fresh (Nat.le_refl _)
 refine ⟨.ref s1.heap.objs.size,upd H1 s1.heap.objs.size (.lst xs),I1.laid (t':=s1.toks) (fun b u e=>Heap.get?_push_of_some _ e) (Nat.le_refl _) ?_,rfl,q _ hf⟩
 exact ⟨z,us,0,r,Heap.get?_push_size _ rfl⟩
end
noncomputable abbrev Sp:=List V->Hp->VK->XK->Prop
noncomputable abbrev ym:=List Env->Hp->Shared->XK->Value->Shared->Prop
structure Env0 (P:Program) (w:World) (K:PySem.W.Frag) (mg:Str->Option Value) (base:Heap) (A:Around) (outer:List Env) (s:Shared) (H:Hp):Prop where
 frames:A.frames=some outer
 mod:Mod K mg base
 bs:∀ b o,base.get? b=some o->s.heap.get? b=some o/\H b=none
 bsz:base.objs.size<=s.heap.objs.size
 j6:s.heap.FunFrames base outer
 frf:∀ b∈frs outer,H b=none
 hok:gC P w H s.heap
 bare:AllBare s.gens
noncomputable def CE (outer:List Env) (P:Program) (w:World) (H:Hp) (s:Shared) (Q:VK) (u:Value) (s':Shared):Prop:=
 ∃ v H',s'.os=s.os/\AllBare s'.gens/\Un (frs outer) [] H H' s.heap s'.heap/\gC P w H' s'.heap/\RelV v u/\Q v H'
noncomputable def CR (CX:ym) (outer:List Env) (P:Program) (w:World) (H:Hp) (s:Shared) (Q:VK) (E:XK) (r:Result) (s':Shared):Prop:=
 match r with
 | .ok (.ret u)=>CE outer P w H s Q u s'
 | .ok _=>False
 | .error e=>CX outer H s E e s'
structure FnOk (P:Program) (w:World) (K:PySem.W.Frag) (mg:Str->Option Value) (base:Heap) (CX:ym) (k:Nat) (f:Addr) (fd:FuncData) (ps:List Str) (sp:Sp):Prop where
 len:∀ vs H Q E,sp vs H Q E->vs.length=ps.length
 run:∀ (A:Around) (outer:List Env) (s:Shared) (H:Hp) (args:Args) (us:List Value) (vs:List V) (Q:VK) (E:XK),Room k A->Env0 P w K mg base A outer s H->BindsTo s fd args (ps.zip us)->Vals vs us->sp vs H Q E ->
  codeAny (model P w) A (.call (.ref f) args) (CR CX outer P w H s Q E) s
section
variable {X:Cx} {pins:List (Addr×Obj)} {σ:St} {H:Hp} {s s':Shared}
theorem Inv.FL (I:Inv X pins σ H s):Env0 X.prog X.w X.K X.mg X.base X.A X.stack s H:=
 ⟨I.ok.frames,I.ok.mod,I.bs,Nat.le_trans I.ok.bsz I.sz,I.stack,I.qd,I.hok,I.bare⟩
theorem Inv.after {Q:VK} {u:Value} (I:Inv X pins σ H s) (h:CE X.stack X.prog X.w H s Q u s'):EP X pins σ Q u s':=by
 obtain ⟨v,H',os,bare,un,hok,r,q⟩:=h
 obtain ⟨hh,g,d,t,os'⟩:=s'
 obtain rfl:os'=s.os:=os
 exact ⟨v,H',I.call (h':=hh) (g':=g) (d':=d) (t':=t) (ch:=[]) un hok bare (fun b z=>absurd z (by simp)),r,q⟩
end
noncomputable def AK (sp:Sp) (dvs:List V) (E:XK) (t:TA):TE:=fun σ H Q=>t σ H fun vs H1=>sp (vs++dvs) H1 Q E
noncomputable def Binds (K:PySem.W.Frag) (fd:FuncData) (ps:List Str) (ds:List Value):Prop:=
 ∀ (s:Shared) (us:List Value),K.In s.heap->(us++ds).length=ps.length->BindsTo s fd ⟨us,[]⟩ (ps.zip (us++ds))
theorem Binds.all {K:PySem.W.Frag} {fd:FuncData} {ps:List Str} (h:∀ us:List Value,us.length=ps.length->bindArgs fd ⟨us,[]⟩=pure (ps.zip us)):Binds K fd ps []:=fun s us _ hl=>by
 rw [List.append_nil] at hl ⊢
 exact .of_eq (h us hl)
noncomputable def Passes (CX:ym) (X:Cx) (E:XK):Prop:=∀ (pins:List (Addr×Obj)) (σ:St) (H:Hp) (s:Shared) (e:Value) (s':Shared),Inv X pins σ H s->CX X.stack H s E e s'->X.xe e s'
section
variable {X:Cx} {CX:ym} {k:Nat} {f C:Addr} {fd:FuncData} {ps:List Str} {sp:Sp} {dvs:List V} {ds:List Value} {E:XK} {x m:Str} {p pos apos:Pos} {e o:Expr} {es:List Expr} {ta:TE} {t:TA}
theorem Bu {pins:List (Addr×Obj)} {σ:St} {H:Hp} {s:Shared} {Q:VK} {us:List Value} {vs:List V} (F:FnOk X.prog X.w X.K X.mg X.base CX k f fd ps sp) (hr:Room k X.A) (hb:Binds X.K fd ps ds) (hd:Vals dvs ds) (hx:Passes CX X E)
  (I:Inv X pins σ H s) (r:Vals vs us) (h:sp (vs++dvs) H Q E):wpAny (model X.prog X.w) X.A (call (.ref f) us) (EP X pins σ Q) X.xe s:=by
 have r2:Vals (vs++dvs) (us++ds):=r.append hd
 have hl:(us++ds).length=ps.length:=by rw [<- r2.length];exact F.len _ _ _ _ h
 refine wpAny_call (codeAny_mono (F.run X.A X.stack s H ⟨us,[]⟩ (us++ds) (vs++dvs) Q E hr I.FL (hb s us I.m5 hl) r2 h) fun r s' hq=>?_)
 cases r with
 | error e=>exact hx pins σ H s e s' I hq
 | ok fl=>
  cases fl with
  | ret u=>exact I.after hq
  | next=>exact False.elim hq
  | brk=>exact False.elim hq
  | cont=>exact False.elim hq
theorem zE (F:FnOk X.prog X.w X.K X.mg X.base CX k f fd ps sp) (hr:Room k X.A) (hg:Gl X x) (hm:X.mg x=some (.ref f)) (hk:PySem.W.keepIn X.K (.ref f)=true) (hb:Binds X.K fd ps ds) (hd:Vals dvs ds) (hx:Passes CX X E)
  (ha:PA X (e::es) t) (hdb:(x == ("__debug__" : Str))=false:=by decide) (he:starEach (e::es) X.env=(false,eval e X.env)::starEach es X.env:=by rfl) (hpl:(backTo pos (starEach es X.env)).any (·.1)=false:=by rfl) :
  PE X (.Call (.Name x p) (e::es) [] pos) (AK sp dvs E t):=by
 intro pins s σ H Q I h
 refine wpAny_Call_Name_kw (zV I hg hm ?_ hdb)
 refine PySem.W.callWith_K (h₀:=X.base) I.ok.mod.kin hk (cX (ha pos pins s σ H _ I h) fun us s1 ⟨vs,H1,I1,r,q⟩=>⟨I1.m5,?_⟩) he hpl
 exact Bu F hr hb hd hx I1 r q
structure Mk (K:PySem.W.Frag) (C f:Addr):Prop where
 makes:PySem.W.makesIn K C=true
 init:PySem.W.findIn K (.ref C) "__init__" = some (some (.ref f))
 fn:PySem.W.isFn K (.ref f)=true
 kp:PySem.W.keepIn K (.ref C)=true
end
section
variable {X:Cx} {CX:ym} {k:Nat} {f C:Addr} {fd:FuncData} {ps ks:List Str} {sp:Sp} {E:XK} {x m:Str} {p pos apos kpos:Pos} {e o:Expr} {es:List Expr} {kws:List Keyword} {te ta:TE} {t tk:TA} {nm:Option Str}
structure KBinds (K:PySem.W.Frag) (fd:FuncData) (ps ks:List Str) (g:List Value->List Value->List Value) (gV:List V->List V->List V):Prop where
 to:∀ (s:Shared) (us ws:List Value),K.In s.heap->(g us ws).length=ps.length->BindsTo s fd ⟨us,ks.zip ws⟩ (ps.zip (g us ws))
 rel:∀ {vs:List V} {us:List Value} {zs:List V} {ws:List Value},Vals vs us->Vals zs ws->Vals (gV vs zs) (g us ws)
variable {g:List Value->List Value->List Value} {gV:List V->List V->List V}
end
structure FnScope (N P:List Str) (sc:Scope):Prop where
 kind:sc.kind=.function
 co:sc.isCoroutine=false
 gen:sc.isGenerator=false
 nd:N.Nodup
 pre:N.take P.length=P
 par:∀ x∈P,sc.names.lookup x=some .local\/sc.names.lookup x=some .cell
 nofree:∀ y∈sc.names,y.2≠.free
theorem lJ {kindOf:Str->Option NameKind} {x:Str}:∀ {binds:List (Str×Value)} {m:Str->Option Value},(∀ v,(x,v)∉binds)->bindL kindOf binds m x=m x
 | [],_,_=>rfl
 | (n,v)::r,m,h=>by
  unfold bindL
  rw [lJ fun w hw=>h w (List.mem_cons_of_mem _ hw)]
  split
  ·have:x≠n:=by rintro rfl;exact h v List.mem_cons_self
   simp [this]
  ·rfl
theorem kZ {kindOf:Str->Option NameKind} {x:Str}:∀ {binds:List (Str×Value)} {m:Str->Option Value},(∀ v,(x,v)∉binds)->bindC kindOf binds m x=m x
 | [],_,_=>rfl
 | (n,v)::r,m,h=>by
  unfold bindC
  rw [kZ fun w hw=>h w (List.mem_cons_of_mem _ hw)]
  split
  ·rfl
  ·have:x≠n:=by rintro rfl;exact h v List.mem_cons_self
   simp [this]
theorem lK {kindOf:Str->Option NameKind} {x:Str} {v:Value}:∀ {P:List Str} {vs:List Value} {i:Nat} {m:Str->Option Value},P.Nodup->P[i]?=some x->vs[i]?=some v->kindOf x=some .local ->
  bindL kindOf (P.zip vs) m x=some v
 | [],_,_,_,_,h,_,_=>by simp at h
 | _::_,[],_,_,_,_,h,_=>by simp at h
 | p::P,w::vs,0,m,nd,h1,h2,hk=>by
  simp at h1 h2;subst h1;subst h2
  show bindL kindOf ((p,w)::P.zip vs) m p=_
  unfold bindL
  rw [lJ fun v hv=>(List.nodup_cons.mp nd).1 (List.of_mem_zip hv).1,if_pos hk]
  simp
 | p::P,w::vs,i+1,m,nd,h1,h2,hk=>by
  show bindL kindOf ((p,w)::P.zip vs) m x=_
  unfold bindL
  exact lK (i:=i) (List.nodup_cons.mp nd).2 (by simpa using h1) (by simpa using h2) hk
theorem kW {kindOf:Str->Option NameKind} {x:Str} {v:Value}:∀ {P:List Str} {vs:List Value} {i:Nat} {m:Str->Option Value},P.Nodup->P[i]?=some x->vs[i]?=some v->kindOf x≠some .local ->
  bindC kindOf (P.zip vs) m x=some v
 | [],_,_,_,_,h,_,_=>by simp at h
 | _::_,[],_,_,_,_,h,_=>by simp at h
 | p::P,w::vs,0,m,nd,h1,h2,hk=>by
  simp at h1 h2;subst h1;subst h2
  show bindC kindOf ((p,w)::P.zip vs) m p=_
  unfold bindC
  rw [kZ fun v hv=>(List.nodup_cons.mp nd).1 (List.of_mem_zip hv).1,if_neg hk]
  simp
 | p::P,w::vs,i+1,m,nd,h1,h2,hk=>by
  show bindC kindOf ((p,w)::P.zip vs) m x=_
  unfold bindC
  exact kW (i:=i) (List.nodup_cons.mp nd).2 (by simpa using h1) (by simpa using h2) hk
noncomputable def start (N:List Str) (vs:List V):St:=vs.map some++List.replicate (N.length - vs.length) none
noncomputable def pe (CX:ym) (P:Program) (w:World) (K:PySem.W.Frag) (mg:Str->Option Value) (base:Heap) (N:List Str) (qual:Str) (scope:Scope) (f:Addr) (cd:Value) (A:Around) (outer:List Env) (s:Shared) (H:Hp) (E:XK):Cx where
 prog:=P
 w:=w
 K:=K
 mg:=mg
 base:=base
 A:=A.deeper (envOfC qual scope s.heap.objs.size f cd)
 N:=N
 s₀:=s
 H₀:=H
 env:=envOfC qual scope s.heap.objs.size f cd
 outer:=outer
 stack:=envOfC qual scope s.heap.objs.size f cd::outer
 ex:=[]
 calm:=true
 fn:=fun _=>true
 pn:=[]
 xe:=fun e s'=>wpAny (model P w) (A.deeper (envOfC qual scope s.heap.objs.size f cd)) (leaving (envOfC qual scope s.heap.objs.size f cd) e) (fun _ s''=>CX outer H s E e s'') (fun e' s''=>CX outer H s E e' s'') s'
theorem n8 {sc:Scope} {n:Nat} {x:Str} (h:sc.names.lookup x=some .cell):∃ c,(cellsFrom n sc.names []).lookup x=some c:=by
 have q:=PySem.W.cellsFrom_some sc.names n [] (.inl h)
 exact Option.isSome_iff_exists.mp q
theorem tY {CX:ym} {P:Program} {w:World} {K:PySem.W.Frag} {mg:Str->Option Value} {base:Heap} {N ps:List Str} {qual:Str} {scope:Scope} {f:Addr} {cd:Value} {A:Around} {outer:List Env} {s s1:Shared} {H:Hp} {E:XK} {us:List Value} {vs:List V}
  (S:FnScope N ps scope) (hd:A.handled=none) (e0:Env0 P w K mg base A outer s H) (hl:vs.length=ps.length) (r:Vals vs us)
  (x:InCallC s s.heap.objs.size (bindL (envOfC qual scope s.heap.objs.size f cd).kindOf (ps.zip us) fun _=>none) (cellsFrom (s.heap.objs.size+1) scope.names []) (bindC (envOfC qual scope s.heap.objs.size f cd).kindOf (ps.zip us) fun _=>none) s1) :
  Inv (pe CX P w K mg base N qual scope f cd A outer s H E) [] (start N vs) H s1:=by
 have hpl:ps.length<=N.length:=by have:=congrArg List.length S.pre;rw [List.length_take] at this;omega
 obtain ⟨h1,tk,rfl,hk⟩:=x.done
 have noA:∀ b:Addr,b∉(pe CX P w K mg base N qual scope f cd A outer s H E).ex:=fun b z=>absurd (show b∈([]:List Addr) from z) (by simp)
 refine ⟨⟨e0.mod,S.kind,rfl,rfl,Nat.le_refl _,fun y z c h1 h2=>?_,fun y hy=>?_,fun y c _ h=>?_,fun _=>hd,Around.frames_deeper e0.frames,.inr ⟨rfl,rfl⟩,fun b z=>absurd z (noA b),e0.bs,e0.bsz,fun b _ _=>noA b,fun b z=>absurd z (noA b),e0.j6,e0.frf⟩,
  rfl,e0.bare,Un.kept hk,⟨_,x.toInCall.ns,fun i y v h1 h2 h3=>?_⟩,fun y c h=>⟨_,x.cell y c h⟩,e0.hok.fresh (Nat.le_refl _),fun y c h=>?_,fun p hp=>absurd (show p∈([]:List (Addr×Obj)) from hp) (by simp),e0.hok.kept hk,?_⟩
 ·exact name_of_addr x.apart (PySem.mem_of_lookup h1) (PySem.mem_of_lookup h2)
 ·have hy:scope.names.lookup y=some .cell\/scope.names.lookup y=some .free:=hy
  rcases hy with hy | hy
  ·exact n8 hy
  ·exact absurd rfl (S.nofree _ (PySem.mem_of_lookup hy))
 ·exact Nat.le_of_lt (x.above y c (PySem.mem_of_lookup h))
 ·have hi:i < vs.length:=by
   unfold start at h2
   by_cases hi:i < vs.length
   ·exact hi
   ·rw [List.getElem?_append_right (by simpa using hi)] at h2
    rw [List.getElem?_replicate] at h2
    split at h2 <;> cases h2
  have ha:vs[i]?=some v:=by
   unfold start at h2
   rw [List.getElem?_append_left (by simpa using hi),List.getElem?_map] at h2
   cases e:vs[i]? with
   | none=>rw [e] at h2;cases h2
   | some a=>rw [e] at h2;cases h2;rfl
  obtain ⟨u,hu,rv⟩:=r.get ha
  have hp:ps[i]?=some y:=by
   rw [<- S.pre,List.getElem?_take_of_lt (by omega)];exact h1
  have ndP:ps.Nodup:=by rw [<- S.pre];exact S.nd.sublist (List.take_sublist _ _)
  refine ⟨u,rv,?_⟩
  rcases S.par y (List.mem_of_getElem? hp) with k | k
  ·exact .inl ⟨k,lK ndP hp hu k⟩
  ·obtain ⟨c,e⟩:=n8 (n:=s.heap.objs.size+1) k
   refine .inr ⟨.inl k,c,e,?_⟩
   have q:=x.cell y c e
   rw [kW ndP hp hu (by show scope.names.lookup y≠_;rw [k];decide)] at q
   exact q
 ·exact e0.hok.fresh (Nat.le_of_lt (x.above y c (PySem.mem_of_lookup h)))
 ·unfold start
  show _=N.length
  rw [List.length_append,List.length_map,List.length_replicate]
  omega
theorem Ef {CX:ym} {P:Program} {w:World} {K:PySem.W.Frag} {mg:Str->Option Value} {base:Heap} {k:Nat} {f:Addr} {name qual:Str} {params:Arguments} {body:List Stmt} {scope:Scope} {dV kV doc pm cdv ct oc:Value} {an od:Option Addr}
  {osl:Array (Option Value)} {N ps:List Str} {sp:Sp} (lk:K.lookup f=some ⟨oc,od,.func (PySem.W.fnOf name qual params body scope dV kV doc pm an cdv ct),osl⟩) (hcd:PySem.W.codeIn K cdv qual=true) (S:FnScope N ps scope)
  (len:∀ vs H Q E,sp vs H Q E->vs.length=ps.length)
  (hbody:∀ (A:Around) (outer:List Env) (s:Shared) (H:Hp) (vs:List V) (Q:VK) (E:XK),Room k (A.deeper (envOfC qual scope s.heap.objs.size f cdv))->sp vs H Q E ->
   ∃ t,m7 (pe CX P w K mg base N qual scope f cdv A outer s H E) body t/\t { nx:=fun _ H'=>Q .non H',rt:=Q } (start N vs) H) :
  FnOk P w K mg base CX (k+1) f (PySem.W.fnOf name qual params body scope dV kV doc pm an cdv ct) ps sp:=by
 refine ⟨len,fun A outer s H args us vs Q E hr e0 hb r hsp=>?_⟩
 have hl:=len _ _ _ _ hsp
 have KX:K.In s.heap:=e0.mod.kin.keeps fun b o e=>(e0.bs b o e).1
 have lim:s.heap.NoLimit:=e0.mod.nolimit.keeps fun b o e=>(e0.bs b o e).1
 have hkind:∀ y∈ps.zip us,scope.names.lookup y.1=some .local\/(scope.names.lookup y.1=some .cell/\((cellsFrom (s.heap.objs.size+1) scope.names []).lookup y.1).isSome=true):=fun ⟨n,v⟩ hy=>by
  rcases S.par n (List.of_mem_zip hy).1 with q | q
  ·exact .inl q
  ·exact .inr ⟨q,PySem.W.cellsFrom_some _ _ _ (.inl q)⟩
 refine codeAny_call_function hr.depth (KX _ _ lk) rfl S.co S.gen rfl (PySem.W.codeRec_of KX hcd) (hb _ _ _ _ ?_)
 refine wpAny_newFunctionEnv_cells S.kind hkind fun env he s1 x=>?_
 subst he
 refine ⟨lim.keeps x.toInCall.keep,codeAny_func ?_⟩
 obtain ⟨t,ht,hq⟩:=hbody A outer s H vs Q E (hr.deeper _) hsp
 have I:Inv (pe CX P w K mg base N qual scope f cdv A outer s H E) [] (start N vs) H s1:=tY S hr.hd e0 hl r x
 refine wpAny_mono (ht [] s1 (start N vs) H _ I hq) (fun fl s' hs=>?_) fun e s' hs=>hs
 have fin:∀ {σ':St} {H':Hp} {v:V} {u:Value},Inv (pe CX P w K mg base N qual scope f cdv A outer s H E) [] σ' H' s'->RelV v u->Q v H'->CE outer P w H s Q u s':=
  fun {σ' H' v u} J rv q=>⟨v,H',J.os,J.bare,J.base,J.hok,rv,q⟩
 cases fl with
 | ret u=>
  obtain ⟨v,σ',H',J,rv,q⟩:=hs
  exact fin J rv q
 | next=>
  obtain ⟨σ',H',J,q⟩:=hs
  exact fin (v:=V.non) (u:=Value.none) J rfl q
 | brk=>
  obtain ⟨_,_,_,q⟩:=hs
  exact False.elim q
 | cont=>
  obtain ⟨_,_,_,q⟩:=hs
  exact False.elim q
section
variable {X:Cx} {x:Str} {p pos:Pos} {e:Expr} {es:List Expr} {t:TA} {id T:String} {r:List V->Hp->VK->Prop}
noncomputable def Fq (r:List V->Hp->VK->Prop) (t:TA):TE:=fun σ H Q=>t σ H fun vs H1=>r vs H1 Q
theorem vC (hc:bw X (.builtin id) r) (hg:Gl X x) (hm:X.mg x=none) (hv:bootBuiltins x=some (.builtin id)) (ha:PA X (e::es) t) (hn:x ≠ "__name__" := by decide) (hdb:(x == ("__debug__" : Str))=false:=by decide)
  (he:starEach (e::es) X.env=(false,eval e X.env)::starEach es X.env:=by rfl) (hpl:(backTo pos (starEach es X.env)).any (·.1)=false:=by rfl):PE X (.Call (.Name x p) (e::es) [] pos) (Fq r t):=by
 intro pins s σ H Q I h
 refine wpAny_Call_Name_kw (jH I hg hm hv ?_ hn hdb)
 exact PyProof.Rows.callWith_builtin1 (cX (ha pos pins s σ H _ I h) fun us s1 ⟨vs,H1,I1,r1,q1⟩=>hc pins s1 σ H1 vs us Q I1 r1 q1) he hpl
theorem tZ (hc:bw X (.type T) r) (hg:Gl X x) (hm:X.mg x=none) (hv:bootBuiltins x=some (.type T)) (ha:PA X (e::es) t) (hn:x ≠ "__name__" := by decide) (hdb:(x == ("__debug__" : Str))=false:=by decide)
  (he:starEach (e::es) X.env=(false,eval e X.env)::starEach es X.env:=by rfl) (hpl:(backTo pos (starEach es X.env)).any (·.1)=false:=by rfl):PE X (.Call (.Name x p) (e::es) [] pos) (Fq r t):=by
 intro pins s σ H Q I h
 refine wpAny_Call_Name_kw (jH I hg hm hv ?_ hn hdb)
 exact PyProof.Rows.callWith_type1 (cX (ha pos pins s σ H _ I h) fun us s1 ⟨vs,H1,I1,r1,q1⟩=>hc pins s1 σ H1 vs us Q I1 r1 q1) he hpl
end
end L2
namespace HT
open PySem PyProof.Rows
section
open PySem.SeqAt
open PySem.AutoSeq1 (wpAny_loadPart')
open PySem.MeetsSeq PySem.MeetsSeq2 PySem.MeetsSeq3
end
section
variable {prog:Program} {w:World} {A:Around} {E:Value->Shared->Prop} {s:Shared}
theorem zY {t b:Addr} {vs ws:List Value} {Q:Value->Shared->Prop} (ht:IsTup s.heap t vs.toArray) (hb:IsTup s.heap b ws.toArray) (hv:vs≠[])
  (h1:ws=[]->Q (.ref t) s) (h2:ws≠[]->Q (.ref s.heap.objs.size) { s with heap:=s.heap.push { cls:=.type "tuple",data:=.seq (vs++ws).toArray } })
  (hsz:vs.length+ws.length<=sizeLine):wpAny (model prog w) A (binaryOp .Add (.ref t) (.ref b)) Q E s:=by
 obtain ⟨⟨cls,dd,data,sl⟩,ho,hc,n,hd⟩:=id ht
 obtain ⟨⟨cls2,dd2,data2,sl2⟩,ho2,hc2,n2,hd2⟩:=id hb
 simp only at hc hd hc2 hd2
 subst hc hd hc2 hd2
 have e:vs.toArray++ws.toArray=(vs++ws).toArray:=by simp
 by_cases hw:ws=[]
 ·exact concat_meets ⟨_,ho,rfl⟩ ⟨_,ho2,rfl⟩ noFill_tuple_add seq_tuple_add PySem.F.slot_tuple_add PySem.F.entry_tuple_add (PySem.F.args_tuple_add_2 _ _)
   (tuple_addW1 t b vs.toArray ws.toArray n n2 dd dd2 sl sl2 (by simpa using hv) (by simp [hw])) ⟨ho,ho2,h1 hw⟩
 ·refine concat_meets ⟨_,ho,rfl⟩ ⟨_,ho2,rfl⟩ noFill_tuple_add seq_tuple_add PySem.F.slot_tuple_add PySem.F.entry_tuple_add (PySem.F.args_tuple_add_2 _ _)
   (tuple_addW2 t b vs.toArray ws.toArray n n2 dd dd2 sl sl2 (by simpa using hv) (by simpa using hw) (by rw [List.size_toArray,List.size_toArray];exact hsz)) ⟨ho,ho2,?_⟩
  rw [e]
  exact h2 hw
noncomputable def Dp (n d:Nat):Option Int->Nat
 | none=>d
 | some v=>if v < 0 then (v+(n:Int)).toNat else min v.toNat n
end
end HT
namespace L2
open PySem PySem.Spec PyProof.Rows
noncomputable abbrev TO:=St->Hp->(Option Int->Hp->Prop)->Prop
section
variable {X:Cx} {e:Expr} {te:TE} {lo hi:Option Expr} {tl th:TO} {pos p2:Pos}
noncomputable def DK (K:PySem.W.Frag):R2:=fun x y H Q=>∃ a b xs ys,x=.ref a/\y=.ref b/\dF K H a xs/\dF K H b ys/\xs≠[]/\xs.length+ys.length<=sizeLine /\
 (ys=[]->Q (.ref a) H)/\(ys≠[]->∀ p,H p=none->Q (.ref p) (upd H p (.tup (xs++ys))))
theorem Vals.mw {xs:List V} {us:List Value} (r:Vals xs us):us=[] ↔ xs=[]:=by
 cases r with
 | nil=>simp
 | cons _ _=>simp
theorem yP:dO X (binaryOp .Add) (DK X.K):=by
 intro pins s σ H x y v u Q I rx ry h
 obtain ⟨a,b,xs,ys,rfl,rfl,ha,hb,hx,hz,q1,q2⟩:=h
 cases rx
 cases ry
 obtain ⟨its,r1,p1,_⟩:=I.tuple ha
 obtain ⟨its2,r2,p2,_⟩:=I.tuple hb
 refine HT.zY p1 p2 (fun z=>hx (r1.mw.mp z)) (fun z=>⟨.ref a,H,I,rfl,q1 (r2.mw.mp z)⟩) (fun z=>?_) (by rw [<- r1.length,<- r2.length];exact hz)
 refine ⟨.ref s.heap.objs.size,_,I.laid (t':=s.toks) (o:=.tup (xs++ys)) (fun b ob q=>Heap.get?_push_of_some _ q) (Nat.le_refl _) ?_,rfl,q2 (fun w=>z (r2.mw.mpr w)) _ (I.hok.fresh (Nat.le_refl _))⟩
 exact ⟨by rw [List.length_append];exact hz,_,r1.append r2,eU.new _ _⟩
end
noncomputable def qU (n:Nat) (i:Int):Option Nat:=if 0<=i then (if i < n then some i.toNat else none) else if -(n:Int)<=i then some (i+n).toNat else none
noncomputable def gj {α:Type} (xs:List α) (i:Int):Option α:=(qU xs.length i).bind fun j=>xs[j]?
theorem rD {n:Nat} {i:Int} {j:Nat} (h:qU n i=some j):seqIndex? i n=some j/\j < n/\-(n:Int)<=i/\i < n:=by
 unfold qU at h
 by_cases h0:0<=i
 ·rw [if_pos h0] at h
  by_cases h1:i < n
  ·rw [if_pos h1] at h
   have e:i.toNat=j:=Option.some.inj h
   exact ⟨by rw [seqIndex_of h0 h1,e],by omega,by omega,h1⟩
  ·rw [if_neg h1] at h;cases h
 ·rw [if_neg h0] at h
  by_cases h1:-(n:Int)<=i
  ·rw [if_pos h1] at h
   have e:(i+n).toNat=j:=Option.some.inj h
   exact ⟨by rw [seqIndex_neg (by omega) h1,e],by omega,h1,by omega⟩
  ·rw [if_neg h1] at h;cases h
theorem mL {α:Type} {xs:List α} {i:Int} {v:α} (h:gj xs i=some v):∃ j,seqIndex? i xs.length=some j/\xs[j]?=some v/\j < xs.length/\-(xs.length:Int)<=i/\i < xs.length:=by
 unfold gj at h
 cases e:qU xs.length i with
 | none=>rw [e] at h;cases h
 | some j=>
  rw [e] at h
  obtain ⟨h1,h2,h3,h4⟩:=rD e
  exact ⟨j,h1,h,h2,h3,h4⟩
theorem yQ {α:Type} {xs:List α} {j:Nat} {v:α} (h:xs[j]?=some v):gj xs (j:Int)=some v:=by
 have hj:j < xs.length:=(List.getElem?_eq_some_iff.mp h).1
 have e:qU xs.length (j:Int)=some j:=by
  unfold qU
  rw [if_pos (by omega),if_pos (by omega)];simp
 unfold gj;rw [e];exact h
noncomputable def lX (b:Expr):Prop:=∀ o i,subscripted b false o i=operate [o,i] (getItem o i)
noncomputable def Bw (X:Cx) (r:R2):Prop:=
 ∀ (value slice:Expr) (pins:List (Addr×Obj)) (s:Shared) (σ:St) (H:Hp) (x y:V) (v u:Value) (Q:VK),Inv X pins σ H s->RelV x v->RelV y u->r x y H Q ->
  subscripted slice false v u=operate [v,u] (getItem v u)->wpAny (model X.prog X.w) X.A (subscriptTail value slice v u) (EP X pins σ Q) X.xe s
noncomputable def Ep (X:Cx) (id:String) (r:V->List V->Hp->VK->Prop):Prop:=
 ∀ (pins:List (Addr×Obj)) (s:Shared) (σ:St) (H:Hp) (x:V) (xs:List V) (v:Value) (us:List Value) (Q:VK),Inv X pins σ H s->RelV x v->Vals xs us->r x xs H Q ->
  wpAny (model X.prog X.w) X.A (call (.builtin id) (v::us)) (EP X pins σ Q) X.xe s
section
variable {X:Cx} {a b:Expr} {ta tb:TE} {pos:Pos}
theorem A1 {r:R2} (hr:Bw X r) (ha:PE X a ta) (hb:PE X b tb) (hs:lX b):PE X (.Subscript a b pos) (DR r ta tb):=by
 intro pins s σ H Q I h
 exact Subscript_ (BI ha hb I h fun v u s2 x y H2 I2 rx ry q=>hr a b pins s2 σ H2 x y v u Q I2 rx ry q (hs _ _))
noncomputable def Fi (K:PySem.W.Frag):R2:=fun x y H Q=>∃ p xs i v,x=.ref p/\y=.int i/\dW K H p xs/\gj xs i=some v/\Q v H
noncomputable def F_ (K:PySem.W.Frag):R2:=fun x y H Q=>∃ p xs i v,x=.ref p/\y=.int i/\dF K H p xs/\gj xs i=some v/\Q v H
noncomputable def Gf:R2:=fun x y H Q=>∃ z i c,x=.str z/\y=.int i/\z.length<=sizeLine/\gj z.cps.toList i=some c/\Q (.str ⟨#[c]⟩) H
theorem qW:Bw X (Fi X.K):=by
 intro value slice pins s σ H x y v u Q I rx ry h hs
 obtain ⟨p,xs,i,z,rfl,rfl,hq,he,q⟩:=h
 cases rx
 obtain ⟨t,rfl⟩:=ry
 obtain ⟨its,r,pl,hz⟩:=I.list hq
 obtain ⟨j,h1,h2,h3,h4,h5⟩:=mL he
 obtain ⟨w,ew,rw'⟩:=r.get h2
 have hl:=r.length
 have hn:=iK
 have fin:EP X pins σ Q w s:=⟨z,H,I,rw',q⟩
 by_cases h0:0<=i
 ·have hj:i.toNat=j:=by
   rw [seqIndex_of h0 h5] at h1
   exact Option.some.inj h1
  exact item_listR pl.isList h0 (by omega) (by rw [hj];simpa using ew) fin hs
 ·have hj:(i+(its.toArray.size:Int)).toNat=j:=by
   rw [seqIndex_neg (by omega) h4] at h1
   rw [List.size_toArray,<- hl]
   exact Option.some.inj h1
  exact subscriptTail_builtinR (x:=w) pl.isList.typeIs slot_list_getitem.lookup
   (wpAny_getItem_list_neg (Q:=fun r s'=>r=w/\EP X pins σ Q r s') pl.isList (by omega) (by rw [List.size_toArray] <;> omega) (by omega) (by rw [hj];simpa using ew) ⟨rfl,fin⟩) hs
theorem Bx:Bw X (F_ X.K):=by
 intro value slice pins s σ H x y v u Q I rx ry h hs
 obtain ⟨p,xs,i,z,rfl,rfl,hq,he,q⟩:=h
 cases rx
 obtain ⟨t,rfl⟩:=ry
 obtain ⟨its,r,pl,hz⟩:=I.tuple hq
 obtain ⟨j,h1,h2,h3,h4,h5⟩:=mL he
 obtain ⟨w,ew,rw'⟩:=r.get h2
 have hl:=r.length
 have hn:=iK
 have fin:EP X pins σ Q w s:=⟨z,H,I,rw',q⟩
 exact subscriptTail_builtinR (x:=w) pl.typeIs slot_tuple_getitem.lookup
  (getItem_tuple (j:=j) (Q:=fun r s'=>r=w/\EP X pins σ Q r s') pl (by omega) (by omega) (by rw [List.size_toArray,<- hl];exact h1) (by simpa using ew) ⟨rfl,fin⟩) hs
theorem BF:Bw X Gf:=by
 intro value slice pins s σ H x y v u Q I rx ry h hs
 obtain ⟨z,i,c,rfl,rfl,hz,he,q⟩:=h
 obtain ⟨t,rfl⟩:=rx
 obtain ⟨t',rfl⟩:=ry
 obtain ⟨j,h1,h2,h3,h4,h5⟩:=mL he
 have hl:z.cps.toList.length=z.length:=by simp [Str.length]
 rw [hl] at h1 h4 h5
 have hn:=iK
 exact tail_any (typeIs_str s z t) slot_str_getitem.lookup (getItem_str (c:=c) (by
  have e1:decide (i < -(2 ^ 63:Int))=false:=decide_eq_false (by omega)
  have e2:decide (i>=2 ^ 63)=false:=decide_eq_false (by omega)
  rw [e1,e2,Bool.or_false]) (by rw [h1];simpa using h2) ⟨.str ⟨#[c]⟩,H,I.tok _,⟨_,rfl⟩,q⟩) hs
theorem pq (its:List Value) (n j:Nat) (u:Value):Obj.mapSeq (·.setIfInBounds j u) { cls:=.type "list",data:=.seq its.toArray n }={ cls:=.type "list",data:=.seq (its.set j u).toArray n }:=by
 simp [Obj.mapSeq]
theorem Inv.lst {pins:List (Addr×Obj)} {σ:St} {H:Hp} {s:Shared} {p:Addr} {xs:List V} (I:Inv X pins σ H s) (h:H p=some (.lst xs)) :
  ∃ (its:List Value) (n:Nat),Vals xs its/\s.heap.get? p=some { cls:=.type "list",data:=.seq its.toArray n }/\xs.length<=sizeLine:=by
 obtain ⟨z,its,n,r,e⟩:=I.hok p _ h
 exact ⟨its,n,r,e,z⟩
theorem Inv.CB {pins:List (Addr×Obj)} {σ:St} {H:Hp} {s:Shared} {p:Addr} {xs ys:List V} {its its':List Value} {n n':Nat} {f:Obj->Obj} (I:Inv X pins σ H s) (h:H p=some (.lst xs))
  (ho:s.heap.get? p=some { cls:=.type "list",data:=.seq its.toArray n }) (hf:f { cls:=.type "list",data:=.seq its.toArray n }={ cls:=.type "list",data:=.seq its'.toArray n' }) (r:Vals ys its') (hz:ys.length<=sizeLine) (t:Nat) :
  Inv X pins σ (upd H p (.lst ys)) { s with heap:=s.heap.update p f,toks:=t }:=by
 have e:(s.heap.update p f).get? p=some { cls:=.type "list",data:=.seq its'.toArray n' }:=by
  rw [Heap.get?_update_self f ho (by rw [hf] <;> rfl),hf]
 refine I.write (x:=p) (e:=p) (by rw [h];trivial) (.inl rfl) (fun b u hb q=>(Heap.get?_update_other _ _ (Ne.symm hb)).trans q) ⟨_,e⟩ ?_
 exact ⟨hz,its',n',r,e⟩
noncomputable def Dk:V->V->V->Hp->(Hp->Prop)->Prop:=fun o i v H Q=>∃ p xs k j,o=.ref p/\i=.int k/\H p=some (.lst xs)/\qU xs.length k=some j/\Q (upd H p (.lst (xs.set j v)))
theorem set_list:vd X Dk:=by
 intro pins s σ H o i v ov iv u Q I ro ri rv h
 obtain ⟨p,xs,k,j,rfl,rfl,hp,hj,q⟩:=h
 cases ro
 obtain ⟨t,rfl⟩:=ri
 obtain ⟨its,n,r,ho,hz⟩:=I.lst hp
 obtain ⟨h1,h2,h3,h4⟩:=rD hj
 have hl:=r.length
 have hn:=iK
 have I':Inv X pins σ (upd H p (.lst (xs.set j v))) { s with heap:=s.heap.update p (Obj.mapSeq (·.setIfInBounds j u)) }:=
  I.CB hp ho (pq its n j u) (r.set rv j) (by rw [List.length_set];exact hz) s.toks
 by_cases h0:0<=k
 ·have hk:k.toNat=j:=by
   rw [seqIndex_of h0 h4] at h1
   exact Option.some.inj h1
  exact PySem.W.ki_setAt ho h0 (by omega) (by rw [List.size_toArray,<- hl];exact h4) (by rw [hk];exact ⟨_,I',q⟩)
 ·have hk:(k+(its.toArray.size:Int)).toNat=j:=by
   rw [seqIndex_neg (by omega) h3] at h1
   rw [List.size_toArray,<- hl]
   exact Option.some.inj h1
  exact PySem.W.ki_setBack ho (by omega) (by rw [List.size_toArray,<- hl];exact h3) (by omega) (by rw [hk];exact ⟨_,I',q⟩)
theorem eL:bw X (.type "list") (fun xs H Q=>∃ p ys,xs=[.ref p]/\(dW X.K H p ys\/dF X.K H p ys)/\∀ l,H l=none->Q (.ref l) (upd H l (.lst ys))):=by
 intro pins s σ H xs us Q I r h
 obtain ⟨p,ys,rfl,hq,q⟩:=h
 obtain ⟨u,rfl,rx⟩:=vals1 r
 cases rx
 have fin:∀ (its:List Value),Vals ys its->ys.length<=sizeLine->∀ (h':Heap) (c':Nat),(∀ b o',s.heap.get? b=some o'->h'.get? b=some o') ->
   h'.get? s.heap.objs.size=some { cls:=.type "list",dict:=none,data:=.seq its.toArray c',slots:=#[] }->EP X pins σ Q (.ref s.heap.objs.size) { s with heap:=h' }:=fun its r' hz h' c' kp e=>
  ⟨.ref s.heap.objs.size,_,I.laid (t':=s.toks) kp (Nat.le_refl _) (show bO X.prog X.w _ h' _ (.lst ys) from ⟨hz,its,c',r',e⟩),rfl,q _ (I.hok.fresh (Nat.le_refl _))⟩
 rcases hq with hq | hq
 ·obtain ⟨its,r',pl,hz⟩:=I.list hq
  have hlen:=r'.length
  obtain ⟨o,ho,hc,n,hd⟩:=pl.isList
  exact call_list_seq p (.inl rfl) ho hc hd (fun h' c' kp e=>fin its r' hz h' c' kp e) (by simp only [List.size_toArray] <;> omega)
 ·obtain ⟨its,r',pl,hz⟩:=I.tuple hq
  have hlen:=r'.length
  obtain ⟨o,ho,hc,n,hd⟩:=pl
  exact call_list_seq p (.inr rfl) ho hc hd (fun h' c' kp e=>fin its r' hz h' c' kp e) (by simp only [List.size_toArray] <;> omega)
noncomputable def ES (K:PySem.W.Frag) (T:String) (x:V) (H:Hp):Prop:=match x with
 | .str _=>T = "str"
 | .int _=>T = "int"
 | .ref p=>(T = "list" /\ ∃ xs,dW K H p xs)\/(T = "tuple" /\ ∃ o,K.lookup p=some o/\o.cls=.type "tuple" /\ o.dict=none) \/
   (T = "dict" /\ ((∃ kvs,H p=some (.dK kvs))\/∃ kvs,H p=some (.dT kvs)))\/(T = "set" /\ ∃ S n,H p=some (.set S n))
 | _=>False
theorem CS {pins:List (Addr×Obj)} {σ:St} {H:Hp} {s:Shared} {T:String} {x:V} {v:Value} (I:Inv X pins σ H s) (r:RelV x v) (ty:ES X.K T x H) :
  s.TypeIs v T/\∀ a,v=.ref a->∃ ob,s.heap.get? a=some ob/\ob.dict=none:=by
 cases x with
 | str z=>
  obtain ⟨t,rfl⟩:=r
  cases (show T = "str" from ty)
  exact ⟨typeIs_str s z t,fun _ e=>nomatch e⟩
 | int i=>
  obtain ⟨t,rfl⟩:=r
  cases (show T = "int" from ty)
  exact ⟨typeIs_int s i t,fun _ e=>nomatch e⟩
 | ref p=>
  cases r
  rcases ty with ⟨rfl,xs,hq⟩ | ⟨rfl,o,hk,hc,hd⟩ | ⟨rfl,hk⟩ | ⟨rfl,S,n,hk⟩
  ·obtain ⟨its,_,pl,_⟩:=I.list hq
   refine ⟨pl.isList.typeIs,fun a e=>?_⟩
   cases e
   obtain ⟨o,n,e,c,hd,_⟩:=pl
   exact ⟨o,e,hd⟩
  ·refine ⟨⟨o,I.m5 p o hk,hc⟩,fun a e=>?_⟩
   cases e
   exact ⟨o,I.m5 _ o hk,hd⟩
  ·have z:∃ o,s.heap.get? p=some o/\o.ExactDict:=by
    rcases hk with ⟨kvs,hk⟩ | ⟨kvs,hk⟩
    ·obtain ⟨_,_,_,_,o,_,_,e,ex,_⟩:=I.hok p _ hk
     exact ⟨o,e,ex⟩
    ·obtain ⟨_,_,_,_,o,_,_,e,ex,_⟩:=I.hok p _ hk
     exact ⟨o,e,ex⟩
   obtain ⟨o,e,ex⟩:=z
   refine ⟨⟨o,e,ex.1⟩,fun a e2=>?_⟩
   cases e2
   exact ⟨o,e,ex.2.1⟩
  ·obtain ⟨o,_,_,_,e,ex,_⟩:=I.hok p _ hk
   refine ⟨⟨o,e,ex.1⟩,fun a e2=>?_⟩
   cases e2
   exact ⟨o,e,ex.2.1⟩
 | _=>exact False.elim ty
noncomputable def GI (K:PySem.W.Frag) (T:String) (r:V->List V->Hp->VK->Prop) (to:TE) (t:TA):TE:=fun σ H Q=>to σ H fun x H1=>ES K T x H1/\t σ H1 fun xs H2=>r x xs H2 Q
variable {o e:Expr} {es:List Expr} {to:TE} {t:TA} {name:Str} {apos cpos:Pos} {T id:String} {r:V->List V->Hp->VK->Prop}
theorem Ah (pa:PlainAttrs T) (slot:Slot T name id) (hty:typeOf (.builtin id)=pure (.type "method_descriptor")) (hm:Ep X id r) (ho:PE X o to) (ha:PA X (e::es) t)
  (hbase:attributeBase o name X.env (eval o X.env)=eval o X.env:=by rfl)
  (hfew:((backTo cpos (starEach (e::es) X.env)).all (fun x=>!x.1) && (backToKw cpos (keywordEach [] X.env)).all (fun x=>x.1.isSome)
   && decide ((e::es).length+([]:List Keyword).length+(if ([]:List Keyword).isEmpty then 0 else 1) < 30))=true:=by rfl)
  (hline:(apos.endLine == cpos.line)=true:=by rfl) (hs:starEach (e::es) X.env=(false,eval e X.env)::starEach es X.env:=by rfl) (hplain:(backTo cpos (starEach es X.env)).any (·.1)=false:=by rfl) :
  PE X (.Call (.Attribute o name apos) (e::es) [] cpos) (GI X.K T r to t):=by
 intro pins s σ H Q I h
 refine wpAny_Call_method_late hbase hfew hline rfl (cX (ho pins s σ H _ I h) fun v s1 ⟨x,H1,I1,r1,ty,q1⟩=>?_)
 obtain ⟨h1,h2⟩:=CS I1 r1 ty
 refine ⟨T,id,pa,slot,hty,h1,h2,?_⟩
 have hA:=ha cpos pins s1 σ H1 _ I1 q1
 rw [hs] at hA ⊢
 refine Calls.callWith_builtin (by show (false || (backTo cpos (starEach es X.env)).any (·.1))=false;rw [hplain] <;> rfl) (Calls.evalArgs_plain ?_)
 exact cX hA fun us s2 ⟨vs,H2,I2,r2,q2⟩=>hm pins s2 σ H2 x vs v us Q I2 r1 r2 q2
end
noncomputable def GH (X:Cx) (id:String) (r:V->List V->Hp->VK->Prop):Prop:=
 ∀ (pins:List (Addr×Obj)) (s:Shared) (σ:St) (H:Hp) (x:V) (xs:List V) (v:Value) (us:List Value) (Q:VK),Inv X pins σ H s->RelV x v->Vals xs us->r x xs H Q ->
  wpAny (model X.prog X.w) X.A (call (.builtin id) (v::us)) (EP X pins σ Q) X.xe s
theorem Vals.one:∀ {x:V} {us:List Value},Vals [x] us->∃ u,us=[u]/\RelV x u
 | _,_,.cons r .nil=>⟨_,rfl,r⟩
theorem Vals.rep {xs:List V} {us:List Value} (h:Vals xs us):∀ k:Nat,Vals (List.replicate k xs).flatten (List.replicate k us).flatten
 | 0=>.nil
 | k+1=>by
  rw [List.replicate_succ,List.replicate_succ,List.flatten_cons,List.flatten_cons]
  exact Vals.append h (Vals.rep h k)
theorem foldl_rep (its:List Value):∀ (k:Nat) (acc:List Value),
  List.foldl (fun x1 x2=>x1++x2) acc.toArray (List.replicate k its.toArray)=(acc++(List.replicate k its).flatten).toArray
 | 0,acc=>by simp
 | k+1,acc=>by
  have e:acc.toArray++its.toArray=(acc++its).toArray:=by simp
  have e2:(acc++its)++(List.replicate k its).flatten=acc++(List.replicate (k+1) its).flatten:=by
   rw [List.replicate_succ,List.flatten_cons,List.append_assoc]
  rw [<- e2,<- foldl_rep its k (acc++its),<- e,List.replicate_succ,List.foldl_cons]
section
variable {X:Cx} {pins:List (Addr×Obj)} {σ:St} {H:Hp} {s:Shared} {l b:Addr} {xs ys zs:List V}
theorem Inv.Ga {its its':List Value} {n:Nat} {f:Array Value->Array Value} {t':Nat} (I:Inv X pins σ H s) (hH:H l=some (.lst xs))
  (e:s.heap.get? l=some { cls:=.type "list",data:=.seq its.toArray n }) (hf:f its.toArray=its'.toArray) (hv:Vals ys its') (hz:ys.length<=sizeLine) :
  Inv X pins σ (upd H l (.lst ys)) { s with heap:=s.heap.update l (Obj.mapSeq f),toks:=t' }:=by
 have q:=PySem.IsL.update e f
 rw [hf] at q
 refine I.write (x:=l) (e:=l) (by rw [hH];exact trivial) (.inl rfl) (fun b' u hb hu=>(Heap.get?_update_other s.heap (Obj.mapSeq f) (Ne.symm hb)).trans hu) ⟨_,q⟩ ?_
 exact ⟨hz,its',_,hv,q⟩
theorem Inv.Cn {its:List Value} {t':Nat} (I:Inv X pins σ H s) (hv:Vals ys its) (hz:ys.length<=sizeLine) :
  Inv X pins σ (upd H s.heap.objs.size (.lst ys)) { s with heap:=s.heap.push { cls:=.type "list",data:=.seq its.toArray },toks:=t' }:=
 I.laid (fun _ _ q=>Heap.get?_push_of_some _ q) (Nat.le_refl _) ⟨hz,its,0,hv,Heap.get?_push_size _ rfl⟩
theorem Inv.fresh (I:Inv X pins σ H s):H s.heap.objs.size=none:=I.hok.fresh (Nat.le_refl _)
theorem Inv.zW (I:Inv X pins σ H s) (hH:H l=some (.lst xs)):xs.length<=sizeLine/\∃ (its:List Value) (n:Nat),Vals xs its/\xs.length=its.length/\s.heap.get? l=some { cls:=.type "list",data:=.seq its.toArray n }:=by
 obtain ⟨z,its,n,r,e⟩:=I.hok l _ hH
 exact ⟨z,its,n,r,r.length,e⟩
theorem xZ {n:Nat} (h:n<=sizeLine):Builtin.List.listTooLong n=false:=by
 unfold Builtin.List.listTooLong
 exact decide_eq_false (by omega)
end
section
variable {X:Cx}
noncomputable def yR:V->List V->Hp->VK->Prop:=fun x vs H Q=>∃ l xs y,x=.ref l/\vs=[y]/\H l=some (.lst xs)/\xs.length < sizeLine/\Q .non (upd H l (.lst (xs++[y])))
theorem lC:GH X "list.append" yR:=by
 intro pins s σ H x vs v us Q I rx rv h
 obtain ⟨l,xs,y,rfl,rfl,hH,hz,q⟩:=h
 cases rx
 obtain ⟨u,rfl,ru⟩:=rv.one
 obtain ⟨z,its,n,r,hl,e⟩:=I.zW hH
 refine call_meets F.slot_list_append ⟨_,e,rfl⟩ F.entry_list_append (F.args_list_append_2 _ _) (PySem.list_append l its.toArray n u (by rw [List.size_toArray];omega)) ⟨e,?_⟩
 refine ⟨.non,_,I.Ga (its':=its++[u]) hH e (by simp) (r.append (.cons ru .nil)) ?_,rfl,q⟩
 rw [List.length_append,List.length_singleton]
 omega
noncomputable def Gb:R2:=fun x y H Q=>∃ l b xs zs,x=.ref l/\y=.ref b/\H l=some (.lst xs)/\H b=some (.lst zs)/\xs.length+zs.length<=sizeLine/\∀ p,H p=none->Q (.ref p) (upd H p (.lst (xs++zs)))
theorem CA:dO X (binaryOp .Add) Gb:=by
 intro pins s σ H x y v u Q I rx ry h
 obtain ⟨l,b,xs,zs,rfl,rfl,hH,hB,hz,q⟩:=h
 cases rx
 cases ry
 obtain ⟨z,its,n,r,hl,e⟩:=I.zW hH
 obtain ⟨z2,its2,n2,r2,hl2,e2⟩:=I.zW hB
 refine PySem.P.add_list e e2 ?_ (by rw [List.size_toArray,List.size_toArray];omega)
 have ea:its.toArray++its2.toArray=(its++its2).toArray:=by simp
 rw [ea]
 exact ⟨.ref _,_,I.Cn (t':=s.toks) (r.append r2) (by rw [List.length_append];omega),rfl,q _ I.fresh⟩
noncomputable def EZ:R2:=fun x y H Q=>∃ l k xs,x=.ref l/\y=.int k/\H l=some (.lst xs)/\-(2 ^ 63)<=k/\k < 2 ^ 63/\xs.length * k.toNat<=sizeLine /\
 ∀ p,H p=none->Q (.ref p) (upd H p (.lst (List.replicate k.toNat xs).flatten))
theorem len_rep {α:Type} (xs:List α) (k:Nat):(List.replicate k xs).flatten.length=k * xs.length:=by
 induction k with
 | zero=>simp
 | succ k ih=>rw [List.replicate_succ,List.flatten_cons,List.length_append,ih,Nat.succ_mul,Nat.add_comm]
theorem BH:dO X (binaryOp .Mult) EZ:=by
 intro pins s σ H x y v u Q I rx ry h
 obtain ⟨l,k,xs,rfl,rfl,hH,h1,h2,hz,q⟩:=h
 cases rx
 obtain ⟨t,rfl⟩:=ry
 obtain ⟨z,its,n,r,hl,e⟩:=I.zW hH
 have hlen:its.toArray.size * k.toNat<=sizeLine:=by rw [List.size_toArray,<- hl];exact hz
 have hcap:¬ its.toArray.size * k.toNat > (2 ^ 63 - 1) / 8:=by
  have:(sizeLine:Nat)<=(2 ^ 63 - 1) / 8:=by decide
  omega
 have hfit:¬ (!Builtin.List.listFitsIndex k)=true:=by
  rw [fitsIndex_both h1 h2]
  exact Bool.false_ne_true
 have hlong:¬ Builtin.List.listTooLong (its.toArray.size * k.toNat)=true:=by
  rw [xZ hlen]
  exact Bool.false_ne_true
 have hnew:List.foldl (fun x1 x2=>x1++x2) #[] (List.replicate (if its.toArray.isEmpty=true then 0 else k.toNat) its.toArray)=(List.replicate k.toNat its).flatten.toArray:=by
  have f0:∀ m:Nat,List.foldl (fun x1 x2=>x1++x2) #[] (List.replicate m its.toArray)=(List.replicate m its).flatten.toArray:=fun m=>by
   have:=foldl_rep its m []
   rw [List.nil_append] at this
   exact this
  rw [f0]
  cases its with
  | nil=>simp
  | cons a r'=>rw [if_neg (by simp)]
 refine wpAny_binaryOp_repeat_ref (T := "list") (U := "int") (by decide) ⟨_,e,rfl⟩ (fun s'=>typeIs_int s' k t) noFill_list_mul F.fills_int_mul F.slot_int_rmul repeat_list F.slot_int_index.lookup
  (call_meets F.slot_int_rmul (typeIs_int s k t) F.entry_int_rmul (F.args_int_rmul_2 _ _) (int___rmul___int_list k t l its.toArray n)
   ⟨e,rfl,⟨_,e,rfl⟩,call_meets F.slot_list_mul ⟨_,e,rfl⟩ F.entry_list_mul (F.args_list_mul_2 _ _) (AutoListH.list___mul___list_int_3 l its.toArray n k t hfit hcap hlong) ⟨e,?_⟩⟩)
 rw [hnew]
 exact ⟨.ref _,_,I.Cn (t':=s.toks) (r.rep k.toNat) (by rw [len_rep,Nat.mul_comm];exact hz),rfl,q _ I.fresh⟩
end
section
variable {prog:Program} {w:World} {A:Around} {E:Value->Shared->Prop} {s:Shared}
end
section
variable {X:Cx}
end
end L2
namespace Att
open PySem PySem.W PySem.Calls PyProof.Rows
theorem je {P:Params} {h:Heap}:∀ (ns:List Int) (vs:List Value),WellAll P h vs (ns.map WData.int)->IntsAre vs ns:=by
 intro ns
 induction ns with
 | nil=>
  intro vs w
  rw [List.map_nil] at w
  cases w
  exact .nil
 | cons n ns ih=>
  intro vs w
  rw [List.map_cons] at w
  cases w with
  | cons a b=>
   cases a
   exact .cons _ _ (ih _ b)
theorem sR {l:OpenLaw} {n:Nat} (hn:l.most=some n) {P:Params} {h:Heap} {args:List WData} {vals:List Value}
  (hpre:l.row.toRowW.claim.pre args=true) (hwl:WellAll P h vals args) :
  ∃ a vs ns,vals=[Value.ref a]/\args=[WData.list (ns.map WData.int)]/\h.get? a=some { cls:=.type "list",data:=.seq vs.toArray }/\IntsAre vs ns/\ns.length<=n:=by
 have hsh:WShape.hasAll [] args [.list .int]=true:=(pre_splitW hpre).1
 have hc:l.pre.holds [] { args:=args }=true:=(pre_splitW hpre).2
 obtain ⟨d,r,rfl,h1,h2⟩:=hasAllW_cons hsh
 obtain rfl:=hasAllW_nil h2
 obtain ⟨xs,rfl,h3⟩:=hasW_list h1
 obtain ⟨ns,rfl⟩:=items_int h3
 have hlen:ns.length<=n:=by
  unfold OpenLaw.pre at hc
  have h4:(WTm.not (.lt (.lit (.int (n:Int))) (.len (.arg 0)))).holds [] { args:=[.list (ns.map .int)] }=true:=by
   have h4:=(holds_andW hc).1
   rw [hn] at h4
   exact h4
  have h5:=condW_of h4 (w_not (w_lt w_lit (w_len_list (w_arg rfl))))
  rw [List.length_map] at h5
  refine Nat.le_of_not_lt fun q=>?_
  have q':(n:Int) < ((ns.length:Nat):Int):=by omega
  first
   | (rw [decide_eq_true q'] at h5;exact absurd h5 (by decide))
   | (simp at h5;omega)
 cases hwl with
 | cons w1 w2=>
  cases w2
  cases w1 with
  | list ho hall=>exact ⟨_,_,ns,rfl,rfl,ho,je ns _ hall,hlen⟩
theorem tX (l:OpenLaw) (args:List WData):l.row.toRowW.claim.post args (.bool true) args=true:=
 postW_of (r:=l.row.toRowW) (X:=(true == true))
  (show WShape.has [] (.bool true) .bool=true by first | rfl | decide | simp [WShape.has,WShape.arms,WShape.armsAll])
  (show (WTm.eq .res (.lit (.bool true))).value [] { args:=args,res:=some (.bool true),after:=args }=some (.bool (true == true)) from w_eq_bool (w_res rfl) w_lit) rfl
theorem nS {l:OpenLaw} {n:Nat} {q:Program} {loose:List Str} {XP:(Str->Option Value)->Heap->Prop} {YP:World->Heap->Prop} {d:DefRec}
  (hn:l.most=some n) (hdf:d.params.defaults=[])
  (call:∀ (w:World) (s₀ s₁:Shared) (mg mb:Str->Option Value) (fa:Addr) (o:Obj) (pm cd doc:Value) (a:Addr) (vs:List Value) (ns:List Int),
   Ground q loose [] XP w s₀ mg mb s₁.heap->YP w s₁.heap ->
   s₁.heap.get? fa=some o->o.data=.func (docDef d.name d.params d.body d.scope pm cd doc)->s₁.heap.CodeRec cd d.name->mg d.name=some (.ref fa) ->
   s₁.heap.get? a=some { cls:=.type "list",data:=.seq vs.toArray }->IntsAre vs ns->ns.length<=n->s₁.gens=#[] ->
   codeAny (model l.prog w) callerA (.call (.ref fa) ⟨[.ref a],[]⟩) (fun r s'=>r=.ok (.ret (.bool true))/\OldK s₁.heap s'.heap/\s'.os=s₁.os/\AllBare s'.gens) s₁) :
  WalkO q loose XP YP l.row.toRowW d [] (fun f vs=>PySem.call f vs):=by
 intro w s₀ s₁ mg mb G Y fa o pm cd doc dV kV ho hd hcd hD hmg hg args vals as hpre hlay hrd hwl hlo
 obtain rfl:dV=.none:=Dflts.none hD hdf
 obtain rfl:kV=.none:=Dflts.noKw hD
 obtain ⟨a,vs,ns,rfl,rfl,hobj,hints,hlen⟩:=sR hn hpre hwl
 refine enter_call (codeAny_mono (call w s₀ s₁ mg mb fa o pm cd doc a vs ns G Y ho (fd_plain hd) hcd hmg hobj hints hlen hg) fun r s' hq=>?_)
 obtain ⟨rfl,h2,h3,h4⟩:=hq
 exact ⟨.inl ⟨.bool true,.bool true,[],rfl,fun _=>rfl,.bool true,tX l _,fun _=>⟨List.Pairwise.nil,fun _ hm=>(nomatch hm)⟩⟩,h2,h3,h4⟩
section
variable {prog:Program} {w:World} {A:Around} {E:Value->Shared->Prop} {s:Shared} {K:Frag}
end
end Att
namespace L2
open PySem PySem.Spec PyProof.Rows
theorem kX:∀ {vs:List Value} {ns:List Int},IntsAre vs ns->Vals (ns.map V.int) vs
 | _,_,.nil=>.nil
 | _,_,.cons n t h=>.cons ⟨t,rfl⟩ (kX h)
noncomputable def zC (H:Hp):Prop:=∀ b,H b=none\/∃ o xs,H b=some (.frz o (.lst xs))
theorem xQ {P:Program} {w:World} {K:PySem.W.Frag} {mg mb:Str->Option Value} {CX:ym} {k:Nat} {fa a:Addr} {fd:FuncData} {x:Str} {sp:Sp} {s₁:Shared} {vs:List Value} {ns:List Int}
  (KX:K.In s₁.heap) (hns:s₁.heap.Ns mainGlobals mg) (hb:s₁.heap.Ns builtinsNs mb) (hbb:∀ x:Str,x ≠ "__name__" -> mb x=bootBuiltins x) (hlim:s₁.heap.NoLimit) (hg:s₁.gens=#[])
  (ha:s₁.heap.get? a=some { cls:=.type "list",data:=.seq vs.toArray }) (hi:IntsAre vs ns) (hl:ns.length<=sizeLine) (hr:Room k callerA)
  (F:∀ base:Heap,K.In base->base.Ns mainGlobals mg->FnOk P w K mg base CX k fa fd [x] sp) (hbind:∀ (s:Shared) (u:Value),BindsTo s fd ⟨[u],[]⟩ [(x,u)])
  (hsp:∀ H:Hp,zC H->dW K H a (ns.map V.int)->sp [.ref a] H (fun v _=>v=.bl true) fun _ _ _=>False)
  (hCX:∀ H e s',CX [] H s₁ (fun _ _ _=>False) e s'->False) :
  codeAny (model P w) callerA (.call (.ref fa) ⟨[.ref a],[]⟩) (fun r s'=>r=.ok (.ret (.bool true))/\OldK s₁.heap s'.heap/\s'.os=s₁.os/\AllBare s'.gens) s₁:=by
 have rv:=kX hi
 have lenV:=hi.length
 have core:∀ H:Hp,zC H->dW K H a (ns.map V.int)->gC P w H s₁.heap->(∀ b,H b≠none->b=a)->(H a≠none->K.lookup a=none) ->
   codeAny (model P w) callerA (.call (.ref fa) ⟨[.ref a],[]⟩) (fun r s'=>r=.ok (.ret (.bool true))/\OldK s₁.heap s'.heap/\s'.os=s₁.os/\AllBare s'.gens) s₁:=by
  intro H hO hS hok hA hK
  have base_of:∀ {b:Addr} {o:Obj},s₁.heap.get? b=some o->H b=none->(mO s₁.heap H).get? b=some o:=fun e n=>wm e n
  have noA:∀ {b:Addr} {o:Obj} {es:Array DictEntry} {ep:Nat},s₁.heap.get? b=some o->o.data=.dict es ep->H b=none:=fun {b o es ep} e d=>by
   cases q:H b with
   | none=>rfl
   | some u=>
    have e':b=a:=hA b (by rw [q];simp)
    subst e'
    rw [ha] at e;cases e
    have d':Data.seq vs.toArray _=Data.dict es ep:=d
    cases d'
  have nsK:∀ {b:Addr} {m:Str->Option Value},s₁.heap.Ns b m->(mO s₁.heap H).Ns b m:=fun {b m} ⟨o,es,ep,e,d,r⟩=>⟨o,es,ep,base_of e (noA e d),d,r⟩
  have hKb:K.In (mO s₁.heap H):=fun b o e=>base_of (KX b o e) (by
   cases q:H b with
   | none=>rfl
   | some u=>
    have e':b=a:=hA b (by rw [q];simp)
    subst e'
    rw [hK (by rw [q];simp)] at e;cases e)
  have hM:Mod K mg (mO s₁.heap H):=⟨hKb,nsK hns,⟨mb,nsK hb,hbb⟩,let ⟨mc,h1,h2⟩:=hlim;⟨mc,nsK h1,h2⟩⟩
  have e0:Env0 P w K mg (mO s₁.heap H) callerA [] s₁ H:=⟨rfl,hM,fun b o e=>yT e,Nat.le_of_eq (tN _ _),trivial,fun b hb=>absurd (show b∈([]:List Addr) from hb) (by simp),hok,.of_eq hg⟩
  refine codeAny_mono ((F _ hKb (nsK hns)).run callerA [] s₁ H ⟨[.ref a],[]⟩ [.ref a] [.ref a] _ _ hr e0 (hbind s₁ (.ref a)) (.cons rfl .nil) (hsp H hO hS)) fun r s' h=>?_
  cases r with
  | error e=>exact (hCX H e s' h).elim
  | ok fl=>
   cases fl with
   | next=>exact False.elim h
   | brk=>exact False.elim h
   | cont=>exact False.elim h
   | ret u=>
    obtain ⟨v,H',os,bare,un,hok',r',q⟩:=h
    have q':v=.bl true:=q
    subst q'
    obtain rfl:u=Value.bool true:=r'
    refine ⟨rfl,OldK.of_keep fun b o e=>?_,os,bare⟩
    cases q:H b with
    | none=>exact un.keep b o e q (by intro z;exact absurd (show b∈([]:List Addr) from z) (by simp)) (by simp)
    | some u=>
     rcases hO b with z | ⟨ob,xs,z⟩
     ·rw [q] at z;cases z
     ·have z2:=un.frzs b ob _ z
      obtain ⟨e1,_⟩:=hok b _ z
      obtain ⟨e2,_⟩:=hok' b _ z2
      rw [e] at e1;cases e1
      exact e2
 cases hk:K.lookup a with
 | some o=>
  have e:=KX a o hk
  rw [ha] at e
  cases e
  refine core (fun _=>none) (fun _=>.inl rfl) (.inr ⟨_,vs.toArray,_,hk,rfl,rfl,rfl,by rw [List.size_toArray,lenV];exact hl,by simpa using rv⟩) (fun b u z=>by have z':(none:Option HO)=some u:=z;cases z') (fun b z=>absurd rfl z) fun z=>absurd rfl z
 | none=>
  refine core (fun b=>if b=a then some (.frz { cls:=.type "list",data:=.seq vs.toArray } (.lst (ns.map V.int))) else none) (fun b=>?_) (.inl (.inr ⟨{ cls:=.type "list",data:=.seq vs.toArray },if_pos rfl⟩)) (fun b u z=>?_) (fun b z=>?_) fun _=>hk
  ·by_cases hb:b=a
   ·exact .inr ⟨_,_,if_pos hb⟩
   ·exact .inl (if_neg hb)
  ·by_cases hb:b=a
   ·have z':=(if_pos hb).symm.trans z
    cases z'
    subst hb
    exact ⟨ha,by rw [List.length_map];exact hl,vs,_,rv,ha⟩
   ·have z':=(if_neg hb).symm.trans z
    cases z'
  ·by_cases hb:b=a
   ·exact hb
   ·exact absurd (if_neg hb) z
theorem zZ {l:PySem.W.OpenLaw} {n k:Nat} {q:Program} {loose:List Str} {XP:(Str->Option Value)->Heap->Prop} {YP:World->Heap->Prop} {d:DefRec} {K:Params->PySem.W.Frag} {CX:World->ym} {sp:World->Sp} {x:Str}
  (hn:l.most=some n) (hn2:n<=sizeLine) (hdf:d.params.defaults=[]) (hr:Room k callerA)
  (hY:∀ (w:World) (h:Heap),YP w h->(K w.params).In h)
  (F:∀ (w:World) (mg:Str->Option Value) (fa:Addr) (h:Heap),(K w.params).In h->h.Ns mainGlobals mg->mg d.name=some (.ref fa) ->
   ∃ fd:FuncData,(∀ (s:Shared) (u:Value),BindsTo s fd ⟨[u],[]⟩ [(x,u)]) /\
    ∀ base:Heap,(K w.params).In base->base.Ns mainGlobals mg->FnOk l.prog w (K w.params) mg base (CX w) k fa fd [x] (sp w))
  (hsp:∀ (w:World) (H:Hp) (a:Addr) (ns:List Int),ns.length<=n->zC H->dW (K w.params) H a (ns.map V.int)->sp w [.ref a] H (fun v _=>v=.bl true) fun _ _ _=>False)
  (hCX:∀ (w:World) (H:Hp) (s:Shared) (e:Value) (s':Shared),CX w [] H s (fun _ _ _=>False) e s'->False) :
  PySem.W.WalkO q loose XP YP l.row.toRowW d [] (fun f vs=>PySem.call f vs):=by
 refine Att.nS hn hdf fun w s₀ s₁ mg mb fa o pm cd doc a vs ns G Y ho hd hcd hmg hobj hints hlen hg=>?_
 have KX:=hY w _ Y
 obtain ⟨fd,hb,hF⟩:=F w mg fa _ KX G.T.g hmg
 exact xQ KX G.T.g G.T.b G.T.builtins G.T.nolimit hg hobj hints (Nat.le_trans hlen hn2) hr hF hb (fun H hO hS=>hsp w H a ns hlen hO hS) fun H e s'=>hCX w H s₁ e s'
noncomputable def bu (s:Stmt):Arguments:=match s with
 | .FunctionDef _ a _ _ _ _ _ _ _ _=>a
 | _=>{ posonlyargs:=[],args:=[],vararg:=none,kwonlyargs:=[],kw_defaults:=[],kwarg:=none,defaults:=[] }
noncomputable def a_ (s:Stmt):List Stmt:=match s with
 | .FunctionDef _ _ b _ _ _ _ _ _ _=>b
 | _=>[]
noncomputable def aG (s:Stmt):Scope:=match s with
 | .FunctionDef _ _ _ _ _ _ sc _ _ _=>sc
 | _=>{ kind:=.function,names:=[],isGenerator:=false,isCoroutine:=false }
noncomputable abbrev jg:ym:=fun _ _ _ _ _ _=>False
noncomputable abbrev E0:XK:=fun _ _ _=>False
theorem Ec {X:Cx}:Passes jg X E0:=fun _ _ _ _ _ _ _ h=>h.elim
structure Fun (K:PySem.W.Frag) (x qual:Str) (st:Stmt) (f:Addr) (fd:FuncData):Prop where
 ex:∃ (oc:Value) (od:Option Addr) (kV doc pm:Value) (an:Option Addr) (cdv ct:Value) (osl:Array (Option Value)),
  fd=PySem.W.fnOf x qual (bu st) (a_ st) (aG st) .none kV doc pm an cdv ct/\K.lookup f=some ⟨oc,od,.func fd,osl⟩/\PySem.W.codeIn K cdv qual=true
 kp:PySem.W.keepIn K (.ref f)=true
section
variable {P:Program} {w:World} {K:PySem.W.Frag} {mg:Str->Option Value} {base:Heap}
theorem Fun.ok {x qual:Str} {st:Stmt} {f:Addr} {fd:FuncData} {N ps:List Str} {k:Nat} {sp:Sp} (F:Fun K x qual st f fd) (S:FnScope N ps (aG st)) (len:∀ vs H Q E,sp vs H Q E->vs.length=ps.length)
  (hbody:∀ (cdv:Value) (A:Around) (outer:List Env) (s:Shared) (H:Hp) (vs:List V) (Q:VK) (E:XK),Room k (A.deeper (envOfC qual (aG st) s.heap.objs.size f cdv))->sp vs H Q E ->
   ∃ t,m7 (pe jg P w K mg base N qual (aG st) f cdv A outer s H E).Et (a_ st) t/\t { nx:=fun _ H'=>Q .non H',rt:=Q } (start N vs) H):FnOk P w K mg base jg (k+1) f fd ps sp:=by
 obtain ⟨oc,od,kV,doc,pm,an,cdv,ct,osl,rfl,lk,hcd⟩:=F.ex
 refine Ef lk hcd S len fun A outer s H vs Q E hr hsp=>?_
 obtain ⟨t,h,q⟩:=hbody cdv A outer s H vs Q E hr hsp
 exact ⟨t,h.Et,q⟩
theorem Fun.binds {x qual:Str} {st:Stmt} {f:Addr} {fd:FuncData} {ps:List Str} (F:Fun K x qual st f fd)
  (h:∀ (kV doc pm:Value) (an:Option Addr) (cdv ct:Value) (us:List Value),us.length=ps.length->bindArgs (PySem.W.fnOf x qual (bu st) (a_ st) (aG st) .none kV doc pm an cdv ct) ⟨us,[]⟩=pure (ps.zip us)):Binds K fd ps []:=by
 obtain ⟨oc,od,kV,doc,pm,an,cdv,ct,osl,rfl,lk,hcd⟩:=F.ex
 exact .all (h kV doc pm an cdv ct)
theorem cu {x qual:Str} {st:Stmt} {f:Addr} {oc:Value} {od an:Option Addr} {osl:Array (Option Value)} {kV doc pm cdv ct:Value} (l:K.lookup f=some ⟨oc,od,.func (PySem.W.fnOf x qual (bu st) (a_ st) (aG st) .none kV doc pm an cdv ct),osl⟩)
  (c:PySem.W.codeIn K cdv qual=true) (k:PySem.W.keepIn K (.ref f)=true):Fun K x qual st f (PySem.W.fnOf x qual (bu st) (a_ st) (aG st) .none kV doc pm an cdv ct):=⟨⟨oc,od,kV,doc,pm,an,cdv,ct,osl,rfl,l,c⟩,k⟩
end
section
variable {X:Cx}
theorem pv (i:Nat) {x:Str} {pos:Pos} (hN:X.N[i]?=some x:=by rfl) (hv:Dg X.env.scope x:=by first | exact Or.inl rfl | exact Or.inr (Or.inl rfl) | exact Or.inr (Or.inr rfl)) (hd:(x == ("__debug__" : Str))=false:=by decide)
  (hcd:(x == ("__classdict__" : Str))=false:=by decide):PE X (.Name x pos) (D0 i):=uU hN hv hd hcd
end
set_option maxHeartbeats 4000000
noncomputable def BL (σ:St):Option Nat->Option V
 | some j=>(σ[j]?).getD none
 | none=>none
noncomputable def iA (env:Env):List (Str×NameKind)->List (Str×Addr)->List (Str×Addr)
 | [],cs=>cs
 | (n,k)::r,cs=>iA env r (if k == .free then (n,(env.cells.lookup n).getD 0)::cs else cs)
theorem pG {scope:Scope} {env:Env} (h:∀ y∈scope.names,y.2=.free->∃ c,env.cells.lookup y.1=some c):closureFor scope env=pure (iA env scope.names []):=by
 have key:∀ (l:List (Str×NameKind)) (cs:List (Str×Addr)),(∀ y∈l,y.2=.free->∃ c,env.cells.lookup y.1=some c) ->
   (forIn l cs (fun (x:Str×NameKind) (r:List (Str×Addr))=>(match x with
    | (name,kind)=>if (kind == NameKind.free)=true then (do let c <- cellOf env name;pure (ForInStep.yield ((name,c)::r))) else pure (ForInStep.yield r):Sem (ForInStep (List (Str×Addr))))))=(pure (iA env l cs):Sem (List (Str×Addr))):=by
  intro l
  induction l with
  | nil=>intro cs _;rfl
  | cons y r ih=>
   intro cs hl
   obtain ⟨n,k⟩:=y
   rw [List.forIn_cons]
   by_cases hk:k=.free
   ·subst hk
    obtain ⟨c,hc⟩:=hl (n,.free) List.mem_cons_self rfl
    have e1:cellOf env n=pure c:=by
     unfold cellOf
     rw [hc]
    simp only [beq_self_eq_true,if_true,e1,pure_bind]
    rw [ih _ (fun z hz=>hl z (List.mem_cons_of_mem _ hz))]
    simp only [iA,beq_self_eq_true,if_true,hc,Option.getD_some]
   ·have hb:(k == NameKind.free)=false:=by simpa using hk
    simp only [hb,Bool.false_eq_true,if_false,pure_bind]
    rw [ih _ (fun z hz=>hl z (List.mem_cons_of_mem _ hz))]
    simp only [iA,hb,Bool.false_eq_true,if_false]
 have:=key scope.names [] h
 exact (congrArg (fun z=>z >>= fun cs=>(pure cs:Sem (List (Str×Addr)))) this).trans (pure_bind _ _)
theorem j_:∀ {l:List (Str×NameKind)} {x:Str} {k:NameKind},l.lookup x=some k->(x,k)∈l
 | [],_,_,h=>nomatch h
 | (n,k')::r,x,k,h=>by
  rw [List.lookup_cons] at h
  cases hx:x == n with
  | true=>
   rw [hx] at h
   have e:x=n:=by simpa using hx
   subst e
   cases h
   exact List.mem_cons_self
  | false=>rw [hx] at h;exact List.mem_cons_of_mem _ (j_ h)
theorem lN {env:Env} {x:Str} {c:Addr}:∀ {l:List (Str×NameKind)} {cs:List (Str×Addr)},(∀ y∈l,y.2=.free->∃ c,env.cells.lookup y.1=some c)->(iA env l cs).lookup x=some c->env.cells.lookup x=some c\/cs.lookup x=some c
 | [],cs,_,h=>.inr h
 | (n,k)::r,cs,hl,h=>by
  have h':=lN (l:=r) (fun z hz=>hl z (List.mem_cons_of_mem _ hz)) h
  rcases h' with h' | h'
  ·exact .inl h'
  ·by_cases hk:k=.free
   ·subst hk
    simp only [beq_self_eq_true,if_true] at h'
    obtain ⟨c',hc⟩:=hl (n,.free) List.mem_cons_self rfl
    rw [hc,Option.getD_some,List.lookup_cons] at h'
    cases hx:x == n with
    | true=>
     rw [hx] at h'
     have e:x=n:=by simpa using hx
     subst e
     left
     rw [hc];exact h'
    | false=>rw [hx] at h';exact .inr h'
   ·have hb:(k == NameKind.free)=false:=by simpa using hk
    simp only [hb,Bool.false_eq_true,if_false] at h'
    exact .inr h'
theorem kJ {env:Env} {x:Str}:∀ {l:List (Str×NameKind)} {cs:List (Str×Addr)},(cs.lookup x).isSome=true->((iA env l cs).lookup x).isSome=true
 | [],cs,h=>h
 | (n,k)::r,cs,h=>by
  show ((iA env r _).lookup x).isSome=true
  refine kJ (l:=r) ?_
  by_cases hk:(k == NameKind.free)=true
  ·rw [if_pos hk,List.lookup_cons]
   cases hx:x == n with
   | true=>rfl
   | false=>exact h
  ·rw [if_neg hk];exact h
theorem j4 {env:Env} {x:Str}:∀ {l:List (Str×NameKind)} {cs:List (Str×Addr)},(x,NameKind.free)∈l->((iA env l cs).lookup x).isSome=true
 | [],_,h=>nomatch h
 | (n,k)::r,cs,h=>by
  rcases List.mem_cons.mp h with e | h
  ·cases e
   show ((iA env r _).lookup x).isSome=true
   refine kJ (l:=r) ?_
   rw [if_pos (by rfl),List.lookup_cons]
   simp
  ·exact j4 (l:=r) h
noncomputable def cI (X:Cx) (scope:Scope) (N:List Str) (C:Addr) (s₀:Shared) (H₀:Hp) (ex:List Addr):Cx where
 prog:=X.prog
 w:=X.w
 K:=X.K
 mg:=X.mg
 base:=X.base
 A:=X.A
 N:=N
 s₀:=s₀
 H₀:=H₀
 env:=compEnvC scope (iA X.env scope.names []) C X.env
 outer:=X.stack
 stack:=X.stack
 ex:=ex
 fn:=fun _=>false
 calm:=X.calm
 pn:=[]
 xe:=fun _ _=>False
structure CpScope (X:Cx) (scope:Scope) (N:List Str) (cap:List (Option Nat)):Prop where
 kind:scope.kind=.function
 nocell:∀ y∈scope.names,y.2≠.cell
 nm:∀ y∈scope.names,y.2=.local->scope.names.lookup y.1=some .local
 fr:∀ y∈scope.names,y.2=.free->X.env.kindOf y.1=some .cell\/X.env.kindOf y.1=some .free
 rl:∀ y,((relabel scope X.env).names.lookup y=some .cell\/(relabel scope X.env).names.lookup y=some .free)->(y,NameKind.free)∈scope.names
 len:cap.length=N.length
 nolf:∀ x,(x,NameKind.free)∈scope.names->scope.names.lookup x≠some .local
 cp:∀ (i j:Nat) (x:Str),N[i]?=some x->cap[i]?=some (some j)->X.N[j]?=some x/\(x,NameKind.free)∈scope.names
theorem CO {X:Cx} {scope:Scope} {N:List Str} {cap:List (Option Nat)} {pins:List (Addr×Obj)} {σ:St} {H:Hp} {s:Shared} {fp:List Addr} {h₁:Heap} {m:Str->Option Value} {tk:Nat} (S:CpScope X scope N cap) (I:Inv X pins σ H s)
  (hf:∀ b∈fp,iJ X pins H b) (ho:∀ b∈fp,∃ o,s.heap.get? b=some o) (hn:h₁.Ns s.heap.objs.size m) (hk:∀ b o,s.heap.get? b=some o->h₁.get? b=some o) :
  Inv (cI X scope N s.heap.objs.size s H fp) [] (cap.map (BL σ)) H { s with heap:=h₁,toks:=tk }:=by
 have hfree:∀ y∈scope.names,y.2=.free->∃ c,X.env.cells.lookup y.1=some c:=fun y hy e=>I.ok.has _ (S.fr y hy e)
 have lk:∀ x c,(iA X.env scope.names []).lookup x=some c->X.env.cells.lookup x=some c:=fun x c e=>by
  rcases lN hfree e with z | z
  ·exact z
  ·cases z
 have lt:∀ b o,s.heap.get? b=some o->b≠s.heap.objs.size:=fun b o e=>Nat.ne_of_lt (Heap.lt_size e)
 refine ⟨⟨I.ok.mod,?_,I.ok.glob,I.ok.blt,Nat.le_refl _,?_,?_,?_,I.ok.hd,I.ok.frames,.inl rfl,?_,I.bs,Nat.le_trans I.ok.bsz I.sz,?_,?_,I.stack,I.qd⟩,rfl,I.bare,Un.kept hk,?_,?_,I.hok.fresh (Nat.le_refl _),?_,?_,I.hok.kept hk,?_⟩
 ·exact S.kind
 ·intro x y c e1 e2
  exact I.ok.inj x y c (lk x c e1) (lk y c e2)
 ·intro x e
  have hm:=S.rl x e
  have:=j4 (env:=X.env) (cs:=[]) hm
  exact Option.isSome_iff_exists.mp this
 ·intro x c e _
  exact absurd e (by simp [cI])
 ·intro b hb
  obtain ⟨o,e⟩:=ho b hb
  refine ⟨lt b o e,fun x c e2=>(hf b hb).2.2.2.2.1 x c (lk x c e2)⟩
 ·intro b o e hb
  obtain ⟨_,_,_,h3,_⟩:=hf b hb
  rcases h3 with z | z
  ·exact I.ok.noex b o e z
  ·exact absurd (Nat.lt_of_lt_of_le (Heap.lt_size (I.ok.bs b o e).1) z) (Nat.lt_irrefl _)
 ·intro b hb hz
  obtain ⟨_,h1,h2,_⟩:=hf b hb
  rcases List.mem_cons.mp (I.pS b hz) with z | z
  ·exact h1 z
  ·exact h2 z
 ·refine ⟨m,hn,fun i x v e1 e2 e3=>?_⟩
  rw [List.getElem?_map] at e2
  cases hc:cap[i]? with
  | none=>rw [hc] at e2;cases e2
  | some oj=>
   rw [hc] at e2
   cases oj with
   | none=>cases e2
   | some j=>
    have e2':(σ[j]?).getD none=some v:=Option.some.inj e2
    obtain ⟨hj,hm⟩:=S.cp i j x e1 hc
    obtain ⟨m0,hn0,hl0⟩:=I.loc
    have hσ:σ[j]?=some (some v):=by
     cases h:σ[j]? with
     | none=>rw [h] at e2';cases e2'
     | some z=>rw [h,Option.getD_some] at e2';rw [e2']
    have hkd:=S.fr (x,.free) hm rfl
    have hv:Dg X.env.scope x:=.inr hkd
    obtain ⟨u,ru,lo⟩:=hl0 j x v hj hσ hv
    refine ⟨u,ru,?_⟩
    rcases lo with ⟨lo,_⟩ | ⟨_,c,ec,ic⟩
    ·rcases hkd with z | z <;> (rw [z] at lo;cases lo)
    ·have h2:=j4 (env:=X.env) (cs:=[]) hm
     obtain ⟨c',hc'⟩:=Option.isSome_iff_exists.mp h2
     have:c'=c:=Option.some.inj ((lk x c' hc').symm.trans ec)
     subst this
     refine .inr ⟨?_,c',hc',?_⟩
     ·rcases e3 with z | z | z
      ·exfalso
       have:(relabel scope X.env).names.lookup x=some .local:=z
       have hloc:scope.names.lookup x=some .local:=by
        have hmem:∃ k,(x,k)∈(relabel scope X.env).names/\k=.local:=by
         clear hc' h2
         have:=j_ this
         exact ⟨_,this,rfl⟩
        obtain ⟨k,hk1,rfl⟩:=hmem
        obtain ⟨⟨n',k'⟩,hm1,hm2⟩:=List.mem_map.mp hk1
        dsimp only at hm2
        split at hm2
        ·cases hm2
        ·cases hm2
         exact S.nm (x,.local) hm1 rfl
       exact False.elim (S.nolf x hm hloc)
      ·exact .inl z
      ·exact .inr z
     ·obtain ⟨o,ho',hd⟩:=ic
      exact ⟨o,hk _ _ ho',hd⟩
 ·intro x c e
  obtain ⟨v,o,ho',hd⟩:=I.cell x c (lk x c e)
  exact ⟨v,o,hk _ _ ho',hd⟩
 ·intro x c e
  exact I.freeC x c (lk x c e)
 ·intro p hp
  cases hp
 ·rw [List.length_map,S.len]
  rfl
noncomputable def B0 (X:Cx) (ifs:List Expr) (t:TT):Prop:=
 ∀ (pins:List (Addr×Obj)) (s:Shared) (σ:St) (H:Hp) (Q:Bool->Hp->Prop),Inv X pins σ H s->t σ H Q ->
  wpAny (model X.prog X.w) X.A (forIn ifs true fun c r=>if r=true then do let ok <- isTrue c X.env (eval c X.env);pure (ForInStep.yield ok) else pure (ForInStep.yield r)) (TP X pins σ Q) X.xe s
noncomputable def FG:TT:=fun _ H Q=>Q true H
theorem yE {X:Cx}:B0 X [] FG:=fun _ _ _ H _ I h=>wpAny_tests_nil ⟨H,I,h⟩
theorem yL {X:Cx} {c:Expr} {t:TT} (h:PT X c t):B0 X [c] t:=fun pins s σ H Q I q=>wpAny_tests_one (h pins s σ H Q I q)
noncomputable def Cv (cap:List (Option Nat)) (g:TG) (tc:TT) (te:TE) (σ:St) (Q:VK) (J:It) (H1:Hp):Prop:=∀ D,H1 D=none ->
 ∃ W:Nat->Nat->St->Hp->Prop,(∃ m,W 0 m (cap.map (BL σ)) (upd H1 D (.lst [])))/\∀ i m σ' H',W i m σ' H' ->
  (J.stop i H'/\Q (.ref D) H')\/(J.go i H'/\∀ x H2,J.yld i H' x H2->g x σ' H2 fun σ3 H3=>tc σ3 H3 fun b H4=>
   if b=true then te σ3 H4 fun y H5=>∃ ys,H5 D=some (.lst ys)/\ys.length < sizeLine/\∃ m',m' < m/\W (i+1) m' σ3 (upd H5 D (.lst (ys++[y])))
   else ∃ m',m' < m/\W (i+1) m' σ3 H4)
noncomputable def Ej (cap:List (Option Nat)) (wi:TI) (g:TG) (tc:TT) (te:TE):TE:=fun σ H Q=>wi σ H (Cv cap g tc te σ Q)
theorem yV {α:Type} {t:Sem α} {Q Q':α->Shared->Prop} {M:Model} {A:Around} {E:Value->Shared->Prop} {s:Shared} (h:wpAny M A t Q (fun _ _=>False) s) (hQ:∀ a s,Q a s->Q' a s):wpAny M A t Q' E s:=
 wpAny_mono h hQ fun _ _ f=>f.elim
structure TurnG (ok:Cx->Prop) (P:Program) (w:World) (K:PySem.W.Frag) (tg:Expr) (J:It) (fp:List Addr) (it:Addr) (tn:Nat->Heap->Prop):Prop where
 obj:∀ i h,tn i h->∀ b∈fp,∃ o,h.get? b=some o/\∀ v,o.data≠.cell v
 keep:∀ i h h',tn i h->(∀ b∈fp,∀ o,h.get? b=some o->h'.get? b=some o)->tn i h'
 item:∀ (X:Cx),X.prog=P->X.w=w->X.K=K->ok X->∀ (i:Nat) (pins:List (Addr×Obj)) (s:Shared) (σ:St) (H:Hp) (E:Value->Shared->Prop),Inv X pins σ H s->(∀ b∈fp,iJ X pins H b)->tn i s.heap->J.go i H ->
  wpAny (model P w) X.A (pyNext (.ref it)) (fun r s1=>∃ u,r=some u /\
   wpAny (model P w) X.A (letOwnedTupleGo tg (.ref it) u) (fun _ s2=>∃ x H',Inv X pins σ H' s2/\RelV x u/\J.yld i H x H'/\tn (i+1) s2.heap/\∀ b∈fp,H' b=none) E s1) E s
 done:∀ (X:Cx),X.prog=P->X.w=w->X.K=K->ok X->∀ (i:Nat) (pins:List (Addr×Obj)) (s:Shared) (σ:St) (H:Hp) (E:Value->Shared->Prop),Inv X pins σ H s->(∀ b∈fp,iJ X pins H b)->tn i s.heap->J.stop i H ->
  wpAny (model P w) X.A (pyNext (.ref it)) (fun r s1=>r=none/\Inv X pins σ H s1) E s
 self:∀ (A:Around) (i:Nat) (s:Shared) (Q:Value->Shared->Prop) (E:Value->Shared->Prop),tn i s.heap->Q (.ref it) s->wpAny (model P w) A (pyIter (.ref it)) Q E s
noncomputable def FF (ok:Cx->Prop) (X:Cx) (pins:List (Addr×Obj)) (σ:St) (tg:Expr) (R:It->Hp->Prop) (itv:Value) (s2:Shared):Prop:=
 ∃ (it:Addr) (fp:List Addr) (tn:Nat->Heap->Prop) (J:It) (H':Hp),itv=.ref it/\Inv X pins σ H' s2/\TurnG ok X.prog X.w X.K tg J fp it tn/\tn 0 s2.heap/\(∀ b∈fp,iJ X pins H' b)/\R J H'
noncomputable def FI (ok:Cx->Prop) (X:Cx) (tg iter:Expr) (wi:TI):Prop:=
 ∀ (pins:List (Addr×Obj)) (s:Shared) (σ:St) (H:Hp) (R:It->Hp->Prop),Inv X pins σ H s->wi σ H R ->
  wpAny (model X.prog X.w) X.A (eval iter X.env) (fun v s1=>wpAny (model X.prog X.w) X.A (pyIter v) (FF ok X pins σ tg R) X.xe s1) X.xe s
theorem PI.g {X:Cx} {tg iter:Expr} {wi:TI} (h:PI X tg iter wi):FI (fun Y=>Y.calm=true) X tg iter wi:=fun pins s σ H R I q=>
 cX (h pins s σ H R I q) fun v s1 h1=>cX h1 fun itv s2 ⟨it,fp,tn,J,H',e,I',T,a,b,c⟩=>⟨it,fp,tn,J,H',e,I',⟨T.obj,T.keep,T.item,T.done,T.self⟩,a,b,c⟩
theorem sd {ok:Cx->Prop} {X:Cx} {use:Option (Value->Sem Unit)} {Q':Value->Shared->Prop} {tg iter elt:Expr} {ifs:List Expr} {scope:Scope} {pos:Pos} {N:List Str} {cap:List (Option Nat)} {wi:TI} {g:TG} {tc:TT} {te:TE} (S:CpScope X scope N cap) (hok:∀ C s₀ H₀ ex,(∀ a o u,X.H₀ a=some (.frz o u)->H₀ a=some (.frz o u))->ok (cI X scope N C s₀ H₀ ex)) (hi:FI ok X tg iter wi)
  (hg:∀ C s₀ H₀ ex,PG (cI X scope N C s₀ H₀ ex) tg g) (ht:∀ C s₀ H₀ ex,B0 (cI X scope N C s₀ H₀ ex) ifs tc) (he:∀ C s₀ H₀ ex,PE (cI X scope N C s₀ H₀ ex) elt te)
  (hs:∀ x,foldedSetIterable iter X.env x=pure x:=by intro _;rfl):∀ (pins:List (Addr×Obj)) (s:Shared) (σ:St) (H:Hp) (Q:VK),Inv X pins σ H s->Ej cap wi g tc te σ H Q ->
  (∀ (s6:Shared) (C D:Addr) (H5:Hp) (m:Str->Option Value),s6.heap.Ns C m->iJ X pins H5 C->(∀ h',Heap.SameBut C s6.heap h'->Inv X pins σ H5 { s6 with heap:=h' })->Q (.ref D) H5->∀ v,compPost (model X.prog X.w) X.A X.xe use Q' (.ref D) C (.ok v) s6) ->
  wpAny (model X.prog X.w) X.A (comprehension (.ListComp elt [⟨tg,iter,ifs,0⟩] scope pos) scope X.env (firstIterPos [⟨tg,iter,ifs,0⟩] pos) (newList []) (firstAsync [⟨tg,iter,ifs,0⟩]) (firstIter [⟨tg,iter,ifs,0⟩] X.env) use) Q' X.xe s:=by
 intro pins s σ H Q I h hfin
 have hfree:∀ y∈scope.names,y.2=.free->∃ c,X.env.cells.lookup y.1=some c:=fun y hy e=>I.ok.has _ (S.fr y hy e)
 refine wpAny_comprehension_free (use:=use) rfl hs (pG hfree) S.kind S.nm (cX (hi pins s σ H _ I h) fun xv s1 h1=>cX h1 fun itv s2 h2=>?_)
 obtain ⟨it,fp,tn,J,H2,rfl,I2,T,st2,f2,h2⟩:=h2
 refine wpAny_newObj_type (wpAny_newFunctionEnv S.nocell (by intro y hy;simp at hy) (fun h₁ hns₁ hsb₁=>?_) S.kind)
 obtain ⟨W,⟨m0,w0⟩,turn⟩:=h2 s2.heap.objs.size I2.fresh
 dsimp only at hns₁ hsb₁ ⊢
 have I3:Inv X pins σ (upd H2 s2.heap.objs.size (.lst [])) { s2 with heap:=s2.heap.push { cls:=.type "list",data:=.seq ([]:List Value).toArray } }:=I2.Cn (t':=s2.toks) (its:=[]) .nil (Nat.zero_le _)
 have hfp:∀ b∈fp,∃ o,s2.heap.get? b=some o:=fun b hb=>by
  obtain ⟨o,e,_⟩:=T.obj 0 _ st2 b hb
  exact ⟨o,e⟩
 have neD:∀ b∈fp,b≠s2.heap.objs.size:=fun b hb=>by
  obtain ⟨o,e⟩:=hfp b hb
  exact Nat.ne_of_lt (Heap.lt_size e)
 have f3:∀ b∈fp,iJ X pins (upd H2 s2.heap.objs.size (.lst [])) b:=fun b hb=>⟨by rw [aL (neD b hb)];exact (f2 b hb).1,(f2 b hb).2⟩
 have hDC:s2.heap.objs.size≠(s2.heap.push { cls:=.type "list",data:=.seq ([]:List Value).toArray }).objs.size:=by rw [Heap.size_push];exact Nat.ne_of_lt (Nat.lt_succ_self _)
 have old:∀ b o,(s2.heap.push { cls:=.type "list",data:=.seq ([]:List Value).toArray }).get? b=some o->h₁.get? b=some o:=fun b o e=>hsb₁.extBut b o (Nat.ne_of_lt (Heap.lt_size e)) (Heap.get?_push_of_some _ e)
 have I4:=CO (tk:=s2.toks+([]:List (Str×Value)).length) (fp:=fp) S I3 f3 (fun b hb=>by
  obtain ⟨o,e⟩:=hfp b hb
  exact ⟨o,Heap.get?_push_of_some _ e⟩) hns₁ old
 have st4:tn 0 h₁:=T.keep _ _ _ st2 fun b hb o e=>old b o (Heap.get?_push_of_some _ e)
 have hc:=hok (s2.heap.push { cls:=.type "list",data:=.seq ([]:List Value).toArray }).objs.size { s2 with heap:=s2.heap.push { cls:=.type "list",data:=.seq ([]:List Value).toArray } } (upd H2 s2.heap.objs.size (.lst [])) fp fun a o u e=>by
  have z:=I2.base.frzs a o u e
  rw [aL (fun q=>by rw [q,I2.fresh] at z;cases z)]
  exact z
 have stat:∀ {H':Hp},(∀ b∈fp,H' b=none)->∀ b∈fp,iJ (cI X scope N (s2.heap.push { cls:=.type "list",data:=.seq ([]:List Value).toArray }).objs.size { s2 with heap:=s2.heap.push { cls:=.type "list",data:=.seq ([]:List Value).toArray } } (upd H2 s2.heap.objs.size (.lst [])) fp) [] H' b:=fun hn b hb=>by
  have ok:=I4.ok
  refine ⟨hn b hb,(ok.exf b hb).1,ok.exfs b hb,.inl hb,fun x c e=>(ok.exf b hb).2 x c e,fun p hp=>nomatch hp⟩
 have loop:∀ s4:Shared,s4={ s2 with heap:=h₁,toks:=s2.toks+([]:List (Str×Value)).length } ->
   codeAny (model X.prog X.w) X.A (.compLoop (.ListComp elt [⟨tg,iter,ifs,0⟩] scope pos) 0 (.ref it) (.ref s2.heap.objs.size) (compEnvC scope (iA X.env scope.names []) (s2.heap.push { cls:=.type "list",data:=.seq ([]:List Value).toArray }).objs.size X.env))
    (compPost (model X.prog X.w) X.A X.xe use Q' (.ref s2.heap.objs.size) (s2.heap.push { cls:=.type "list",data:=.seq ([]:List Value).toArray }).objs.size) s4:=by
  rintro s4 rfl
  refine codeAny_loop rfl (fun n s'=>∃ i σ' H',Inv (cI X scope N (s2.heap.push { cls:=.type "list",data:=.seq ([]:List Value).toArray }).objs.size { s2 with heap:=s2.heap.push { cls:=.type "list",data:=.seq ([]:List Value).toArray } } (upd H2 s2.heap.objs.size (.lst [])) fp) [] σ' H' s'/\tn i s'.heap/\(∀ b∈fp,H' b=none)/\W i n σ' H') (fun n s5 hI=>?_) m0 ⟨0,_,_,I4,st4,fun b hb=>(f3 b hb).1,w0⟩
  obtain ⟨i,σ5,H5,I5,st5,fr5,w5⟩:=hI
  show wpAny _ X.A ((compTurn (.ListComp elt [⟨tg,iter,ifs,0⟩] scope pos) 0 (.ref it) (.ref s2.heap.objs.size) (compEnvC scope (iA X.env scope.names []) (s2.heap.push { cls:=.type "list",data:=.seq ([]:List Value).toArray }).objs.size X.env)).onRaise (fun x=>do noteFrame x _;theTreesLotGoes x)) _ _ s5
  refine wpAny_noted ?_
  rw [compTurn_list]
  refine wpAny_bind (wpAny_standAt (wpAny_bind ?_))
  rcases turn i n σ5 H5 w5 with ⟨stop,q⟩ | ⟨go,step⟩
  ·refine cX (T.done (cI X scope N (s2.heap.push { cls:=.type "list",data:=.seq ([]:List Value).toArray }).objs.size { s2 with heap:=s2.heap.push { cls:=.type "list",data:=.seq ([]:List Value).toArray } } (upd H2 s2.heap.objs.size (.lst [])) fp) rfl rfl rfl hc i [] s5 σ5 H5 _ I5 (stat fr5) st5 stop) fun r s6 h9=>?_
   obtain ⟨hr,I6⟩:=h9
   subst hr
   obtain ⟨m6,hn6,_⟩:=I6.loc
   refine wpAny_pure (hfin s6 _ _ H5 m6 hn6 (I3.tM (Nat.le_refl _) I6.free) (fun h' sb=>?_) q _)
   have u6:=I6.base
   have nC:∀ b o,(s2.heap.push { cls:=.type "list",data:=.seq ([]:List Value).toArray }).get? b=some o->b≠(s2.heap.push { cls:=.type "list",data:=.seq ([]:List Value).toArray }).objs.size:=fun b o e=>Nat.ne_of_lt (Heap.lt_size e)
   refine I3.AJ (ch:=fp) I6.os ⟨fun b o e n hb hx=>?_,fun b o e n hb hx=>?_,fun b o e n hx=>?_,fun b o e hx=>?_,u6.tups,u6.frzs,u6.tbls⟩ ?_ I6.bare ?_
   ·exact sb.extBut b o (nC b o e) (u6.keep b o e n hb hx)
   ·obtain ⟨sl,z⟩:=u6.slot b o e n hb hx
    exact ⟨sl,sb.extBut b _ (nC b o e) z⟩
   ·exact u6.free b o e n hx
   ·obtain ⟨o',z⟩:=u6.there b o e hx
    exact ⟨o',sb.extBut b _ (nC b o e) z⟩
   ·intro b o e
    have hb:∀ c v,H5 c=some v->c≠(s2.heap.push { cls:=.type "list",data:=.seq ([]:List Value).toArray }).objs.size:=fun c v e z=>by
     rw [z] at e
     have:=I6.free
     rw [show H5 (s2.heap.push { cls:=.type "list",data:=.seq ([]:List Value).toArray }).objs.size=none from this] at e
     cases e
    refine (I6.hok b o e).stay (fun c v hc q=>sb.extBut c v ?_ q) (fun _ q=>q) fun _ _ q=>q
    rcases hc with z | z
    ·rw [z];exact hb b o e
    ·exact hb c _ z
   ·intro b hb
    obtain ⟨_,z1,_,z3,z4,z5⟩:=f3 b hb
    exact ⟨z3,z1,z4,z5⟩
  ·refine cX (T.item (cI X scope N (s2.heap.push { cls:=.type "list",data:=.seq ([]:List Value).toArray }).objs.size { s2 with heap:=s2.heap.push { cls:=.type "list",data:=.seq ([]:List Value).toArray } } (upd H2 s2.heap.objs.size (.lst [])) fp) rfl rfl rfl hc i [] s5 σ5 H5 _ I5 (stat fr5) st5 go) fun r s6 h9=>?_
   obtain ⟨u,hr,h6⟩:=h9
   subst hr
   refine wpAny_bind (cX h6 fun _ s7 ⟨x,H7,I7,r7,y7,st7,fr7⟩=>?_)
   have I7':=I7.pinned (stat fr7) (T.obj _ _ st7)
   refine wpAny_bind (yV (hg _ _ _ fp _ s7 σ5 H7 x u _ I7' r7 (step x H7 y7)) fun _ s8 ⟨σ8,H8,I8,q8⟩=>?_)
   refine wpAny_bind (yV (ht _ _ _ fp _ s8 σ8 H8 _ I8 q8) fun ok s9 ⟨H9,I9,q9⟩=>?_)
   have again:∀ {s10:Shared} {H10:Hp},Inv (cI X scope N (s2.heap.push { cls:=.type "list",data:=.seq ([]:List Value).toArray }).objs.size { s2 with heap:=s2.heap.push { cls:=.type "list",data:=.seq ([]:List Value).toArray } } (upd H2 s2.heap.objs.size (.lst [])) fp) ([]++jR fp s7.heap) σ8 H10 s10->(∃ m',m' < n/\W (i+1) m' σ8 H10) ->
     ∃ m,m < n/\∃ i σ' H',Inv (cI X scope N (s2.heap.push { cls:=.type "list",data:=.seq ([]:List Value).toArray }).objs.size { s2 with heap:=s2.heap.push { cls:=.type "list",data:=.seq ([]:List Value).toArray } } (upd H2 s2.heap.objs.size (.lst [])) fp) [] σ' H' s10/\tn i s10.heap/\(∀ b∈fp,H' b=none)/\W i m σ' H':=fun {s10 H10} I10 h9=>by
    obtain ⟨m',hm,w10⟩:=h9
    refine ⟨m',hm,i+1,σ8,H10,I10.fN,T.keep _ _ _ st7 fun b hb o e=>(I10.pin (b,o) (List.mem_append_right _ (List.mem_append_right _ (dJ hb e)))).1,fun b hb=>?_,w10⟩
    obtain ⟨o,e,d⟩:=T.obj _ _ st7 b hb
    exact (I10.pin (b,o) (List.mem_append_right _ (List.mem_append_right _ (dJ hb e)))).2.1
   cases ok with
   | false=>
    rw [if_neg Bool.false_ne_true] at q9
    exact wpAny_pure ⟨rfl,again I9 q9⟩
   | true=>
    rw [if_pos rfl] at q9
    refine wpAny_bind (wpAny_bind (yV (he _ _ _ fp _ s9 σ8 H9 _ I9 q9) fun y s10 ⟨v10,H10,I10,r10,ys,hD,hz,w10⟩=>?_))
    refine wpAny_bind (yV (lC _ s10 σ8 H10 (.ref s2.heap.objs.size) [v10] _ [y] (fun _ H'=>H'=upd H10 s2.heap.objs.size (.lst (ys++[v10]))) I10 rfl (.cons r10 .nil) ⟨_,ys,v10,rfl,rfl,hD,hz,rfl⟩) fun _ s11 ⟨_,H11,I11,_,e11⟩=>?_)
    subst e11
    exact wpAny_pure (wpAny_pure ⟨rfl,again I11 w10⟩)
 exact codeAny_compStart_list (loop _ rfl) (T.self _ 0 _ _ _ st4 (loop _ rfl))
theorem Ci {ok:Cx->Prop} {X:Cx} {tg iter elt:Expr} {ifs:List Expr} {scope:Scope} {pos:Pos} {N:List Str} {cap:List (Option Nat)} {wi:TI} {g:TG} {tc:TT} {te:TE} (S:CpScope X scope N cap) (hok:∀ C s₀ H₀ ex,(∀ a o u,X.H₀ a=some (.frz o u)->H₀ a=some (.frz o u))->ok (cI X scope N C s₀ H₀ ex)) (hi:FI ok X tg iter wi)
  (hg:∀ C s₀ H₀ ex,PG (cI X scope N C s₀ H₀ ex) tg g) (ht:∀ C s₀ H₀ ex,B0 (cI X scope N C s₀ H₀ ex) ifs tc) (he:∀ C s₀ H₀ ex,PE (cI X scope N C s₀ H₀ ex) elt te)
  (hs:∀ x,foldedSetIterable iter X.env x=pure x:=by intro _;rfl):PE X (.ListComp elt [⟨tg,iter,ifs,0⟩] scope pos) (Ej cap wi g tc te):=by
 intro pins s σ H Q I h
 rw [eval_ListComp]
 exact sd (use:=none) (Q':=EP X pins σ Q) S hok hi hg ht he hs pins s σ H Q I h fun s6 C D H5 m hn fk inv q v=>⟨m,hn,fun h' sb=>⟨.ref D,H5,inv h' sb,rfl,q⟩⟩
theorem Eg {X:Cx} {tg iter elt:Expr} {ifs:List Expr} {scope:Scope} {pos:Pos} {N:List Str} {cap:List (Option Nat)} {wi:TI} {g:TG} {tc:TT} {te:TE} (hc:X.calm=true) (S:CpScope X scope N cap) (hi:PI X tg iter wi)
  (hg:∀ C s₀ H₀ ex,PG (cI X scope N C s₀ H₀ ex) tg g) (ht:∀ C s₀ H₀ ex,B0 (cI X scope N C s₀ H₀ ex) ifs tc) (he:∀ C s₀ H₀ ex,PE (cI X scope N C s₀ H₀ ex) elt te)
  (hs:∀ x,foldedSetIterable iter X.env x=pure x:=by intro _;rfl):PE X (.ListComp elt [⟨tg,iter,ifs,0⟩] scope pos) (Ej cap wi g tc te):=
 Ci S (fun _ _ _ _ _=>hc) hi.g hg ht he hs
section
variable {X:Cx}
theorem uV {bs:List Bool}:∀ {us:List Value},Vals (bs.map V.bl) us->LSm.BoolsAre us bs:=by
 induction bs with
 | nil=>intro us r;cases r;exact .nil
 | cons b bs ih=>
  intro us r
  cases r with
  | cons h t=>
   have e:_=Value.bool b:=h
   subst e
   exact .cons b (ih t)
theorem uh (hc:X.calm=true):bw X (.builtin "all") (fun xs H Q=>∃ (p:Addr) (bs:List Bool),xs=[.ref p]/\dW X.K H p (bs.map V.bl)/\Q (.bl (bs.all id)) H):=by
 intro pins s σ H xs us Q I r h
 obtain ⟨p,bs,rfl,hq,q⟩:=h
 obtain ⟨u,rfl,rx⟩:=vals1 r
 cases rx
 obtain ⟨its,rv,pl,hz⟩:=I.list hq
 have hb:=uV rv
 have hl:=pl.isList
 have hlt:p < s.heap.objs.size:=by obtain ⟨_,e,_⟩:=hl;exact Heap.lt_size e
 refine call_all_walk (wpAny_pyIter_list hl ?_)
 refine ⟨s.heap.objs.size,[s.heap.objs.size,p],[s.heap.objs.size],its.toArray.size,_,_,fun i=>(bs[i]?).getD true,rfl,Walks.list (A:=X.A.in1) (I.ok.hd hc) _ p (Nat.ne_of_lt hlt) its.toArray,
  ⟨⟨_,Heap.get?_push_size _ rfl,rfl,rfl⟩,hl.push _⟩,fun i v s' Q' E' hP hQ=>?_,fun h' tk hk=>?_⟩
 ·obtain ⟨b,e,rfl⟩:=hb.get i v (by simpa using hP)
  simp only [e,Option.getD_some] at hQ
  exact wpAny_truthy_bool hQ
 ·have e:((List.range its.toArray.size).all fun i=>(bs[i]?).getD true)=bs.all id:=by
   rw [List.size_toArray,hb.length];exact LSm.range_all bs
  rw [e]
  exact ⟨.bl _,H,I.kept (LSm.kept_iter hk),rfl,q⟩
noncomputable def oM (i j:Int):List Int:=(List.range (j - i).toNat).map fun k:Nat=>i+(k:Int)
theorem yd (i j:Int):(oM i j).length=(j - i).toNat:=by unfold oM;rw [List.length_map,List.length_range]
theorem o9 {i:Int} {n:Nat} {acc:Array Value} (h:ItemsOf (fun k v=>∃ t,v=Value.int (i+(k:Int) * 1) t) acc n):Vals (((List.range n).map fun k:Nat=>i+(k:Int)).map V.int) acc.toList:=by
 obtain ⟨hs,hv⟩:=h
 have gen:∀ (l:List Value) (b:Nat),(∀ j v,l[j]?=some v->∃ t,v=Value.int (i+((b+j:Nat):Int)) t)->Vals (((List.range' b l.length).map fun k:Nat=>i+(k:Int)).map V.int) l:=by
  intro l
  induction l with
  | nil=>intro b _;exact .nil
  | cons v l ih=>
   intro b hb
   rw [List.length_cons,List.range'_succ,List.map_cons,List.map_cons]
   refine .cons ?_ ?_
   ·obtain ⟨t,e⟩:=hb 0 v rfl
    exact ⟨t,by rw [e];simp⟩
   ·refine ih (b+1) fun j w hw=>?_
    obtain ⟨t,e⟩:=hb (j+1) w hw
    exact ⟨t,by rw [e,show b+(j+1)=b+1+j by omega]⟩
 have:=gen acc.toList 0 fun j v hj=>by
  obtain ⟨t,e⟩:=hv j v (by simpa using hj)
  exact ⟨t,by rw [e,Nat.zero_add,Int.mul_one]⟩
 rw [Array.length_toList,hs,<- List.range_eq_range'] at this
 exact this
theorem CJ {i j:Int}:Builtin.Range.rangeSize i j 1=(((j - i).toNat:Nat):Int):=by rw [rangeSize_one];split <;> omega
theorem ku (hc:X.calm=true):bw X (.type "list") (fun xs H Q=>∃ p i j,xs=[.ref p]/\H p=some (.rng i j)/\(-(2 ^ 62)<=i/\i < 2 ^ 62/\-(2 ^ 62)<=j/\j < 2 ^ 62)/\(j - i).toNat<=1000/\∀ l,H l=none->Q (.ref l) (upd H l (.lst ((oM i j).map V.int)))):=by
 intro pins s σ H xs us Q I r h
 obtain ⟨p,i,j,rfl,hp,⟨b1,b2,b3,b4⟩,hn,q⟩:=h
 obtain ⟨u,rfl,rx⟩:=vals1 r
 cases rx
 obtain ⟨t,u',v,e⟩:=I.hok p _ hp
 refine call_list_range (n:=(j - i).toNat) (I.ok.hd hc) e (small_one b1 b2 b3 b4) CJ (by omega) fun h' tk acc' c' hk hS hacc=>?_
 refine ⟨.ref s.heap.objs.size,_,I.laid (o:=.lst ((oM i j).map V.int)) hk (Nat.le_refl _) ⟨?_,acc'.toList,c',o9 hacc,by rw [hS]⟩,rfl,q _ I.fresh⟩
 rw [List.length_map,yd,sizeLine_eq];omega
end
section
variable {X:Cx}
theorem oi {c:String}:bw X (.builtin "isinstance") (fun xs H Q=>∃ x t b,xs=[x,.ty c]/\TyOf X.K H x t/\PySem.W.kitOne X.K t (.type c)=some b/\Q (.bl b) H):=by
 intro pins s σ H xs us Q I r h
 obtain ⟨x,t,b,rfl,ty,e,q⟩:=h
 obtain ⟨u,w',rfl,rx,rc⟩:=vals2 r
 cases rc
 exact sW I rx ty e fun tk=>⟨.bl b,H,I.tok tk,rfl,q⟩
noncomputable def BN (K:PySem.W.Frag):R2:=fun x y H Q=>∃ a b ys,x=.ref a/\y=.ref b/\dF K H a []/\dF K H b ys/\Q (.ref b) H
theorem vO:dO X (binaryOp .Add) (BN X.K):=by
 intro pins s σ H x y v u Q I rx ry h
 obtain ⟨a,b,ys,rfl,rfl,h1,h2,q⟩:=h
 cases rx
 cases ry
 obtain ⟨us,r1,p1,_⟩:=I.tuple h1
 obtain ⟨ws,r2,p2,_⟩:=I.tuple h2
 cases r1
 obtain ⟨⟨cls,dd,data,sl⟩,ho,hc,n,hd⟩:=id p1
 obtain ⟨⟨cls2,dd2,data2,sl2⟩,ho2,hc2,n2,hd2⟩:=id p2
 simp only at hc hd hc2 hd2
 subst hc hd hc2 hd2
 exact concat_meets ⟨_,ho,rfl⟩ ⟨_,ho2,rfl⟩ noFill_tuple_add seq_tuple_add PySem.F.slot_tuple_add PySem.F.entry_tuple_add (PySem.F.args_tuple_add_2 _ _)
   (tuple_addW0 a b _ ws.toArray n n2 dd dd2 sl sl2 (by simp)) ⟨ho,ho2,⟨.ref b,H,I,rfl,q⟩⟩
end
theorem lZ:bootBuiltins "len" = some (.builtin "len"):=by decide +kernel
theorem BO:bootBuiltins "all" = some (.builtin "all"):=by decide +kernel
theorem BG:bootBuiltins "max" = some (.builtin "max"):=by decide +kernel
theorem BC:bootBuiltins "min" = some (.builtin "min"):=by decide +kernel
theorem kL:bootBuiltins "sorted" = some (.builtin "sorted"):=by decide +kernel
theorem cS:bootBuiltins "isinstance" = some (.builtin "isinstance"):=by decide +kernel
theorem xw:bootBuiltins "int" = some (.type "int"):=by decide +kernel
theorem zT:bootBuiltins "bool" = some (.type "bool"):=by decide +kernel
theorem eV:bootBuiltins "list" = some (.type "list"):=by decide +kernel
theorem ve:bootBuiltins "tuple" = some (.type "tuple"):=by decide +kernel
structure Blt (mg:Str->Option Value):Prop where
 len:mg "len" = none
 abs:mg "abs" = none
 all:mg "all" = none
 any:mg "any" = none
 max:mg "max" = none
 min:mg "min" = none
 sorted:mg "sorted" = none
 isinstance:mg "isinstance" = none
 int:mg "int" = none
 bool:mg "bool" = none
 str:mg "str" = none
 list:mg "list" = none
 tuple:mg "tuple" = none
 range:mg "range" = none
section
variable {X:Cx}
end
theorem zh:∀ {a b:List Int},a.Perm b->a.Pairwise (·<=·)->b.Pairwise (·<=·)->a=b:=fun p ha hb=>
 List.Perm.eq_of_pairwise (fun x y _ _ h1 h2=>Int.le_antisymm h1 h2) ha hb p
noncomputable def Kn (P:Program) (w:World) (K:PySem.W.Frag) (mg:Str->Option Value) (base:Heap) (k:Nat) (x:Str) (ps:List Str) (sp:Sp):Prop:=
 ∃ (f:Addr) (fd:FuncData),FnOk P w K mg base jg k f fd ps sp/\mg x=some (.ref f)/\PySem.W.keepIn K (.ref f)=true/\Binds K fd ps []
theorem Du {X:Cx} {k:Nat} {x:Str} {ps:List Str} {sp:Sp} {e:Expr} {es:List Expr} {t:TA} {p pos:Pos} (G:Kn X.prog X.w X.K X.mg X.base k x ps sp) (hr:Room k X.A) (ha:PA X (e::es) t) (hg:Gl X x:=by rfl)
  (hdb:(x == ("__debug__" : Str))=false:=by decide) (hs:starEach (e::es) X.env=(false,eval e X.env)::starEach es X.env:=by rfl) (hplain:(backTo pos (starEach es X.env)).any (·.1)=false:=by rfl) :
  PE X (.Call (.Name x p) (e::es) [] pos) (AK sp [] E0 t):=by
 obtain ⟨f,fd,F,hm,hk,hb⟩:=G
 exact zE F hr hg hm hk hb .nil Ec ha hdb hs hplain
noncomputable def jN (XN fs:List Str):List Str->List (Option Nat)->Prop
 | [],[]=>True
 | _::N,none::c=>jN XN fs N c
 | x::N,some j::c=>XN[j]?=some x/\x∈fs/\jN XN fs N c
 | _,_=>False
theorem jN.len {XN fs:List Str}:∀ {N:List Str} {c:List (Option Nat)},jN XN fs N c->c.length=N.length
 | [],[],_=>rfl
 | _::N,none::c,h=>congrArg (·+1) (jN.len (N:=N) (c:=c) h)
 | _::N,some j::c,h=>congrArg (·+1) (jN.len (N:=N) (c:=c) h.2.2)
 | [],_::_,h=>h.elim
 | _::_,[],h=>h.elim
theorem jN.cp {XN fs:List Str}:∀ {N:List Str} {c:List (Option Nat)},jN XN fs N c->∀ (i j:Nat) (x:Str),N[i]?=some x->c[i]?=some (some j)->XN[j]?=some x/\x∈fs
 | [],[],_,i,j,x,h1,_=>by simp at h1
 | y::N,none::c,h,i,j,x,h1,h2=>by
  cases i with
  | zero=>simp at h2
  | succ i=>exact jN.cp (N:=N) (c:=c) h i j x (by simpa using h1) (by simpa using h2)
 | y::N,some k::c,h,i,j,x,h1,h2=>by
  cases i with
  | zero=>
   simp at h1 h2
   subst h1 h2
   exact ⟨h.1,h.2.1⟩
  | succ i=>exact jN.cp (N:=N) (c:=c) h.2.2 i j x (by simpa using h1) (by simpa using h2)
 | [],_::_,h,_,_,_,_,_=>h.elim
 | _::_,[],h,_,_,_,_,_=>h.elim
theorem jZ {X:Cx} {scope:Scope} {N:List Str} {cap:List (Option Nat)} (fs:List Str) (kind:scope.kind=.function) (nocell:∀ y∈scope.names,y.2≠.cell) (nm:∀ y∈scope.names,y.2=.local->scope.names.lookup y.1=some .local)
  (nolf:∀ y∈scope.names,y.2=.free->scope.names.lookup y.1≠some .local) (hf:∀ y∈scope.names,y.2=.free->y.1∈fs) (hfs:∀ x∈fs,(x,NameKind.free)∈scope.names) (hk:∀ x∈fs,X.env.kindOf x=some .cell\/X.env.kindOf x=some .free) (cp:jN X.N fs N cap):CpScope X scope N cap where
 kind:=kind
 nocell:=nocell
 nm:=nm
 fr:=fun y hy e=>hk _ (hf y hy e)
 rl:=fun y h=>by
  have go:∀ k,(k=NameKind.cell\/k=NameKind.free)->(relabel scope X.env).names.lookup y=some k->(y,NameKind.free)∈scope.names:=fun k hk e=>by
   obtain ⟨⟨n',k'⟩,hm1,hm2⟩:=List.mem_map.mp (j_ e)
   dsimp only at hm2
   split at hm2
   ·rename_i hc
    cases hm2
    have:k'=.free:=by
     simp only [Bool.and_eq_true] at hc
     simpa using hc.1.1
    subst this
    exact hm1
   ·cases hm2
    rcases hk with rfl | rfl
    ·exact absurd rfl (nocell _ hm1)
    ·exact hm1
  rcases h with h | h
  ·exact go _ (.inl rfl) h
  ·exact go _ (.inr rfl) h
 len:=cp.len
 nolf:=fun x hx=>nolf (x,.free) hx rfl
 cp:=fun i j x h1 h2=>by
  obtain ⟨a,b⟩:=cp.cp i j x h1 h2
  exact ⟨a,hfs x b⟩
inductive Kd where
 | non | bl | int | str | lst | tup
 deriving DecidableEq
noncomputable def Kd.ty:Kd->Value
 | .non=>.type "NoneType" | .bl=>.type "bool" | .int=>.type "int" | .str=>.type "str" | .lst=>.type "list" | .tup=>.type "tuple"
noncomputable def CP (H:Hp) (x:V):Kd->Prop
 | .non=>x=.non
 | .bl=>∃ b,x=.bl b
 | .int=>∃ i,x=.int i
 | .str=>∃ s,x=.str s
 | .lst=>∃ a xs,x=.ref a/\H a=some (.lst xs)
 | .tup=>∃ a xs,x=.ref a/\H a=some (.tup xs)
theorem CP.Fj {K:PySem.W.Frag} {H:Hp} {x:V} {k:Kd} (h:CP H x k):TyOf K H x k.ty:=by
 cases k with
 | non=>cases h;exact .non
 | bl=>obtain ⟨b,rfl⟩:=h;exact .bl b
 | int=>obtain ⟨b,rfl⟩:=h;exact .int b
 | str=>obtain ⟨b,rfl⟩:=h;exact .str b
 | lst=>obtain ⟨a,xs,rfl,e⟩:=h;exact .lst e
 | tup=>obtain ⟨a,xs,rfl,e⟩:=h;exact .tup e
theorem yN {K:PySem.W.Frag} (k:Kd):PySem.W.kitOne K k.ty (.type "int")=some (decide (k=.int\/k=.bl)):=by cases k <;> rfl
theorem xH {K:PySem.W.Frag} (k:Kd):PySem.W.kitOne K k.ty (.type "bool")=some (decide (k=.bl)):=by cases k <;> rfl
theorem kit_tuple {K:PySem.W.Frag} (k:Kd):PySem.W.kitOne K k.ty (.type "tuple")=some (decide (k=.tup)):=by cases k <;> rfl
theorem xC {K:PySem.W.Frag} (k:Kd):PySem.W.kitOne K k.ty (.type "list")=some (decide (k=.lst)):=by cases k <;> rfl
section
variable {prog:Program} {w:World} {A:Around} {E:Value->Shared->Prop} {s:Shared}
end
section
variable {X:Cx}
end
section
variable {prog:Program} {w:World} {A:Around} {E:Value->Shared->Prop} {s:Shared}
end
section
variable {X:Cx}
end
section
variable {prog:Program} {w:World} {A:Around} {R:Result->Shared->Prop} {s:Shared}
end
end L2
namespace L2
open PySem PySem.Spec PyProof.Rows
open PySem.SeqAt
open PySem.AutoSeq1 (wpAny_loadPart')
open PySem.MeetsSeq PySem.MeetsSeq2 PySem.MeetsSeq3 PySem.SeqAt
section
variable {prog:Program} {w:World} {A:Around} {E:Value->Shared->Prop} {s:Shared}
end
section
variable {X:Cx}
theorem uy:dO X (binaryOp .FloorDiv) (rI (fun _ j=>0 < j/\j < 18446744073709551616) fun i j=>.int (i / j)):=EL fun i j _ _ _ _ _ hc q=>by
 have h1:(0:Int) < j:=hc.1
 have h2:j < 18446744073709551616:=hc.2
 refine floordiv_int (by omega) (by rw [Int.fdiv_eq_ediv_of_nonneg i (by omega)];exact q) (.inl (PyProof.noPylong_of_log2 ?_))
 exact Nat.lt_of_lt_of_le ((Nat.log2_lt (by omega)).mpr (show j.natAbs < 2 ^ 64 by omega)) (by decide)
end
end L2
namespace L2
open PySem PySem.Spec PyProof.Rows
noncomputable def FE (x:Str):It:=⟨fun i _=>i < x.cps.size,fun i H v H'=>H'=H/\∃ c,x.cps[i]?=some c/\v=.str ⟨#[c]⟩,fun i _=>i=x.cps.size⟩
theorem uv {P:Program} {w:World} {K:PySem.W.Frag} {tg:Expr} (x:Str) (t:Tok) (it:Addr):Turn P w K tg (FE x) [it] it (fun i h=>h.IsStrIter it "str_ascii_iterator" x t i) where
 mem:=by simp
 obj:=fun i h st b hb=>by
  have e:b=it:=by simpa using hb
  subst e
  obtain ⟨o,e,c,d⟩:=st
  exact ⟨o,e,fun v z=>by rw [d] at z;cases z⟩
 keep:=fun i h h' st k=>let ⟨o,ho,r⟩:=st;⟨o,k it (by simp) o ho,r⟩
 item:=by
  intro X hP hw hK hc i pins s σ H E I hf st hg
  subst hP hw hK
  obtain ⟨f0,f1,f2,f3,f4,f5⟩:=hf it (by simp)
  have W:=Walks.strAscii (prog:=X.prog) (w:=X.w) (I.ok.hd hc) it x t
  refine W.item i s _ _ hg st fun v h' tk hv st' kk=>?_
  obtain ⟨c,u,hcx,rfl⟩:=hv
  have I1:Inv X pins σ H { s with heap:=h',toks:=tk }:=I.turned (fun b o hb e=>kk b o (by simpa using hb) e) f0 f1 f3 f4 f5
  obtain ⟨o,e,cc,d⟩:=id st'
  exact ⟨_,rfl,nU (s:={ s with heap:=h',toks:=tk }) e cc d (by decide) ⟨.str ⟨#[c]⟩,H,I1,⟨u,rfl⟩,⟨rfl,c,hcx,rfl⟩,st',fun b hb=>(hf b hb).1⟩⟩
 done:=by
  intro X hP hw hK hc i pins s σ H E I hf st hg
  subst hP hw hK
  obtain ⟨f0,f1,f2,f3,f4,f5⟩:=hf it (by simp)
  have hg:i=x.cps.size:=hg
  subst hg
  have W:=Walks.strAscii (prog:=X.prog) (w:=X.w) (I.ok.hd hc) it x t
  exact W.done s _ _ st fun h' tk kk=>⟨rfl,I.turned (fun b o hb e=>kk b o (by simpa using hb) e) f0 f1 f3 f4 f5⟩
 self:=fun _ _ _ _ _ st h=>wpAny_pyIter_striter_ascii st h
section
variable {X:Cx} {tg:Expr}
noncomputable def E6 (tl:TE):TI:=fun σ H R=>tl σ H fun x H1=>∃ y:Str,x=.str y/\y.cps.all (· < 128)=true/\R (FE y) H1
theorem CT {l:Expr} {tl:TE} (hl:PE X l tl):PI X tg l (E6 tl):=by
 intro pins s σ H R I h
 refine cX (hl pins s σ H _ I h) fun v s1 h9=>?_
 obtain ⟨x,H1,I1,r1,q1⟩:=h9
 obtain ⟨y,e,ha,q⟩:=q1
 subst e
 obtain ⟨t,rfl⟩:=r1
 refine wpAny_pyIter_ascii ha ?_
 refine ⟨s1.heap.objs.size,[s1.heap.objs.size],_,_,H1,rfl,I1.kept (t':=s1.toks) fun b o e=>Heap.get?_push_of_some _ e,uv y t _,⟨_,Heap.get?_push_size _ rfl,rfl,rfl⟩,fun b hb=>?_,q⟩
 have e:b=s1.heap.objs.size:=by simpa using hb
 subst e
 exact I1.tM (Nat.le_refl _) (I1.hok.fresh (Nat.le_refl _))
theorem ud:bw X (.type "int") (fun xs H Q=>∃ (y:Str) (n:Int),xs=[.str y]/\y.length<=640/\PySem.intText? y=some n/\Q (.int n) H):=by
 intro pins s σ H xs us Q I rv h
 obtain ⟨y,n,rfl,hl,hn,q⟩:=h
 obtain ⟨w,rfl,rw'⟩:=vals1 rv
 obtain ⟨u,rfl⟩:=rw'
 exact PySem.W.KIN.call_text hn hl ⟨.int n,H,I.tok _,⟨_,rfl⟩,q⟩
end
section
variable {κ:Type} [DecidableEq κ]
noncomputable def gv (kvs:List (κ×V)) (k:κ):Option V:=(kvs.find? fun kv=>decide (kv.1=k)).map (·.2)
noncomputable def putK (kvs:List (κ×V)) (k:κ) (v:V):List (κ×V):=
 if (kvs.any fun kv=>decide (kv.1=k))=true then kvs.map (fun kv=>if kv.1=k then (kv.1,v) else kv) else kvs++[(k,v)]
theorem gZ {p:κ×V} {r:List (κ×V)} {k:κ} (e:p.1=k):gv (p::r) k=some p.2:=by simp [gv,List.find?_cons,e]
theorem gR {p:κ×V} {r:List (κ×V)} {k:κ} (e:¬ p.1=k):gv (p::r) k=gv r k:=by simp [gv,List.find?_cons,e]
theorem kc (k:κ):∀ kvs:List (κ×V),(kvs.any fun kv=>decide (kv.1=k))=(gv kvs k).isSome
 | []=>rfl
 | p::r=>by
  rw [List.any_cons]
  by_cases e:p.1=k
  ·simp only [gZ e,decide_eq_true e,Bool.true_or,Option.isSome_some]
  ·rw [gR e,decide_eq_false e,Bool.false_or];exact kc k r
theorem fM (kvs:List (κ×V)) (k:κ) (v:V):(putK kvs k v).length<=kvs.length+1:=by
 unfold putK
 split
 ·rw [List.length_map];omega
 ·rw [List.length_append,List.length_cons,List.length_nil];omega
theorem iF.t9 {o:Option V} {u:Option Value} (r:iF o u):o.isSome=u.isSome:=by
 cases o with
 | none=>cases u with
  | none=>rfl
  | some _=>exact (show False from r).elim
 | some _=>cases u with
  | none=>exact (show False from r).elim
  | some _=>rfl
theorem iF.getD {o:Option V} {u:Option Value} {d:V} {d':Value} (r:iF o u) (rd:RelV d d'):RelV (o.getD d) (u.getD d'):=by
 cases o with
 | none=>cases u with
  | none=>exact rd
  | some _=>exact (show False from r).elim
 | some _=>cases u with
  | none=>exact (show False from r).elim
  | some _=>exact r
theorem KV.val {kvs:List (κ×V)} {vs:List (κ×Value)} (r:KV kvs vs) (k:κ):iF (gv kvs k) (valueAt vs k):=by
 unfold KV at r
 induction r with
 | nil=>exact True.intro
 | @cons p q ps qs h t ih=>
  obtain ⟨h1,h2⟩:=h
  by_cases e:p.1=k
  ·have e':q.1=k:=h1.symm.trans e
   have b:valueAt (q::qs) k=some q.2:=by simp [valueAt,List.find?_cons,e']
   rw [gZ e,b];exact h2
  ·have e':¬ q.1=k:=fun z=>e (h1.trans z)
   have b:valueAt (q::qs) k=valueAt qs k:=by simp [valueAt,List.find?_cons,e']
   rw [gR e,b];exact ih
theorem KV.any {kvs:List (κ×V)} {vs:List (κ×Value)} (r:KV kvs vs) (k:κ):(kvs.any fun kv=>decide (kv.1=k))=vs.any fun kv=>decide (kv.1=k):=by
 unfold KV at r
 induction r with
 | nil=>rfl
 | cons h t ih=>rw [List.any_cons,List.any_cons,ih,h.1]
theorem KV.repl {kvs:List (κ×V)} {vs:List (κ×Value)} (r:KV kvs vs) (k:κ) {y:V} {u:Value} (ry:RelV y u) :
  KV (kvs.map fun kv=>if kv.1=k then (kv.1,y) else kv) (vs.map fun kv=>if kv.1=k then (kv.1,u) else kv):=by
 unfold KV at r ⊢
 induction r with
 | nil=>exact .nil
 | @cons p q ps qs h t ih=>
  rw [List.map_cons,List.map_cons]
  refine .cons ?_ ih
  obtain ⟨h1,h2⟩:=h
  by_cases e:p.1=k
  ·rw [if_pos e,if_pos (h1.symm.trans e)];exact ⟨h1,ry⟩
  ·rw [if_neg e,if_neg (fun z=>e (h1.trans z))];exact ⟨h1,h2⟩
theorem KV.put {kvs:List (κ×V)} {vs:List (κ×Value)} (r:KV kvs vs) (k:κ) {y:V} {u:Value} (ry:RelV y u):KV (putK kvs k y) (stored vs k u):=by
 unfold putK stored
 rw [r.any k]
 by_cases e:(vs.any fun kv=>decide (kv.1=k))=true
 ·rw [if_pos e,if_pos e];exact r.repl k ry
 ·rw [if_neg e,if_neg e];exact Paired.snoc r ⟨rfl,ry⟩
theorem KV.length {kvs:List (κ×V)} {vs:List (κ×Value)} (r:KV kvs vs):kvs.length=vs.length:=Paired.length r
end
theorem sq {P:Program} {w:World} {k:Key} {u:Value} (r:RelV (kV k) u):(bf P w).is k u=true:=by
 cases k with
 | inl i=>obtain ⟨t,e⟩:=(show ∃ t,u=Value.int i t from r);subst e;exact ng P w i t
 | inr x=>obtain ⟨t,e⟩:=(show ∃ t,u=Value.str x t from r);subst e;exact oU P w x t
theorem lH {P:Program} {w:World}:∀ {ks:List Key} {us:List Value},Vals (ks.map kV) us->ItemsAre (bf P w) ks us
 | [],_,r=>by rw [List.map_nil] at r;cases r;exact .nil
 | k::ks,_,r=>by
  rw [List.map_cons] at r
  cases r with
  | cons h t=>exact .cons (sq h) (lH t)
noncomputable abbrev KT (H:Hp):List (List Key×V)->List (List Key×Addr×Value)->Prop:=Paired fun p q=>p.1=q.1/\H q.2.1=some (.tup (p.1.map kV))/\RelV p.2 q.2.2
theorem KT.val {H:Hp} {kvs:List (List Key×V)} {xs:List (List Key×Addr×Value)} (r:KT H kvs xs) (k:List Key):iF (gv kvs k) ((atKey xs k).map (·.2)):=by
 induction r with
 | nil=>exact True.intro
 | @cons p q ps qs h t ih=>
  obtain ⟨h1,_,h2⟩:=h
  by_cases e:p.1=k
  ·have e':q.1=k:=h1.symm.trans e
   have b:atKey (q::qs) k=some q.2:=by simp [atKey,List.find?_cons,e']
   rw [gZ e,b];exact h2
  ·have e':¬ q.1=k:=fun z=>e (h1.trans z)
   have b:atKey (q::qs) k=atKey qs k:=by simp [atKey,List.find?_cons,e']
   rw [gR e,b];exact ih
theorem KT.repl {H:Hp} {kvs:List (List Key×V)} {xs:List (List Key×Addr×Value)} (r:KT H kvs xs) (k:List Key) {y:V} {u:Value} (ry:RelV y u) :
  KT H (kvs.map fun kv=>if kv.1=k then (kv.1,y) else kv) (xs.map (putAt k u)):=by
 induction r with
 | nil=>exact .nil
 | @cons p q ps qs h t ih=>
  rw [List.map_cons,List.map_cons]
  refine .cons ?_ ih
  obtain ⟨h1,h2,h3⟩:=h
  unfold putAt
  by_cases e:p.1=k
  ·rw [if_pos e,if_pos (h1.symm.trans e)];exact ⟨h1,h2,ry⟩
  ·rw [if_neg e,if_neg (fun z=>e (h1.trans z))];exact ⟨h1,h2,h3⟩
theorem KT.put {H:Hp} {kvs:List (List Key×V)} {xs:List (List Key×Addr×Value)} (r:KT H kvs xs) (k:List Key) {b:Addr} {y:V} {u:Value} (hb:H b=some (.tup (k.map kV))) (ry:RelV y u) :
  KT H (putK kvs k y) (storedH xs k b u):=by
 have e:(kvs.any fun kv=>decide (kv.1=k))=(atKey xs k).isSome:=by
  rw [kc,(r.val k).t9,Option.isSome_map]
 unfold putK storedH
 rw [e]
 by_cases q:(atKey xs k).isSome=true
 ·rw [if_pos q,if_pos q];exact r.repl k ry
 ·rw [if_neg q,if_neg q];exact Paired.snoc r ⟨rfl,hb,ry⟩
theorem KT.keeps {H H':Hp} {kvs:List (List Key×V)} {xs:List (List Key×Addr×Value)} (r:KT H kvs xs) (ht:∀ b ys,H b=some (.tup ys)->H' b=some (.tup ys)):KT H' kvs xs:=
 Paired.CW r fun _ _ z=>⟨z.1,ht _ _ z.2.1,z.2.2⟩
section
variable {P:Program} {w:World} {H:Hp} {h:Heap} {a:Addr}
theorem A0 {u:HO} (ok:gC P w H h) (e:Rd H a u):bO P w H h a u:=e.ok ok
theorem rm {kvs:List (Key×V)} (ok:gC P w H h) (e:Rd H a (.dK kvs)):kvs.length<=sizeLine/\(a == sysModules)=false/\∃ vs,KV kvs vs/\h.DictOf (bf P w) a vs:=
 show bO P w H h a (.dK kvs) from A0 ok e
theorem AY {kvs:List (Key×V)} (ok:gC P w H h) (e:H a=some (.dK kvs)):kvs.length<=sizeLine/\(a == sysModules)=false/\∃ vs,KV kvs vs/\h.DictOf (bf P w) a vs:=rm ok (.inl e)
theorem mG {ks:List Key} (ok:gC P w H h) (e:H a=some (.tup (ks.map kV))):(tupleKind (bf P w)).is h ks a:=by
 obtain ⟨_,its,r,o,h1,h2,_,n,h3⟩:=(show bO P w H h a (.tup (ks.map kV)) from ok a _ e)
 exact ⟨o,its.toArray,n,h1,h2,h3,by simpa using lH r⟩
theorem sJ {kvs:List (List Key×V)} (ok:gC P w H h) (e:Rd H a (.dT kvs)):kvs.length<=sizeLine/\(a == sysModules)=false /\
  ∃ xs,KT H kvs xs/\h.DictOfH (tupleKind (bf P w)) a xs:=by
 obtain ⟨z,y,xs,r,o,es,ep,h1,h2,h3,h4,h5⟩:=(show bO P w H h a (.dT kvs) from A0 ok e)
 refine ⟨z,y,xs,r,o,es,ep,h1,h2,h3,h4,fun x hx=>?_,h5⟩
 have all:∀ {l:List (List Key×V)} {m:List (List Key×Addr×Value)},KT H l m->∀ x∈m,(tupleKind (bf P w)).is h x.1 x.2.1:=by
  intro l m q
  induction q with
  | nil=>intro x hx;exact nomatch hx
  | @cons p q ps qs hq t ih=>
   intro x hx
   rcases List.mem_cons.mp hx with e | hx
   ·subst e
    exact mG ok (by rw [<- hq.1];exact hq.2.1)
   ·exact ih x hx
 exact all r x hx
theorem DL {kvs:List (List Key×V)} (ok:gC P w H h) (e:H a=some (.dT kvs)):kvs.length<=sizeLine/\(a == sysModules)=false /\
  ∃ xs,KT H kvs xs/\h.DictOfH (tupleKind (bf P w)) a xs:=sJ ok (.inl e)
end
noncomputable def lV (H:Hp) (a:Addr) (y:V) (r:Option V):Prop:=
 (∃ kvs k,Rd H a (.dK kvs)/\y=kV k/\r=gv kvs k)\/∃ kvs k b,Rd H a (.dT kvs)/\y=.ref b/\H b=some (.tup (k.map kV))/\r=gv kvs k
noncomputable def yr (H:Hp) (a:Addr) (y v:V) (H':Hp):Prop:=
 (∃ kvs k,H a=some (.dK kvs)/\y=kV k/\kvs.length < sizeLine/\H'=upd H a (.dK (putK kvs k v))) \/
 ∃ kvs k b,H a=some (.dT kvs)/\y=.ref b/\H b=some (.tup (k.map kV))/\kvs.length < sizeLine/\H'=upd H a (.dT (putK kvs k v))
theorem lV.k {H:Hp} {a:Addr} {kvs:List (Key×V)} {k:Key} (e:H a=some (.dK kvs)):lV H a (kV k) (gv kvs k):=.inl ⟨kvs,k,.inl e,rfl,rfl⟩
theorem yr.k {H:Hp} {a:Addr} {kvs:List (Key×V)} {k:Key} {v:V} (e:H a=some (.dK kvs)) (hl:kvs.length < sizeLine):yr H a (kV k) v (upd H a (.dK (putK kvs k v))):=.inl ⟨kvs,k,e,rfl,hl,rfl⟩
section
variable {X:Cx} {pins:List (Addr×Obj)} {σ:St} {H:Hp} {s:Shared} {a:Addr} {y v:V} {u r:Value} {o:Option V} {A:Around} {E:Value->Shared->Prop}
theorem Inv.big (I:Inv X pins σ H s):sysModules < s.heap.objs.size:=by
 have h:mainGlobals < s.heap.objs.size:=(I.mod.glob.keeps I.bk).lt
 exact Nat.lt_trans (by decide) h
theorem ug {Q:Value->Shared->Prop} (hu:A.units+1 < cLine) (I:Inv X pins σ H s) (g:lV H a y (some v)) (ry:RelV y u) (h:∀ w' s',Inv X pins σ H s'->RelV v w'->Q w' s') :
  wpAny (model X.prog X.w) A (getItem (.ref a) u) Q E s:=by
 rcases g with ⟨kvs,k,e,ey,l⟩ | ⟨kvs,k,b,e,ey,eb,l⟩
 ·subst ey
  obtain ⟨z,hd,vs,rel,dd⟩:=rm I.hok e
  obtain ⟨w',hw,rw'⟩:=iF.some_of (v:=v) (o:=valueAt vs k) (by rw [l];exact rel.val k)
  exact wpAny_getItem_of (sq ry) dd.mapOf hw (h w' _ (I.tok _) rw')
 ·subst ey
  cases (show u=Value.ref b from ry)
  obtain ⟨z,hd,xs,rel,dd⟩:=sJ I.hok e
  obtain ⟨w',hw,rw'⟩:=iF.some_of (v:=v) (o:=(atKey xs k).map (·.2)) (by rw [l];exact rel.val k)
  obtain ⟨p,hp,hp2⟩:=Option.map_eq_some_iff.mp hw
  refine wpAny_getItem_heap (tupleKind_room_in1 hu) (mG I.hok eb) dd hp ?_
  rw [hp2]
  exact h w' _ (I.tok _) rw'
theorem rz {h':Heap} {t':Nat} {ob:HO} (I:Inv X pins σ H s) (mu:Es (H a)) (hs:Heap.SameBut a s.heap h') (he:∃ q,h'.get? a=some q) (new:bO X.prog X.w (upd H a ob) h' a ob) :
  Inv X pins σ (upd H a ob) { s with heap:=h',toks:=t' }:=
 I.write (x:=a) (e:=a) mu (.inl rfl) (fun b q hb z=>(hs.2 b hb).trans z) he new
theorem yg {P:Program} {w:World} {H':Hp} {h':Heap} {kvs:List (Key×V)} {vs:List (Key×Value)} (z:kvs.length<=sizeLine) (hd:(a == sysModules)=false) (rel:KV kvs vs) (dd:h'.DictOf (bf P w) a vs) :
  bO P w H' h' a (.dK kvs):=⟨z,hd,vs,rel,dd⟩
theorem tO {H':Hp} {Q:Unit->Shared->Prop} (hu:A.units+1 < cLine) (I:Inv X pins σ H s) (g:yr H a y v H') (ry:RelV y u) (rv:RelV v r) (h:∀ s',Inv X pins σ H' s'->Q () s') :
  wpAny (model X.prog X.w) A (setItem (.ref a) u r) Q E s:=by
 rcases g with ⟨kvs,k,e,ey,l,eH⟩ | ⟨kvs,k,b,e,ey,eb,l,eH⟩
 ·subst ey eH
  obtain ⟨z,hd,vs,rel,dd⟩:=AY I.hok e
  have hz:vs.length<=sizeLine:=by rw [<- rel.length];exact z
  have hl:(putK kvs k v).length<=sizeLine:=by have:=fM kvs k v;omega
  refine wpAny_setItem_pairs (hsz:=hz) (sq ry) dd fun h' dd' hs=>h _ ?_
  have he:∃ q,h'.get? a=some q:=let ⟨q,_,_,hq,_⟩:=dd';⟨q,hq⟩
  exact rz I (by rw [e];exact True.intro) hs he (yg hl hd (rel.put k rv) dd')
 ·subst ey eH
  cases (show u=Value.ref b from ry)
  obtain ⟨z,hd,xs,rel,dd⟩:=DL I.hok e
  have hz:xs.length<=sizeLine:=by rw [<- Paired.length rel];exact z
  have hl:(putK kvs k v).length<=sizeLine:=by have:=fM kvs k v;omega
  refine wpAny_setItem_heap (hsz:=hz) (tupleKind_room_in1 hu) (mG I.hok eb) dd fun h' dd' hs=>h _ ?_
  obtain ⟨q,es,ep,hq,h2,h3,h4,_,h5⟩:=dd'
  refine rz I (by rw [e];exact True.intro) hs ⟨q,hq⟩ ⟨hl,hd,_,(rel.put k eb rv).keeps fun c ys ec=>?_,q,es,ep,hq,h2,h3,h4,h5⟩
  rw [aL (EB ec e (fun z=>nomatch z))]
  exact ec
end
section
variable {X:Cx} {pins:List (Addr×Obj)} {σ:St} {H:Hp} {s:Shared} {a:Addr} {kvs:List (Key×V)} {k:Key} {u:Value} {A:Around} {E:Value->Shared->Prop}
end
theorem nL {X:Cx} {pins:List (Addr×Obj)} {σ:St} {H:Hp} {s:Shared} {a:Addr} {y:V} {o:Option V} (I:Inv X pins σ H s) (g:lV H a y o):s.TypeIs (.ref a) "dict" := by
 rcases g with ⟨kvs,k,e,_,_⟩ | ⟨kvs,k,b,e,_,_,_⟩
 ·obtain ⟨_,_,vs,_,dd⟩:=rm I.hok e
  exact dd.typeIs
 ·obtain ⟨_,_,xs,_,dd⟩:=sJ I.hok e
  exact dd.typeIs
section
variable {X:Cx} {o i e value:Expr} {pos pos' tpos:Pos} {td ty tv:TE}
end
theorem wM {P:Program} {w:World} {H:Hp} (h:Heap) (hb:sysModules < h.objs.size):bO P w H (h.push { cls:=.type "dict",data:=.dict #[] }) h.objs.size (.dK []):=
 ⟨Nat.zero_le _,beq_eq_false_iff_ne.mpr (Ne.symm (Nat.ne_of_lt hb)),[],.nil,Heap.DictOf.new h⟩
noncomputable def CY:TE:=fun _ H Q=>∀ p,H p=none->Q (.ref p) (upd H p (.dK []))
section
variable {X:Cx} {pos:Pos}
theorem xx:PE X (.Dict [] [] pos) CY:=fun pins s σ H Q I h=>
 wpAny_Dict_empty ⟨.ref s.heap.objs.size,_,I.laid (a:=s.heap.objs.size) (o:=.dK []) (t':=s.toks) (fun _ _ q=>Heap.get?_push_of_some _ q) (Nat.le_refl _) (wM s.heap I.big),rfl,h _ (I.hok.fresh (Nat.le_refl _))⟩
end
structure M1 (X:Cx) (o:Expr) (m:Str) (apos:Pos) (e:Expr) (cpos:Pos):Prop where
 base:attributeBase o m X.env (eval o X.env)=eval o X.env
 few:((backTo cpos (starEach [e] X.env)).all (fun x=>!x.1) && (backToKw cpos (keywordEach [] X.env)).all (fun x=>x.1.isSome)
  && decide (([e]:List Expr).length+([]:List Keyword).length+(if ([]:List Keyword).isEmpty then 0 else 1) < 30))=true
 line:(apos.endLine == cpos.line)=true
 trees:backTo cpos (starEach [e] X.env)=[(false,eval e X.env)]
structure M2 (X:Cx) (o:Expr) (m:Str) (apos:Pos) (e f:Expr) (cpos:Pos):Prop where
 base:attributeBase o m X.env (eval o X.env)=eval o X.env
 few:((backTo cpos (starEach [e,f] X.env)).all (fun x=>!x.1) && (backToKw cpos (keywordEach [] X.env)).all (fun x=>x.1.isSome)
  && decide (([e,f]:List Expr).length+([]:List Keyword).length+(if ([]:List Keyword).isEmpty then 0 else 1) < 30))=true
 line:(apos.endLine == cpos.line)=true
 trees:backTo cpos (starEach [e,f] X.env)=[(false,eval e X.env),(false,eval f X.env)]
section
variable {X:Cx} {pins:List (Addr×Obj)} {σ:St} {H:Hp} {s:Shared} {a:Addr} {y d:V} {u r:Value} {o:Option V} {A:Around} {E:Value->Shared->Prop}
theorem C2 {Q:Value->Shared->Prop} (hu:A.units+1 < cLine) (I:Inv X pins σ H s) (g:lV H a y o) (ry:RelV y u) (rd:RelV d r) (h:∀ w' s',Inv X pins σ H s'->RelV (o.getD d) w'->Q w' s') :
  wpAny (model X.prog X.w) A (call (.builtin "dict.get") [.ref a,u,r]) Q E s:=by
 rcases g with ⟨kvs,k,e,ey,l⟩ | ⟨kvs,k,b,e,ey,eb,l⟩
 ·subst ey
  obtain ⟨z,hd,vs,rel,dd⟩:=rm I.hok e
  refine call_meetsIn PySem.F.slot_dict_get dd.typeIs PySem.F.entry_dict_get (PySem.F.args_dict_get_3 _ _ _) (meets_dict_get_default (bf X.prog X.w) a (sq ry) hd r) ⟨_,dd.mapOf,h _ _ (I.tok _) ?_⟩
  rw [l]
  exact (rel.val k).getD rd
 ·subst ey
  cases (show u=Value.ref b from ry)
  obtain ⟨z,hd,xs,rel,dd⟩:=sJ I.hok e
  refine call_meetsIn PySem.F.slot_dict_get dd.typeIs PySem.F.entry_dict_get (PySem.F.args_dict_get_3 _ _ _) (meetsH_dict_get_default (tupleKind (bf X.prog X.w)) a b hd r) ⟨tupleKind_room_in1 hu,k,xs,mG I.hok eb,dd,h _ _ (I.tok _) ?_⟩
  rw [l]
  exact (rel.val k).getD rd
end
section
variable {X:Cx} {o e f:Expr} {apos cpos:Pos} {td ty tx:TE}
end
section
variable {X:Cx} {pins:List (Addr×Obj)} {σ:St} {H:Hp} {s:Shared} {a:Addr} {kvs:List (Key×V)} {A:Around} {E:Value->Shared->Prop}
end
section
variable {X:Cx} {pins:List (Addr×Obj)} {σ:St} {H:Hp} {s:Shared} {a:Addr} {y:V} {u:Value} {A:Around} {E:Value->Shared->Prop}
end
section
variable {X:Cx}
theorem yH (hu:X.A.units+1 < cLine):Bw X (fun x y H Q=>∃ a v,x=.ref a/\lV H a y (some v)/\Q v H):=by
 intro value slice pins s σ H x y v u Q I rx ry h hs
 obtain ⟨a,z,rfl,g,q⟩:=h
 cases rx
 have hT:=nL I g
 unfold subscriptTail
 refine wpAny_bind ?_
 rw [getitemInPython_of_ne hT.not_modules]
 refine wpAny_bind (wpAny_specialOf hT PySem.F.slot_dict_getitem.lookup ?_)
 have fin:wpAny (model X.prog X.w) X.A (subscripted slice false (.ref a) u) (fun r s₃=>wpAny (model X.prog X.w) X.A (letTemporaryGo value (.ref a) r >>= fun _=>pure r) (EP X pins σ Q) X.xe s₃) X.xe s:=by
  rw [hs]
  exact wpAny_operating (ug hu I g ry fun w' s3 I3 rw'=>wpAny_bind (wpAny_letTemporaryGo (wpAny_pure ⟨z,H,I3,rw',q⟩)))
 first
  | exact wpAny_pure (wpAny_bind fin)
  | exact wpAny_bind (wpAny_pure (wpAny_bind fin))
  | exact wpAny_bind fin
theorem set_dict (hu:X.A.units+1 < cLine):vd X (fun o i v H Q=>∃ a H',o=.ref a/\yr H a i v H'/\Q H'):=by
 intro pins s σ H o i v ov iv u Q I ro ri rv h
 obtain ⟨a,H',rfl,g,q⟩:=h
 cases ro
 exact tO hu I g ri rv fun s4 I4=>⟨H',I4,q⟩
end
section
variable {P:Program} {w:World} {A:Around} {E:Value->Shared->Prop} {s:Shared} {it d:Addr} {i ep:Nat} {es:Array DictEntry} {o:Obj} {k0 v0:Value}
end
section
variable {X:Cx}
end
section
variable {X:Cx}
end
noncomputable def C0 (e:Addr) (h:Heap):Prop:=∃ o vs,h.get? e=some o/\o.data=.fields vs/\vs[2]?=some .none/\o.dict=none
section
variable {e:Addr} {α β:Type}
end
structure Fly (l:List Env) (g:Heap) (pn:List (Addr×Obj)) (H:Hp) (e:Addr) (cls:Value) (h:Heap):Prop where
 ex:∃ (B:Heap) (a0:Value),Heap.FlyingW B l e cls a0 h/\(∀ a u,H a=some u->∃ o,B.get? a=some o)/\(∀ b o,g.get? b=some o->b∉frs l->∃ o',B.get? b=some o')/\(∀ p∈pn,∃ o',B.get? p.1=some o')/\C0 e h
structure Made (X:Cx) (H:Hp) (e:Addr) (cls:Value) (g:Heap) (h:Heap):Prop where
 ex:∃ (g':Heap) (vs:List Value),Heap.MadeExcOf g' h e cls vs/\g'.FunFrames X.base X.stack/\(∀ a u,H a=some u->∃ o,g'.get? a=some o)/\(∀ b o,g.get? b=some o->∃ o',g'.get? b=some o')/\(∀ p∈X.pn,∃ o',g'.get? p.1=some o')
noncomputable def Bv (X:Cx) (H:Hp) (e:Addr) (cls:Value) (s':Shared):Prop:=Made X H e cls X.s₀.heap s'.heap\/Fly X.stack X.s₀.heap X.pn H e cls s'.heap
section
variable {X:Cx} {pins:List (Addr×Obj)} {σ:L2.St} {H:Hp} {s':Shared} {e:Addr} {cls:Value}
end
section
variable {P:Program} {w:World} {K:PySem.W.Frag} {mg:Str->Option Value} {base:Heap} {N:List Str} {qual:Str} {scope:Scope} {f:Addr} {cd:Value} {A:Around} {outer:List Env} {s:Shared} {H:Hp} {E:XK}
noncomputable def EX (X:Cx):XK:=fun cls _ H'=>X.ex=[]/\∀ pins σ' s' e,Inv X pins σ' H' s'->Bv X H' e cls s'->X.xe (.ref e) s'
end
inductive FParts (X:Cx):List Expr->List (Str ⊕ TE)->Prop
 | nil:FParts X [] []
 | txt {x:Str} {j pos} {es:List Expr} {ps:List (Str ⊕ TE)} (h:FParts X es ps):FParts X (.Constant (.str x) j pos::es) (.inl x::ps)
 | val {e:Expr} {pos:Pos} {t:TE} {es:List Expr} {ps:List (Str ⊕ TE)} (he:PE X e t) (h:FParts X es ps):FParts X (.FormattedValue e (-1) none pos::es) (.inr t::ps)
noncomputable def xu:HO:=.ext fun _=>True
structure XO (C:Addr) (o:Obj):Prop where
 cls:o.cls=.ref C
 dict:o.dict=none
 ctx:∃ vs,o.data=.fields vs/\vs[2]?=some .none
structure Fr0 (X:Cx) (e:Addr):Prop where
 no:∀ o,X.s₀.heap.get? e≠some o
 tup:∀ xs,X.H₀ e≠some (.tup xs)
 frz:∀ o u,X.H₀ e≠some (.frz o u)
 tbl:∀ ps,X.H₀ e≠some (.tbl ps)
section
variable {X:Cx} {pins:List (Addr×Obj)} {σ:L2.St} {H:Hp} {s':Shared} {e:Addr} {cls:Value}
end
section
variable {X:Cx} {pn' pins:List (Addr×Obj)} {xe':Value->Shared->Prop} {σ:L2.St} {H:Hp} {s':Shared} {e C:Addr} {B h6:Heap} {a0:Value}
end
section
variable {X:Cx} {pins:List (Addr×Obj)} {σ:L2.St} {H:Hp} {s:Shared}
end
section
variable {M:Model} {A:Around} {E:Value->Shared->Prop} {h:Heap} {g:Array GenState} {d:Drawn} {t:Nat} {os:OsState} {C N D N':Addr} {nm q nm' q':Str} {bs bm bs' bm':List Value} {hdct hdct':Bool} {sn sn':List Str} {sub sub':List Value} {ab ab':Bool} {col col':Option Bool} {dd dd':Option Addr} {k0 k1 k2 k3 k5 k0' k1' k2' k3' k5':Option Value} {newId newId':String}
end
noncomputable def mroIn (K:PySem.W.Frag) (C:Addr):Option (List Value):=match K.lookup C with
 | some ⟨.type "type",_,.cls cd,sl⟩=>(match cd.mro,sl.toList with
  | .ref C'::bm,[_,_,_,_,some (.builtin _),_]=>if C'=C/\cd.hasDel=false then some bm else none
  | _,_=>none)
 | _=>none
structure ClsAt (h:Heap) (C:Addr) (bm:List Value):Prop where
 ex:∃ nm q N bs hdct sn sub ab col dd k0 k1 k2 k3 k5 newId,h.get? C=some (excClassObj nm q C N bs bm hdct sn sub ab col dd k0 k1 k2 k3 k5 newId)
section
variable {X:Cx} {pins pins':List (Addr×Obj)} {xe':Value->Shared->Prop} {σ:L2.St} {H:Hp} {s':Shared} {e C Dc:Addr} {bm bmD:List Value} {x n:Str} {i:Nat} {De:Ends} {b0:Stmt} {suite:List Stmt} {np hp:Pos}
end
open PySem.W in
structure XCls (K:PySem.W.Frag) (C:Addr):Prop where
 ga:findIn K (.ref C) "__getattribute__" = some (some (.builtin "BaseException.__getattribute__"))
 gt:findIn K (.ref C) "__getattr__" = some none
 fc:findObj K C none "__class__" = some (.bind (.builtin "getset_descriptor.__get__") (.builtin "object.__class__"))
 ob:PySem.W.mroIn K C (.type "object")=some true
 bs:subIn K (.ref C) (.type "BaseException")=some true
section
open PySem.W
variable {K:PySem.W.Frag} {C a:Addr} {ox:Obj} {prog:Program} {w:World} {A:Around} {E:Value->Shared->Prop} {h:Heap} {g:Array GenState} {d:Drawn} {t:Nat} {os:OsState}
end
section
variable {X:Cx} {C:Addr} {pins:List (Addr×Obj)} {σ:L2.St} {H:Hp} {s:Shared}
end
end L2
namespace L2
open PySem PySem.Spec PyProof.Rows
section
variable {prog:Program} {w:World} {A:Around} {E:Value->Shared->Prop} {s:Shared} {e n:Addr} {oe on:Obj} {vs ns:Array Value}
end
section
variable {X:Cx} {e C:Addr} {oe:Obj}
end
noncomputable def Ca (A:Around):Around:={ A with handled:=none }
noncomputable def DW (k:Nat) (A:Around):Prop:=Room k (Ca A)
structure Hnd (A:Around) (H:Hp) (e:Addr) (oe:Obj) (C:Addr):Prop where
 hh:A.handled=some (.ref e)
 h0:H e=some (.frz oe xu)
 xo:XO C oe
structure FnOkH (P:Program) (w:World) (K:PySem.W.Frag) (mg:Str->Option Value) (base:Heap) (k:Nat) (f:Addr) (fd:FuncData) (ps:List Str) (sp:Sp):Prop where
 len:∀ vs H Q E,sp vs H Q E->vs.length=ps.length
 run:∀ (A:Around) (outer:List Env) (s:Shared) (H:Hp) (args:Args) (us:List Value) (vs:List V) (Q:VK) (e:Addr) (oe:Obj) (C:Addr),DW k A->Hnd A H e oe C->Env0 P w K mg base A outer s H->BindsTo s fd args (ps.zip us)->Vals vs us->sp vs H Q E0 ->
  codeAny (model P w) A (.call (.ref f) args) (CR jg outer P w H s Q E0) s
end L2
namespace L2
open PySem PySem.Spec PyProof.Rows PySem.SeqAt
section
variable {X:Cx}
end
theorem nV:bootBuiltins "reversed" = some (.type "reversed"):=by decide +kernel
section
variable {X:Cx} {pos:Pos} {a b:Expr}
end
section
variable {X:Cx}
end
theorem owner_lri:Manifest.owners.lookup (String.ofList ['r','o','t','a','r','e','t','i','e','s','r','e','v','e','r','_','t','s','i','l'].reverse)=some Manifest.sig_list_reverseiterator:=by kernel_rfl
theorem slot_lri_next:Slot "list_reverseiterator" "__next__" "list_reverseiterator.__next__" :=
 .of (owner := "list_reverseiterator") (n := "__next__") (by rw [typeLookup_type,builtinLookup_eq_fast];kernel_rfl) (by decide +kernel) (by decide +kernel) (by decide +kernel)
  (by first | exact .inl (by decide +kernel) | exact .inr (by decide +kernel)) (by rw [isSubtype_type];kernel_rfl)
theorem entry_lri_next:entryFor table "list_reverseiterator.__next__" = some Builtin.«list_reverseiterator.__next__»:=entryFor_of_tree (by kernel_rfl)
theorem gh (a:Value):argsOk "list_reverseiterator.__next__" ⟨[a],[]⟩:=by
 unfold argsOk;rw [signature?_of (id := "list_reverseiterator.__next__") (n:=['_','_','t','x','e','n','_','_']) (o:=['r','o','t','a','r','e','t','i','e','s','r','e','v','e','r','_','t','s','i','l']) (by kernel_rfl) owner_lri];kernel_rfl
theorem slot_lri_iter:Slot "list_reverseiterator" "__iter__" "list_reverseiterator.__iter__" :=
 .of (owner := "list_reverseiterator") (n := "__iter__") (by rw [typeLookup_type,builtinLookup_eq_fast];kernel_rfl) (by decide +kernel) (by decide +kernel) (by decide +kernel)
  (by first | exact .inl (by decide +kernel) | exact .inr (by decide +kernel)) (by rw [isSubtype_type];kernel_rfl)
theorem entry_lri_iter:entryFor table "list_reverseiterator.__iter__" = some Builtin.«dict_keyiterator.__iter__»:=
 entryFor_alias (id' := "dict_keyiterator.__iter__") (by kernel_rfl) (by first | rfl | decide +kernel | (unfold String.splitOn;simp +decide [String.splitOnAux])) (by decide +kernel) (by kernel_rfl)
theorem kF (a:Value):argsOk "list_reverseiterator.__iter__" ⟨[a],[]⟩:=by
 unfold argsOk;rw [signature?_of (id := "list_reverseiterator.__iter__") (n:=['_','_','r','e','t','i','_','_']) (o:=['r','o','t','a','r','e','t','i','e','s','r','e','v','e','r','_','t','s','i','l']) (by kernel_rfl) owner_lri];kernel_rfl
theorem gB:Slot "reversed" "__init__" "object.__init__" :=
 .of (owner := "object") (n := "__init__") (by rw [typeLookup_type,builtinLookup_eq_fast];kernel_rfl) (by decide +kernel) (by decide +kernel) (by decide +kernel)
  (by first | exact .inl (by decide +kernel) | exact .inr (by decide +kernel)) (by rw [isSubtype_type];kernel_rfl)
theorem mro_reversed:mroOf (.type "reversed")=pure [.type "reversed",.type "object"]:=by rw [mroOf_type];kernel_rfl
theorem lookup_reversed_new:typeLookup (.type "reversed") "__new__" = pure (some (.builtin "reversed.__new__")):=by rw [typeLookup_type,builtinLookup_eq_fast];kernel_rfl
theorem jd:TypeCalled "reversed" "reversed.__new__" "object.__init__" :=
 ⟨by decide +kernel,by decide +kernel,⟨_,_,mro_reversed⟩,madeBy_type mro_reversed lookup_reversed_new (by decide +kernel),by decide +kernel,by rw [isSubtype_type];kernel_rfl,gB⟩
theorem typeCall_reversed_1 (a:Value):checkTypeCall "reversed" ⟨[a],[]⟩=pure ():=by kernel_rfl
theorem newCall_reversed_1 (a:Value):checkBuiltinCall "reversed.__new__" ⟨[.type "reversed",a],[]⟩=pure ():=by kernel_rfl
theorem entry_reversed_new:entryFor table "reversed.__new__" = some Builtin.«reversed.__new__»:=entryFor_of_tree (by kernel_rfl)
theorem sub_lri_reversed:isSubtype (.type "list_reverseiterator") (.type "reversed")=pure false:=by rw [isSubtype_type];kernel_rfl
theorem mY:isSubtype (.type "reversed") (.type "reversed")=pure true:=by rw [isSubtype_type];kernel_rfl
section
variable {prog:Program} {w:World} {A:Around} {E:Value->Shared->Prop} {s:Shared}
theorem callType_other {T T' newId:String} {Bn:Builtin} {args:List Value} {S:PySem.Spec} {Q:Value->Shared->Prop} (ft:TypeCalled T newId "object.__init__")
  (hct:checkTypeCall T ⟨args,[]⟩=pure ()) (hcn:checkBuiltinCall newId ⟨.type T::args,[]⟩=pure ())
  (entryN:entryFor table newId=some Bn) (g:Meets (Bn ⟨.type T::args,[]⟩) S) (hns:isSubtype (.type T') (.type T)=pure false)
  (h:S A.in1 (wants (fun obj s₁=>s₁.TypeIs obj T'/\Q obj s₁) E) s):wpAny (model prog w) A (call (.type T) args) Q E s:=by
 obtain ⟨c,tl,hmro⟩:=ft.mro
 have hmade:=ft.made
 refine wpAny_call (codeAny_of_tree ?_)
 show wpAny _ _ (callAny (.type T) _) _ _ _
 refine wpAny_pure ⟨Code.quiet_builtin _ (by decide +kernel),codeAny_builtin F.entry_type_call ?_⟩
 rw [Around.under_plain (weight_type_call_type T args []) (units_type_call_type T args [])]
 have h1:=ft.notType
 have h2:=ft.canCreate
 repeat (any_goals (first | assumption | wp_step))
 refine codeAny_mono (codeAny_call_builtin ft.plain entryN (wpAny_of_eq hcn (g prog w A.in1 _ s h))) fun r s₁ hr=>?_
 cases r with
 | error e=>exact hr
 | ok fl=>
  cases fl with
  | ret obj=>
   obtain ⟨hT,hq⟩:=hr
   repeat (any_goals (first | assumption | wp_step))
  | _=>exact hr.elim
end
noncomputable def fG (h:Heap) (a l:Addr) (i:Int):Prop:=∃ o,h.get? a=some o/\o.cls=.type "list_reverseiterator" /\ o.data=.fields #[.ref l,rawInt i]
theorem fG.typeIs {s:Shared} {a l:Addr} {i:Int} (x:fG s.heap a l i):s.TypeIs (.ref a) "list_reverseiterator" := let ⟨o,ho,hc,_⟩:=x;⟨o,ho,hc⟩
theorem fG.at {h h':Heap} {a l:Addr} {i:Int} (x:fG h a l i) (k:∀ o,h.get? a=some o->h'.get? a=some o):fG h' a l i:=let ⟨o,ho,r⟩:=x;⟨o,k o ho,r⟩
section
variable {prog:Program} {w:World} {A:Around} {E:Value->Shared->Prop} {s:Shared}
theorem jM {it l:Addr} {i:Int} {Q:Value->Shared->Prop} (hz:fG s.heap it l i) (h:Q (.ref it) s):wpAny (model prog w) A (pyIter (.ref it)) Q E s:=by
 refine wpAny_pyIter_slot hz.typeIs slot_lri_iter (wpAny_call_entry slot_lri_iter hz.typeIs entry_lri_iter ?_ (kF _))
 show wpAny _ _ (ret (.ref it)) _ _ s
 exact wpAny_pure ⟨_,rfl, "list_reverseiterator",_,hz.typeIs,slot_lri_next.lookup,h⟩
theorem jf {it l:Addr} {i:Nat} {items:Array Value} {x:Value} {Q:Option Value->Shared->Prop} (hit:fG s.heap it l i)
  (ht:s.heap.IsList l items) (hx:items[i]?=some x) (hQ:∀ h',fG h' it l ((i:Int) - 1)->Heap.SameBut it s.heap h'->Q (some x) { s with heap:=h' }) :
  wpAny (model prog w) A (pyNext (.ref it)) Q E s:=by
 obtain ⟨o,ho,hc,hd⟩:=id hit
 obtain ⟨ol,hol,_,nl,hdl⟩:=ht
 unfold pyNext
 refine wpAny_bind (wpAny_attempt (wpAny_callSpecial?_slot (name:=Str.ofString "__next__") hit.typeIs slot_lri_next
  (wpAny_call_entry slot_lri_next hit.typeIs entry_lri_next ?_ (gh _))))
 show wpAny _ _ (field (.ref it) 1 >>= _) _ _ s
 refine wpAny_bind (wpAny_field ho hd (x:=rawInt i) rfl ?_)
 show wpAny _ _ (if (i:Int) < 0 then _ else _) _ _ s
 rw [if_neg (by omega)]
 show wpAny _ _ (field (.ref it) 0 >>= _) _ _ s
 refine wpAny_bind (wpAny_field ho hd (x:=.ref l) rfl ?_)
 show wpAny _ _ (seqItems? (.ref l) >>= _) _ _ s
 refine wpAny_bind (wpAny_seqItems hol hdl ?_)
 simp only [Int.toNat_natCast,hx]
 refine wpAny_bind (wpAny_setField ho hd (by simp) (wpAny_pure ⟨x,rfl,wpAny_pure (hQ _ ?_ (Heap.SameBut.update ..))⟩))
 exact ⟨_,Heap.get?_update_self _ ho (Obj.isFreed_of_fields (Obj.data_mapFields hd _)),(Obj.cls_mapFields ..).trans hc,by
  rw [Obj.data_mapFields hd];simp [rawInt]⟩
theorem j8 {it l:Addr} {i:Int} {Q:Option Value->Shared->Prop} (hh:A.handled=none) (hit:fG s.heap it l i) (hi:i < 0)
  (hQ:∀ h',(∀ b o,s.heap.get? b=some o->h'.get? b=some o)->Q none { s with heap:=h' }):wpAny (model prog w) A (pyNext (.ref it)) Q E s:=by
 obtain ⟨o,ho,hc,hd⟩:=id hit
 unfold pyNext
 refine wpAny_bind (wpAny_attempt (wpAny_callSpecial?_slot (name:=Str.ofString "__next__") hit.typeIs slot_lri_next
  (wpAny_call_entry slot_lri_next hit.typeIs entry_lri_next ?_ (gh _))))
 show wpAny _ _ (field (.ref it) 1 >>= _) _ _ s
 refine wpAny_bind (wpAny_field ho hd (x:=rawInt i) rfl ?_)
 show wpAny _ _ (if i < 0 then _ else _) _ _ s
 rw [if_pos hi]
 refine wpAny_bind (wpAny_rule ?_)
 refine wpAny_bind ?_
 show wpAny _ _ (newExc (.type "StopIteration") [] >>= _) _ _ _
 refine wpAny_bind ?_
 simp only [newExc,newTuple]
 refine wpAny_bind (wpAny_newObj_type ?_ (by size_fits))
 refine wpAny_bind (m:=firstArgMember _ _) (wpAny_of_eq (a:=Value.none) (by first | rfl | (simp only [firstArgMember];rfl)) ?_)
 refine wpAny_newObj_type ?_ (by size_fits)
 simp only [raiseNew]
 refine wpAny_bind (wpAny_handled ?_)
 first | rw [show A.in1.handled=none from hh] | rw [hh]
 refine wpAny_bind (wpAny_pure (wpAny_throw ?_))
 refine wpAny_bind (wpAny_isInstance (T := "StopIteration") (b:=true) ⟨_,Heap.get?_push_size _ rfl,rfl⟩ isSubtype_stop ?_)
 exact wpAny_pure (hQ _ fun b o e=>Heap.get?_push_of_some _ (Heap.get?_push_of_some _ e))
end
theorem uo (l:Addr) (items:Array Value) (n:Nat) (dd:Option Addr) (sl:Array (Option Value)) :
  Meets (Builtin.«list.__reversed__» ⟨[.ref l],[]⟩) (fun _ R s=>s.heap.get? l=some { cls:=.type "list",dict:=dd,data:=.seq items n,slots:=sl }/\R (.ok (.ret (Value.ref s.heap.objs.size))) { s with heap:=s.heap.push { cls:=Value.type "list_reverseiterator",data:=Data.fields #[Value.ref l,rawInt (((items.size:Nat):Int) - 1)] },toks:=s.toks }):=
 .of_wp fun prog w A R s h=>by obtain ⟨hp,g,d,tk,os⟩:=s;obtain ⟨hl,h⟩:=h;wp_walk using AutoSeq1.wpAny_loadPart' hl;exact ⟨_,rfl,h⟩
theorem kh (l:Addr) (items:Array Value) (n:Nat) (dd:Option Addr) (sl:Array (Option Value)) :
  Meets (Builtin.«reversed.__new__» ⟨[.type "reversed",.ref l],[]⟩) (fun _ R s=>s.heap.get? l=some { cls:=.type "list",dict:=dd,data:=.seq items n,slots:=sl } /\
   R (.ok (.ret (.ref s.heap.objs.size))) { s with heap:=s.heap.push { cls:=Value.type "list_reverseiterator",data:=Data.fields #[Value.ref l,rawInt (((items.size:Nat):Int) - 1)] } }):=
 .of_wp fun prog w A R s h=>by
  obtain ⟨hp,g,d,tk,os⟩:=s;obtain ⟨hl,h⟩:=h
  have hsub:=mY
  have hlk:=F.slot_list_reversed.lookup
  have hT:Shared.TypeIs ⟨hp,g,d,tk,os⟩ (.ref l) "list" := ⟨_,hl,rfl⟩
  wp_walk using AutoSeq1.wpAny_loadPart' hl,wpAny_specialOf hT hlk
  refine wpAny_of_eq (F.slot_list_reversed.bind (.ref l)) ?_
  show wpAny _ _ (if (Value.builtin "list.__reversed__" == Value.none)=true then _ else _) _ _ _
  rw [if_neg (show ¬ ((Value.builtin "list.__reversed__" == Value.none)=true) from by decide)]
  refine wpAny_bind (wpAny_rule ?_)
  show wpAny _ _ (call (.builtin "list.__reversed__") [.ref l] >>= _) _ _ _
  refine wpAny_bind (call_meets F.slot_list_reversed ⟨_,hl,rfl⟩ F.entry_list_reversed (F.args_list_reversed_1 _) (uo l items n dd sl) ⟨hl,?_⟩)
  exact wpAny_pure ⟨_,rfl,h⟩
noncomputable def FO (K:PySem.W.Frag) (a:Addr) (n:Nat):It:=
 ⟨fun i H=>i < n/\∃ xs x,dW K H a xs/\xs[n - 1 - i]?=some x,fun i H x H'=>H'=H/\∀ xs y,dW K H a xs->xs[n - 1 - i]?=some y->x=y,fun i H=>n<=i⟩
theorem xM {P:Program} {w:World} {K:PySem.W.Frag} {tg:Expr} (a it:Addr) (n:Nat) :
  Turn P w K tg (FO K a n) [it] it (fun i h=>fG h it a ((n:Int) - 1 - i)) where
 mem:=by simp
 obj:=fun i h st b hb=>by
  rw [List.mem_singleton] at hb
  subst hb
  obtain ⟨o,e,c,d⟩:=st
  exact ⟨o,e,fun v z=>by rw [d] at z;cases z⟩
 keep:=fun i h h' st k=>st.at fun o ho=>k it (by simp) o ho
 item:=by
  intro X hP hw hK hc i pins s σ H E I hf st hg
  subst hP hw hK
  obtain ⟨hi,xs,x,hq,hx⟩:=hg
  obtain ⟨its,rv,p,hz⟩:=I.list hq
  obtain ⟨u,hu,ru⟩:=rv.get hx
  obtain ⟨i0,i1,i2,i3,i4,i5⟩:=hf it (by simp)
  refine jf (i:=n - 1 - i) (by rw [show (((n - 1 - i:Nat)):Int)=(n:Int) - 1 - i by omega];exact st) p.isList (x:=u) (by simpa using hu) fun h' hit' hs'=>?_
  obtain ⟨oo,e1,c1,d1⟩:=id hit'
  refine ⟨u,rfl,nU (s:={ s with heap:=h' }) e1 c1 d1 (by decide) ⟨x,H,I.turned (t':=s.toks) (fun b o hb q=>hs'.extBut b o hb q) i0 i1 i3 i4 i5,ru,⟨rfl,fun ys y hy hyi=>?_⟩,?_,fun b hb=>?_⟩⟩
  ·rw [I.oN hy hq,hx] at hyi
   exact Option.some.inj hyi
  ·rw [show (n:Int) - 1 - ((i+1:Nat):Int)=((n - 1 - i:Nat):Int) - 1 by omega];exact hit'
  ·rw [List.mem_singleton] at hb
   rw [hb];exact i0
 done:=by
  intro X hP hw hK hc i pins s σ H E I hf st hg
  subst hP hw hK
  have hg:n<=i:=hg
  exact j8 (I.ok.hd hc) st (by omega) fun h' hk=>⟨rfl,I.kept (t':=s.toks) hk⟩
 self:=fun _ _ _ _ _ st h=>jM st h
section
variable {X:Cx}
noncomputable def E4 (K:PySem.W.Frag) (ta:TA):TI:=fun σ H R=>ta σ H fun vs H1=>∃ a xs,vs=[.ref a]/\dW K H1 a xs/\R (FO K a xs.length) H1
theorem Br {tg a:Expr} {ta:TA} {p pos:Pos} (hg:Gl X "reversed") (hm:X.mg "reversed" = none) (ha:PA X [a] ta) (hs:starEach [a] X.env=[(false,eval a X.env)]:=by rfl):PI X tg (.Call (.Name "reversed" p) [a] [] pos) (E4 X.K ta):=by
 intro pins s σ H R I h
 refine Call_ (jH I hg hm nV (PyProof.Rows.callWith_type1 (cX (ha pos pins s σ H _ I h) fun us s1 ⟨vs,H1,I1,r1,q1⟩=>?_) hs rfl))
 obtain ⟨t,xs,e,hq,q⟩:=q1
 subst e
 obtain ⟨u,rfl,rx⟩:=vals1 r1
 cases rx
 obtain ⟨its,rv,⟨⟨cls,dd,data,sl⟩,n,g1,g2,g3,g4⟩,hz⟩:=I1.list hq
 simp only at g2 g3 g4
 subst g2 g3 g4
 have hl:=rv.length
 refine callType_other (T' := "list_reverseiterator") jd (typeCall_reversed_1 _) (newCall_reversed_1 _) entry_reversed_new (kh t its.toArray n none sl) sub_lri_reversed ⟨g1,⟨_,Heap.get?_push_size _ rfl,rfl⟩,?_⟩
 have I2:Inv X pins σ H1 { s1 with heap:=s1.heap.push { cls:=.type "list_reverseiterator",data:=.fields #[.ref t,rawInt (((its.toArray.size:Nat):Int) - 1)] } }:=I1.kept (t':=s1.toks) fun b o e=>Heap.get?_push_of_some _ e
 have he:fG (s1.heap.push { cls:=.type "list_reverseiterator",data:=.fields #[.ref t,rawInt (((its.toArray.size:Nat):Int) - 1)] }) s1.heap.objs.size t ((xs.length:Int) - 1 - ((0:Nat):Int)):=⟨_,Heap.get?_push_size _ rfl,rfl,by rw [List.size_toArray,hl];simp⟩
 refine jM he ⟨_,[s1.heap.objs.size],_,_,H1,rfl,I2,xM t _ xs.length,he,fun b hb=>?_,q⟩
 rw [List.mem_singleton] at hb
 rw [hb]
 exact I1.tM (Nat.le_refl _) (I1.hok.fresh (Nat.le_refl _))
end
end L2
namespace L2
open PySem PySem.Spec PyProof.Rows
section
variable {X:Cx}
end
theorem wk {X:Cx} {i:Nat} {y:Str} {py spos:Pos} {tg iter elt:Expr} {ifs:List Expr} {scope:Scope} {pos:Pos} {N:List Str} {cap:List (Option Nat)} {wi:TI} {g:TG} {tc:TT} {te:TE}
  (hN:X.N.Nodup) (hi':X.N[i]?=some y) (hx:Loc X.env.scope y) (hc:X.calm=true) (S:CpScope X scope N cap) (hi:PI X tg iter wi)
  (hg:∀ C s₀ H₀ ex,PG (cI X scope N C s₀ H₀ ex) tg g) (ht:∀ C s₀ H₀ ex,B0 (cI X scope N C s₀ H₀ ex) ifs tc) (he:∀ C s₀ H₀ ex,PE (cI X scope N C s₀ H₀ ex) elt te)
  (hsw:swapsWith (.ListComp elt [⟨tg,iter,ifs,0⟩] scope pos) (some (.Name y py)) spos.line X.env=pure true)
  (hf:X.fn y=true\/X.env.scope.names.lookup y=some .local) (hs:∀ x,foldedSetIterable iter X.env x=pure x:=by intro _;rfl) :
  PS X (.Assign [.Name y py] (.ListComp elt [⟨tg,iter,ifs,0⟩] scope pos) spos) (zU (Ej cap wi g tc te) (vN i)):=by
 intro pins s σ H D I h
 rw [exec_Assign_Name_used _ _ _ _ hsw]
 refine wpAny_bind (wpAny_standAt (wpAny_bind ?_))
 show wpAny _ X.A (do let _ <- comprehension (.ListComp elt [⟨tg,iter,ifs,0⟩] scope pos) scope X.env (firstIterPos [⟨tg,iter,ifs,0⟩] pos) (newList []) (firstAsync [⟨tg,iter,ifs,0⟩]) (firstIter [⟨tg,iter,ifs,0⟩] X.env) (some (assign (.Name y py) X.env))) _ _ s
 refine wpAny_bind (wpAny_mono (sd (ok:=fun Y=>Y.calm=true) (Q':=fun _ s'=>SP X pins D .next s') S (fun _ _ _ _ _=>hc) (PI.g hi) hg ht he hs pins s σ H _ I h ?_) (fun _ s' hq=>wpAny_pure (wpAny_pure hq)) fun _ _ e=>e)
 intro s6 C Dd H5 m hn fk inv q v
 have Ia:=inv s6.heap (Heap.SameBut.refl _ _)
 obtain ⟨oC,hoC⟩:∃ o,s6.heap.get? C=some o/\∀ v,o.data≠.cell v:=by
  obtain ⟨o,es,ep,e,d,_⟩:=hn
  exact ⟨o,e,fun v z=>by rw [d] at z;cases z⟩
 have Ip:=Ia.pinned (fp:=[C]) (fun b hb=>by rw [List.mem_singleton] at hb;rw [hb];exact fk) (fun b hb=>by rw [List.mem_singleton] at hb;rw [hb];exact ⟨oC,hoC⟩)
 show wpAny _ X.A (assign (.Name y py) X.env (.ref Dd)) _ _ s6
 refine cX (rj hN hi' hx hf _ s6 σ H5 (.ref Dd) (.ref Dd) _ Ip rfl q) fun _ s7 h9=>?_
 obtain ⟨σ7,H7,I7,q7⟩:=h9
 have hp:=I7.pin (C,oC) (List.mem_append_right _ (List.mem_append_right _ (dJ (List.mem_singleton.mpr rfl) hoC.1)))
 refine ⟨m,hn.at' fun o e=>by rw [hoC.1] at e;cases e;exact hp.1,fun h' sb=>?_⟩
 have nC:∀ c v,H7 c=some v->c≠C:=fun c v e z=>by rw [z,hp.2.1] at e;cases e
 refine ⟨σ7,H7,?_,q7⟩
 refine I7.fN.AJ (ch:=[C]) rfl ⟨fun b o e n hb hx=>?_,fun b o e n hb hx=>?_,fun b o e n hx=>n,fun b o e hx=>?_,fun _ _ e=>e,fun _ _ _ e=>e,fun _ _ e=>⟨#[],by rw [Array.append_empty];exact e⟩⟩ ?_ I7.bare ?_
 ·exact sb.extBut b o (by simpa using hx) e
 ·exact ⟨o.slots,sb.extBut b o (by simpa using hx) e⟩
 ·exact ⟨o,sb.extBut b o (by simpa using hx) e⟩
 ·intro b o e
  refine (I7.hok b o e).stay (fun c v hc q=>sb.extBut c v ?_ q) (fun _ q=>q) fun _ _ q=>q
  rcases hc with z | z
  ·rw [z];exact nC b o e
  ·exact nC c _ z
 ·intro b hb
  rw [List.mem_singleton] at hb
  rw [hb]
  exact ⟨fk.2.2.2.1,fk.2.1,fk.2.2.2.2.1,fk.2.2.2.2.2⟩
section
variable {X:Cx} {tg:Expr}
end
section
variable {prog:Program} {w:World} {A:Around} {E:Value->Shared->Prop} {s:Shared}
end
section
variable {X:Cx} {o e:Expr} {to:TE} {tl:TO} {p2 spos pos:Pos}
end
end L2
namespace Sx
open PySem PyProof.Rows
structure Ord where
 lt:Nat->Nat->Bool
 zK:∀ i,lt i i=false
 tr:∀ i j k,lt i j=true->lt j k=true->lt i k=true
 neg:∀ i j k,lt i k=true->lt i j=true\/lt j k=true
noncomputable def P (o:Ord) (i j:Nat):Prop:=o.lt i j=true\/(o.lt j i=false/\i < j)
theorem Ord.FJ (o:Ord) {i j:Nat} (h:o.lt i j=true):o.lt j i=false:=by
 cases e:o.lt j i with
 | false=>rfl
 | true=>have:=o.tr _ _ _ h e;rw [o.zK] at this;cases this
theorem P.zK {o:Ord} {i:Nat} (h:P o i i):False:=by
 rcases h with h | ⟨_,h⟩
 ·rw [o.zK] at h;cases h
 ·omega
theorem P.trans {o:Ord} {i j k:Nat} (a:P o i j) (b:P o j k):P o i k:=by
 rcases a with a | ⟨a,a'⟩
 ·rcases b with b | ⟨b,b'⟩
  ·exact .inl (o.tr _ _ _ a b)
  ·rcases o.neg i k j a with z | z
   ·exact .inl z
   ·rw [b] at z;cases z
 ·rcases b with b | ⟨b,b'⟩
  ·rcases o.neg j i k b with z | z
   ·rw [a] at z;cases z
   ·exact .inl z
  ·refine .inr ⟨?_,by omega⟩
   cases e:o.lt k i with
   | false=>rfl
   | true=>
    rcases o.neg k j i e with z | z
    ·rw [b] at z;cases z
    ·rw [a] at z;cases z
theorem P.of_lt {o:Ord} {i j:Nat} (h:o.lt i j=true):P o i j:=.inl h
theorem P.jb {o:Ord} {i j:Nat} (h:o.lt j i=false) (hij:i < j):P o i j:=.inr ⟨h,hij⟩
theorem P.lt {o:Ord} {i j:Nat} (h:P o i j) (hij:j < i):o.lt i j=true:=by
 rcases h with h | ⟨_,h⟩
 ·exact h
 ·omega
theorem P.ge {o:Ord} {i j:Nat} (h:P o i j):o.lt j i=false:=by
 rcases h with h | ⟨h,_⟩
 ·exact o.FJ h
 ·exact h
noncomputable def So (o:Ord) (g:Nat->Nat) (a b:Nat):Prop:=∀ i j,a<=i->i < j->j < b->P o (g i) (g j)
noncomputable def Cl (g:Nat->Nat) (a b:Nat):Prop:=∀ i,a<=i->i < b->a<=g i/\g i < b
noncomputable def rev (g:Nat->Nat) (i j:Nat):Nat->Nat:=fun k=>if i<=k/\k < j then g (i+j - 1 - k) else g k
noncomputable def mv (g:Nat->Nat) (src dst:Nat):Nat->Nat:=fun k=>if k=dst then g src else if dst < k/\k<=src then g (k - 1) else g k
theorem jL {g:Nat->Nat} {i j k:Nat} (h:i<=k) (h2:k < j):rev g i j k=g (i+j - 1 - k):=if_pos ⟨h,h2⟩
theorem dj {g:Nat->Nat} {i j k:Nat} (h:k < i\/j<=k):rev g i j k=g k:=if_neg (by omega)
theorem xE {g:Nat->Nat} {s d:Nat}:mv g s d d=g s:=if_pos rfl
theorem oQ {g:Nat->Nat} {s d k:Nat} (h:d < k) (h2:k<=s):mv g s d k=g (k - 1):=by
 unfold mv;rw [if_neg (by omega),if_pos ⟨h,h2⟩]
theorem lY {g:Nat->Nat} {s d k:Nat} (hd:d<=s) (h:k < d\/s < k):mv g s d k=g k:=by
 unfold mv;rw [if_neg (by omega),if_neg (by omega)]
section
variable {prog:Program} {w:World} {A:Around} {E:Value->Shared->Prop} {s:Shared} {o:Ord} {N:Nat} {f:Nat->Keyed} {kd:SortKind} {g:Nat->Nat} {p:Array (Nat×Nat×Nat)} {st:SortSt}
noncomputable def kP (prog:Program) (w:World) (A:Around) (s:Shared) (o:Ord) (N:Nat) (f:Nat->Keyed) (kd:SortKind):Prop:=
 ∀ i j,i < N->j < N->∀ (E':Value->Shared->Prop) (Q:Bool->Shared->Prop),Q (o.lt i j) s->wpAny (model prog w) A (keyLt' kd (f i).1 (f j).1) Q E' s
structure Sg (N:Nat) (f:Nat->Keyed) (kd:SortKind) (g:Nat->Nat) (p:Array (Nat×Nat×Nat)) (st:SortSt):Prop where
 size:(arrOf st).size=N
 get:∀ i,i < N->(arrOf st)[i]?=some (f (g i))
 lt:∀ i,i < N->g i < N
 kind:kindOf st=kd
 failed:failedOf st=none
 pend:pendingOf st=p
theorem j3 (C:kP prog w A s o N f kd) (hk:kindOf st=kd) {i j:Nat} (hi:i < N) (hj:j < N) {Q:Option Bool->SortSt->Prop} (q:Q (some (o.lt i j)) st):wpS (model prog w) A E s (lt' (f i) (f j)) Q st:=by
 rw [lt'_eq]
 refine wpS_bind (wpS_get ?_)
 rw [hk]
 refine wpS_bind (wpS_lift (wpAny_attempt (C i j hi hj _ _ ⟨rfl,?_⟩)))
 exact wpS_pure q
theorem aR {xs:Array Keyed} {i:Nat} {x:Keyed} (e:xs[i]?=some x) {Q:Keyed->SortSt->Prop} (q:Q x st):wpS (model prog w) A E s (elem' xs i) Q st:=by
 rw [elem'_eq,e];exact wpS_pure q
theorem gU (C:kP prog w A s o N f kd) (h:Sg N f kd g p st) {i j:Nat} (hi:i < N) (hj:j < N) {Q:Option Bool->SortSt->Prop} (q:Q (some (o.lt (g i) (g j))) st):wpS (model prog w) A E s (ltAt' i j) Q st:=by
 rw [ltAt'_eq]
 refine wpS_bind (wpS_get ?_)
 show wpS _ _ _ _ (do let u <- elem' (arrOf st) i;let v <- elem' (arrOf st) j;lt' u v) Q st
 exact wpS_bind (aR (h.get i hi) (wpS_bind (aR (h.get j hj) (j3 C h.kind (h.lt i hi) (h.lt j hj) q))))
theorem Sg.arr (h:Sg N f kd g p st) {xs:Array Keyed} {g':Nat->Nat} (hs:xs.size=N) (hg:∀ i,i < N->xs[i]?=some (f (g' i))) (hl:∀ i,i < N->g' i < N):Sg N f kd g' p (setArr st xs):=⟨hs,hg,hl,h.kind,h.failed,h.pend⟩
theorem jj (h:Sg N f kd g p st) {i j:Nat} (hj:j<=N) {Q:Unit->SortSt->Prop} (q:∀ st',Sg N f kd (rev g i j) p st'->Q () st'):wpS (model prog w) A E s (reverseSlice' i j) Q st:=by
 rw [reverseSlice'_eq]
 refine wpS_modify (q _ (h.arr (by rw [mirror_size];exact h.size) (fun k hk=>?_) fun k hk=>?_))
 ·rw [getElem?_mirror_all (by rw [h.size];exact hj)]
  unfold rev
  by_cases c:i<=k/\k < j
  ·rw [if_pos c,if_pos c];exact h.get _ (by omega)
  ·rw [if_neg c,if_neg c];exact h.get _ hk
 ·unfold rev
  by_cases c:i<=k/\k < j
  ·rw [if_pos c];exact h.lt _ (by omega)
  ·rw [if_neg c];exact h.lt _ hk
theorem B8 (h:Sg N f kd g p st) {a b:Nat} (ha:a < N) (hb:b<=a) {Q:Unit->SortSt->Prop} (q:∀ st',Sg N f kd (mv g a b) p st'->Q () st'):wpS (model prog w) A E s (moveDown' a b) Q st:=by
 rw [moveDown'_eq]
 refine wpS_modify (q _ (h.arr (by rw [bubble_size];exact h.size) (fun k hk=>?_) fun k hk=>?_))
 ·rw [getElem?_bubble (by rw [h.size];exact ha) _ (by omega),show a - (a - b)=b by omega]
  unfold mv
  by_cases c:k=b
  ·rw [if_pos c,if_pos c];exact h.get _ ha
  ·rw [if_neg c,if_neg c]
   by_cases c2:b < k/\k<=a
   ·rw [if_pos c2,if_pos c2];exact h.get _ (by omega)
   ·rw [if_neg c2,if_neg c2];exact h.get _ hk
 ·unfold mv
  by_cases c:k=b
  ·rw [if_pos c];exact h.lt _ ha
  ·rw [if_neg c]
   by_cases c2:b < k/\k<=a
   ·rw [if_pos c2];exact h.lt _ (by omega)
   ·rw [if_neg c2];exact h.lt _ hk
structure Rn (o:Ord) (g0 g:Nat->Nat) (a b:Nat):Prop where
 out:∀ i,i < a\/b<=i->g i=g0 i
 cl:Cl g a b
 so:So o g a b
theorem CL {g0:Nat->Nat} {lo k l:Nat} (R:Rn o g0 g lo (lo+k)) (hk:g (lo+k)=lo+k) (hl:l<=k) (h1:∀ i,i < l->P o (g (lo+i)) (lo+k)) (h2:∀ i,l<=i->i < k->P o (lo+k) (g (lo+i))):Rn o g0 (mv g (lo+k) (lo+l)) lo (lo+(k+1)) where
 out i hi:=by rw [lY (by omega) (by omega)];exact R.out i (by omega)
 cl i a b:=by
  by_cases c:i=lo+l
  ·subst c;rw [xE,hk];omega
  ·by_cases c2:lo+l < i
   ·rw [oQ c2 (by omega)]
    have:=R.cl (i - 1) (by omega) (by omega)
    omega
   ·rw [lY (by omega) (by omega)]
    have:=R.cl i (by omega) (by omega)
    omega
 so i j a b d:=by
  by_cases c:i=lo+l
  ·subst c
   rw [xE,oQ b (by omega),hk]
   have:=h2 (j - 1 - lo) (by omega) (by omega)
   rwa [show lo+(j - 1 - lo)=j - 1 by omega] at this
  ·by_cases c2:lo+l < i
   ·rw [oQ c2 (by omega),oQ (by omega) (by omega)]
    exact R.so _ _ (by omega) (by omega) (by omega)
   ·rw [lY (k:=i) (by omega) (by omega)]
    by_cases c3:j=lo+l
    ·subst c3
     rw [xE,hk]
     have:=h1 (i - lo) (by omega)
     rwa [show lo+(i - lo)=i by omega] at this
    ·by_cases c4:lo+l < j
     ·rw [oQ c4 (by omega)]
      exact R.so _ _ (by omega) (by omega) (by omega)
     ·rw [lY (by omega) (by omega)]
      exact R.so _ _ (by omega) (by omega) (by omega)
theorem BZ (C:kP prog w A s o N f kd) {g0:Nat->Nat} {lo n ok:Nat} (h:Sg N f kd g p st) (hn:lo+n<=N) (h1:1<=ok) (hok:ok<=n) (R:Rn o g0 g lo (lo+ok)) (hid:∀ i,lo+ok<=i->i < lo+n->g0 i=i)
  {Q:Bool->SortSt->Prop} (q:∀ g' st',Sg N f kd g' p st'->Rn o g0 g' lo (lo+n)->Q true st'):wpS (model prog w) A E s (binarySort' lo n ok) Q st:=by
 rw [binarySort'_eq,show max ok 1=ok by omega]
 refine wpS_bind (wpS_mono (wpS_forRange (I:=fun k c st'=>c=(none,())/\∃ g',Sg N f kd g' p st'/\Rn o g0 g' lo (lo+min k n))
  (Q:=fun c st'=>c=(none,())/\∃ g',Sg N f kd g' p st'/\Rn o g0 g' lo (lo+n)) ?step ?fin ?init) ?post)
 case post=>
  rintro c st' ⟨rfl,g',h',R'⟩
  exact wpS_pure (q g' st' h' R')
 case init=>exact ⟨rfl,g,h,by rw [show min ok n=ok by omega];exact R⟩
 case fin=>
  rintro c st' ⟨hc,g',h',R'⟩
  exact ⟨hc,g',h',by rwa [show min (max ok n) n=n by omega] at R'⟩
 case step=>
  rintro k c st' hak hkn ⟨rfl,g',h',R'⟩
  rw [show min k n=k by omega] at R'
  have gk:g' (lo+k)=lo+k:=by rw [R'.out _ (by omega)];exact hid _ (by omega) (by omega)
  refine wpS_bind (wpS_mono (wpS_forRange (I:=fun x c s2=>s2=st'/\∃ u v,c=(none,u,v)/\u<=v/\v<=k/\v - u<=k - x /\
    (∀ i,i < u->P o (g' (lo+i)) (lo+k))/\(∀ i,v<=i->i < k->P o (lo+k) (g' (lo+i))))
   (Q:=fun c s2=>s2=st'/\∃ u v,c=(none,u,v)/\u<=k /\
    (∀ i,i < u->P o (g' (lo+i)) (lo+k))/\(∀ i,u<=i->i < k->P o (lo+k) (g' (lo+i)))) ?istep ?ifin ?iinit) ?ipost)
  case iinit=>exact ⟨rfl,0,k,rfl,by omega,by omega,by omega,fun i hi=>by omega,fun i h1 h2=>by omega⟩
  case ifin=>
   rintro c s2 ⟨rfl,u,v,rfl,huv,hvk,hm,low,top⟩
   have:u=v:=by omega
   subst this
   exact ⟨rfl,u,u,rfl,hvk,low,top⟩
  case istep=>
   rintro x c s2 _ hxk ⟨rfl,u,v,rfl,huv,hvk,hm,low,top⟩
   dsimp only
   by_cases hge:u>=v
   ·rw [if_pos hge]
    have:u=v:=by omega
    subst this
    exact wpS_pure ⟨rfl,u,u,rfl,hvk,low,top⟩
   ·rw [if_neg hge]
    have hmk:(u+v) / 2 < k:=by omega
    have gm:=R'.cl (lo+(u+v) / 2) (by omega) (by omega)
    refine wpS_bind (gU C h' (by omega) (by omega) ?_)
    rw [gk]
    cases hless:o.lt (lo+k) (g' (lo+(u+v) / 2))
    case true=>
     simp only [if_true]
     refine wpS_pure ⟨rfl,u,(u+v) / 2,rfl,by omega,by omega,by omega,low,fun i h1 h2=>?_⟩
     by_cases c:i=(u+v) / 2
     ·subst c;exact .inl hless
     ·exact (P.of_lt hless).trans (R'.so _ _ (by omega) (by omega) (by omega))
    case false=>
     simp only [Bool.false_eq_true,if_false]
     refine wpS_pure ⟨rfl,(u+v) / 2+1,v,rfl,by omega,by omega,by omega,fun i h1=>?_,top⟩
     have last:=P.jb hless gm.2
     by_cases c:i=(u+v) / 2
     ·subst c;exact last
     ·exact (R'.so _ _ (by omega) (by omega) (by omega)).trans last
  case ipost=>
   rintro c s2 ⟨rfl,u,v,rfl,huk,low,top⟩
   dsimp only
   refine wpS_bind (B8 h' (by omega) (by omega) fun st3 h3=>?_)
   refine wpS_pure ⟨rfl,_,h3,?_⟩
   rw [show min (k+1) n=k+1 by omega]
   exact CL R' gk huk low top
end
noncomputable abbrev As:=Option (Option Nat)×Nat
noncomputable abbrev Ds:=Option (Option Nat)×Nat×Nat
noncomputable def yv (lo a nrem:Nat):StateT SortSt Sem As:=
 forIn [a:nrem] ((none,a):As) fun _ c=>do
  let x <- ltAt' (lo+c.2) (lo+c.2 - 1)
  match x with
  | some b=>if b=true then pure (ForInStep.done (none,c.2)) else pure (ForInStep.yield (none,c.2+1))
  | _=>pure (ForInStep.done (some none,c.2))
noncomputable def oB (lo n nrem:Nat):StateT SortSt Sem (Option Nat):=do
 reverseSlice' lo (lo+n)
 let c <- yv lo n nrem
 match c.1 with
 | some r=>pure r
 | none=>pure (some c.2)
noncomputable def zM (lo n nrem:Nat):StateT SortSt Sem Ds:=
 forIn [n:nrem] ((none,n,0):Ds) fun _ c=>do
  let x <- ltAt' (lo+c.2.1) (lo+c.2.1 - 1)
  match x with
  | some b=>
   if b=true then
    if c.2.2 > 0 then do
     reverseSlice' (lo+c.2.1 - (c.2.2+1)) (lo+c.2.1)
     pure (ForInStep.yield (none,c.2.1+1,0))
    else pure (ForInStep.yield (none,c.2.1+1,0))
   else do
    let x <- ltAt' (lo+c.2.1 - 1) (lo+c.2.1)
    match x with
    | some b=>
     if b=true then pure (ForInStep.done (none,c.2.1,c.2.2))
     else pure (ForInStep.yield (none,c.2.1+1,c.2.2+1))
    | _=>pure (ForInStep.done (some none,c.2.1,c.2.2))
  | _=>pure (ForInStep.done (some none,c.2.1,c.2.2))
noncomputable def yk (lo n nrem:Nat):StateT SortSt Sem (Option Nat):=do
 liftM (rule "list.sort.descending-run")
 let c <- zM lo (n+1) nrem
 match c.1 with
 | some r=>pure r
 | none=>
  if c.2.2 > 0 then do
   reverseSlice' (lo+c.2.1 - (c.2.2+1)) (lo+c.2.1)
   oB lo c.2.1 nrem
  else oB lo c.2.1 nrem
theorem count_eq (lo nrem:Nat):countRun' lo nrem=(do
  let c <- yv lo 1 nrem
  match c.1 with
  | some r=>pure r
  | none=>
   if (c.2 == nrem)=true then pure (some c.2)
   else if c.2 > 1 then do
    let x <- ltAt' lo (lo+c.2 - 1)
    match x with
    | some b=>if b=true then pure (some c.2) else do
      reverseSlice' lo (lo+c.2)
      yk lo c.2 nrem
    | _=>pure none
   else yk lo c.2 nrem):=by
 rw [countRun'_eq]
 dsimp only
 unfold yk oB zM yv
 congr 1
 funext c
 obtain ⟨r,n⟩:=c
 cases r with
 | some r=>rfl
 | none=>
  dsimp only
  split
  ·rfl
  ·split
   ·congr 1
    funext x
    cases x with
    | none=>rfl
    | some b=>
     dsimp only
     split
     ·rfl
     ·congr 1
      funext _r
      congr 1
      funext _u
      congr 1
      congr 1
      funext s2
      obtain ⟨r2,n2,q2⟩:=s2
      cases r2 with
      | some r2=>rfl
      | none=>
       dsimp only
       split
       ·congr 1
        funext _v
        congr 1
        funext _w
        congr 1
        funext s3
        obtain ⟨r3,n3⟩:=s3
        cases r3 <;> rfl
       ·congr 1
        funext _w
        congr 1
        funext s3
        obtain ⟨r3,n3⟩:=s3
        cases r3 <;> rfl
   ·congr 1
    funext _u
    congr 1
    congr 1
    funext s2
    obtain ⟨r2,n2,q2⟩:=s2
    cases r2 with
    | some r2=>rfl
    | none=>
     dsimp only
     split
     ·congr 1
      funext _v
      congr 1
      funext _w
      congr 1
      funext s3
      obtain ⟨r3,n3⟩:=s3
      cases r3 <;> rfl
     ·congr 1
      funext _w
      congr 1
      funext s3
      obtain ⟨r3,n3⟩:=s3
      cases r3 <;> rfl
section
variable {prog:Program} {w:World} {A:Around} {E:Value->Shared->Prop} {s:Shared} {o:Ord} {N:Nat} {f:Nat->Keyed} {kd:SortKind} {g g0:Nat->Nat} {p:Array (Nat×Nat×Nat)} {st:SortSt}
theorem Rn.snoc {a b:Nat} (R:Rn o g0 g a b) (hab:a < b) (hb:g b=b) (h:o.lt b (g (b - 1))=false):Rn o g0 g a (b+1) where
 out i hi:=R.out i (by omega)
 cl i h1 h2:=by
  by_cases c:i=b
  ·subst c;omega
  ·have:=R.cl i h1 (by omega);omega
 so i j h1 h2 h3:=by
  by_cases c:j=b
  ·subst c
   rw [hb]
   have l:=R.cl (j - 1) (by omega) (by omega)
   have last:P o (g (j - 1)) j:=P.jb h l.2
   by_cases c2:i=j - 1
   ·subst c2;exact last
   ·exact (R.so i (j - 1) h1 (by omega) (by omega)).trans last
  ·exact R.so i j h1 h2 (by omega)
theorem uW (C:kP prog w A s o N f kd) {lo a nrem:Nat} (h:Sg N f kd g p st) (hn:lo+nrem<=N) (h1:1<=a) (han:a<=nrem) (R:Rn o g0 g lo (lo+a)) (hid:∀ i,lo+a<=i->i < lo+nrem->g0 i=i)
  {Q:As->SortSt->Prop} (q:∀ n,a<=n->n<=nrem->Rn o g0 g lo (lo+n)->(n=nrem\/o.lt (lo+n) (g (lo+n - 1))=true)->Q (none,n) st):wpS (model prog w) A E s (yv lo a nrem) Q st:=by
 unfold yv
 refine wpS_forRange (I:=fun x c st'=>st'=st/\c=(none,x)/\Rn o g0 g lo (lo+x)) ?step ?fin ⟨rfl,rfl,R⟩
 case fin=>
  rintro c st' ⟨rfl,rfl,R'⟩
  rw [show max a nrem=nrem by omega] at R' ⊢
  exact q nrem han (Nat.le_refl _) R' (.inl rfl)
 case step=>
  rintro x c st' hax hxn ⟨rfl,rfl,R'⟩
  dsimp only
  have gx:g (lo+x)=lo+x:=by rw [R'.out _ (by omega)];exact hid _ (by omega) (by omega)
  refine wpS_bind (gU C h (by omega) (by omega) ?_)
  rw [gx]
  cases hl:o.lt (lo+x) (g (lo+x - 1))
  case true=>
   simp only [if_true]
   exact wpS_pure (q x hax (by omega) R' (.inr hl))
  case false=>
   simp only [Bool.false_eq_true,if_false]
   exact wpS_pure ⟨rfl,rfl,R'.snoc (by omega) gx hl⟩
structure Dc (o:Ord) (g0 g:Nat->Nat) (a b q:Nat):Prop where
 out:∀ i,i < a\/b<=i->g i=g0 i
 cl:Cl g a b
 few:a+(q+1)<=b
 dn:∀ i j,a<=i->i < j->j < b->i < b - (q+1)->P o (g j) (g i)
 id:∀ i,b - (q+1)<=i->i < b->g i=i
 al:∀ i j,b - (q+1)<=i->i < b->b - (q+1)<=j->j < b->o.lt i j=false
theorem Dc.turn {a b q:Nat} (D:Dc o g0 g a b q):(∀ i,i < a\/b<=i->rev g (b - (q+1)) b i=g0 i)/\Cl (rev g (b - (q+1)) b) a b/\(∀ i j,a<=i->i < j->j < b->P o (rev g (b - (q+1)) b j) (rev g (b - (q+1)) b i))/\(∀ i,b - (q+1)<=i->i < b->∃ k,rev g (b - (q+1)) b i=k/\b - (q+1)<=k/\k < b):=by
 have few:=D.few
 have inn:∀ i,b - (q+1)<=i->i < b->rev g (b - (q+1)) b i=b - (q+1)+b - 1 - i:=fun i h1 h2=>by
  rw [jL h1 h2]
  exact D.id _ (by omega) (by omega)
 refine ⟨fun i hi=>?_,fun i h1 h2=>?_,fun i j h1 h2 h3=>?_,fun i h1 h2=>⟨_,inn i h1 h2,by omega,by omega⟩⟩
 ·rw [dj (by omega)];exact D.out i hi
 ·by_cases c:i < b - (q+1)
  ·rw [dj (by omega)];exact D.cl i h1 h2
  ·rw [inn i (by omega) h2];omega
 ·by_cases c:i < b - (q+1)
  ·rw [dj (k:=i) (by omega)]
   by_cases c2:j < b - (q+1)
   ·rw [dj (by omega)];exact D.dn i j h1 h2 h3 c
   ·rw [inn j (by omega) h3]
    have:=D.dn i (b - (q+1)+b - 1 - j) h1 (by omega) (by omega) c
    rwa [D.id _ (by omega) (by omega)] at this
  ·rw [inn i (by omega) (by omega),inn j (by omega) h3]
   exact P.jb (D.al _ _ (by omega) (by omega) (by omega) (by omega)) (by omega)
noncomputable def Fin (o:Ord) (g0 g:Nat->Nat) (a b:Nat):Prop:=(∀ i,i < a\/b<=i->g i=g0 i)/\Cl g a b/\(∀ i j,a<=i->i < j->j < b->P o (g j) (g i))
theorem Dc.om {a b:Nat} (D:Dc o g0 g a b 0):Fin o g0 g a b:=⟨D.out,D.cl,fun i j h1 h2 h3=>D.dn i j h1 h2 h3 (by omega)⟩
theorem Fin.rn {a b:Nat} (D:Fin o g0 g a b):Rn o g0 (rev g a b) a b where
 out i hi:=by rw [dj hi];exact D.1 i hi
 cl i h1 h2:=by
  rw [jL h1 h2];exact D.2.1 _ (by omega) (by omega)
 so i j h1 h2 h3:=by
  rw [jL h1 (by omega),jL (by omega) h3]
  exact D.2.2 _ _ (by omega) (by omega) (by omega)
theorem Fin.add {a b:Nat} (D:Fin o g0 g a b) (hb:g b=b) (hab:a < b) (h:∀ i,a<=i->i < b->P o b (g i)):Dc o g0 g a (b+1) 0 where
 out i hi:=D.1 i (by omega)
 cl i h1 h2:=by
  by_cases c:i=b
  ·subst c;omega
  ·have:=D.2.1 i h1 (by omega);omega
 few:=by omega
 dn i j h1 h2 h3 _:=by
  by_cases c:j=b
  ·subst c;rw [hb];exact h i h1 h2
  ·exact D.2.2 i j h1 h2 (by omega)
 id i h1 h2:=by
  have:i=b:=by omega
  rw [this,hb]
 al i j h1 h2 h3 h4:=by
  have:i=j:=by omega
  rw [this];exact o.zK _
theorem rX (C:kP prog w A s o N f kd) {lo n nrem:Nat} (h:Sg N f kd g p st) (hn:lo+nrem<=N) (h1:1<=n) (han:n<=nrem) (D:Fin o g0 g lo (lo+n)) (hid:∀ i,lo<=i->i < lo+nrem->g0 i=i)
  {Q:Option Nat->SortSt->Prop} (q:∀ m g' st',Sg N f kd g' p st'->1<=m->m<=nrem->Rn o g0 g' lo (lo+m)->Q (some m) st'):wpS (model prog w) A E s (oB lo n nrem) Q st:=by
 unfold oB
 refine wpS_bind (jj h (by omega) fun st2 h2=>?_)
 exact wpS_bind (uW C h2 hn h1 han D.rn (fun i a b=>hid i (by omega) b) fun m hm1 hm2 R _=>wpS_pure (q m _ _ h2 (by omega) hm2 R))
theorem CK (C:kP prog w A s o N f kd) {lo n nrem:Nat} (h:Sg N f kd g p st) (hn:lo+nrem<=N) (h1:1<=n) (han:n<=nrem) (D:Dc o g0 g lo (lo+n) 0) (hid:∀ i,lo<=i->i < lo+nrem->g0 i=i)
  {Q:Ds->SortSt->Prop} (q:∀ m e g' st',Sg N f kd g' p st'->1<=m->m<=nrem->Dc o g0 g' lo (lo+m) e->Q (none,m,e) st'):wpS (model prog w) A E s (zM lo n nrem) Q st:=by
 unfold zM
 refine wpS_forRange (I:=fun x c st'=>∃ e g',c=(none,x,e)/\Sg N f kd g' p st'/\Dc o g0 g' lo (lo+x) e) ?step ?fin ⟨0,g,rfl,h,D⟩
 case fin=>
  rintro c st' ⟨e,g',rfl,h',D'⟩
  rw [show max n nrem=nrem by omega] at D' ⊢
  exact q nrem e g' st' h' (by omega) (Nat.le_refl _) D'
 case step=>
  rintro x c st' hax hxn ⟨e,g',rfl,h',D'⟩
  dsimp only
  have few:=D'.few
  have gx:g' (lo+x)=lo+x:=by rw [D'.out _ (by omega)];exact hid _ (by omega) (by omega)
  have gy:g' (lo+x - 1)=lo+x - 1:=D'.id _ (by omega) (by omega)
  refine wpS_bind (gU C h' (by omega) (by omega) ?_)
  rw [gx,gy]
  cases hl:o.lt (lo+x) (lo+x - 1)
  case true=>
   simp only [if_true]
   by_cases he:e > 0
   ·rw [if_pos he]
    obtain ⟨t1,t2,t3,t4⟩:=D'.turn
    refine wpS_bind (jj h' (by omega) fun st2 h2=>wpS_pure ⟨0,_,rfl,h2,?_⟩)
    refine Fin.add (b:=lo+x) ⟨t1,t2,t3⟩ (by rw [dj (by omega)];exact gx) (by omega) fun i a b=>?_
    by_cases c:lo+x - (e+1)<=i
    ·obtain ⟨k,ek,k1,k2⟩:=t4 i c b
     rw [ek]
     rcases o.neg _ k _ hl with z | z
     ·exact .inl z
     ·rw [D'.al _ _ k1 k2 (by omega) (by omega)] at z;cases z
    ·rw [dj (by omega)]
     have:=D'.dn i (lo+x - 1) a (by omega) (by omega) (by omega)
     rw [gy] at this
     exact (P.of_lt hl).trans this
   ·rw [if_neg he]
    have:e=0:=by omega
    subst this
    refine wpS_pure ⟨0,_,rfl,h',Fin.add (b:=lo+x) D'.om gx (by omega) fun i a b=>?_⟩
    by_cases c:i=lo+x - 1
    ·subst c;rw [gy];exact .inl hl
    ·have:=D'.dn i (lo+x - 1) a (by omega) (by omega) (by omega)
     rw [gy] at this
     exact (P.of_lt hl).trans this
  case false=>
   simp only [Bool.false_eq_true,if_false]
   refine wpS_bind (gU C h' (by omega) (by omega) ?_)
   rw [gx,gy]
   cases hg:o.lt (lo+x - 1) (lo+x)
   case true=>
    simp only [if_true]
    exact wpS_pure (q x e g' st' h' (by omega) (by omega) D')
   case false=>
    simp only [Bool.false_eq_true,if_false]
    refine wpS_pure ⟨e+1,g',rfl,h',?_⟩
    have eq1:∀ i,lo+x - (e+1)<=i->i < lo+x->o.lt i (lo+x)=false/\o.lt (lo+x) i=false:=fun i a b=>by
     constructor
     ·cases z:o.lt i (lo+x) with
      | false=>rfl
      | true=>
       rcases o.neg _ (lo+x - 1) _ z with y | y
       ·rw [D'.al _ _ a b (by omega) (by omega)] at y;cases y
       ·rw [hg] at y;cases y
     ·cases z:o.lt (lo+x) i with
      | false=>rfl
      | true=>
       rcases o.neg _ (lo+x - 1) _ z with y | y
       ·rw [hl] at y;cases y
       ·rw [D'.al _ _ (by omega) (by omega) a b] at y;cases y
    exact {
     out:=fun i hi=>D'.out i (by omega)
     cl:=fun i a b=>by
      by_cases c:i=lo+x
      ·subst c;omega
      ·have:=D'.cl i a (by omega);omega
     few:=by omega
     dn:=fun i j a b c d=>by
      by_cases z:j=lo+x
      ·subst z
       rw [gx]
       have y:=D'.dn i (lo+x - 1) a (by omega) (by omega) (by omega)
       rw [gy] at y
       have gi:=D'.cl i a (by omega)
       rcases y with y | ⟨_,y⟩
       ·rcases o.neg _ (lo+x) _ y with v | v
        ·rw [hg] at v;cases v
        ·exact .inl v
       ·omega
      ·exact D'.dn i j a b (by omega) (by omega)
     id:=fun i a b=>by
      by_cases z:i=lo+x
      ·subst z;exact gx
      ·exact D'.id i (by omega) (by omega)
     al:=fun i j a b c d=>by
      by_cases z:i=lo+x
      ·subst z
       by_cases y:j=lo+x
       ·subst y;exact o.zK _
       ·exact (eq1 j (by omega) (by omega)).2
      ·by_cases y:j=lo+x
       ·subst y;exact (eq1 i (by omega) (by omega)).1
       ·exact D'.al i j (by omega) (by omega) (by omega) (by omega) }
theorem su (C:kP prog w A s o N f kd) {lo n nrem:Nat} (h:Sg N f kd g p st) (hn:lo+nrem<=N) (han:n+1<=nrem) (D:Dc o g0 g lo (lo+(n+1)) 0) (hid:∀ i,lo<=i->i < lo+nrem->g0 i=i)
  {Q:Option Nat->SortSt->Prop} (q:∀ m g' st',Sg N f kd g' p st'->1<=m->m<=nrem->Rn o g0 g' lo (lo+m)->Q (some m) st'):wpS (model prog w) A E s (yk lo n nrem) Q st:=by
 unfold yk
 refine wpS_bind (wpS_lift (wpAny_rule ⟨rfl,?_⟩))
 refine wpS_bind (CK C h hn (by omega) han D hid fun m e g' st' h' m1 m2 D'=>?_)
 dsimp only
 by_cases he:e > 0
 ·rw [if_pos he]
  obtain ⟨t1,t2,t3,_⟩:=D'.turn
  exact wpS_bind (jj h' (by omega) fun st2 h2=>rX C h2 hn m1 m2 ⟨t1,t2,t3⟩ hid q)
 ·rw [if_neg he]
  have:e=0:=by omega
  subst this
  exact rX C h' hn m1 m2 D'.om hid q
theorem wc (C:kP prog w A s o N f kd) {lo nrem:Nat} (h:Sg N f kd g p st) (hn:lo+nrem<=N) (h1:1<=nrem) (hid:∀ i,lo<=i->i < lo+nrem->g i=i)
  {Q:Option Nat->SortSt->Prop} (q:∀ m g' st',Sg N f kd g' p st'->1<=m->m<=nrem->Rn o g g' lo (lo+m)->Q (some m) st'):wpS (model prog w) A E s (countRun' lo nrem) Q st:=by
 rw [count_eq]
 refine wpS_bind (uW C h hn (Nat.le_refl 1) h1 (g0:=g) ⟨fun _ _=>rfl,fun i a b=>?_,fun i j a b c=>by omega⟩ (fun i a b=>hid i (by omega) b) fun n n1 n2 R hor=>?_)
 ·have:i=lo:=by omega
  subst this
  rw [hid i (Nat.le_refl _) (by omega)];omega
 dsimp only
 by_cases hnn:n=nrem
 ·rw [if_pos (by simpa using hnn)]
  exact wpS_pure (q n g st h n1 n2 R)
 ·rw [if_neg (by simpa using hnn)]
  have hlt:=hor.resolve_left hnn
  rw [hid (lo+n - 1) (by omega) (by omega)] at hlt
  have gn:g (lo+n)=lo+n:=hid _ (by omega) (by omega)
  by_cases hgt:n > 1
  ·rw [if_pos hgt]
   refine wpS_bind (gU C h (by omega) (by omega) ?_)
   rw [hid lo (by omega) (by omega),hid (lo+n - 1) (by omega) (by omega)]
   cases hr:o.lt lo (lo+n - 1)
   case true=>
    simp only [if_true]
    exact wpS_pure (q n g st h n1 n2 R)
   case false=>
    simp only [Bool.false_eq_true,if_false]
    have id':∀ i,lo<=i->i < lo+n->g i=i:=fun i a b=>hid i a (by omega)
    have pp:∀ i j,lo<=i->i < j->j < lo+n->o.lt i j=false/\o.lt j i=false:=fun i j a b c=>by
     have r:=R.so i j a b c
     rw [id' i a (by omega),id' j (by omega) c] at r
     refine ⟨?_,r.ge⟩
     cases z:o.lt i j with
     | false=>rfl
     | true=>
      rcases o.neg _ lo _ z with y | y
      ·by_cases x:i=lo
       ·subst x;rw [o.zK] at y;cases y
       ·have r2:=R.so lo i (by omega) (by omega) (by omega)
        rw [id' i a (by omega),id' lo (by omega) (by omega)] at r2
        rw [r2.ge] at y;cases y
      ·rcases o.neg _ (lo+n - 1) _ y with x | x
       ·rw [hr] at x;cases x
       ·by_cases v:j=lo+n - 1
        ·subst v;rw [o.zK] at x;cases x
        ·have r2:=R.so j (lo+n - 1) (by omega) (by omega) (by omega)
         rw [id' j (by omega) c,id' (lo+n - 1) (by omega) (by omega)] at r2
         rw [r2.ge] at x;cases x
    refine wpS_bind (jj h (by omega) fun st2 h2=>su C h2 hn (by omega) ?_ hid q)
    have rin:∀ i,lo<=i->i < lo+n->rev g lo (lo+n) i=lo+(lo+n) - 1 - i:=fun i a b=>by rw [jL a b];exact id' _ (by omega) (by omega)
    refine Fin.add (b:=lo+n) ⟨fun i hi=>dj hi,fun i a b=>by rw [rin i a b];omega,fun i j a b c=>?_⟩ (by rw [dj (by omega)];exact gn) (by omega) fun i a b=>?_
    ·rw [rin i a (by omega),rin j (by omega) c]
     exact P.jb (pp _ _ (by omega) (by omega) (by omega)).2 (by omega)
    ·rw [rin i a b]
     by_cases x:lo+(lo+n) - 1 - i=lo+n - 1
     ·rw [x];exact .inl hlt
     ·rcases o.neg _ (lo+(lo+n) - 1 - i) _ hlt with z | z
      ·exact .inl z
      ·rw [(pp _ _ (by omega) (by omega) (by omega)).1] at z;cases z
  ·rw [if_neg hgt]
   have:n=1:=by omega
   subst this
   refine su C h hn (by omega) ?_ hid q
   refine Fin.add (b:=lo+1) ⟨fun i hi=>rfl,R.cl,fun i j a b c=>by omega⟩ gn (by omega) fun i a b=>?_
   have:i=lo:=by omega
   subst this
   rw [hid i (by omega) (by omega)]
   rw [show i+1 - 1=i by omega] at hlt
   exact .inl hlt
end
noncomputable def bZ:Bool->Keyed->Array Keyed->Nat->Nat->Nat->StateT SortSt Sem (Option Nat):=sortPriv% PySem.Builtin.gallop
noncomputable def B4 (ask:Nat->StateT SortSt Sem (Option Bool)) (n at0:Nat):StateT SortSt Sem (Option Nat):=do
 let mut was:=0
 let mut far:=1
 let mut low:=0
 let mut top:=0
 let some yes <- ask at0 | return none
 if yes then
  let most:=n - at0
  for _ in [0:n] do
   if far>=most then break
   let some ok <- ask (at0+far) | return none
   if !ok then break
   was:=far
   far:=2 * far+1
  low:=at0+was+1
  top:=at0+min far most
 else
  let most:=at0+1
  for _ in [0:n] do
   if far>=most then break
   let some hit <- ask (at0 - far) | return none
   if hit then break
   was:=far
   far:=2 * far+1
  low:=at0+1 - min far most
  top:=at0 - was
 for _ in [0:n] do
  if low>=top then break
  let m:=low+(top - low) / 2
  let some ok <- ask m | return none
  if ok then low:=m+1 else top:=m
 return some top
theorem kK (left:Bool) (key:Keyed) (arr:Array Keyed) (base n hint:Nat):bZ left key arr base n hint=B4 (fun i=>do
  let x <- elem' arr (base+i)
  if left then lt' x key else return (<- lt' key x).map (!·)) n hint:=rfl
section
variable {prog:Program} {w:World} {A:Around} {E:Value->Shared->Prop} {s:Shared} {st:SortSt}
noncomputable def ED (be:Nat->StateT SortSt Sem (Option Bool)) (n l0 h0:Nat):StateT SortSt Sem (Option Nat):=do
 let mut low:=l0
 let mut top:=h0
 for _ in [0:n] do
  if low>=top then break
  let m:=low+(top - low) / 2
  let some ok <- be m | return none
  if ok then low:=m+1 else top:=m
 return some top
theorem AN {be:Nat->StateT SortSt Sem (Option Bool)} {n l0 h0:Nat} (b:Nat->Bool) (hbe:∀ i,i < n->∀ Q:Option Bool->SortSt->Prop,Q (some (b i)) st->wpS (model prog w) A E s (be i) Q st) (hb:∀ i j,i<=j->j < n->b j=true->b i=true)
  (hlh:l0<=h0) (hn:h0<=n) (hl:∀ i,i < l0->b i=true) (hh:∀ i,h0<=i->i < n->b i=false)
  {Q:Option Nat->SortSt->Prop} (q:∀ k,k<=n->(∀ i,i < k->b i=true)->(∀ i,k<=i->i < n->b i=false)->Q (some k) st):wpS (model prog w) A E s (ED be n l0 h0) Q st:=by
 unfold ED
 refine wpS_bind (wpS_mono (wpS_forRange (I:=fun x c st'=>st'=st/\∃ lo hi,c=(none,lo,hi)/\lo<=hi/\hi<=n/\hi - lo<=n - x/\(∀ i,i < lo->b i=true)/\(∀ i,hi<=i->i < n->b i=false))
  (Q:=fun c st'=>st'=st/\∃ k,c=(none,k,k)/\k<=n/\(∀ i,i < k->b i=true)/\(∀ i,k<=i->i < n->b i=false)) ?step ?fin ⟨rfl,l0,h0,rfl,hlh,hn,by omega,hl,hh⟩) ?post)
 case post=>
  rintro c st' ⟨rfl,k,rfl,h1,h2,h3⟩
  exact wpS_pure (q k h1 h2 h3)
 case fin=>
  rintro c st' ⟨rfl,lo,hi,rfl,h1,h2,h3,h4,h5⟩
  have:lo=hi:=by omega
  subst this
  exact ⟨rfl,lo,rfl,h2,h4,h5⟩
 case step=>
  rintro x c st' _ hx ⟨rfl,lo,hi,rfl,h1,h2,h3,h4,h5⟩
  dsimp only
  by_cases hge:lo>=hi
  ·rw [if_pos hge]
   have:lo=hi:=by omega
   subst this
   exact wpS_pure ⟨rfl,lo,rfl,h2,h4,h5⟩
  ·rw [if_neg hge]
   have hm:lo+(hi - lo) / 2 < hi:=by omega
   obtain ⟨m,hm'⟩:∃ m,m=lo+(hi - lo) / 2:=⟨_,rfl⟩
   rw [<- hm'] at hm ⊢
   refine wpS_bind (hbe m (by omega) _ ?_)
   cases hv:b m
   ·simp only [Bool.false_eq_true,if_false]
    refine wpS_pure ⟨rfl,lo,m,rfl,by omega,by omega,by omega,h4,fun i a c=>?_⟩
    cases z:b i with
    | false=>rfl
    | true=>rw [hb m i a c z] at hv;cases hv
   ·simp only [if_true]
    exact wpS_pure ⟨rfl,m+1,hi,rfl,by omega,h2,by omega,fun i a=>hb i m (by omega) (by omega) hv,h5⟩
theorem qe {be:Nat->StateT SortSt Sem (Option Bool)} {n hint:Nat} (b:Nat->Bool) (hbe:∀ i,i < n->∀ Q:Option Bool->SortSt->Prop,Q (some (b i)) st->wpS (model prog w) A E s (be i) Q st) (hb:∀ i j,i<=j->j < n->b j=true->b i=true) (hh:hint < n)
  {Q:Option Nat->SortSt->Prop} (q:∀ k,k<=n->(∀ i,i < k->b i=true)->(∀ i,k<=i->i < n->b i=false)->Q (some k) st):wpS (model prog w) A E s (B4 be n hint) Q st:=by
 unfold B4
 have hb':∀ i j,i<=j->j < n->b i=false->b j=false:=fun i j a c d=>by
  cases z:b j with
  | false=>rfl
  | true=>rw [hb i j a c z] at d;cases d
 refine wpS_bind (hbe hint hh _ ?_)
 cases hr:b hint
 ·dsimp only
  simp only [Bool.false_eq_true,if_false]
  refine wpS_bind (wpS_mono (wpS_forRange (I:=fun x c st'=>st'=st/\∃ l u,c=(none,l,u)/\x+1<=u/\l < u/\l<=hint/\b (hint - l)=false)
   (Q:=fun c st'=>st'=st/\∃ l u,c=(none,l,u)/\l < u/\l<=hint/\b (hint - l)=false/\(u>=hint+1\/b (hint - u)=true)) ?step ?fin ⟨rfl,0,1,rfl,by omega,by omega,by omega,hr⟩) ?post)
  case post=>
   rintro c st' ⟨rfl,l,u,rfl,h1,h2,h3,h4⟩
   dsimp only
   refine (AN b hbe hb (l0:=hint+1 - min u (hint+1)) (h0:=hint - l) (by omega) (by omega) (fun i a=>?_) (fun i a c=>hb' _ _ a c h3) q:wpS (model prog w) A E s (ED be n _ _) Q st')
   rcases h4 with h4 | h4
   ·omega
   ·exact hb i (hint - u) (by omega) (by omega) h4
  case fin=>
   rintro c st' ⟨rfl,l,u,rfl,h1,h2,h3,h4⟩
   exact ⟨rfl,l,u,rfl,h2,h3,h4,.inl (by omega)⟩
  case step=>
   rintro x c st' _ hx ⟨rfl,l,u,rfl,h1,h2,h3,h4⟩
   dsimp only
   by_cases hge:u>=hint+1
   ·rw [if_pos hge]
    exact wpS_pure ⟨rfl,l,u,rfl,h2,h3,h4,.inl hge⟩
   ·rw [if_neg hge]
    refine wpS_bind (hbe _ (by omega) _ ?_)
    cases hv:b (hint - u)
    ·simp only [Bool.false_eq_true,if_false]
     exact wpS_pure ⟨rfl,u,2 * u+1,rfl,by omega,by omega,by omega,hv⟩
    ·simp only [if_true]
     exact wpS_pure ⟨rfl,l,u,rfl,h2,h3,h4,.inr hv⟩
 ·dsimp only
  simp only [if_true]
  refine wpS_bind (wpS_mono (wpS_forRange (I:=fun x c st'=>st'=st/\∃ l u,c=(none,l,u)/\x+1<=u/\l < u/\hint+l < n/\b (hint+l)=true)
   (Q:=fun c st'=>st'=st/\∃ l u,c=(none,l,u)/\l < u/\hint+l < n/\b (hint+l)=true/\(u>=n - hint\/b (hint+u)=false)) ?step2 ?fin2 ⟨rfl,0,1,rfl,by omega,by omega,by omega,hr⟩) ?post2)
  case post2=>
   rintro c st' ⟨rfl,l,u,rfl,h1,h2,h3,h4⟩
   dsimp only
   refine (AN b hbe hb (l0:=hint+l+1) (h0:=hint+min u (n - hint)) (by omega) (by omega) (fun i a=>hb i _ (by omega) h2 h3) (fun i a c=>?_) q:wpS (model prog w) A E s (ED be n _ _) Q st')
   rcases h4 with h4 | h4
   ·omega
   ·exact hb' (hint+u) i (by omega) c h4
  case fin2=>
   rintro c st' ⟨rfl,l,u,rfl,h1,h2,h3,h4⟩
   exact ⟨rfl,l,u,rfl,h2,h3,h4,.inl (by omega)⟩
  case step2=>
   rintro x c st' _ hx ⟨rfl,l,u,rfl,h1,h2,h3,h4⟩
   dsimp only
   by_cases hge:u>=n - hint
   ·rw [if_pos hge]
    exact wpS_pure ⟨rfl,l,u,rfl,h2,h3,h4,.inl hge⟩
   ·rw [if_neg hge]
    refine wpS_bind (hbe _ (by omega) _ ?_)
    cases hv:b (hint+u)
    ·simp only [Bool.not_false,if_true]
     exact wpS_pure ⟨rfl,l,u,rfl,h2,h3,h4,.inr hv⟩
    ·simp only [Bool.not_true,Bool.false_eq_true,if_false]
     exact wpS_pure ⟨rfl,u,2 * u+1,rfl,by omega,by omega,by omega,hv⟩
end
section
variable {prog:Program} {w:World} {A:Around} {E:Value->Shared->Prop} {s:Shared} {o:Ord} {N:Nat} {f:Nat->Keyed} {kd:SortKind} {st:SortSt}
theorem u5 (C:kP prog w A s o N f kd) (hk:kindOf st=kd) {key base n hint:Nat} {arr:Array Keyed} {h:Nat->Nat} (ha:∀ i,i < n->arr[base+i]?=some (f (h i))) (hN:∀ i,i < n->h i < key) (hkN:key < N) (so:So o h 0 n) (hh:hint < n)
  {Q:Option Nat->SortSt->Prop} (q:∀ k,k<=n->(∀ i,i < k->P o (h i) key)->(∀ i,k<=i->i < n->P o key (h i))->Q (some k) st):wpS (model prog w) A E s (bZ false (f key) arr base n hint) Q st:=by
 rw [kK]
 refine qe (fun i=>!o.lt key (h i)) (fun i hi Q' q'=>?_) (fun i j a b c=>?_) hh fun k h1 h2 h3=>q k h1 (fun i a=>?_) fun i a b=>?_
 ·refine wpS_bind (aR (ha i hi) ?_)
  simp only [Bool.false_eq_true,if_false]
  exact wpS_bind (j3 C hk hkN (by have:=hN i hi;omega) (wpS_pure q'))
 ·by_cases z:i=j
  ·subst z;exact c
  ·have r:=so i j (Nat.zero_le _) (by omega) b
   have c':o.lt key (h j)=false:=by simpa using c
   cases e:o.lt key (h i) with
   | false=>rfl
   | true=>
    have:=(P.of_lt e).trans r
    rw [this.lt (hN j b)] at c';cases c'
 ·have:=h2 i a
  exact P.jb (by simpa using this) (hN i (by omega))
 ·have:=h3 i a b
  exact .inl (by simpa using this)
theorem vG (C:kP prog w A s o N f kd) (hk:kindOf st=kd) {key base n hint:Nat} {arr:Array Keyed} {h:Nat->Nat} (ha:∀ i,i < n->arr[base+i]?=some (f (h i))) (hN:∀ i,i < n->key < h i/\h i < N) (so:So o h 0 n) (hh:hint < n)
  {Q:Option Nat->SortSt->Prop} (q:∀ k,k<=n->(∀ i,i < k->P o (h i) key)->(∀ i,k<=i->i < n->P o key (h i))->Q (some k) st):wpS (model prog w) A E s (bZ true (f key) arr base n hint) Q st:=by
 rw [kK]
 refine qe (fun i=>o.lt (h i) key) (fun i hi Q' q'=>?_) (fun i j a b c=>?_) hh fun k h1 h2 h3=>q k h1 (fun i a=>?_) fun i a b=>?_
 ·refine wpS_bind (aR (ha i hi) ?_)
  simp only [if_true]
  exact j3 C hk (hN i hi).2 (by have:=hN i hi;omega) q'
 ·by_cases z:i=j
  ·subst z;exact c
  ·have r:=so i j (Nat.zero_le _) (by omega) b
   exact (r.trans (P.of_lt c)).lt (hN i (by omega)).1
 ·exact .inl (h2 i a)
 ·exact P.jb (h3 i a b) (hN i b).1
end
noncomputable def ki:Array Keyed->Array Keyed->StateT SortSt Sem (Array Keyed):=sortPriv% PySem.Builtin.mergeLo
noncomputable def jQ:Array Keyed->Array Keyed->StateT SortSt Sem (Array Keyed):=sortPriv% PySem.Builtin.mergeHi
noncomputable def ja:Nat->StateT SortSt Sem Unit:=sortPriv% PySem.Builtin.setMinGallop
theorem yX (m:Nat):ja m=modify fun s=>SortSt.mk' (kindOf s) (arrOf s) (pendingOf s) m (failedOf s):=rfl
theorem pK (a b:Array Keyed):ki a b=(do
 rule "list.sort.merge-lo"
 let all_:=a.size+b.size
 let end1 (acc:Array Keyed) (p q:Nat):=acc++a.extract p a.size++b.extract q b.size
 let end2 (acc:Array Keyed) (p q:Nat):=acc++b.extract q b.size++a.extract p a.size
 let mut acc:Array Keyed:=#[<- elem' b 0]
 let mut p:=0
 let mut q:=1
 if q == b.size then return end1 acc p q
 if p+1 == a.size then return end2 acc p q
 let mut mg:=gallopOf (<- get)
 for _ in [0:all_] do
  let mut ca:=0
  let mut cb:=0
  for _ in [0:all_] do
   let some won <- lt' (<- elem' b q) (<- elem' a p) | return end1 acc p q
   if won then
    acc:=acc.push (<- elem' b q);q:=q+1;cb:=cb+1;ca:=0
    if q == b.size then return end1 acc p q
    if cb>=mg then break
   else
    acc:=acc.push (<- elem' a p);p:=p+1;ca:=ca+1;cb:=0
    if p+1 == a.size then return end2 acc p q
    if ca>=mg then break
  rule "list.sort.gallop"
  mg:=mg+1
  for _ in [0:all_] do
   if mg > 1 then mg:=mg - 1
   ja mg
   let some k <- bZ false (<- elem' b q) a p (a.size - p) 0 | return end1 acc p q
   ca:=k
   if k > 0 then
    acc:=acc++a.extract p (p+k);p:=p+k
    if p+1 == a.size then return end2 acc p q
    if p == a.size then return end1 acc p q
   acc:=acc.push (<- elem' b q);q:=q+1
   if q == b.size then return end1 acc p q
   let some k <- bZ true (<- elem' a p) b q (b.size - q) 0 | return end1 acc p q
   cb:=k
   if k > 0 then
    acc:=acc++b.extract q (q+k);q:=q+k
    if q == b.size then return end1 acc p q
   acc:=acc.push (<- elem' a p);p:=p+1
   if p+1 == a.size then return end2 acc p q
   if ca < 7 && cb < 7 then break
  mg:=mg+1
  ja mg
 unsupported "internal:list.sort.merge-bound"):=rfl
section
variable {o:Ord} {N:Nat} {f:Nat->Keyed} {A B hs:List Nat} {ia ib:Nat}
noncomputable def fa (f:Nat->Keyed) (l:List Nat):Array Keyed:=(l.map f).toArray
theorem fZ (l:List Nat):(fa f l).size=l.length:=by unfold fa;rw [List.size_toArray,List.length_map]
theorem vJ (l:List Nat) (i:Nat):(fa f l)[i]?=(l[i]?).map f:=by unfold fa;rw [List.getElem?_toArray,List.getElem?_map]
theorem b7 {l:List Nat} {i x:Nat} (h:l[i]?=some x):(fa f l)[i]?=some (f x):=by rw [vJ,h];rfl
theorem ig (l:List Nat) (x:Nat):(fa f l).push (f x)=fa f (l++[x]):=by
 unfold fa;rw [List.push_toArray,List.map_append];rfl
theorem dI (l m:List Nat):fa f l++fa f m=fa f (l++m):=by
 unfold fa;rw [List.append_toArray,List.map_append]
theorem iL (l:List Nat) (i j:Nat):(fa f l).extract i j=fa f ((l.drop i).take (j - i)):=by
 unfold fa;rw [List.extract_toArray,List.extract_eq_take_drop,List.map_take,List.map_drop]
theorem jD (l:List Nat) (i:Nat):(fa f l).extract i l.length=fa f (l.drop i):=by
 rw [iL,List.take_of_length_le (by rw [List.length_drop];omega)]
structure Ab (o:Ord) (N:Nat) (A B:List Nat):Prop where
 sa:A.Pairwise (P o)
 sb:B.Pairwise (P o)
 lt:∀ x∈A,∀ y∈B,x < y
 nb:∀ y∈B,y < N
 na:∀ x∈A,x < N
structure Mg (o:Ord) (A B hs:List Nat) (ia ib:Nat):Prop where
 la:ia<=A.length
 lb:ib<=B.length
 len:hs.length=ia+ib
 so:hs.Pairwise (P o)
 mem:∀ x∈hs,x∈A\/x∈B
 ua:∀ x∈hs,∀ y∈A.drop ia,P o x y
 ub:∀ x∈hs,∀ y∈B.drop ib,P o x y
noncomputable def Res (o:Ord) (f:Nat->Keyed) (A B:List Nat) (out:Array Keyed):Prop:=∃ hs:List Nat,out=fa f hs/\hs.length=A.length+B.length/\hs.Pairwise (P o)/\∀ x∈hs,x∈A\/x∈B
theorem fQ {l:List Nat} (h:l.Pairwise (P o)) {i j x y:Nat} (hx:l[i]?=some x) (hy:l[j]?=some y) (hij:i < j):P o x y:=by
 obtain ⟨h1,e1⟩:=List.getElem?_eq_some_iff.mp hx
 obtain ⟨h2,e2⟩:=List.getElem?_eq_some_iff.mp hy
 rw [<- e1,<- e2]
 exact List.pairwise_iff_getElem.mp h i j h1 h2 hij
theorem ie {l:List Nat} {i y:Nat} (h:y∈l.drop i):∃ j,i<=j/\l[j]?=some y:=by
 obtain ⟨k,hk⟩:=List.getElem?_of_mem h
 rw [List.getElem?_drop] at hk
 exact ⟨i+k,by omega,hk⟩
theorem Mg.i_ (ab:Ab o N A B) (m:Mg o A B hs ia ib) {x:Nat} (hx:A[ia]?=some x) (h:∀ y∈B.drop ib,P o x y):Mg o A B (hs++[x]) (ia+1) ib:=by
 obtain ⟨h1,e1⟩:=List.getElem?_eq_some_iff.mp hx
 have hd:A.drop ia=x::A.drop (ia+1):=by rw [<- e1];exact List.drop_eq_getElem_cons h1
 refine ⟨by omega,m.lb,by rw [List.length_append,m.len];show ia+ib+1=_;omega,?_,fun z hz=>?_,fun z hz y hy=>?_,fun z hz y hy=>?_⟩
 ·rw [List.pairwise_append]
  exact ⟨m.so,List.pairwise_singleton ..,fun a ha b hb=>by rw [List.mem_singleton.mp hb];exact m.ua a ha x (by rw [hd];exact List.mem_cons_self ..)⟩
 ·rcases List.mem_append.mp hz with z' | z'
  ·exact m.mem z z'
  ·rw [List.mem_singleton.mp z'];exact .inl (List.mem_of_getElem? hx)
 ·rcases List.mem_append.mp hz with z' | z'
  ·exact m.ua z z' y (by rw [hd];exact List.mem_cons_of_mem _ hy)
  ·rw [List.mem_singleton.mp z']
   obtain ⟨j,hj,ej⟩:=ie hy
   exact fQ ab.sa hx ej (by omega)
 ·rcases List.mem_append.mp hz with z' | z'
  ·exact m.ub z z' y hy
  ·rw [List.mem_singleton.mp z'];exact h y hy
theorem Ab.jw (ab:Ab o N A B) (m:Mg o A B hs ia ib) {x:Nat} (hx:B[ib]?=some x) (h:∀ y∈A.drop ia,P o x y):Mg o A B (hs++[x]) ia (ib+1):=by
 obtain ⟨h1,e1⟩:=List.getElem?_eq_some_iff.mp hx
 have hd:B.drop ib=x::B.drop (ib+1):=by rw [<- e1];exact List.drop_eq_getElem_cons h1
 refine ⟨m.la,by omega,by rw [List.length_append,m.len];rfl,?_,fun z hz=>?_,fun z hz y hy=>?_,fun z hz y hy=>?_⟩
 ·rw [List.pairwise_append]
  exact ⟨m.so,List.pairwise_singleton ..,fun a ha b hb=>by rw [List.mem_singleton.mp hb];exact m.ub a ha x (by rw [hd];exact List.mem_cons_self ..)⟩
 ·rcases List.mem_append.mp hz with z' | z'
  ·exact m.mem z z'
  ·rw [List.mem_singleton.mp z'];exact .inr (List.mem_of_getElem? hx)
 ·rcases List.mem_append.mp hz with z' | z'
  ·exact m.ua z z' y hy
  ·rw [List.mem_singleton.mp z'];exact h y hy
 ·rcases List.mem_append.mp hz with z' | z'
  ·exact m.ub z z' y (by rw [hd];exact List.mem_cons_of_mem _ hy)
  ·rw [List.mem_singleton.mp z']
   obtain ⟨j,hj,ej⟩:=ie hy
   exact fQ ab.sb hx ej (by omega)
theorem eg {l:List Nat} (h:l.Pairwise (P o)) {i x y:Nat} (hx:l[i]?=some x) (hxy:P o y x):∀ z∈l.drop i,P o y z:=fun z hz=>by
 obtain ⟨j,hj,ej⟩:=ie hz
 by_cases c:j=i
 ·subst c;rw [hx] at ej;cases ej;exact hxy
 ·exact hxy.trans (fQ h hx ej (by omega))
theorem take_snoc {l:List Nat} {i k x:Nat} (h:l[i+k]?=some x):(l.drop i).take (k+1)=(l.drop i).take k++[x]:=by
 have h':(l.drop i)[k]?=some x:=by rw [List.getElem?_drop];exact h
 obtain ⟨h1,e1⟩:=List.getElem?_eq_some_iff.mp h'
 rw [List.take_succ_eq_append_getElem h1,e1]
theorem Mg.jF (ab:Ab o N A B) (m:Mg o A B hs ia ib) {y:Nat} (hy:B[ib]?=some y):∀ k,ia+k<=A.length->(∀ i x,i < k->A[ia+i]?=some x->P o x y)->Mg o A B (hs++(A.drop ia).take k) (ia+k) ib
 | 0,_,_=>by rw [List.take_zero,List.append_nil];exact m
 | k+1,hk,h=>by
  have ih:=Mg.jF ab m hy k (by omega) fun i x hi=>h i x (by omega)
  have hx:A[ia+k]?=some (A[ia+k]'(by omega)):=List.getElem?_eq_getElem _
  rw [take_snoc hx,<- List.append_assoc]
  exact ih.i_ ab hx (eg ab.sb hy (h k _ (by omega) hx))
theorem Mg.jI (ab:Ab o N A B) (m:Mg o A B hs ia ib) {y:Nat} (hy:A[ia]?=some y):∀ k,ib+k<=B.length->(∀ i x,i < k->B[ib+i]?=some x->P o x y)->Mg o A B (hs++(B.drop ib).take k) ia (ib+k)
 | 0,_,_=>by rw [List.take_zero,List.append_nil];exact m
 | k+1,hk,h=>by
  have ih:=Mg.jI ab m hy k (by omega) fun i x hi=>h i x (by omega)
  have hx:B[ib+k]?=some (B[ib+k]'(by omega)):=List.getElem?_eq_getElem _
  rw [take_snoc hx,<- List.append_assoc]
  exact ab.jw ih hx (eg ab.sa hy (h k _ (by omega) hx))
theorem jm {l:List Nat} (h:l.Pairwise (P o)) (i:Nat):(l.drop i).Pairwise (P o):=h.sublist (List.drop_sublist ..)
theorem Mg.fin (ab:Ab o N A B) (m:Mg o A B hs ia ib) (h:∀ x∈A.drop ia,∀ y∈B.drop ib,P o x y):Res o f A B (fa f hs++(fa f A).extract ia A.length++(fa f B).extract ib B.length):=by
 rw [jD,jD,dI,dI]
 have la:=m.la
 have lb:=m.lb
 refine ⟨_,rfl,by rw [List.length_append,List.length_append,m.len,List.length_drop,List.length_drop];omega,?_,fun x hx=>?_⟩
 ·rw [List.pairwise_append,List.pairwise_append]
  refine ⟨⟨m.so,jm ab.sa _,m.ua⟩,jm ab.sb _,fun x hx y hy=>?_⟩
  rcases List.mem_append.mp hx with z | z
  ·exact m.ub x z y hy
  ·exact h x z y hy
 ·rcases List.mem_append.mp hx with z | z
  ·rcases List.mem_append.mp z with z | z
   ·exact m.mem x z
   ·exact .inl (List.mem_of_mem_drop z)
  ·exact .inr (List.mem_of_mem_drop z)
theorem Mg.BQ (ab:Ab o N A B) (m:Mg o A B hs ia ib) (h:∀ x∈A.drop ia,∀ y∈B.drop ib,P o y x):Res o f A B (fa f hs++(fa f B).extract ib B.length++(fa f A).extract ia A.length):=by
 rw [jD,jD,dI,dI]
 have la:=m.la
 have lb:=m.lb
 refine ⟨_,rfl,by rw [List.length_append,List.length_append,m.len,List.length_drop,List.length_drop];omega,?_,fun x hx=>?_⟩
 ·rw [List.pairwise_append,List.pairwise_append]
  refine ⟨⟨m.so,jm ab.sb _,m.ub⟩,jm ab.sa _,fun x hx y hy=>?_⟩
  rcases List.mem_append.mp hx with z | z
  ·exact m.ua x z y hy
  ·exact h y hy x z
 ·rcases List.mem_append.mp hx with z | z
  ·rcases List.mem_append.mp z with z | z
   ·exact m.mem x z
   ·exact .inr (List.mem_of_mem_drop z)
  ·exact .inl (List.mem_of_mem_drop z)
theorem drop_nil {l:List Nat} {i:Nat} (h:l.length<=i):l.drop i=[]:=List.drop_eq_nil_of_le h
theorem rK {l:List Nat} (h:l.Pairwise (P o)) (b n:Nat) (hn:b+n<=l.length):So o (fun i=>l.getD (b+i) 0) 0 n:=fun i j _ hij hj=>
 fQ h (i:=b+i) (j:=b+j) (by show _=some (l.getD (b+i) 0);rw [List.getD_eq_getElem?_getD,List.getElem?_eq_getElem (show b+i < l.length by omega)];rfl) (by show _=some (l.getD (b+j) 0);rw [List.getD_eq_getElem?_getD,List.getElem?_eq_getElem (show b+j < l.length by omega)];rfl) (by omega)
theorem getD_at {l:List Nat} {i:Nat} (h:i < l.length):l[i]?=some (l.getD i 0):=by
 rw [List.getD_eq_getElem?_getD,List.getElem?_eq_getElem h];rfl
end
structure Sm (st st':SortSt):Prop where
 a:arrOf st'=arrOf st
 k:kindOf st'=kindOf st
 p:pendingOf st'=pendingOf st
 f:failedOf st'=failedOf st
theorem Sm.refl {st:SortSt}:Sm st st:=⟨rfl,rfl,rfl,rfl⟩
theorem Sm.trans {st st' st'':SortSt} (a:Sm st st') (b:Sm st' st''):Sm st st'':=⟨b.a.trans a.a,b.k.trans a.k,b.p.trans a.p,b.f.trans a.f⟩
noncomputable abbrev G:=Option (Array Keyed)×Array Keyed×Nat×Nat×Nat×Nat×Nat
noncomputable def T3 (a b out:Array Keyed) (ia ib mg ac bc:Nat):StateT SortSt Sem (ForInStep G):=do
 let x <- elem' a ia
 if (ia+1+1 == a.size)=true then pure (ForInStep.done (some (out.push x++b.extract ib b.size++a.extract (ia+1) a.size),out.push x,ia+1,ib,mg,ac,bc))
 else if (decide (ac < 7) && decide (bc < 7))=true then pure (ForInStep.done (none,out.push x,ia+1,ib,mg,ac,bc))
 else pure (ForInStep.yield (none,out.push x,ia+1,ib,mg,ac,bc))
noncomputable def T2 (a b out:Array Keyed) (ia ib mg ac bc:Nat):StateT SortSt Sem (ForInStep G):=do
 let x <- elem' b ib
 if (ib+1 == b.size)=true then pure (ForInStep.done (some (out.push x++a.extract ia a.size++b.extract (ib+1) b.size),out.push x,ia,ib+1,mg,ac,bc))
 else
  let y <- elem' a ia
  let r <- bZ true y b (ib+1) (b.size - (ib+1)) 0
  match r with
  | some k=>
   if k > 0 then
    if (ib+1+k == b.size)=true then pure (ForInStep.done (some (out.push x++b.extract (ib+1) (ib+1+k)++a.extract ia a.size++b.extract (ib+1+k) b.size),out.push x++b.extract (ib+1) (ib+1+k),ia,ib+1+k,mg,ac,k))
    else T3 a b (out.push x++b.extract (ib+1) (ib+1+k)) ia (ib+1+k) mg ac k
   else T3 a b (out.push x) ia (ib+1) mg ac k
  | _=>pure (ForInStep.done (some (out.push x++a.extract ia a.size++b.extract (ib+1) b.size),out.push x,ia,ib+1,mg,ac,bc))
noncomputable def T1 (a b out:Array Keyed) (ia ib mg ac bc:Nat):StateT SortSt Sem (ForInStep G):=do
 ja mg
 let x <- elem' b ib
 let r <- bZ false x a ia (a.size - ia) 0
 match r with
 | some k=>
  if k > 0 then
   if (ia+k+1 == a.size)=true then pure (ForInStep.done (some (out++a.extract ia (ia+k)++b.extract ib b.size++a.extract (ia+k) a.size),out++a.extract ia (ia+k),ia+k,ib,mg,k,bc))
   else if (ia+k == a.size)=true then pure (ForInStep.done (some (out++a.extract ia (ia+k)++a.extract (ia+k) a.size++b.extract ib b.size),out++a.extract ia (ia+k),ia+k,ib,mg,k,bc))
   else T2 a b (out++a.extract ia (ia+k)) (ia+k) ib mg k bc
  else T2 a b out ia ib mg k bc
 | _=>pure (ForInStep.done (some (out++a.extract ia a.size++b.extract ib b.size),out,ia,ib,mg,ac,bc))
section
variable {prog:Program} {w:World} {A:Around} {E:Value->Shared->Prop} {s:Shared} {o:Ord} {N:Nat} {f:Nat->Keyed} {kd:SortKind} {st st0:SortSt} {X Y hs:List Nat} {ia ib:Nat}
theorem gI {m:Nat} (h:Sm st0 st) {Q:Unit->SortSt->Prop} (q:∀ st',Sm st0 st'->Q () st'):wpS (model prog w) A E s (ja m) Q st:=by
 rw [yX];exact wpS_modify (q _ (h.trans ⟨rfl,rfl,rfl,rfl⟩))
noncomputable def On (o:Ord) (f:Nat->Keyed) (X Y:List Nat) (n:Nat) (hs:List Nat) (ia ib:Nat):Prop:=Mg o X Y hs ia ib/\ia+1 < X.length/\ib < Y.length/\n<=ia+ib
noncomputable def G2 (o:Ord) (f:Nat->Keyed) (X Y:List Nat) (n:Nat) (st0:SortSt):ForInStep G->SortSt->Prop:=fun r st'=>Sm st0 st'/\match r with
 | .done c=>(∃ r z,c=(some r,z)/\Res o f X Y r)\/∃ hs ia ib mg ac bc,c=(none,fa f hs,ia,ib,mg,ac,bc)/\On o f X Y n hs ia ib
 | .yield c=>∃ hs ia ib mg ac bc,c=(none,fa f hs,ia,ib,mg,ac,bc)/\On o f X Y n hs ia ib
noncomputable def Top (o:Ord) (X Y:List Nat):Prop:=∀ i x,X[i]?=some x->i+1=X.length->∀ y∈Y,P o y x
theorem GF {α β γ δ κ:Type} {S:Prop} {g:α->β->γ->δ->κ} {O:α->β->γ->δ->Prop} {T:κ->Prop} (k:S->∀ a b c d,O a b c d->T (g a b c d)):∀ q,(S/\∃ a b c d,q=g a b c d/\O a b c d)->T q:=by
 rintro q ⟨s,a,b,c,d,rfl,o⟩;exact k s a b c d o
theorem Gn {α β γ δ ε κ:Type} {S:Prop} {g:α->β->γ->δ->ε->κ} {O:α->β->γ->δ->ε->Prop} {T:κ->Prop} (k:S->∀ a b c d e,O a b c d e->T (g a b c d e)):∀ q,(S/\∃ a b c d e,q=g a b c d e/\O a b c d e)->T q:=by
 rintro q ⟨s,a,b,c,d,e,rfl,o⟩;exact k s a b c d e o
theorem Gr {α β γ δ ε ζ κ:Type} {S:Prop} {g:α->β->γ->δ->ε->ζ->κ} {O:α->β->γ->δ->ε->ζ->Prop} {T:κ->Prop} (k:S->∀ a b c d e f,O a b c d e f->T (g a b c d e f)):∀ q,(S/\∃ a b c d e f,q=g a b c d e f/\O a b c d e f)->T q:=by
 rintro q ⟨s,a,b,c,d,e,f,rfl,o⟩;exact k s a b c d e f o
theorem Gs {α β γ δ ε κ ρ σ:Type} {S:Prop} {j:ρ->σ->κ} {R:ρ->Prop} {g:α->β->γ->δ->ε->κ} {O:α->β->γ->δ->ε->Prop} {T:κ->Prop} (k1:S->∀ r z,R r->T (j r z)) (k:S->∀ a b c d e,O a b c d e->T (g a b c d e)):∀ q,(S/\((∃ r z,q=j r z/\R r)\/∃ a b c d e,q=g a b c d e/\O a b c d e))->T q:=by
 rintro q ⟨s,⟨r,z,rfl,hr⟩ | ⟨a,b,c,d,e,rfl,o⟩⟩
 ·exact k1 s r z hr
 ·exact k s a b c d e o
theorem Gi {α β γ δ ε ζ κ ρ σ:Type} {S:Prop} {j:ρ->σ->κ} {R:ρ->Prop} {g:α->β->γ->δ->ε->ζ->κ} {O:α->β->γ->δ->ε->ζ->Prop} {T:κ->Prop} (k1:S->∀ r z,R r->T (j r z)) (k:S->∀ a b c d e f,O a b c d e f->T (g a b c d e f)):∀ q,(S/\((∃ r z,q=j r z/\R r)\/∃ a b c d e f,q=g a b c d e f/\O a b c d e f))->T q:=by
 rintro q ⟨s,⟨r,z,rfl,hr⟩ | ⟨a,b,c,d,e,f,rfl,o⟩⟩
 ·exact k1 s r z hr
 ·exact k s a b c d e f o
theorem iu (ab:Ab o N X Y) (tp:Top o X Y) (m:Mg o X Y hs ia ib) (h:ia+1=X.length):Res o f X Y (fa f hs++(fa f Y).extract ib Y.length++(fa f X).extract ia X.length):=
 m.BQ ab fun x hx y hy=>by
  obtain ⟨j,hj,ej⟩:=ie hx
  have:=(List.getElem?_eq_some_iff.mp ej).1
  exact tp j x ej (by omega) y (List.mem_of_mem_drop hy)
theorem Aa (ab:Ab o N X Y) (tp:Top o X Y) (hm:Sm st0 st) {n mg ac bc x y:Nat} (m:Mg o X Y hs ia ib) (ha:ia+1 < X.length) (hb:ib < Y.length) (hn:n<=ia+ib) (hx:X[ia]?=some x) (hy:Y[ib]?=some y) (hxy:P o x y) :
  wpS (model prog w) A E s (T3 (fa f X) (fa f Y) (fa f hs) ia ib mg ac bc) (G2 o f X Y n st0) st:=by
 unfold T3
 simp only [fZ]
 refine wpS_bind (aR (b7 hx) ?_)
 have m2:=m.i_ ab hx (eg ab.sb hy hxy)
 rw [ig]
 by_cases c:ia+1+1=X.length
 ·rw [if_pos (by rw [c];exact beq_self_eq_true _)]
  exact wpS_pure ⟨hm,.inl ⟨_,_,rfl,iu ab tp m2 c⟩⟩
 ·rw [if_neg (by simpa using c)]
  by_cases c2:(decide (ac < 7) && decide (bc < 7))=true
  ·rw [if_pos c2]
   exact wpS_pure ⟨hm,.inr ⟨_,_,_,_,_,_,rfl,m2,by omega,hb,by omega⟩⟩
  ·rw [if_neg c2]
   exact wpS_pure ⟨hm,⟨_,_,_,_,_,_,rfl,m2,by omega,hb,by omega⟩⟩
theorem Ad (C:kP prog w A s o N f kd) (hk:kindOf st=kd) (ab:Ab o N X Y) (tp:Top o X Y) (hm:Sm st0 st) {n mg ac bc x y:Nat} (m:Mg o X Y hs ia ib) (ha:ia+1 < X.length) (hb:ib < Y.length) (hn:n<=ia+ib) (hx:X[ia]?=some x) (hy:Y[ib]?=some y) (hxy:P o y x) :
  wpS (model prog w) A E s (T2 (fa f X) (fa f Y) (fa f hs) ia ib mg ac bc) (G2 o f X Y n st0) st:=by
 unfold T2
 simp only [fZ]
 refine wpS_bind (aR (b7 hy) ?_)
 have m2:=ab.jw m hy (eg ab.sa hx hxy)
 rw [ig]
 by_cases c:ib+1=Y.length
 ·rw [if_pos (by rw [c];exact beq_self_eq_true _)]
  exact wpS_pure ⟨hm,.inl ⟨_,_,rfl,m2.fin ab fun x _ y hy=>by rw [drop_nil (by omega)] at hy;cases hy⟩⟩
 ·rw [if_neg (by simpa using c)]
  refine wpS_bind (aR (b7 hx) ?_)
  refine wpS_bind (vG C hk (h:=fun i=>Y.getD (ib+1+i) 0) (fun i hi=>b7 (getD_at (by omega))) (fun i hi=>?_) (rK ab.sb _ _ (by omega)) (by omega) fun k k1 k2 k3=>?_)
  ·have:=List.mem_of_getElem? (getD_at (l:=Y) (i:=ib+1+i) (by omega))
   exact ⟨ab.lt x (List.mem_of_getElem? hx) _ this,ab.nb _ this⟩
  ·dsimp only
   have m3:=m2.jI ab hx k (by omega) fun i z hi ez=>by
    have:=k2 i hi
    rw [List.getD_eq_getElem?_getD,ez] at this
    exact this
   by_cases c2:k > 0
   ·rw [if_pos c2,iL,show ib+1+k - (ib+1)=k by omega,dI]
    by_cases c3:ib+1+k=Y.length
    ·rw [if_pos (by rw [c3];exact beq_self_eq_true _)]
     exact wpS_pure ⟨hm,.inl ⟨_,_,rfl,m3.fin ab fun x _ y hy=>by rw [drop_nil (by omega)] at hy;cases hy⟩⟩
    ·rw [if_neg (by simpa using c3)]
     exact Aa ab tp hm m3 ha (by omega) (by omega) hx (getD_at (by omega)) (k3 k (Nat.le_refl _) (by omega))
   ·rw [if_neg c2]
    have:k=0:=by omega
    subst this
    exact Aa ab tp hm m2 ha (by omega) (by omega) hx (getD_at (by omega)) (k3 0 (Nat.le_refl _) (by omega))
theorem Dr (C:kP prog w A s o N f kd) (hk:kindOf st0=kd) (ab:Ab o N X Y) (tp:Top o X Y) (hm:Sm st0 st) {n mg ac bc:Nat} (m:Mg o X Y hs ia ib) (ha:ia+1 < X.length) (hb:ib < Y.length) (hn:n<=ia+ib) :
  wpS (model prog w) A E s (T1 (fa f X) (fa f Y) (fa f hs) ia ib mg ac bc) (G2 o f X Y n st0) st:=by
 unfold T1
 simp only [fZ]
 refine wpS_bind (gI hm fun st1 hm1=>?_)
 have hy:=getD_at (l:=Y) (i:=ib) hb
 have yB:=List.mem_of_getElem? hy
 refine wpS_bind (aR (b7 hy) ?_)
 refine wpS_bind (u5 C (by rw [hm1.k];exact hk) (h:=fun i=>X.getD (ia+i) 0) (fun i hi=>b7 (getD_at (by omega))) (fun i hi=>ab.lt _ (List.mem_of_getElem? (getD_at (l:=X) (i:=ia+i) (by omega))) _ yB) (ab.nb _ yB) (rK ab.sa _ _ (by omega)) (by omega) fun k k1 k2 k3=>?_)
 dsimp only
 have m3:=m.jF ab hy k (by omega) fun i z hi ez=>by
  have:=k2 i hi
  rw [List.getD_eq_getElem?_getD,ez] at this
  exact this
 by_cases c2:k > 0
 ·rw [if_pos c2,iL,show ia+k - ia=k by omega,dI]
  by_cases c3:ia+k+1=X.length
  ·rw [if_pos (by rw [c3];exact beq_self_eq_true _)]
   exact wpS_pure ⟨hm1,.inl ⟨_,_,rfl,iu ab tp m3 c3⟩⟩
  ·rw [if_neg (by simpa using c3)]
   by_cases c4:ia+k=X.length
   ·rw [if_pos (by rw [c4];exact beq_self_eq_true _)]
    exact wpS_pure ⟨hm1,.inl ⟨_,_,rfl,m3.fin ab fun x hx y _=>by rw [drop_nil (by omega)] at hx;cases hx⟩⟩
   ·rw [if_neg (by simpa using c4)]
    exact Ad C (by rw [hm1.k];exact hk) ab tp hm1 m3 (by omega) hb (by omega) (getD_at (by omega)) hy (k3 k (Nat.le_refl _) (by omega))
 ·rw [if_neg c2]
  have:k=0:=by omega
  subst this
  exact Ad C (by rw [hm1.k];exact hk) ab tp hm1 m ha hb hn (getD_at (by omega)) hy (k3 0 (Nat.le_refl _) (by omega))
theorem DS (C:kP prog w A s o N f kd) (hk:kindOf st=kd) (ab:Ab o N X Y) (tp:Top o X Y) (h1:1<=X.length) {y0:Nat} (hy0:Y[0]?=some y0) (h0:∀ x∈X,P o y0 x)
  {Q:Array Keyed->SortSt->Prop} (q:∀ out st',Sm st st'->Res o f X Y out->Q out st'):wpS (model prog w) A E s (ki (fa f X) (fa f Y)) Q st:=by
 rw [pK]
 refine wpS_bind (wpS_lift (wpAny_rule ⟨rfl,?_⟩))
 dsimp only
 simp only [fZ]
 have hY:=(List.getElem?_eq_some_iff.mp hy0).1
 refine wpS_bind (aR (b7 hy0) ?_)
 have m0:Mg o X Y [] 0 0:=⟨Nat.zero_le _,Nat.zero_le _,rfl,List.Pairwise.nil,(fun _ h=>nomatch h),(fun _ h=>nomatch h),(fun _ h=>nomatch h)⟩
 have m1:Mg o X Y [y0] 0 1:=ab.jw m0 hy0 h0
 have e1:(#[f y0]:Array Keyed)=fa f [y0]:=rfl
 rw [e1]
 by_cases c:1=Y.length
 ·rw [if_pos (by rw [<- c];rfl)]
  exact wpS_pure (q _ _ Sm.refl (m1.fin ab fun x _ y hy=>by rw [drop_nil (by omega)] at hy;cases hy))
 ·rw [if_neg (by simpa using c)]
  by_cases c2:0+1=X.length
  ·rw [if_pos (by rw [<- c2];rfl)]
   exact wpS_pure (q _ _ Sm.refl (iu ab tp m1 c2))
  ·rw [if_neg (by simpa using c2)]
   refine wpS_bind (wpS_get ?_)
   refine wpS_bind (wpS_mono (wpS_forRange (I:=fun x c st'=>Sm st st'/\∃ hs ia ib mg,c=(none,fa f hs,ia,ib,mg)/\On o f X Y (x+1) hs ia ib)
    (Q:=fun c st'=>Sm st st'/\∃ r z,c=(some r,z)/\Res o f X Y r) ?step ?fin ⟨Sm.refl,_,_,_,_,rfl,m1,by omega,by omega,Nat.le_refl _⟩) ?post)
   case post=>
    rintro c st' ⟨hm,r,z,rfl,hr⟩
    exact wpS_pure (q _ _ hm hr)
   case fin=>
    rintro c st' ⟨hm,hs,ia,ib,mg,rfl,m,a1,a2,a3⟩
    exfalso
    omega
   case step=>
    intro x c st' _ hx hh
    revert hh;revert c
    refine GF fun hm hs ia ib mg ho=>?_
    have m:=ho.1;have a1:=ho.2.1;have a2:=ho.2.2.1;have a3:=ho.2.2.2
    clear ho
    dsimp only
    refine wpS_bind (wpS_mono (wpS_forRange (I:=fun x' c st''=>Sm st st''/\∃ hs ia ib ac bc,c=(none,fa f hs,ia,ib,ac,bc)/\On o f X Y (x+1+min x' 1) hs ia ib)
     (Q:=fun c st''=>Sm st st''/\((∃ r z,c=(some r,z)/\Res o f X Y r)\/∃ hs ia ib ac bc,c=(none,fa f hs,ia,ib,ac,bc)/\On o f X Y (x+1+1) hs ia ib)) ?istep ?ifin ⟨hm,_,_,_,_,_,rfl,m,a1,a2,a3⟩) ?ipost)
    case ifin=>
     rintro c st'' ⟨hm',hs,ia,ib,ac,bc,rfl,m,a1,a2,a3⟩
     exact ⟨hm',.inr ⟨_,_,_,_,_,rfl,m,a1,a2,by omega⟩⟩
    case istep=>
     intro x' c st'' _ hx' hh
     revert hh;revert c
     refine Gn fun hm' hs ia ib ac bc ho=>?_
     have m:=ho.1;have a1:=ho.2.1;have a2:=ho.2.2.1;have a3:=ho.2.2.2
     clear ho
     dsimp only
     have hy:=getD_at (l:=Y) (i:=ib) a2
     have hxx:=getD_at (l:=X) (i:=ia) (by omega)
     have yB:=List.mem_of_getElem? hy
     have xA:=List.mem_of_getElem? hxx
     have lt:=ab.lt _ xA _ yB
     refine wpS_bind (aR (b7 hy) ?_)
     refine wpS_bind (aR (b7 hxx) ?_)
     refine wpS_bind (j3 C (by rw [hm'.k];exact hk) (ab.nb _ yB) (ab.na _ xA) ?_)
     cases hl:o.lt (Y.getD ib 0) (X.getD ia 0)
     ·simp only [Bool.false_eq_true,if_false]
      refine wpS_bind (aR (b7 hxx) ?_)
      have m2:=m.i_ ab hxx (eg ab.sb hy (P.jb hl lt))
      rw [ig]
      by_cases c3:ia+1+1=X.length
      ·rw [if_pos (by rw [c3];exact beq_self_eq_true _)]
       exact wpS_pure ⟨hm',.inl ⟨_,_,rfl,iu ab tp m2 c3⟩⟩
      ·rw [if_neg (by simpa using c3)]
       by_cases c4:ac+1>=mg
       ·rw [if_pos c4]
        exact wpS_pure ⟨hm',.inr ⟨_,_,_,_,_,rfl,m2,by omega,a2,by omega⟩⟩
       ·rw [if_neg c4]
        exact wpS_pure ⟨hm',_,_,_,_,_,rfl,m2,by omega,a2,by omega⟩
     ·simp only [if_true]
      refine wpS_bind (aR (b7 hy) ?_)
      have m2:=ab.jw m hy (eg ab.sa hxx (P.of_lt hl))
      rw [ig]
      by_cases c3:ib+1=Y.length
      ·rw [if_pos (by rw [c3];exact beq_self_eq_true _)]
       exact wpS_pure ⟨hm',.inl ⟨_,_,rfl,m2.fin ab fun x _ y hy=>by rw [drop_nil (by omega)] at hy;cases hy⟩⟩
      ·rw [if_neg (by simpa using c3)]
       by_cases c4:bc+1>=mg
       ·rw [if_pos c4]
        exact wpS_pure ⟨hm',.inr ⟨_,_,_,_,_,rfl,m2,a1,by omega,by omega⟩⟩
       ·rw [if_neg c4]
        exact wpS_pure ⟨hm',_,_,_,_,_,rfl,m2,a1,by omega,by omega⟩
    case ipost=>
     intro c st'' hh
     revert hh;revert c
     refine Gs (fun hm' r z hr=>?_) fun hm' hs ia ib ac bc ho=>?_
     ·dsimp only
      exact wpS_pure ⟨hm',r,_,rfl,hr⟩
     ·have m:=ho.1;have a1:=ho.2.1;have a2:=ho.2.2.1;have a3:=ho.2.2.2
      clear ho
      dsimp only
      refine wpS_bind (wpS_lift (wpAny_rule ⟨rfl,?_⟩))
      refine wpS_bind (wpS_mono (wpS_forRange (I:=fun x' c st''=>Sm st st''/\∃ hs ia ib mg ac bc,c=(none,fa f hs,ia,ib,mg,ac,bc)/\On o f X Y (x+1+1) hs ia ib)
       (Q:=fun c st''=>Sm st st''/\((∃ r z,c=(some r,z)/\Res o f X Y r)\/∃ hs ia ib mg ac bc,c=(none,fa f hs,ia,ib,mg,ac,bc)/\On o f X Y (x+1+1) hs ia ib)) ?jstep ?jfin ⟨hm',_,_,_,_,_,_,rfl,m,a1,a2,a3⟩) ?jpost)
      case jfin=>
       rintro c st3 ⟨hm3,hh⟩
       exact ⟨hm3,.inr hh⟩
      case jstep=>
       intro x' c st3 _ hx' hh
       revert hh;revert c
       refine Gr fun hm3 hs ia ib mg ac bc ho=>?_
       have m:=ho.1;have a1:=ho.2.1;have a2:=ho.2.2.1;have a3:=ho.2.2.2
       clear ho
       dsimp only
       have t1:=fun mg=>Dr (n:=x+1+1) (mg:=mg) (ac:=ac) (bc:=bc) (E:=E) C hk ab tp hm3 m a1 a2 a3
       unfold T1 T2 T3 at t1
       simp only [fZ] at t1
       refine wpS_mono (Q:=G2 o f X Y (x+1+1) st) ?_ ?_
       ·by_cases c3:mg > 1
        ·rw [if_pos c3]
         exact t1 (mg - 1)
        ·rw [if_neg c3]
         exact t1 mg
       ·rintro r st4 ⟨hm4,hr⟩
        cases r with
        | done c=>exact ⟨hm4,hr⟩
        | yield c=>exact ⟨hm4,hr⟩
      case jpost=>
       intro c st3 hh
       revert hh;revert c
       refine Gi (fun hm3 r z hr=>?_) fun hm3 hs ia ib mg ac bc ho=>?_
       ·dsimp only
        exact wpS_pure ⟨hm3,r,_,rfl,hr⟩
       ·have m:=ho.1;have a1:=ho.2.1;have a2:=ho.2.2.1;have a3:=ho.2.2.2
        clear ho
        dsimp only
        refine wpS_bind (gI hm3 fun st4 hm4=>?_)
        exact wpS_pure ⟨hm4,_,_,_,_,rfl,m,a1,a2,a3⟩
end
theorem pD (a b:Array Keyed):jQ a b=(do
 rule "list.sort.merge-hi"
 let all_:=a.size+b.size
 let end1 (acc:Array Keyed) (p q:Nat):=a.extract 0 p++b.extract 0 q++acc.reverse
 let end2 (acc:Array Keyed) (p q:Nat):=b.extract 0 q++a.extract 0 p++acc.reverse
 let mut p:=a.size - 1
 let mut q:=b.size
 let mut acc:Array Keyed:=#[<- elem' a p]
 if p == 0 then return end1 acc p q
 if q == 1 then return end2 acc p q
 let mut mg:=gallopOf (<- get)
 for _ in [0:all_] do
  let mut ca:=0
  let mut cb:=0
  for _ in [0:all_] do
   let some won <- lt' (<- elem' b (q - 1)) (<- elem' a (p - 1)) | return end1 acc p q
   if won then
    p:=p - 1;acc:=acc.push (<- elem' a p);ca:=ca+1;cb:=0
    if p == 0 then return end1 acc p q
    if ca>=mg then break
   else
    q:=q - 1;acc:=acc.push (<- elem' b q);cb:=cb+1;ca:=0
    if q == 1 then return end2 acc p q
    if cb>=mg then break
  rule "list.sort.gallop"
  mg:=mg+1
  for _ in [0:all_] do
   if mg > 1 then mg:=mg - 1
   ja mg
   let some t <- bZ false (<- elem' b (q - 1)) a 0 p (p - 1) | return end1 acc p q
   let k:=p - t
   ca:=k
   if k > 0 then
    acc:=acc++(a.extract t p).reverse;p:=t
    if p == 0 then return end1 acc p q
   q:=q - 1;acc:=acc.push (<- elem' b q)
   if q == 1 then return end2 acc p q
   let some t <- bZ true (<- elem' a (p - 1)) b 0 q (q - 1) | return end1 acc p q
   let k:=q - t
   cb:=k
   if k > 0 then
    acc:=acc++(b.extract t q).reverse;q:=t
    if q == 1 then return end2 acc p q
    if q == 0 then return end1 acc p q
   p:=p - 1;acc:=acc.push (<- elem' a p)
   if p == 0 then return end1 acc p q
   if ca < 7 && cb < 7 then break
  mg:=mg+1
  ja mg
 unsupported "internal:list.sort.merge-bound"):=rfl
section
variable {o:Ord} {N:Nat} {f:Nat->Keyed} {A B ts:List Nat} {na nb:Nat}
theorem vV (l:List Nat):(fa f l).reverse=fa f l.reverse:=by
 unfold fa;rw [List.reverse_toArray,List.map_reverse]
theorem jq (l:List Nat) (i:Nat):(fa f l).extract 0 i=fa f (l.take i):=by
 rw [iL,List.drop_zero,Nat.sub_zero]
structure Mh (o:Ord) (A B ts:List Nat) (na nb:Nat):Prop where
 la:na<=A.length
 lb:nb<=B.length
 len:ts.length+na+nb=A.length+B.length
 so:ts.Pairwise (P o)
 mem:∀ x∈ts,x∈A\/x∈B
 ua:∀ y∈A.take na,∀ x∈ts,P o y x
 ub:∀ y∈B.take nb,∀ x∈ts,P o y x
theorem ir {l:List Nat} {i y:Nat} (h:y∈l.take i):∃ j,j < i/\l[j]?=some y:=by
 obtain ⟨k,hk⟩:=List.getElem?_of_mem h
 have:=(List.getElem?_eq_some_iff.mp hk).1
 rw [List.length_take] at this
 rw [List.getElem?_take_of_lt (by omega)] at hk
 exact ⟨k,by omega,hk⟩
theorem take_one {l:List Nat} {i x:Nat} (h:l[i]?=some x):l.take (i+1)=l.take i++[x]:=by
 obtain ⟨h1,e1⟩:=List.getElem?_eq_some_iff.mp h
 rw [List.take_succ_eq_append_getElem h1,e1]
theorem Mh.i_ (ab:Ab o N A B) (m:Mh o A B ts (na+1) nb) {x:Nat} (hx:A[na]?=some x) (h:∀ y∈B.take nb,P o y x):Mh o A B (x::ts) na nb:=by
 have la:=m.la
 have len:=m.len
 have ht:=take_one hx
 have xin:x∈A.take (na+1):=by rw [ht];exact List.mem_append_right _ (List.mem_singleton.mpr rfl)
 refine ⟨by omega,m.lb,by rw [List.length_cons];omega,List.pairwise_cons.mpr ⟨fun y hy=>m.ua x xin y hy,m.so⟩,fun z hz=>?_,fun y hy z hz=>?_,fun y hy z hz=>?_⟩
 ·rcases List.mem_cons.mp hz with rfl | z'
  ·exact .inl (List.mem_of_getElem? hx)
  ·exact m.mem z z'
 ·rcases List.mem_cons.mp hz with rfl | z'
  ·obtain ⟨j,hj,ej⟩:=ir hy
   exact fQ ab.sa ej hx hj
  ·exact m.ua y (by rw [ht];exact List.mem_append_left _ hy) z z'
 ·rcases List.mem_cons.mp hz with rfl | z'
  ·exact h y hy
  ·exact m.ub y hy z z'
theorem Mh.uE (ab:Ab o N A B) (m:Mh o A B ts na (nb+1)) {x:Nat} (hx:B[nb]?=some x) (h:∀ y∈A.take na,P o y x):Mh o A B (x::ts) na nb:=by
 have lb:=m.lb
 have len:=m.len
 have ht:=take_one hx
 have xin:x∈B.take (nb+1):=by rw [ht];exact List.mem_append_right _ (List.mem_singleton.mpr rfl)
 refine ⟨m.la,by omega,by rw [List.length_cons];omega,List.pairwise_cons.mpr ⟨fun y hy=>m.ub x xin y hy,m.so⟩,fun z hz=>?_,fun y hy z hz=>?_,fun y hy z hz=>?_⟩
 ·rcases List.mem_cons.mp hz with rfl | z'
  ·exact .inr (List.mem_of_getElem? hx)
  ·exact m.mem z z'
 ·rcases List.mem_cons.mp hz with rfl | z'
  ·exact h y hy
  ·exact m.ua y hy z z'
 ·rcases List.mem_cons.mp hz with rfl | z'
  ·obtain ⟨j,hj,ej⟩:=ir hy
   exact fQ ab.sb ej hx hj
  ·exact m.ub y (by rw [ht];exact List.mem_append_left _ hy) z z'
theorem eG {l:List Nat} (h:l.Pairwise (P o)) {i x y:Nat} (hx:l[i]?=some x) (hxy:P o x y):∀ z∈l.take (i+1),P o z y:=fun z hz=>by
 obtain ⟨j,hj,ej⟩:=ir hz
 by_cases c:j=i
 ·subst c;rw [hx] at ej;cases ej;exact hxy
 ·exact (fQ h ej hx (by omega)).trans hxy
theorem Mh.jF (ab:Ab o N A B) {y:Nat} {mb:Nat} (hy:B[mb]?=some y):∀ (k:Nat) {ts:List Nat} {at_:Nat},Mh o A B ts (at_+k) (mb+1)->(∀ i x,at_<=i->i < at_+k->A[i]?=some x->P o y x)->Mh o A B ((A.drop at_).take k++ts) at_ (mb+1)
 | 0,ts,at_,m,_=>by rw [List.take_zero];exact m
 | k+1,ts,at_,m,h=>by
  have la:=m.la
  have hx:A[at_+k]?=some (A[at_+k]'(by omega)):=List.getElem?_eq_getElem _
  have m2:=Mh.i_ ab (show Mh o A B ts (at_+k+1) (mb+1) from m) hx (eG ab.sb hy (h _ _ (by omega) (by omega) hx))
  have m3:=Mh.jF ab hy k m2 fun i x h1 h2=>h i x h1 (by omega)
  rw [take_snoc hx,List.append_assoc]
  exact m3
theorem Mh.jI (ab:Ab o N A B) {y:Nat} {ma:Nat} (hy:A[ma]?=some y):∀ (k:Nat) {ts:List Nat} {at_:Nat},Mh o A B ts (ma+1) (at_+k)->(∀ i x,at_<=i->i < at_+k->B[i]?=some x->P o y x)->Mh o A B ((B.drop at_).take k++ts) (ma+1) at_
 | 0,ts,at_,m,_=>by rw [List.take_zero];exact m
 | k+1,ts,at_,m,h=>by
  have lb:=m.lb
  have hx:B[at_+k]?=some (B[at_+k]'(by omega)):=List.getElem?_eq_getElem _
  have m2:=Mh.uE ab (show Mh o A B ts (ma+1) (at_+k+1) from m) hx (eG ab.sa hy (h _ _ (by omega) (by omega) hx))
  have m3:=Mh.jI ab hy k m2 fun i x h1 h2=>h i x h1 (by omega)
  rw [take_snoc hx,List.append_assoc]
  exact m3
theorem jx {l:List Nat} (h:l.Pairwise (P o)) (i:Nat):(l.take i).Pairwise (P o):=h.sublist (List.take_sublist ..)
theorem Mh.fin (ab:Ab o N A B) (m:Mh o A B ts na nb) (h:∀ x∈A.take na,∀ y∈B.take nb,P o x y):Res o f A B ((fa f A).extract 0 na++(fa f B).extract 0 nb++fa f ts):=by
 rw [jq,jq,dI,dI]
 have la:=m.la
 have lb:=m.lb
 have len:=m.len
 refine ⟨_,rfl,by rw [List.length_append,List.length_append,List.length_take,List.length_take];omega,?_,fun x hx=>?_⟩
 ·rw [List.pairwise_append,List.pairwise_append]
  refine ⟨⟨jx ab.sa _,jx ab.sb _,h⟩,m.so,fun x hx y hy=>?_⟩
  rcases List.mem_append.mp hx with z | z
  ·exact m.ua x z y hy
  ·exact m.ub x z y hy
 ·rcases List.mem_append.mp hx with z | z
  ·rcases List.mem_append.mp z with z | z
   ·exact .inl (List.mem_of_mem_take z)
   ·exact .inr (List.mem_of_mem_take z)
  ·exact m.mem x z
theorem Mh.BQ (ab:Ab o N A B) (m:Mh o A B ts na nb) (h:∀ x∈A.take na,∀ y∈B.take nb,P o y x):Res o f A B ((fa f B).extract 0 nb++(fa f A).extract 0 na++fa f ts):=by
 rw [jq,jq,dI,dI]
 have la:=m.la
 have lb:=m.lb
 have len:=m.len
 refine ⟨_,rfl,by rw [List.length_append,List.length_append,List.length_take,List.length_take];omega,?_,fun x hx=>?_⟩
 ·rw [List.pairwise_append,List.pairwise_append]
  refine ⟨⟨jx ab.sb _,jx ab.sa _,fun x hx y hy=>h y hy x hx⟩,m.so,fun x hx y hy=>?_⟩
  rcases List.mem_append.mp hx with z | z
  ·exact m.ub x z y hy
  ·exact m.ua x z y hy
 ·rcases List.mem_append.mp hx with z | z
  ·rcases List.mem_append.mp z with z | z
   ·exact .inr (List.mem_of_mem_take z)
   ·exact .inl (List.mem_of_mem_take z)
  ·exact m.mem x z
noncomputable def Dq (o:Ord) (X Y:List Nat):Prop:=∀ y,Y[0]?=some y->∀ x∈X,P o y x
theorem f_ (ab:Ab o N A B) (bt:Dq o A B) (m:Mh o A B ts na nb) (h:nb=1):Res o f A B ((fa f B).extract 0 nb++(fa f A).extract 0 na++fa f ts):=
 m.BQ ab fun x hx y hy=>by
  obtain ⟨j,hj,ej⟩:=ir hy
  have:j=0:=by omega
  subst this
  exact bt y ej x (List.mem_of_mem_take hx)
theorem Mh.om (ab:Ab o N A B) (m:Mh o A B ts na nb) (h:na=0\/nb=0):Res o f A B ((fa f A).extract 0 na++(fa f B).extract 0 nb++fa f ts):=
 m.fin ab fun x hx y hy=>by
  rcases h with rfl | rfl
  ·rw [List.take_zero] at hx;cases hx
  ·rw [List.take_zero] at hy;cases hy
theorem jo (l:List Nat) (x:Nat):(fa f l.reverse).push (f x)=fa f (x::l).reverse:=by rw [ig,List.reverse_cons]
theorem yp (l m:List Nat):fa f l.reverse++(fa f m).reverse=fa f (m++l).reverse:=by rw [vV,dI,List.reverse_append]
theorem gz (l:List Nat):(fa f l.reverse).reverse=fa f l:=by rw [vV,List.reverse_reverse]
end
noncomputable abbrev H:=Option (Array Keyed)×Nat×Nat×Array Keyed×Nat×Nat×Nat
noncomputable def U3 (a b out:Array Keyed) (na nb mg ac bc:Nat):StateT SortSt Sem (ForInStep H):=do
 let x <- elem' a (na - 1)
 if (na - 1 == 0)=true then pure (ForInStep.done (some (a.extract 0 (na - 1)++b.extract 0 nb++(out.push x).reverse),na - 1,nb,out.push x,mg,ac,bc))
 else if (decide (ac < 7) && decide (bc < 7))=true then pure (ForInStep.done (none,na - 1,nb,out.push x,mg,ac,bc))
 else pure (ForInStep.yield (none,na - 1,nb,out.push x,mg,ac,bc))
noncomputable def U2 (a b out:Array Keyed) (na nb mg ac bc:Nat):StateT SortSt Sem (ForInStep H):=do
 let x <- elem' b (nb - 1)
 if (nb - 1 == 1)=true then pure (ForInStep.done (some (b.extract 0 (nb - 1)++a.extract 0 na++(out.push x).reverse),na,nb - 1,out.push x,mg,ac,bc))
 else
  let y <- elem' a (na - 1)
  let r <- bZ true y b 0 (nb - 1) (nb - 1 - 1)
  match r with
  | some t=>
   if nb - 1 - t > 0 then
    if (t == 1)=true then pure (ForInStep.done (some (b.extract 0 t++a.extract 0 na++(out.push x++(b.extract t (nb - 1)).reverse).reverse),na,t,out.push x++(b.extract t (nb - 1)).reverse,mg,ac,nb - 1 - t))
    else if (t == 0)=true then pure (ForInStep.done (some (a.extract 0 na++b.extract 0 t++(out.push x++(b.extract t (nb - 1)).reverse).reverse),na,t,out.push x++(b.extract t (nb - 1)).reverse,mg,ac,nb - 1 - t))
    else U3 a b (out.push x++(b.extract t (nb - 1)).reverse) na t mg ac (nb - 1 - t)
   else U3 a b (out.push x) na (nb - 1) mg ac (nb - 1 - t)
  | _=>pure (ForInStep.done (some (a.extract 0 na++b.extract 0 (nb - 1)++(out.push x).reverse),na,nb - 1,out.push x,mg,ac,bc))
noncomputable def U1 (a b out:Array Keyed) (na nb mg ac bc:Nat):StateT SortSt Sem (ForInStep H):=do
 ja mg
 let x <- elem' b (nb - 1)
 let r <- bZ false x a 0 na (na - 1)
 match r with
 | some t=>
  if na - t > 0 then
   if (t == 0)=true then pure (ForInStep.done (some (a.extract 0 t++b.extract 0 nb++(out++(a.extract t na).reverse).reverse),t,nb,out++(a.extract t na).reverse,mg,na - t,bc))
   else U2 a b (out++(a.extract t na).reverse) t nb mg (na - t) bc
  else U2 a b out na nb mg (na - t) bc
 | _=>pure (ForInStep.done (some (a.extract 0 na++b.extract 0 nb++out.reverse),na,nb,out,mg,ac,bc))
section
variable {prog:Program} {w:World} {A:Around} {E:Value->Shared->Prop} {s:Shared} {o:Ord} {N:Nat} {f:Nat->Keyed} {kd:SortKind} {st st0:SortSt} {X Y ts:List Nat} {na nb:Nat}
noncomputable def Oh (o:Ord) (X Y:List Nat) (n:Nat) (ts:List Nat) (na nb:Nat):Prop:=Mh o X Y ts na nb/\1<=na/\2<=nb/\na+nb+n<=X.length+Y.length
noncomputable def H2 (o:Ord) (f:Nat->Keyed) (X Y:List Nat) (n:Nat) (st0:SortSt):ForInStep H->SortSt->Prop:=fun r st'=>Sm st0 st'/\match r with
 | .done c=>(∃ r z,c=(some r,z)/\Res o f X Y r)\/∃ ts na nb mg ac bc,c=(none,na,nb,fa f ts.reverse,mg,ac,bc)/\Oh o X Y n ts na nb
 | .yield c=>∃ ts na nb mg ac bc,c=(none,na,nb,fa f ts.reverse,mg,ac,bc)/\Oh o X Y n ts na nb
theorem AR (ab:Ab o N X Y) (hm:Sm st0 st) {n mg ac bc x y:Nat} (m:Mh o X Y ts (na+1) (nb+1)) (hb:1<=nb) (hn:na+1+(nb+1)+n<=X.length+Y.length) (hx:X[na]?=some x) (hy:Y[nb]?=some y) (hxy:P o y x) :
  wpS (model prog w) A E s (U3 (fa f X) (fa f Y) (fa f ts.reverse) (na+1) (nb+1) mg ac bc) (H2 o f X Y n st0) st:=by
 unfold U3
 rw [show na+1 - 1=na by omega]
 refine wpS_bind (aR (b7 hx) ?_)
 have m2:=m.i_ ab hx (eG ab.sb hy hxy)
 rw [jo,gz]
 by_cases c:na=0
 ·rw [if_pos (by rw [c];rfl)]
  exact wpS_pure ⟨hm,.inl ⟨_,_,rfl,m2.om ab (.inl c)⟩⟩
 ·rw [if_neg (by simpa using c)]
  by_cases c2:(decide (ac < 7) && decide (bc < 7))=true
  ·rw [if_pos c2]
   exact wpS_pure ⟨hm,.inr ⟨_,_,_,_,_,_,rfl,m2,by omega,by omega,by omega⟩⟩
  ·rw [if_neg c2]
   exact wpS_pure ⟨hm,⟨_,_,_,_,_,_,rfl,m2,by omega,by omega,by omega⟩⟩
theorem AQ (C:kP prog w A s o N f kd) (hk:kindOf st=kd) (ab:Ab o N X Y) (bt:Dq o X Y) (hm:Sm st0 st) {n mg ac bc x y:Nat} (m:Mh o X Y ts (na+1) (nb+1)) (hb:1<=nb) (hn:na+1+(nb+1)+n<=X.length+Y.length) (hx:X[na]?=some x) (hy:Y[nb]?=some y) (hxy:P o x y) :
  wpS (model prog w) A E s (U2 (fa f X) (fa f Y) (fa f ts.reverse) (na+1) (nb+1) mg ac bc) (H2 o f X Y n st0) st:=by
 unfold U2
 rw [show nb+1 - 1=nb by omega,show na+1 - 1=na by omega]
 refine wpS_bind (aR (b7 hy) ?_)
 have m2:=m.uE ab hy (eG ab.sa hx hxy)
 have lb:=m.lb
 rw [jo,gz]
 by_cases c:nb=1
 ·rw [if_pos (by rw [c];rfl)]
  exact wpS_pure ⟨hm,.inl ⟨_,_,rfl,f_ ab bt m2 c⟩⟩
 ·rw [if_neg (by simpa using c)]
  refine wpS_bind (aR (b7 hx) ?_)
  refine wpS_bind (vG C hk (h:=fun i=>Y.getD (0+i) 0) (fun i hi=>b7 (getD_at (by omega))) (fun i hi=>?_) (rK ab.sb _ _ (by omega)) (by omega) fun t t1 t2 t3=>?_)
  ·have:=List.mem_of_getElem? (getD_at (l:=Y) (i:=0+i) (by omega))
   exact ⟨ab.lt x (List.mem_of_getElem? hx) _ this,ab.nb _ this⟩
  ·dsimp only
   have m3:=Mh.jI ab hx (nb - t) (at_:=t) (by rw [show t+(nb - t)=nb by omega];exact m2) fun i z hi1 hi2 ez=>by
    have:=t3 i hi1 (by omega)
    rw [Nat.zero_add,List.getD_eq_getElem?_getD (l:=Y),ez] at this
    exact this
   by_cases c2:nb - t > 0
   ·rw [if_pos c2,iL Y t nb,yp,gz]
    by_cases c3:t=1
    ·rw [if_pos (by rw [c3];rfl)]
     exact wpS_pure ⟨hm,.inl ⟨_,_,rfl,f_ ab bt m3 c3⟩⟩
    ·rw [if_neg (by simpa using c3)]
     by_cases c4:t=0
     ·rw [if_pos (by rw [c4];rfl)]
      exact wpS_pure ⟨hm,.inl ⟨_,_,rfl,m3.om ab (.inr c4)⟩⟩
     ·rw [if_neg (by simpa using c4)]
      obtain ⟨u,rfl⟩:∃ u,t=u+1:=⟨t - 1,by omega⟩
      have:=t2 u (by omega)
      rw [Nat.zero_add] at this
      exact AR ab hm m3 (by omega) (by omega) hx (getD_at (by omega)) this
   ·rw [if_neg c2]
    have:t=nb:=by omega
    subst this
    obtain ⟨u,rfl⟩:∃ u,t=u+1:=⟨t - 1,by omega⟩
    have:=t2 u (by omega)
    rw [Nat.zero_add] at this
    exact AR ab hm m2 (by omega) (by omega) hx (getD_at (by omega)) this
theorem DU (C:kP prog w A s o N f kd) (hk:kindOf st0=kd) (ab:Ab o N X Y) (bt:Dq o X Y) (hm:Sm st0 st) {n mg ac bc:Nat} (m:Mh o X Y ts (na+1) (nb+1)) (hb:1<=nb) (hn:na+1+(nb+1)+n<=X.length+Y.length) :
  wpS (model prog w) A E s (U1 (fa f X) (fa f Y) (fa f ts.reverse) (na+1) (nb+1) mg ac bc) (H2 o f X Y n st0) st:=by
 unfold U1
 refine wpS_bind (gI hm fun st1 hm1=>?_)
 have lb:=m.lb
 have la:=m.la
 rw [show nb+1 - 1=nb by omega,show na+1 - 1=na by omega]
 have hy:=getD_at (l:=Y) (i:=nb) (by omega)
 have yB:=List.mem_of_getElem? hy
 refine wpS_bind (aR (b7 hy) ?_)
 refine wpS_bind (u5 C (by rw [hm1.k];exact hk) (h:=fun i=>X.getD (0+i) 0) (fun i hi=>b7 (getD_at (by omega))) (fun i hi=>ab.lt _ (List.mem_of_getElem? (getD_at (l:=X) (i:=0+i) (by omega))) _ yB) (ab.nb _ yB) (rK ab.sa _ _ (by omega)) (by omega) fun t t1 t2 t3=>?_)
 dsimp only
 have m3:=Mh.jF ab hy (na+1 - t) (at_:=t) (by rw [show t+(na+1 - t)=na+1 by omega];exact m) fun i z hi1 hi2 ez=>by
  have:=t3 i hi1 (by omega)
  rw [Nat.zero_add,List.getD_eq_getElem?_getD (l:=X),ez] at this
  exact this
 by_cases c2:na+1 - t > 0
 ·rw [if_pos c2,iL X t (na+1),yp,gz]
  by_cases c4:t=0
  ·rw [if_pos (by rw [c4];rfl)]
   exact wpS_pure ⟨hm1,.inl ⟨_,_,rfl,m3.om ab (.inl c4)⟩⟩
  ·rw [if_neg (by simpa using c4)]
   obtain ⟨u,rfl⟩:∃ u,t=u+1:=⟨t - 1,by omega⟩
   have:=t2 u (by omega)
   rw [Nat.zero_add] at this
   exact AQ C (by rw [hm1.k];exact hk) ab bt hm1 m3 hb (by omega) (getD_at (by omega)) hy this
 ·rw [if_neg c2]
  have:t=na+1:=by omega
  subst this
  have:=t2 na (by omega)
  rw [Nat.zero_add] at this
  exact AQ C (by rw [hm1.k];exact hk) ab bt hm1 m hb hn (getD_at (by omega)) hy this
theorem Dz (C:kP prog w A s o N f kd) (hk:kindOf st=kd) (ab:Ab o N X Y) (tp:Top o X Y) (bt:Dq o X Y) (h1:1<=X.length) (h2:1<=Y.length)
  {Q:Array Keyed->SortSt->Prop} (q:∀ out st',Sm st st'->Res o f X Y out->Q out st'):wpS (model prog w) A E s (jQ (fa f X) (fa f Y)) Q st:=by
 rw [pD]
 refine wpS_bind (wpS_lift (wpAny_rule ⟨rfl,?_⟩))
 dsimp only
 simp only [fZ]
 have hx0:=getD_at (l:=X) (i:=X.length - 1) (by omega)
 refine wpS_bind (aR (b7 hx0) ?_)
 have m0:Mh o X Y [] (X.length - 1+1) Y.length:=⟨by omega,Nat.le_refl _,by rw [List.length_nil];omega,List.Pairwise.nil,(fun _ h=>nomatch h),(fun _ _ _ h=>nomatch h),(fun _ _ _ h=>nomatch h)⟩
 have m1:=m0.i_ ab hx0 fun y hy=>tp _ _ hx0 (by omega) y (List.mem_of_mem_take hy)
 obtain ⟨x0,ex0⟩:∃ x0,x0=X.getD (X.length - 1) 0:=⟨_,rfl⟩
 rw [<- ex0] at m1 ⊢
 have e1:(#[f x0]:Array Keyed)=fa f [x0].reverse:=rfl
 rw [e1,gz]
 by_cases c:X.length - 1=0
 ·rw [if_pos (by rw [c];rfl)]
  exact wpS_pure (q _ _ Sm.refl (m1.om ab (.inl c)))
 ·rw [if_neg (by simpa using c)]
  by_cases c2:Y.length=1
  ·rw [if_pos (by rw [c2];rfl)]
   exact wpS_pure (q _ _ Sm.refl (f_ ab bt m1 c2))
  ·rw [if_neg (by simpa using c2)]
   refine wpS_bind (wpS_get ?_)
   refine wpS_bind (wpS_mono (wpS_forRange (I:=fun x c st'=>Sm st st'/\∃ ts na nb mg,c=(none,na,nb,fa f ts.reverse,mg)/\Oh o X Y (x+1) ts na nb)
    (Q:=fun c st'=>Sm st st'/\∃ r z,c=(some r,z)/\Res o f X Y r) ?step ?fin ⟨Sm.refl,_,_,_,_,rfl,m1,by omega,by omega,by omega⟩) ?post)
   case post=>
    rintro c st' ⟨hm,r,z,rfl,hr⟩
    exact wpS_pure (q _ _ hm hr)
   case fin=>
    rintro c st' ⟨hm,ts,na,nb,mg,rfl,m,a1,a2,a3⟩
    exfalso
    omega
   case step=>
    intro x c st' _ hx hh
    revert hh;revert c
    refine GF fun hm ts na nb mg ho=>?_
    have m:=ho.1;have a1:=ho.2.1;have a2:=ho.2.2.1;have a3:=ho.2.2.2
    clear ho
    dsimp only
    refine wpS_bind (wpS_mono (wpS_forRange (I:=fun x' c st''=>Sm st st''/\∃ ts na nb ac bc,c=(none,na,nb,fa f ts.reverse,ac,bc)/\Oh o X Y (x+1+min x' 1) ts na nb)
     (Q:=fun c st''=>Sm st st''/\((∃ r z,c=(some r,z)/\Res o f X Y r)\/∃ ts na nb ac bc,c=(none,na,nb,fa f ts.reverse,ac,bc)/\Oh o X Y (x+1+1) ts na nb)) ?istep ?ifin ⟨hm,_,_,_,_,_,rfl,m,a1,a2,a3⟩) ?ipost)
    case ifin=>
     rintro c st'' ⟨hm',ts,na,nb,ac,bc,rfl,m,a1,a2,a3⟩
     exact ⟨hm',.inr ⟨_,_,_,_,_,rfl,m,a1,a2,by omega⟩⟩
    case istep=>
     intro x' c st'' _ hx' hh
     revert hh;revert c
     refine Gn fun hm' ts na nb ac bc ho=>?_
     have m:=ho.1;have a1:=ho.2.1;have a2:=ho.2.2.1;have a3:=ho.2.2.2
     clear ho
     dsimp only
     obtain ⟨u,rfl⟩:∃ u,na=u+1:=⟨na - 1,by omega⟩
     obtain ⟨v,rfl⟩:∃ v,nb=v+1:=⟨nb - 1,by omega⟩
     have la:=m.la
     have lb:=m.lb
     rw [show u+1 - 1=u by omega,show v+1 - 1=v by omega]
     have hy:=getD_at (l:=Y) (i:=v) (by omega)
     have hxx:=getD_at (l:=X) (i:=u) (by omega)
     have yB:=List.mem_of_getElem? hy
     have xA:=List.mem_of_getElem? hxx
     have lt:=ab.lt _ xA _ yB
     refine wpS_bind (aR (b7 hy) ?_)
     refine wpS_bind (aR (b7 hxx) ?_)
     refine wpS_bind (j3 C (by rw [hm'.k];exact hk) (ab.nb _ yB) (ab.na _ xA) ?_)
     cases hl:o.lt (Y.getD v 0) (X.getD u 0)
     ·simp only [Bool.false_eq_true,if_false]
      refine wpS_bind (aR (b7 hy) ?_)
      have m2:=m.uE ab hy (eG ab.sa hxx (P.jb hl lt))
      rw [jo,gz]
      by_cases c3:v=1
      ·rw [if_pos (by rw [c3];rfl)]
       exact wpS_pure ⟨hm',.inl ⟨_,_,rfl,f_ ab bt m2 c3⟩⟩
      ·rw [if_neg (by simpa using c3)]
       by_cases c4:bc+1>=mg
       ·rw [if_pos c4]
        exact wpS_pure ⟨hm',.inr ⟨_,_,_,_,_,rfl,m2,a1,by omega,by omega⟩⟩
       ·rw [if_neg c4]
        exact wpS_pure ⟨hm',_,_,_,_,_,rfl,m2,a1,by omega,by omega⟩
     ·simp only [if_true]
      refine wpS_bind (aR (b7 hxx) ?_)
      have m2:=m.i_ ab hxx (eG ab.sb hy (P.of_lt hl))
      rw [jo,gz]
      by_cases c3:u=0
      ·rw [if_pos (by rw [c3];rfl)]
       exact wpS_pure ⟨hm',.inl ⟨_,_,rfl,m2.om ab (.inl c3)⟩⟩
      ·rw [if_neg (by simpa using c3)]
       by_cases c4:ac+1>=mg
       ·rw [if_pos c4]
        exact wpS_pure ⟨hm',.inr ⟨_,_,_,_,_,rfl,m2,by omega,a2,by omega⟩⟩
       ·rw [if_neg c4]
        exact wpS_pure ⟨hm',_,_,_,_,_,rfl,m2,by omega,a2,by omega⟩
    case ipost=>
     intro c st'' hh
     revert hh;revert c
     refine Gs (fun hm' r z hr=>?_) fun hm' ts na nb ac bc ho=>?_
     ·dsimp only
      exact wpS_pure ⟨hm',r,_,rfl,hr⟩
     ·have m:=ho.1;have a1:=ho.2.1;have a2:=ho.2.2.1;have a3:=ho.2.2.2
      clear ho
      dsimp only
      refine wpS_bind (wpS_lift (wpAny_rule ⟨rfl,?_⟩))
      refine wpS_bind (wpS_mono (wpS_forRange (I:=fun x' c st''=>Sm st st''/\∃ ts na nb mg ac bc,c=(none,na,nb,fa f ts.reverse,mg,ac,bc)/\Oh o X Y (x+1+1) ts na nb)
       (Q:=fun c st''=>Sm st st''/\((∃ r z,c=(some r,z)/\Res o f X Y r)\/∃ ts na nb mg ac bc,c=(none,na,nb,fa f ts.reverse,mg,ac,bc)/\Oh o X Y (x+1+1) ts na nb)) ?jstep ?jfin ⟨hm',_,_,_,_,_,_,rfl,m,a1,a2,a3⟩) ?jpost)
      case jfin=>
       rintro c st3 ⟨hm3,hh⟩
       exact ⟨hm3,.inr hh⟩
      case jstep=>
       intro x' c st3 _ hx' hh
       revert hh;revert c
       refine Gr fun hm3 ts na nb mg ac bc ho=>?_
       have m:=ho.1;have a1:=ho.2.1;have a2:=ho.2.2.1;have a3:=ho.2.2.2
       clear ho
       dsimp only
       obtain ⟨u,rfl⟩:∃ u,na=u+1:=⟨na - 1,by omega⟩
       obtain ⟨v,rfl⟩:∃ v,nb=v+1:=⟨nb - 1,by omega⟩
       have t1:=fun mg=>DU (n:=x+1+1) (mg:=mg) (ac:=ac) (bc:=bc) (E:=E) C hk ab bt hm3 m (by omega) a3
       unfold U1 U2 U3 at t1
       refine wpS_mono (Q:=H2 o f X Y (x+1+1) st) ?_ ?_
       ·by_cases c3:mg > 1
        ·rw [if_pos c3]
         exact t1 (mg - 1)
        ·rw [if_neg c3]
         exact t1 mg
       ·rintro r st4 ⟨hm4,hr⟩
        cases r with
        | done c=>exact ⟨hm4,hr⟩
        | yield c=>exact ⟨hm4,hr⟩
      case jpost=>
       intro c st3 hh
       revert hh;revert c
       refine Gi (fun hm3 r z hr=>?_) fun hm3 ts na nb mg ac bc ho=>?_
       ·dsimp only
        exact wpS_pure ⟨hm3,r,_,rfl,hr⟩
       ·have m:=ho.1;have a1:=ho.2.1;have a2:=ho.2.2.1;have a3:=ho.2.2.2
        clear ho
        dsimp only
        refine wpS_bind (gI hm3 fun st4 hm4=>?_)
        exact wpS_pure ⟨hm4,_,_,_,_,rfl,m,a1,a2,a3⟩
end
theorem pR (i:Nat):mergeAt' i=(do
 let s <- get
 let (some (a1,n1,pw),some (a2,n2,_)):=((pendingOf s)[i]?,(pendingOf s)[i+1]?) | unsupported "internal:list.sort.pending"
 set (setPending s (((pendingOf s).setIfInBounds i (a1,n1+n2,pw)).eraseIdxIfInBounds (i+1)))
 let some k <- bZ false (<- elem' (arrOf s) a2) (arrOf s) a1 n1 0 | return false
 let (a1,n1):=(a1+k,n1 - k)
 if n1 == 0 then return true
 let some n2 <- bZ true (<- elem' (arrOf s) (a1+n1 - 1)) (arrOf s) a2 n2 (n2 - 1) | return false
 if n2 == 0 then return true
 let x:=(arrOf s).extract a1 a2
 let y:=(arrOf s).extract a2 (a2+n2)
 let both <- if n1<=n2 then ki x y else jQ x y
 modify fun s=>setArr s (both.toList.zipIdx.foldl (fun a (p,j)=>a.setIfInBounds (a1+j) p) (arrOf s))
 return (failedOf (<- get)).isNone):=rfl
noncomputable def seg (g:Nat->Nat) (a n:Nat):List Nat:=(List.range n).map fun i=>g (a+i)
section
variable {o:Ord} {N:Nat} {f:Nat->Keyed} {g:Nat->Nat}
theorem cU (g:Nat->Nat) (a n:Nat):(seg g a n).length=n:=by unfold seg;rw [List.length_map,List.length_range]
theorem eN {a n i:Nat} (h:i < n):(seg g a n)[i]?=some (g (a+i)):=by unfold seg;rw [List.getElem?_map,List.getElem?_range h];rfl
theorem dY {a n x:Nat} (h:x∈seg g a n):∃ i,i < n/\x=g (a+i):=by
 obtain ⟨i,hi,rfl⟩:=List.mem_map.mp h
 exact ⟨i,List.mem_range.mp hi,rfl⟩
theorem ur {a n:Nat} (h:So o g a (a+n)):(seg g a n).Pairwise (P o):=by
 rw [List.pairwise_iff_getElem]
 intro i j hi hj hij
 rw [cU] at hi hj
 have e1:=eN (g:=g) (a:=a) hi
 have e2:=eN (g:=g) (a:=a) hj
 rw [List.getElem?_eq_getElem (by rw [cU];exact hi)] at e1
 rw [List.getElem?_eq_getElem (by rw [cU];exact hj)] at e2
 rw [Option.some.inj e1,Option.some.inj e2]
 exact h _ _ (by omega) (by omega) (by omega)
theorem rC {arr:Array Keyed} (hs:arr.size=N) (hg:∀ i,i < N->arr[i]?=some (f (g i))) {a n:Nat} (h:a+n<=N):arr.extract a (a+n)=fa f (seg g a n):=by
 apply Array.ext_getElem?
 intro i
 rw [vJ,Array.getElem?_extract]
 by_cases c:i < n
 ·rw [if_pos (by omega),eN c,hg _ (by omega)];rfl
 ·rw [if_neg (by omega),List.getElem?_eq_none (by rw [cU];omega)];rfl
theorem k_ {α:Type} (b:Nat):∀ (l:List α) (n:Nat) (arr:Array α),((l.zipIdx n).foldl (fun a (p,j)=>a.setIfInBounds (b+j) p) arr).size=arr.size
 | [],_,_=>rfl
 | x::l,n,arr=>by
  rw [List.zipIdx_cons,List.foldl_cons,k_ b l (n+1)]
  exact Array.size_setIfInBounds ..
theorem oH {α:Type} (b:Nat):∀ (l:List α) (n:Nat) (arr:Array α) (k:Nat),b+n+l.length<=arr.size->((l.zipIdx n).foldl (fun a (p,j)=>a.setIfInBounds (b+j) p) arr)[k]?=if b+n<=k/\k < b+n+l.length then l[k - (b+n)]? else arr[k]?
 | [],n,arr,k,h=>by rw [if_neg (by rw [List.length_nil];omega)];rfl
 | x::l,n,arr,k,h=>by
  rw [List.length_cons] at h
  rw [List.zipIdx_cons,List.foldl_cons,oH b l (n+1) _ k (by rw [Array.size_setIfInBounds];omega),List.length_cons]
  by_cases c:k=b+n
  ·subst c
   rw [if_neg (by omega),if_pos (by omega),Nat.sub_self]
   show (arr.setIfInBounds (b+n) x)[b+n]?=some x
   rw [Array.getElem?_setIfInBounds_self_of_lt (by omega)]
  ·by_cases c2:b+n<=k/\k < b+n+(l.length+1)
   ·rw [if_pos (by omega),if_pos c2,show k - (b+n)=k - (b+(n+1))+1 by omega,List.getElem?_cons_succ]
   ·rw [if_neg (by omega),if_neg c2]
    show (arr.setIfInBounds (b+n) x)[k]?=arr[k]?
    rw [Array.getElem?_setIfInBounds_ne (by omega)]
end
section
variable {prog:Program} {w:World} {A:Around} {E:Value->Shared->Prop} {s:Shared} {o:Ord} {N:Nat} {f:Nat->Keyed} {kd:SortKind} {g:Nat->Nat} {st:SortSt}
theorem zj {st':SortSt} {Q:PUnit->SortSt->Prop} (h:Q ⟨⟩ st'):wpS (model prog w) A E s (set st':StateT SortSt Sem PUnit) Q st:=by
 unfold wpS;rw [StateT.run_set];exact wpAny_pure ⟨rfl,h⟩
theorem DG (C:kP prog w A s o N f kd) {l1 l2:List (Nat×Nat×Nat)} {sa na nb pw pv:Nat} (h:Sg N f kd g (l1++(sa,na,pw)::(sa+na,nb,pv)::l2).toArray st) (ha:1<=na) (hb:1<=nb) (hN:sa+na+nb<=N)
  (c1:Cl g sa (sa+na)) (s1:So o g sa (sa+na)) (c2:Cl g (sa+na) (sa+na+nb)) (s2:So o g (sa+na) (sa+na+nb))
  {Q:Bool->SortSt->Prop} (q:∀ g' st',Sg N f kd g' (l1++(sa,na+nb,pw)::l2).toArray st'->Rn o g g' sa (sa+na+nb)->Q true st'):wpS (model prog w) A E s (mergeAt' l1.length) Q st:=by
 rw [pR]
 refine wpS_bind (wpS_get ?_)
 have e1:(pendingOf st)[l1.length]?=some (sa,na,pw):=by rw [h.pend];simp
 have e2:(pendingOf st)[l1.length+1]?=some (sa+na,nb,pv):=by rw [h.pend];simp
 have e3:((pendingOf st).setIfInBounds l1.length (sa,na+nb,pw)).eraseIdxIfInBounds (l1.length+1)=(l1++(sa,na+nb,pw)::l2).toArray:=by
  rw [h.pend,List.setIfInBounds_toArray,List.eraseIdxIfInBounds_toArray]
  congr 1
  rw [List.set_append_right _ _ (Nat.le_refl _),Nat.sub_self,List.eraseIdx_append_of_length_le (by omega),show l1.length+1 - l1.length=1 by omega]
  rfl
 rw [e1,e2]
 dsimp only
 rw [e3]
 refine wpS_bind (zj ?_)
 have h':Sg N f kd g (l1++(sa,na+nb,pw)::l2).toArray (setPending st (l1++(sa,na+nb,pw)::l2).toArray):=⟨h.size,h.get,h.lt,h.kind,h.failed,rfl⟩
 obtain ⟨st1,hst1⟩:∃ st1,st1=setPending st (l1++(sa,na+nb,pw)::l2).toArray:=⟨_,rfl⟩
 rw [<- hst1] at h' ⊢
 refine wpS_bind (aR (h.get (sa+na) (by omega)) ?_)
 have b0:=c2 (sa+na) (by omega) (by omega)
 refine wpS_bind (u5 C h'.kind (h:=fun i=>g (sa+i)) (fun i hi=>h.get _ (by omega)) (fun i hi=>by have:=c1 (sa+i) (by omega) (by omega);omega) (by omega) (fun i j _ a b=>s1 _ _ (by omega) (by omega) (by omega)) (by omega) fun k k1 k2 k3=>?_)
 dsimp only
 by_cases cz:na - k=0
 ·rw [if_pos (by rw [cz];rfl)]
  refine wpS_pure (q g st1 h' ⟨fun _ _=>rfl,fun i a b=>?_,fun i j a b c=>?_⟩)
  ·by_cases d:i < sa+na
   ·have:=c1 i a d;omega
   ·have:=c2 i (by omega) b;omega
  ·by_cases d:j < sa+na
   ·exact s1 i j a b d
   ·by_cases d2:sa+na<=i
    ·exact s2 i j d2 b c
    ·have r:=k2 (i - sa) (by omega)
     rw [show sa+(i - sa)=i by omega] at r
     by_cases d3:j=sa+na
     ·subst d3;exact r
     ·exact r.trans (s2 _ _ (by omega) (by omega) c)
 ·rw [if_neg (by simpa using cz)]
  have hlast:sa+k+(na - k) - 1=sa+na - 1:=by omega
  rw [hlast]
  refine wpS_bind (aR (h.get (sa+na - 1) (by omega)) ?_)
  have a0:=c1 (sa+na - 1) (by omega) (by omega)
  refine wpS_bind (vG C h'.kind (h:=fun i=>g (sa+na+i)) (fun i hi=>h.get _ (by omega)) (fun i hi=>by have:=c2 (sa+na+i) (by omega) (by omega);omega) (fun i j _ a b=>s2 _ _ (by omega) (by omega) (by omega)) (by omega) fun t t1 t2 t3=>?_)
  dsimp only
  by_cases cy:t=0
  ·rw [if_pos (by rw [cy];rfl)]
   subst cy
   refine wpS_pure (q g st1 h' ⟨fun _ _=>rfl,fun i a b=>?_,fun i j a b c=>?_⟩)
   ·by_cases d:i < sa+na
    ·have:=c1 i a d;omega
    ·have:=c2 i (by omega) b;omega
   ·by_cases d:j < sa+na
    ·exact s1 i j a b d
    ·by_cases d2:sa+na<=i
     ·exact s2 i j d2 b c
     ·have r:=t3 (j - (sa+na)) (by omega) (by omega)
      rw [show sa+na+(j - (sa+na))=j by omega] at r
      by_cases d3:i=sa+na - 1
      ·subst d3;exact r
      ·exact (s1 i (sa+na - 1) a (by omega) (by omega)).trans r
  ·rw [if_neg (by simpa using cy)]
   have x1:(arrOf st).extract (sa+k) (sa+na)=fa f (seg g (sa+k) (na - k)):=by
    have:=rC (f:=f) (g:=g) h.size h.get (a:=sa+k) (n:=na - k) (by omega)
    rwa [show sa+k+(na - k)=sa+na by omega] at this
   have x2:(arrOf st).extract (sa+na) (sa+na+t)=fa f (seg g (sa+na) t):=rC h.size h.get (by omega)
   rw [x1,x2]
   have sx:So o g (sa+k) (sa+k+(na - k)):=fun i j a b c=>s1 i j (by omega) b (by omega)
   have sy:So o g (sa+na) (sa+na+t):=fun i j a b c=>s2 i j a b (by omega)
   have ab:Ab o N (seg g (sa+k) (na - k)) (seg g (sa+na) t):={
    sa:=ur sx
    sb:=ur sy
    lt:=fun x hx y hy=>by
     obtain ⟨i,hi,rfl⟩:=dY hx
     obtain ⟨j,hj,rfl⟩:=dY hy
     have:=c1 (sa+k+i) (by omega) (by omega)
     have:=c2 (sa+na+j) (by omega) (by omega)
     omega
    nb:=fun y hy=>by
     obtain ⟨j,hj,rfl⟩:=dY hy
     exact h.lt _ (by omega)
    na:=fun y hy=>by
     obtain ⟨j,hj,rfl⟩:=dY hy
     exact h.lt _ (by omega) }
   have tp:Top o (seg g (sa+k) (na - k)) (seg g (sa+na) t):=fun i x hx hi y hy=>by
    rw [cU] at hi
    rw [eN (by omega)] at hx
    cases hx
    obtain ⟨j,hj,rfl⟩:=dY hy
    rw [show sa+k+i=sa+na - 1 by omega]
    exact t2 j hj
   have bt:Dq o (seg g (sa+k) (na - k)) (seg g (sa+na) t):=fun y hy x hx=>by
    rw [eN (by omega)] at hy
    cases hy
    obtain ⟨i,hi,rfl⟩:=dY hx
    have:=k3 (k+i) (by omega) (by omega)
    rwa [<- Nat.add_assoc] at this
   have fin:∀ out st2,Sm st1 st2->Res o f (seg g (sa+k) (na - k)) (seg g (sa+na) t) out->wpS (model prog w) A E s (do
     modify fun s=>setArr s (out.toList.zipIdx.foldl (fun a (p,j)=>a.setIfInBounds (sa+k+j) p) (arrOf s))
     let s <- get
     pure (failedOf s).isNone) Q st2:=by
    rintro out st2 hm ⟨hs,rfl,hlen,hso,hmem⟩
    rw [cU,cU] at hlen
    refine wpS_bind (wpS_modify (wpS_bind (wpS_get ?_)))
    have hf:(failedOf st2)=none:=by rw [hm.f];exact h'.failed
    have hmx:∀ j x,hs[j]?=some x->(∃ i,i < na - k/\x=g (sa+k+i))\/∃ i,i < t/\x=g (sa+na+i):=fun j x e=>by
     rcases hmem x (List.mem_of_getElem? e) with z | z
     ·exact .inl (dY z)
     ·exact .inr (dY z)
    have ez:(fa f hs).toList=hs.map f:=by unfold fa;rfl
    have hsz:sa+k+0+(hs.map f).length<=(arrOf st2).size:=by rw [List.length_map,hlen,hm.a,h'.size];omega
    refine wpS_pure ?_
    show Q (failedOf st2).isNone _
    rw [hf]
    refine q (fun i=>if sa+k<=i/\i < sa+k+(na - k+t) then hs.getD (i - (sa+k)) 0 else g i) _ ⟨?_,fun i hi=>?_,fun i hi=>?_,by rw [show kindOf (setArr st2 _)=kindOf st2 from rfl,hm.k];exact h'.kind,hf,by rw [show pendingOf (setArr st2 _)=pendingOf st2 from rfl,hm.p];exact h'.pend⟩ ?_
    ·have:=k_ (sa+k) (fa f hs).toList 0 (arrOf st2)
     rw [hm.a,h'.size] at this
     rw [<- this,<- hm.a]
    ·show (List.foldl _ _ _)[i]?=_
     rw [ez,oH _ _ _ _ _ hsz,List.length_map,hlen,hm.a]
     by_cases d:sa+k<=i/\i < sa+k+(na - k+t)
     ·rw [if_pos (by omega),if_pos d,List.getElem?_map,Nat.add_zero,getD_at (l:=hs) (by omega)];rfl
     ·rw [if_neg (by omega),if_neg d]
      exact h'.get i hi
    ·by_cases d:sa+k<=i/\i < sa+k+(na - k+t)
     ·rw [if_pos d]
      rcases hmx _ _ (getD_at (l:=hs) (i:=i - (sa+k)) (by omega)) with ⟨j,hj,e⟩ | ⟨j,hj,e⟩
      ·rw [e];exact h.lt _ (by omega)
      ·rw [e];exact h.lt _ (by omega)
     ·rw [if_neg d];exact h.lt i hi
    ·have gin:∀ i,sa+k<=i->i < sa+na+t->(if sa+k<=i/\i < sa+k+(na - k+t) then hs.getD (i - (sa+k)) 0 else g i)=hs.getD (i - (sa+k)) 0:=fun i a b=>if_pos (by omega)
     have gout:∀ i,i < sa+k\/sa+na+t<=i->(if sa+k<=i/\i < sa+k+(na - k+t) then hs.getD (i - (sa+k)) 0 else g i)=g i:=fun i a=>if_neg (by omega)
     refine ⟨fun i hi=>gout i (by omega),fun i a b=>?_,fun i j a b c=>?_⟩
     ·by_cases d:sa+k<=i/\i < sa+na+t
      ·show _<=ite _ _ _/\ite _ _ _ < _
       rw [gin i d.1 d.2]
       rcases hmx _ _ (getD_at (l:=hs) (i:=i - (sa+k)) (by omega)) with ⟨j,hj,e⟩ | ⟨j,hj,e⟩
       ·rw [e];have:=c1 (sa+k+j) (by omega) (by omega);omega
       ·rw [e];have:=c2 (sa+na+j) (by omega) (by omega);omega
      ·show _<=ite _ _ _/\ite _ _ _ < _
       rw [gout i (by omega)]
       by_cases d2:i < sa+na
       ·have:=c1 i a d2;omega
       ·have:=c2 i (by omega) b;omega
     ·show P o (ite _ _ _) (ite _ _ _)
      by_cases d1:i < sa+k
      ·rw [gout i (.inl d1)]
       have r:=k2 (i - sa) (by omega)
       rw [show sa+(i - sa)=i by omega] at r
       by_cases d2:j < sa+k
       ·rw [gout j (.inl d2)];exact s1 i j a b (by omega)
       ·by_cases d3:j < sa+na+t
        ·rw [gin j (by omega) d3]
         rcases hmx _ _ (getD_at (l:=hs) (i:=j - (sa+k)) (by omega)) with ⟨v,hv,e⟩ | ⟨v,hv,e⟩
         ·rw [e];exact s1 _ _ a (by omega) (by omega)
         ·rw [e]
          by_cases d4:v=0
          ·subst d4;exact r
          ·exact r.trans (s2 _ _ (by omega) (by omega) (by omega))
        ·rw [gout j (by omega)]
         exact r.trans (s2 _ _ (by omega) (by omega) c)
      ·by_cases d2:i < sa+na+t
       ·rw [gin i (by omega) d2]
        by_cases d3:j < sa+na+t
        ·rw [gin j (by omega) d3]
         exact fQ hso (getD_at (by omega)) (getD_at (by omega)) (by omega)
        ·rw [gout j (by omega)]
         rcases hmx _ _ (getD_at (l:=hs) (i:=i - (sa+k)) (by omega)) with ⟨v,hv,e⟩ | ⟨v,hv,e⟩
         ·rw [e]
          have r:=t3 (j - (sa+na)) (by omega) (by omega)
          rw [show sa+na+(j - (sa+na))=j by omega] at r
          by_cases d4:sa+k+v=sa+na - 1
          ·rw [d4];exact r
          ·exact (s1 _ (sa+na - 1) (by omega) (by omega) (by omega)).trans r
         ·rw [e];exact s2 _ _ (by omega) (by omega) c
       ·rw [gout i (by omega),gout j (by omega)]
        exact s2 i j (by omega) b c
   by_cases cl:na - k<=t
   ·rw [if_pos cl]
    exact wpS_bind (DS C h'.kind ab tp (by rw [cU];omega) (eN (by omega)) (bt _ (eN (by omega))) fin)
   ·rw [if_neg cl]
    exact wpS_bind (Dz C h'.kind ab tp bt (by rw [cU];omega) (by rw [cU];omega) fin)
end
noncomputable abbrev pr (x:Nat×Nat×Nat):Nat×Nat:=(x.1,x.2.1)
noncomputable def eF (o:Ord) (g:Nat->Nat):List (Nat×Nat)->Nat->Nat->Prop
 | [],a,b=>a=b
 | x::l,a,b=>x.1=a/\1<=x.2/\Cl g a (a+x.2)/\So o g a (a+x.2)/\eF o g l (a+x.2) b
noncomputable def PA (o:Ord) (g:Nat->Nat) (p:Array (Nat×Nat×Nat)) (b:Nat):Prop:=eF o g (p.toList.map pr) 0 b
section
variable {o:Ord} {g:Nat->Nat}
theorem eF.le:∀ {l:List (Nat×Nat)} {a b:Nat},eF o g l a b->a+l.length<=b
 | [],a,b,h=>by have h:a=b:=h;rw [List.length_nil];omega
 | x::l,a,b,h=>by
  have:=h.2.2.2.2.le
  have:=h.2.1
  rw [List.length_cons];omega
theorem eF.congr {g':Nat->Nat}:∀ {l:List (Nat×Nat)} {a b:Nat},eF o g l a b->(∀ i,a<=i->i < b->g' i=g i)->eF o g' l a b
 | [],a,b,h,_=>h
 | x::l,a,b,h,e=>by
  have hb:=h.2.2.2.2.le
  refine ⟨h.1,h.2.1,fun i h1 h2=>?_,fun i j h1 h2 h3=>?_,h.2.2.2.2.congr fun i h1 h2=>e i (by omega) h2⟩
  ·rw [e i h1 (by omega)];exact h.2.2.1 i h1 h2
  ·rw [e i h1 (by omega),e j (by omega) (by omega)];exact h.2.2.2.1 i j h1 h2 h3
theorem eF.app:∀ {l m:List (Nat×Nat)} {a b:Nat},eF o g (l++m) a b ↔ ∃ c,eF o g l a c/\eF o g m c b
 | [],m,a,b=>⟨fun h=>⟨a,rfl,h⟩,fun ⟨c,h1,h2⟩=>by have h1:a=c:=h1;subst h1;exact h2⟩
 | x::l,m,a,b=>by
  constructor
  ·rintro ⟨h1,h2,h3,h4,h5⟩
   obtain ⟨c,h6,h7⟩:=eF.app.mp h5
   exact ⟨c,⟨h1,h2,h3,h4,h6⟩,h7⟩
  ·rintro ⟨c,⟨h1,h2,h3,h4,h5⟩,h6⟩
   exact ⟨h1,h2,h3,h4,eF.app.mpr ⟨c,h5,h6⟩⟩
theorem CU {p:Array (Nat×Nat×Nat)} {i:Nat} (h:i+1 < p.size):∃ l1 x y l2,p=(l1++x::y::l2).toArray/\l1.length=i:=by
 have h':i+1 < p.toList.length:=h
 refine ⟨p.toList.take i,p.toList[i],p.toList[i+1],p.toList.drop (i+2),?_,by rw [List.length_take];omega⟩
 apply Array.toList_inj.mp
 show p.toList=_
 conv=>lhs;rw [<- List.take_append_drop i p.toList,List.drop_eq_getElem_cons (show i < p.toList.length by omega),List.drop_eq_getElem_cons h']
end
section
variable {prog:Program} {w:World} {A:Around} {E:Value->Shared->Prop} {s:Shared} {o:Ord} {N:Nat} {f:Nat->Keyed} {kd:SortKind} {g:Nat->Nat} {p:Array (Nat×Nat×Nat)} {st:SortSt}
theorem o_ (C:kP prog w A s o N f kd) (h:Sg N f kd g p st) {lo i:Nat} (hp:PA o g p lo) (hlo:lo<=N) (hi:i+1 < p.size)
  {Q:Bool->SortSt->Prop} (q:∀ g' p' st',Sg N f kd g' p' st'->PA o g' p' lo->p'.size+1=p.size->(∀ k,lo<=k->g' k=g k)->Q true st'):wpS (model prog w) A E s (mergeAt' i) Q st:=by
 obtain ⟨l1,⟨sa,na,pw⟩,⟨sb,nb,pv⟩,l2,rfl,rfl⟩:=CU hi
 unfold PA at hp
 rw [show (l1++(sa,na,pw)::(sb,nb,pv)::l2).toArray.toList=l1++(sa,na,pw)::(sb,nb,pv)::l2 from rfl,List.map_append] at hp
 obtain ⟨c,h1,h2⟩:=eF.app.mp hp
 obtain ⟨e1,n1,cl1,so1,e2,n2,cl2,so2,rest⟩:=h2
 have e1:sa=c:=e1
 subst e1
 have e2:sb=sa+na:=e2
 subst e2
 have l2b:=rest.le
 have n1:1<=na:=n1
 have n2:1<=nb:=n2
 have l2b:sa+na+nb<=lo:=by
  have:sa+na+nb+(List.map pr l2).length<=lo:=l2b
  omega
 refine DG C h n1 n2 (by omega) cl1 so1 cl2 so2 fun g' st' h' R=>q g' _ st' h' ?_ (by simp;omega) fun k hk=>R.out k (by omega)
 unfold PA
 rw [show (l1++(sa,na+nb,pw)::l2).toArray.toList=l1++(sa,na+nb,pw)::l2 from rfl,List.map_append]
 refine eF.app.mpr ⟨sa,h1.congr fun i a b=>R.out i (by omega),rfl,by show 1<=na+nb;omega,?_,?_,?_⟩
 ·show Cl g' sa (sa+(na+nb));rw [<- Nat.add_assoc];exact R.cl
 ·show So o g' sa (sa+(na+nb));rw [<- Nat.add_assoc];exact R.so
 ·show eF o g' _ (sa+(na+nb)) lo
  rw [<- Nat.add_assoc]
  exact rest.congr fun i a b=>R.out i (.inr a)
theorem lP {p:Array (Nat×Nat×Nat)} {i lo:Nat} {u:Nat×Nat×Nat->Nat×Nat×Nat} (hu:∀ x,pr (u x)=pr x) (h:PA o g p lo):PA o g (p.modify i u) lo:=by
 unfold PA at h ⊢
 have:(p.modify i u).toList.map pr=p.toList.map pr:=by
  rw [Array.toList_modify]
  apply List.ext_getElem?
  intro k
  rw [List.getElem?_map,List.getElem?_map,List.getElem?_modify]
  cases p.toList[k]? with
  | none=>rfl
  | some x=>
   show some (pr (if i=k then u x else x))=some (pr x)
   by_cases c:i=k
   ·rw [if_pos c,hu x]
   ·rw [if_neg c]
 rw [this];exact h
theorem jt {p:Array (Nat×Nat×Nat)} {lo n v:Nat} (h:PA o g p lo) (hn:1<=n) (c:Cl g lo (lo+n)) (d:So o g lo (lo+n)):PA o g (p.push (lo,n,v)) (lo+n):=by
 unfold PA at h ⊢
 rw [Array.toList_push,List.map_append]
 exact eF.app.mpr ⟨lo,h,rfl,hn,c,d,rfl⟩
theorem Sg.C9 (h:Sg N f kd g p st) (p':Array (Nat×Nat×Nat)):Sg N f kd g p' (setPending st p'):=⟨h.size,h.get,h.lt,h.kind,h.failed,rfl⟩
theorem zQ (C:kP prog w A s o N f kd) (h:Sg N f kd (fun i=>i) #[] st) (hN:1<=N)
  {Q:Unit->SortSt->Prop} (q:∀ g' p' st',Sg N f kd g' p' st'->Cl g' 0 N->So o g' 0 N->Q () st'):wpS (model prog w) A E s sortRuns' Q st:=by
 rw [sortRuns'_eq]
 refine wpS_bind (wpS_get ?_)
 dsimp only
 rw [h.size]
 refine wpS_bind (wpS_mono (wpS_forRange
  (I:=fun x c st'=>∃ lo g p,c=(none,lo)/\lo<=N/\(x<=lo\/lo=N)/\Sg N f kd g p st'/\PA o g p lo/\(∀ i,lo<=i->g i=i))
  (Q:=fun c st'=>∃ g p,c=(none,N)/\Sg N f kd g p st'/\PA o g p N) ?step ?fin ⟨0,_,_,rfl,Nat.zero_le _,.inl (Nat.le_refl _),h,rfl,fun _ _=>rfl⟩) ?post)
 case fin=>
  rintro c st' ⟨lo,g,p,rfl,h1,h2,h3,h4,h5⟩
  have:lo=N:=by omega
  subst this
  exact ⟨g,p,rfl,h3,h4⟩
 case step=>
  rintro x c st' _ hx ⟨lo,g,p,rfl,h1,h2,h3,h4,h5⟩
  dsimp only
  by_cases hge:lo>=N
  ·rw [if_pos hge]
   have:lo=N:=by omega
   subst this
   exact wpS_pure ⟨g,p,rfl,h3,h4⟩
  ·rw [if_neg hge]
   refine wpS_bind (wc C h3 (by omega) (by omega) (fun i a b=>h5 i a) fun m g1 st1 s1 m1 m2 R1=>?_)
   dsimp only
   by_cases c2:m < minRun' N N 0
   ·rw [if_pos c2]
    refine wpS_bind (wpS_lift (wpAny_rule ⟨rfl,?_⟩))
    refine wpS_bind (BZ C s1 (by omega) m1 (by omega) R1 (fun i a b=>h5 i (by omega)) fun g2 st2 s2 R2=>?_)
    rw [if_neg (by decide)]
    have n2:1<=min (N - lo) (minRun' N N 0):=by omega
    have n3:lo+min (N - lo) (minRun' N N 0)<=N:=by omega
    refine wpS_bind (wpS_get ?_)
    rw [s2.pend]
    have hp2:=eF.congr h4 fun i a b=>R2.out i (.inl b)
    cases e:p.back? with
    | none=>
     dsimp only
     refine wpS_bind (wpS_modify (wpS_pure ⟨_,_,_,rfl,n3,by omega,s2.C9 _,?_,fun i hi=>by rw [R2.out i (.inr hi),h5 i (by omega)]⟩))
     rw [s2.pend]
     exact jt hp2 n2 R2.cl R2.so
    | some y=>
     obtain ⟨y1,y2,y3⟩:=y
     dsimp only
     refine wpS_bind (wpS_mono (wpS_forRange (I:=fun _ c st'=>c=(none,())/\∃ g' p',Sg N f kd g' p' st'/\PA o g' p' lo/\(∀ k,lo<=k->g' k=g2 k)) (Q:=fun c st'=>c=(none,())/\∃ g' p',Sg N f kd g' p' st'/\PA o g' p' lo/\(∀ k,lo<=k->g' k=g2 k)) ?vstep (fun _ _ h=>h) ⟨rfl,_,_,s2,hp2,fun _ _=>rfl⟩) ?vpost)
     case vstep=>
      rintro x c st' _ hx ⟨rfl,g',p',h1,h2,h3⟩
      refine wpS_bind (wpS_get ?_)
      rw [h1.pend]
      by_cases c:p'.size > 1
      ·rw [if_pos c]
       cases e:p'[p'.size - 2]? with
       | none=>exact wpS_pure ⟨rfl,g',p',h1,h2,h3⟩
       | some y=>
        obtain ⟨y1,y2,y3⟩:=y
        dsimp only
        split
        ·exact wpS_pure ⟨rfl,g',p',h1,h2,h3⟩
        ·refine wpS_bind (o_ C h1 h2 (by omega) (by omega) fun g3 p3 st3 s3 q3 _ z3=>?_)
         exact wpS_pure ⟨rfl,g3,p3,s3,q3,fun k hk=>by rw [z3 k hk,h3 k hk]⟩
      ·rw [if_neg c]
       exact wpS_pure ⟨rfl,g',p',h1,h2,h3⟩
     case vpost=>
      rintro c st' ⟨rfl,g',p',h1,h2,h3⟩
      dsimp only
      refine wpS_bind (wpS_modify (wpS_bind (wpS_modify (wpS_pure ⟨_,_,_,rfl,n3,by omega,(h1.C9 _).C9 _,?_,fun i hi=>by rw [h3 i (by omega),R2.out i (.inr hi),h5 i (by omega)]⟩))))
      show PA o g' (((pendingOf st').modify _ _).push _) _
      rw [h1.pend]
      exact jt (lP (fun _=>rfl) h2) n2 (fun i a b=>by rw [h3 i a];exact R2.cl i a b) (fun i j a b c=>by rw [h3 i a,h3 j (by omega)];exact R2.so i j a b c)
   ·rw [if_neg c2]
    have n3:lo+m<=N:=by omega
    obtain ⟨g2,hg2⟩:∃ g2,g2=g1:=⟨_,rfl⟩
    rw [<- hg2] at R1 s1
    have R2:=R1
    have s2:=s1
    have n2:=m1
    refine wpS_bind (wpS_get ?_)
    rw [s2.pend]
    have hp2:=eF.congr h4 fun i a b=>R2.out i (.inl b)
    cases e:p.back? with
    | none=>
     dsimp only
     refine wpS_bind (wpS_modify (wpS_pure ⟨_,_,_,rfl,n3,by omega,s2.C9 _,?_,fun i hi=>by rw [R2.out i (.inr hi),h5 i (by omega)]⟩))
     rw [s2.pend]
     exact jt hp2 n2 R2.cl R2.so
    | some y=>
     obtain ⟨y1,y2,y3⟩:=y
     dsimp only
     refine wpS_bind (wpS_mono (wpS_forRange (I:=fun _ c st'=>c=(none,())/\∃ g' p',Sg N f kd g' p' st'/\PA o g' p' lo/\(∀ k,lo<=k->g' k=g2 k)) (Q:=fun c st'=>c=(none,())/\∃ g' p',Sg N f kd g' p' st'/\PA o g' p' lo/\(∀ k,lo<=k->g' k=g2 k)) ?vstep (fun _ _ h=>h) ⟨rfl,_,_,s2,hp2,fun _ _=>rfl⟩) ?vpost)
     case vstep=>
      rintro x c st' _ hx ⟨rfl,g',p',h1,h2,h3⟩
      refine wpS_bind (wpS_get ?_)
      rw [h1.pend]
      by_cases c:p'.size > 1
      ·rw [if_pos c]
       cases e:p'[p'.size - 2]? with
       | none=>exact wpS_pure ⟨rfl,g',p',h1,h2,h3⟩
       | some y=>
        obtain ⟨y1,y2,y3⟩:=y
        dsimp only
        split
        ·exact wpS_pure ⟨rfl,g',p',h1,h2,h3⟩
        ·refine wpS_bind (o_ C h1 h2 (by omega) (by omega) fun g3 p3 st3 s3 q3 _ z3=>?_)
         exact wpS_pure ⟨rfl,g3,p3,s3,q3,fun k hk=>by rw [z3 k hk,h3 k hk]⟩
      ·rw [if_neg c]
       exact wpS_pure ⟨rfl,g',p',h1,h2,h3⟩
     case vpost=>
      rintro c st' ⟨rfl,g',p',h1,h2,h3⟩
      dsimp only
      refine wpS_bind (wpS_modify (wpS_bind (wpS_modify (wpS_pure ⟨_,_,_,rfl,n3,by omega,(h1.C9 _).C9 _,?_,fun i hi=>by rw [h3 i (by omega),R2.out i (.inr hi),h5 i (by omega)]⟩))))
      show PA o g' (((pendingOf st').modify _ _).push _) _
      rw [h1.pend]
      exact jt (lP (fun _=>rfl) h2) n2 (fun i a b=>by rw [h3 i a];exact R2.cl i a b) (fun i j a b c=>by rw [h3 i a,h3 j (by omega)];exact R2.so i j a b c)
 case post=>
  rintro c st' ⟨g,p,rfl,h1,h2⟩
  dsimp only
  refine wpS_bind (wpS_mono (wpS_forRange
   (I:=fun x c st''=>c=(none,())/\∃ g p,Sg N f kd g p st''/\PA o g p N/\(p.size<=1\/p.size+x<=N))
   (Q:=fun c st''=>c=(none,())/\∃ g p,Sg N f kd g p st''/\PA o g p N/\p.size<=1) ?fstep ?ffin ⟨rfl,g,p,h1,h2,.inr ?finit⟩) ?fpost)
  case finit=>
   have:=eF.le h2
   rw [List.length_map] at this
   show p.toList.length+0<=N
   omega
  case ffin=>
   rintro c st'' ⟨rfl,g,p,h1,h2,h3⟩
   exact ⟨rfl,g,p,h1,h2,by omega⟩
  case fstep=>
   rintro x c st'' _ hx ⟨rfl,g,p,h1,h2,h3⟩
   refine wpS_bind (wpS_get ?_)
   rw [h1.pend]
   by_cases c:p.size<=1
   ·rw [if_pos c]
    exact wpS_pure ⟨rfl,g,p,h1,h2,c⟩
   ·rw [if_neg c]
    have il:∀ (d:Prop) [Decidable d],(if d then p.size - 2 - 1 else p.size - 2)+1 < p.size:=fun d _=>by
     by_cases hd:d
     ·rw [if_pos hd];omega
     ·rw [if_neg hd];omega
    refine wpS_bind (o_ C h1 h2 (Nat.le_refl _) (il _) fun g' p' st3 s3 q3 z3 _=>?_)
    exact wpS_pure ⟨rfl,g',p',s3,q3,by omega⟩
  case fpost=>
   rintro c st'' ⟨rfl,g,p,h1,h2,h3⟩
   dsimp only
   refine wpS_pure ?_
   unfold PA at h2
   have h3:p.toList.length<=1:=h3
   match hl:p.toList,h3 with
   | [],_=>
    rw [hl] at h2
    have:0=N:=h2
    omega
   | [x],_=>
    rw [hl] at h2
    obtain ⟨e1,e2,e3,e4,e5⟩:=h2
    have e5:0+x.2.1=N:=e5
    have e3:Cl g 0 (0+x.2.1):=e3
    have e4:So o g 0 (0+x.2.1):=e4
    rw [e5] at e3 e4
    exact q g p st'' h1 e3 e4
end
noncomputable abbrev vS (h:Heap) (a:Addr) (vs:List Value):Heap:=((h.update a (Obj.mapSeq fun _=>#[])).push (seqObj "tuple" vs.toArray 0)).push (seqObj "list" #[] 0)
noncomputable abbrev vv (vs:List Value) (i:Nat):Keyed:=(vs.getD i .none,vs.getD i .none)
theorem zip_get (vs:List Value) {i:Nat} (h:i < vs.length):(vs.toArray.zip vs.toArray)[i]?=some (vv vs i):=by
 have e:vs[i]?=some (vs.getD i .none):=by rw [List.getD_eq_getElem?_getD,List.getElem?_eq_getElem h];rfl
 rw [Array.getElem?_zip_eq_some]
 exact ⟨by rw [List.getElem?_toArray];exact e,by rw [List.getElem?_toArray];exact e⟩
section
variable {prog:Program} {w:World} {A:Around} {E:Value->Shared->Prop} {s:Shared} {o:Ord} {kd:SortKind}
theorem sZ {a:Addr} {vs:List Value} {n:Nat} {P:PySem.Fin->Shared->Prop} (hL:s.heap.get? a=some (seqObj "list" vs.toArray n)) (hsz:vs.length<=sizeLine)
  (hkk:2<=vs.length->∀ Q:SortKind->Shared->Prop,Q kd { s with heap:=vS s.heap a vs }->wpAny (model prog w) A (keyKind' vs.toArray) Q E { s with heap:=vS s.heap a vs })
  (C:2<=vs.length->kP prog w A { s with heap:=vS s.heap a vs } o vs.length (vv vs) kd)
  (h:∀ g,Cl g 0 vs.length->So o g 0 vs.length->P (.done (.ret .none)) { s with heap:=sortedHeap s.heap a vs ((List.range vs.length).map fun i=>vs.getD (g i) .none).toArray }) :
  wpAny (model prog w) A (Builtin.«list.sort» ⟨[.ref a],[]⟩) P E s:=by
 rw [list_sort_plain]
 have lta:a < s.heap.objs.size:=Heap.lt_size hL
 refine wpAny_bind (listItems_at hL rfl ?_)
 refine wpAny_bind (listUpdate_at hL rfl ?_ (by rw [List.size_toArray];exact hsz) (Nat.zero_le _))
 obtain ⟨ep,hL1⟩:∃ ep,(s.heap.update a (Obj.mapSeq fun _=>#[])).get? a=some (seqObj "list" #[] ep):=⟨_,get?_update_seq hL (fun _=>#[])⟩
 refine wpAny_bind (seqEpoch_at hL1 rfl ?_)
 refine wpAny_bind (wpAny_newTuple ?_)
 refine wpAny_bind (wpAny_newList ?_)
 refine wpAny_holding ?_
 have hL6:(vS s.heap a vs).get? a=some (seqObj "list" #[] ep):=by
  rw [Heap.get?_push_ne _ _ _ (by rw [size_push',Heap.size_update];exact Nat.ne_of_lt (Nat.lt_succ_of_lt lta)),Heap.get?_push_ne _ _ _ (by rw [Heap.size_update];exact Nat.ne_of_lt lta)]
  exact hL1
 show wpAny (model prog w) A _ P E { s with heap:=vS s.heap a vs }
 dsimp only
 have hz:vs.toArray.size=vs.length:=by simp
 have getE:∀ i,i < vs.length->vs[i]?=some (vs.getD i .none):=fun i hi=>by rw [List.getD_eq_getElem?_getD,List.getElem?_eq_getElem hi];rfl
 have outE:∀ (arr:Array Keyed) (g:Nat->Nat),arr.size=vs.length->(∀ i,i < vs.length->arr[i]?=some (vv vs (g i)))->arr.map (·.2)=((List.range vs.length).map fun i=>vs.getD (g i) .none).toArray:=fun arr g h1 two=>by
  apply Array.ext_getElem?
  intro i
  have e0:((List.range vs.length).map fun i=>vs.getD (g i) Value.none).toArray[i]?=((List.range vs.length).map fun i=>vs.getD (g i) Value.none)[i]?:=List.getElem?_toArray ..
  rw [Array.getElem?_map,e0,List.getElem?_map]
  by_cases c:i < vs.length
  ·rw [two i c,List.getElem?_range c];rfl
  ·rw [Array.getElem?_eq_none (by omega),List.getElem?_eq_none (by rw [List.length_range];omega)];rfl
 by_cases two:vs.toArray.size < 2
 ·rw [if_pos two,if_pos two]
  refine wpAny_bind (wpAny_pure ?_)
  rw [StateT.run_pure]
  refine wpAny_bind (wpAny_pure ?_)
  dsimp only
  refine wpAny_bind (seqEpoch_at hL6 rfl ?_)
  have oe:=outE (vs.toArray.zip vs.toArray) (fun i=>i) (by rw [Array.size_zip,hz];omega) fun i hi=>zip_get vs hi
  refine wpAny_bind (listUpdate_at hL6 rfl ?_ (by simp) (hsz2:=by rw [Array.size_map];show (vs.toArray.zip vs.toArray).size<=_;rw [Array.size_zip,hz];omega))
  simp only [bne_self_eq_false,Bool.false_eq_true,if_false]
  refine wpAny_pure ?_
  have:=h (fun i=>i) (fun i a b=>⟨a,b⟩) (fun i j a b c=>by omega)
  rw [<- oe] at this
  exact this
 ·rw [if_neg two,if_neg two]
  have h2':2<=vs.length:=by omega
  refine wpAny_bind (hkk h2' _ ?_)
  refine wpAny_bind (wpAny_mono (zQ (f:=vv vs) (N:=vs.length) (C h2') (st:=SortSt.mk' kd (vs.toArray.zip vs.toArray) #[] 7 none)
   (Q:=fun _ st'=>∃ g p,Sg vs.length (vv vs) kd g p st'/\Cl g 0 vs.length/\So o g 0 vs.length)
   ⟨by show (vs.toArray.zip vs.toArray).size=_;rw [Array.size_zip,hz];omega,fun i hi=>zip_get vs hi,fun i hi=>hi,rfl,rfl,rfl⟩ (by omega) fun g' p' st' a1 a2 a3=>⟨g',p',a1,a2,a3⟩) ?_ fun _ _ e=>e)
  rintro ⟨⟨⟩,st'⟩ s' ⟨rfl,g,p,hS,hc,hso⟩
  dsimp only
  refine wpAny_bind (seqEpoch_at hL6 rfl ?_)
  have oe:=outE (arrOf st') g hS.size hS.get
  refine wpAny_bind (listUpdate_at hL6 rfl ?_ (by simp) (hsz2:=by have hh:(arrOf st').size=vs.length:=hS.size;show ((arrOf st').map (·.2)).size<=_;rw [Array.size_map,hh];omega))
  rw [hS.failed]
  simp only [bne_self_eq_false,Bool.false_eq_true,if_false]
  have:=h g hc hso
  rw [<- oe] at this
  exact wpAny_pure this
end
section
variable {prog:Program} {w:World} {A:Around} {E:Value->Shared->Prop} {s:Shared}
theorem zN (b:Bool) {x y:Int} {t u:Tok} {Q:Bool->Shared->Prop} (h:Q (decide (x < y)) s):wpAny (model prog w) A (oneLt' b (.int x t) (.int y u)) Q E s:=by
 cases b with
 | true=>exact oneLt_int h
 | false=>
  rw [oneLt'_eq]
  simp only [Bool.false_eq_true,if_false]
  exact wpAny_bind (PySem.P.lt_int (wpAny_truthy_bool h))
end
section
variable {prog:Program} {w:World} {A:Around} {E:Value->Shared->Prop} {s:Shared}
end
end Sx
namespace L2
open PySem PySem.Spec PyProof.Rows
section
variable {X:Cx}
theorem ly:∀ {rs:List Addr} {its:List Value},Vals (rs.map V.ref) its->its=rs.map Value.ref
 | [],_,r=>by cases r;rfl
 | a::rs,_,r=>by
  cases r with
  | cons h t=>
   have e:_=Value.ref a:=h
   rw [e,ly t];rfl
end
end L2
namespace Sx
open PySem PyProof.Rows
open PySem.AutoSeq1 (wpAny_loadPart')
open PySem.MeetsSeq PySem.MeetsSeq2 PySem.MeetsSeq3
theorem ju:∀ {xs:List Value} {ns:List Int} {i:Nat},IntsAre xs ns->i < ns.length->∃ t,xs[i]?=some (.int (ns.getD i 0) t)
 | _,_,i,.nil,h=>absurd h (Nat.not_lt_zero _)
 | _,_,0,.cons n t h,_=>⟨t,rfl⟩
 | _,_,i+1,.cons n t h,hi=>by
  obtain ⟨t',e⟩:=ju h (i:=i) (by simpa using hi)
  exact ⟨t',by simpa using e⟩
section
variable {prog:Program} {w:World} {A:Around} {E:Value->Shared->Prop} {s:Shared}
end
end Sx
namespace L2
open PySem PySem.Spec PyProof.Rows
section
variable {X:Cx}
end
end L2
namespace Am
open PySem
inductive A where
 | unb | non | bl (b:Bool) | int (i:Int) | str (x:Str) | tup (xs:List A) | frz (xs:List A) | rng (lo hi:Int) | ref (n:Nat) | exn (c:Str) | ty (n:String)
inductive O where
 | lst (xs:List A) | dct (kvs:List (List Int×A)) | cY (kvs:List (Int×A)) | ins (c:Str) (fs:List (Str×A))
noncomputable abbrev ak:=List O
inductive R (α:Type) where
 | ok (a:α) (S:ak) | ex (c:Str) (S:ak) | no
noncomputable def R.bind {α β:Type} (r:R α) (f:α->ak->R β):R β:=match r with
 | .ok a S=>f a S
 | .ex c S=>.ex c S
 | .no=>.no
noncomputable def R.post {α:Type} (r:R α) (P:α->ak->Prop) (E:Str->ak->Prop):Prop:=match r with
 | .ok a S=>P a S
 | .ex c S=>E c S
 | .no=>False
theorem aI {α β:Type} {r:R α} {f:α->ak->R β} {P:β->ak->Prop} {E:Str->ak->Prop} (h:(r.bind f).post P E):r.post (fun a S=>(f a S).post P E) E:=by
 cases r <;> exact h
theorem sV {α:Type} {r:R α} {P P':α->ak->Prop} {E E':Str->ak->Prop} (h:r.post P E) (hp:∀ a S,P a S->P' a S) (he:∀ c S,E c S->E' c S):r.post P' E':=by
 cases r with
 | ok a S=>exact hp _ _ h
 | ex c S=>exact he _ _ h
 | no=>exact h.elim
noncomputable def gd {α:Type} (c:Prop) [Decidable c] (r:R α):R α:=if c then r else .no
noncomputable def opt {α β:Type} (o:Option β) (f:β->R α):R α:=match o with
 | some b=>f b
 | none=>.no
theorem aW {α:Type} {c:Prop} [Decidable c] {r:R α} {P:α->ak->Prop} {E:Str->ak->Prop} (h:(gd c r).post P E):c/\r.post P E:=by
 unfold gd at h
 by_cases hc:c
 ·rw [if_pos hc] at h;exact ⟨hc,h⟩
 ·rw [if_neg hc] at h;exact h.elim
theorem aK {α β:Type} {o:Option β} {f:β->R α} {P:α->ak->Prop} {E:Str->ak->Prop} (h:(opt o f).post P E):∃ b,o=some b/\(f b).post P E:=by
 cases o with
 | none=>exact h.elim
 | some b=>exact ⟨b,rfl,h⟩
noncomputable def aq (S:ak) (n:Nat):Option (List A):=match S[n]? with
 | some (.lst xs)=>some xs
 | _=>none
theorem aN {S:ak} {n:Nat} {xs:List A} (h:aq S n=some xs):S[n]?=some (.lst xs):=by
 unfold aq at h
 split at h
 ·rename_i e;cases h;exact e
 ·cases h
theorem gQ {S:ak} {n:Nat} {xs:List A} (h:S[n]?=some (.lst xs)):aq S n=some xs:=by
 unfold aq;rw [h]
inductive RS where
 | nx (τ:List A) (S:ak) | rt (a:A) (S:ak) | bk (τ:List A) (S:ak) | ct (τ:List A) (S:ak) | ex (c:Str) (S:ak) | no
noncomputable abbrev Ex:=List A->ak->R A
noncomputable abbrev fC:=List A->ak->R (List A)
noncomputable abbrev Te:=List A->ak->R Bool
noncomputable abbrev Sm:=List A->ak->RS
noncomputable abbrev Tg:=A->List A->ak->R (List A)
end Am
namespace Am
open PySem L2
section
variable (K:PySem.W.Frag) (ρ:List Addr) (H:Hp)
noncomputable def Fg (K:PySem.W.Frag) (c:Str) (C:Addr):Prop:=PySem.W.nsIn K mainGlobals c=some (some (.ref C))
noncomputable def Fz (K:PySem.W.Frag) (H:Hp) (a:Addr) (vs:List V):Prop:=
 (∃ o,H a=some (.frz o (.lst vs)))\/∃ (o:Obj) (its:Array Value) (n:Nat),K.lookup a=some o/\o.cls=.type "list" /\ o.dict=none/\o.data=.seq its n/\its.size<=sizeLine/\Vals vs its.toList
mutual
inductive AV:A->V->Prop
 | non:AV .non .non
 | bl (b:Bool):AV (.bl b) (.bl b)
 | int (i:Int):AV (.int i) (.int i)
 | str (x:Str):AV (.str x) (.str x)
 | ty (n:String):AV (.ty n) (.ty n)
 | tup {a:Addr} {xs:List A} {vs:List V} (h:H a=some (.tup vs)) (r:AVs xs vs):AV (.tup xs) (.ref a)
 | frz {a:Addr} {xs:List A} {vs:List V} (h:Fz K H a vs) (r:AVs xs vs):AV (.frz xs) (.ref a)
 | rng {a:Addr} {lo hi:Int} (h:H a=some (.rng lo hi)):AV (.rng lo hi) (.ref a)
 | ref {a:Addr} {n:Nat} (h:ρ[n]?=some a):AV (.ref n) (.ref a)
 | exn {a C:Addr} {c:Str} {oe:Obj} (n:Fg K c C) (h:H a=some (.frz oe xu)) (x:XO C oe):AV (.exn c) (.ref a)
inductive AVs:List A->List V->Prop
 | nil:AVs [] []
 | cons {x:A} {v:V} {xs:List A} {vs:List V} (h:AV x v) (t:AVs xs vs):AVs (x::xs) (v::vs)
end
noncomputable def DV:List (List Int×A)->List (List Key×V)->Prop
 | [],[]=>True
 | p::r,q::r'=>(q.1=p.1.map Sum.inl/\AV K ρ H p.2 q.2)/\DV r r'
 | _,_=>False
noncomputable def DI:List (Int×A)->List (Key×V)->Prop
 | [],[]=>True
 | p::r,q::r'=>(q.1=Sum.inl p.1/\AV K ρ H p.2 q.2)/\DI r r'
 | _,_=>False
noncomputable def OR (a:Addr):O->Prop
 | .lst xs=>∃ vs,H a=some (.lst vs)/\AVs K ρ H xs vs
 | .dct kvs=>∃ ks,H a=some (.dT ks)/\DV K ρ H kvs ks
 | .cY kvs=>∃ ks,H a=some (.dK ks)/\DI K ρ H kvs ks
 | .ins _ _=>∃ o u,H a=some (.frz o u)
structure Rel (S:ak):Prop where
 len:ρ.length=S.length
 nd:ρ.Nodup
 «at»:∀ (n:Nat) (a:Addr) (o:O),ρ[n]?=some a->S[n]?=some o->OR K ρ H a o
end
noncomputable def GQ:HO->Prop
 | .tup _=>True
 | .rng _ _=>True
 | .frz _ _=>True
 | _=>False
structure Ext0 (ρ ρ':List Addr) (H H':Hp):Prop where
 pre:ρ <+: ρ'
 im:∀ a u,GQ u->H a=some u->H' a=some u
structure Ext (ρ ρ':List Addr) (H H':Hp):Prop extends Ext0 ρ ρ' H H' where
 fr:∀ a u,H a=some u->a∉ρ->H' a=some u
 nw:∀ a,a∈ρ'->a∈ρ\/H a=none
theorem Ext.refl {ρ:List Addr} {H:Hp}:Ext ρ ρ H H:=⟨⟨List.prefix_refl _,fun _ _ _ h=>h⟩,fun _ _ h _=>h,fun _ h=>.inl h⟩
theorem Ext.trans {ρ ρ1 ρ2:List Addr} {H H1 H2:Hp} (a:Ext ρ ρ1 H H1) (b:Ext ρ1 ρ2 H1 H2):Ext ρ ρ2 H H2:=⟨⟨a.pre.trans b.pre,fun x u i h=>b.im x u i (a.im x u i h)⟩,fun x u h n=>b.fr x u (a.fr x u h n) fun z=>(a.nw x z).elim n fun z=>by (rw [z] at h;cases h),fun x h=>by
 by_cases hx:x∈ρ
 ·exact .inl hx
 ·right
  cases q:H x with
  | none=>rfl
  | some u=>
   rcases b.nw x h with z | z
   ·exact ((a.nw x z).elim hx fun z=>by (rw [z] at q;cases q)).elim
   ·rw [a.fr x u q hx] at z;cases z⟩
theorem Ext0.get {ρ ρ':List Addr} {H H':Hp} (e:Ext0 ρ ρ' H H') {n:Nat} {a:Addr} (h:ρ[n]?=some a):ρ'[n]?=some a:=by
 obtain ⟨t,rfl⟩:=e.pre
 rw [List.getElem?_append_left (List.getElem?_eq_some_iff.mp h).1]
 exact h
section
variable {K:PySem.W.Frag} {ρ ρ':List Addr} {H H':Hp}
theorem Ext0.Gy (e:Ext0 ρ ρ' H H') {a:Addr} {vs:List V} (h:dF K H a vs):dF K H' a vs:=by
 rcases h with (h | ⟨o,h⟩) | h
 ·exact .inl (.inl (e.im _ _ trivial h))
 ·exact .inl (.inr ⟨o,e.im _ _ trivial h⟩)
 ·exact .inr h
theorem Ext0.fz (e:Ext0 ρ ρ' H H') {a:Addr} {vs:List V} (h:Fz K H a vs):Fz K H' a vs:=by
 rcases h with ⟨o,h⟩ | h
 ·exact .inl ⟨o,e.im _ _ trivial h⟩
 ·exact .inr h
theorem Fz.Bk {a:Addr} {vs:List V} (h:Fz K H a vs):dW K H a vs:=by
 rcases h with ⟨o,h⟩ | h
 ·exact .inl (.inr ⟨o,h⟩)
 ·exact .inr h
mutual
theorem AV.cO (e:Ext0 ρ ρ' H H'):∀ {x:A} {v:V},AV K ρ H x v->AV K ρ' H' x v
 | _,_,.non=>.non
 | _,_,.bl b=>.bl b
 | _,_,.int i=>.int i
 | _,_,.str x=>.str x
 | _,_,.ty x=>.ty x
 | _,_,.tup h r=>.tup (e.im _ _ trivial h) (AVs.cO e r)
 | _,_,.frz h r=>.frz (e.fz h) (AVs.cO e r)
 | _,_,.rng h=>.rng (e.im _ _ trivial h)
 | _,_,.ref h=>.ref (e.get h)
 | _,_,.exn n h x=>.exn n (e.im _ _ trivial h) x
theorem AVs.cO (e:Ext0 ρ ρ' H H'):∀ {xs:List A} {vs:List V},AVs K ρ H xs vs->AVs K ρ' H' xs vs
 | _,_,.nil=>.nil
 | _,_,.cons h t=>.cons (AV.cO e h) (AVs.cO e t)
end
theorem DV.cO (e:Ext0 ρ ρ' H H'):∀ {xs:List (List Int×A)} {vs:List (List Key×V)},DV K ρ H xs vs->DV K ρ' H' xs vs
 | [],[],_=>trivial
 | _::_,_::_,⟨⟨a,b⟩,r⟩=>⟨⟨a,AV.cO e b⟩,DV.cO e r⟩
theorem DV.ext {x:List (List Int×A)} {v:List (List Key×V)} (h:DV K ρ H x v) (e:Ext ρ ρ' H H'):DV K ρ' H' x v:=DV.cO e.toExt0 h
theorem DI.cO (e:Ext0 ρ ρ' H H'):∀ {xs:List (Int×A)} {vs:List (Key×V)},DI K ρ H xs vs->DI K ρ' H' xs vs
 | [],[],_=>trivial
 | _::_,_::_,⟨⟨a,b⟩,r⟩=>⟨⟨a,AV.cO e b⟩,DI.cO e r⟩
theorem DI.ext {x:List (Int×A)} {v:List (Key×V)} (h:DI K ρ H x v) (e:Ext ρ ρ' H H'):DI K ρ' H' x v:=DI.cO e.toExt0 h
theorem AV.ext {x:A} {v:V} (h:AV K ρ H x v) (e:Ext ρ ρ' H H'):AV K ρ' H' x v:=AV.cO e.toExt0 h
theorem AVs.ext {x:List A} {v:List V} (h:AVs K ρ H x v) (e:Ext ρ ρ' H H'):AVs K ρ' H' x v:=AVs.cO e.toExt0 h
theorem AVs.length:∀ {xs:List A} {vs:List V},AVs K ρ H xs vs->xs.length=vs.length
 | _,_,.nil=>rfl
 | _,_,.cons _ t=>congrArg (·+1) (AVs.length t)
theorem AVs.append:∀ {xs ys:List A} {vs ws:List V},AVs K ρ H xs vs->AVs K ρ H ys ws->AVs K ρ H (xs++ys) (vs++ws)
 | _,_,_,_,.nil,s=>s
 | _,_,_,_,.cons h t,s=>.cons h (AVs.append t s)
theorem AVs.get:∀ {xs:List A} {vs:List V} {i:Nat} {x:A},AVs K ρ H xs vs->xs[i]?=some x->∃ v,vs[i]?=some v/\AV K ρ H x v
 | _,_,_,_,.nil,e=>by simp at e
 | _,_,0,_,.cons h _,e=>by simp at e;subst e;exact ⟨_,rfl,h⟩
 | _,_,i+1,x,.cons _ t,e=>by
  obtain ⟨u,h1,h2⟩:=AVs.get (i:=i) (x:=x) t (by simpa using e)
  exact ⟨u,by simpa using h1,h2⟩
theorem AVs.set {x:A} {v:V} (h:AV K ρ H x v):∀ {xs:List A} {vs:List V} (i:Nat),AVs K ρ H xs vs->AVs K ρ H (xs.set i x) (vs.set i v)
 | _,_,_,.nil=>.nil
 | _,_,0,.cons _ t=>.cons h t
 | _,_,i+1,.cons q t=>.cons q (AVs.set h i t)
theorem AVs.one {x:A} {v:V} (h:AV K ρ H x v):AVs K ρ H [x] [v]:=.cons h .nil
theorem j7:∀ (ns:List Int),AVs K ρ H (ns.map .int) (ns.map .int)
 | []=>.nil
 | n::ns=>.cons (.int n) (j7 ns)
theorem Rel.lay {S:ak} {p:Addr} {xs:List A} {vs:List V} (R:Rel K ρ H S) (hp:H p=none) (r:AVs K ρ H xs vs):Ext ρ (ρ++[p]) H (upd H p (.lst vs))/\Rel K (ρ++[p]) (upd H p (.lst vs)) (S++[.lst xs])/\(ρ++[p])[S.length]?=some p:=by
 have ex:Ext ρ (ρ++[p]) H (upd H p (.lst vs)):=⟨⟨List.prefix_append _ _,fun a u _ h=>by rw [aL (aT h hp)];exact h⟩,fun a u h _=>by rw [aL (aT h hp)];exact h,fun a h=>by
  rcases List.mem_append.mp h with z | z
  ·exact .inl z
  ·have e:a=p:=by simpa using z
   rw [e];exact .inr hp⟩
 have np:∀ (n:Nat) (a:Addr),ρ[n]?=some a->a≠p:=by
  intro n a e z
  subst z
  have hn:n < S.length:=by rw [<- R.len];exact (List.getElem?_eq_some_iff.mp e).1
  have:=R.at n a S[n] e (List.getElem?_eq_getElem hn)
  cases ho:S[n] with
  | lst xs=>rw [ho] at this;obtain ⟨vs,h,_⟩:=this;rw [hp] at h;cases h
  | dct _ | cY _=>rw [ho] at this;obtain ⟨vs,h,_⟩:=this;rw [hp] at h;cases h
  | ins _ _=>rw [ho] at this;obtain ⟨_,_,h⟩:=this;rw [hp] at h;cases h
 have last:(ρ++[p])[S.length]?=some p:=by rw [<- R.len];simp
 refine ⟨ex,⟨by simp [R.len],?_,?_⟩,last⟩
 ·rw [List.nodup_append]
  refine ⟨R.nd,by simp,fun a ha b hb e=>?_⟩
  have:b=p:=by simpa using hb
  obtain ⟨n,hn,e'⟩:=List.mem_iff_getElem.mp ha
  exact np n a (by rw [List.getElem?_eq_getElem hn,e']) (e.trans this)
 ·intro n a o h1 h2
  by_cases hn:n < S.length
  ·rw [List.getElem?_append_left (by rw [R.len];exact hn)] at h1
   rw [List.getElem?_append_left hn] at h2
   have:=R.at n a o h1 h2
   cases o with
   | lst ys=>obtain ⟨ws,e,q⟩:=this;exact ⟨ws,by rw [aL (np n a h1)];exact e,q.ext ex⟩
   | dct _ | cY _=>obtain ⟨ws,e,q⟩:=this;exact ⟨ws,by rw [aL (np n a h1)];exact e,q.ext ex⟩
   | ins _ _=>obtain ⟨oo,uu,e⟩:=this;exact ⟨oo,uu,by rw [aL (np n a h1)];exact e⟩
  ·have e:n=S.length:=by
    have:=(List.getElem?_eq_some_iff.mp h2).1
    simp at this
    omega
   subst e
   rw [last] at h1
   cases h1
   simp at h2
   subst h2
   exact ⟨vs,cF,r.ext ex⟩
theorem Rel.im {S:ak} {p:Addr} {u:HO} (R:Rel K ρ H S) (hp:H p=none):Ext ρ ρ H (upd H p u)/\Rel K ρ (upd H p u) S:=by
 have ex:Ext ρ ρ H (upd H p u):=⟨⟨List.prefix_refl _,fun a u _ h=>by rw [aL (aT h hp)];exact h⟩,fun a u h _=>by rw [aL (aT h hp)];exact h,fun _ h=>.inl h⟩
 refine ⟨ex,R.len,R.nd,fun n a o h1 h2=>?_⟩
 have:=R.at n a o h1 h2
 cases o with
 | lst ys=>obtain ⟨ws,e,q⟩:=this;exact ⟨ws,by rw [aL (aT e hp)];exact e,q.ext ex⟩
 | dct _ | cY _=>obtain ⟨ws,e,q⟩:=this;exact ⟨ws,by rw [aL (aT e hp)];exact e,q.ext ex⟩
 | ins _ _=>obtain ⟨oo,uu,e⟩:=this;exact ⟨oo,uu,by rw [aL (aT e hp)];exact e⟩
theorem Rel.put {S:ak} {n:Nat} {a:Addr} {xs ys:List A} {ws:List V} (R:Rel K ρ H S) (ha:ρ[n]?=some a) (hS:S[n]?=some (.lst xs)) (r:AVs K ρ H ys ws):Ext ρ ρ H (upd H a (.lst ws))/\Rel K ρ (upd H a (.lst ws)) (S.set n (.lst ys)):=by
 obtain ⟨vs,e,_⟩:=R.at n a _ ha hS
 have ex:Ext ρ ρ H (upd H a (.lst ws)):=⟨⟨List.prefix_refl _,fun b u i h=>by
  have:b≠a:=by
   intro z;subst z;rw [e] at h;cases h;exact i
  rw [aL this];exact h⟩,fun b u h n=>by
  rw [aL (fun z=>n (by rw [z];exact List.mem_of_getElem? ha))];exact h,fun _ h=>.inl h⟩
 refine ⟨ex,by rw [List.length_set];exact R.len,R.nd,fun m b o h1 h2=>?_⟩
 by_cases hm:m=n
 ·subst hm
  rw [ha] at h1;cases h1
  rw [List.getElem?_set_self (List.getElem?_eq_some_iff.mp hS).1] at h2
  cases h2
  exact ⟨ws,cF,r.ext ex⟩
 ·rw [List.getElem?_set_ne (Ne.symm hm)] at h2
  have nb:b≠a:=fun z=>by
   subst z
   obtain ⟨l1,e1⟩:=List.getElem?_eq_some_iff.mp ha
   obtain ⟨l2,e2⟩:=List.getElem?_eq_some_iff.mp h1
   exact hm ((List.getElem_inj R.nd).mp (e2.trans e1.symm))
  have:=R.at m b o h1 h2
  cases o with
  | lst ys=>obtain ⟨ws',e',q⟩:=this;exact ⟨ws',by rw [aL nb];exact e',q.ext ex⟩
  | dct _ | cY _=>obtain ⟨ws',e',q⟩:=this;exact ⟨ws',by rw [aL nb];exact e',q.ext ex⟩
  | ins _ _=>obtain ⟨oo,uu,e'⟩:=this;exact ⟨oo,uu,by rw [aL nb];exact e'⟩
theorem Rel.lst {S:ak} {n:Nat} {a:Addr} {xs:List A} (R:Rel K ρ H S) (ha:ρ[n]?=some a) (hS:S[n]?=some (.lst xs)):∃ vs,H a=some (.lst vs)/\AVs K ρ H xs vs:=R.at n a _ ha hS
structure SR (K:PySem.W.Frag) (ρ:List Addr) (H:Hp) (τ:List A) (σ:St):Prop where
 len:τ.length=σ.length
 «at»:∀ (i:Nat) (a:A),τ[i]?=some a->a=.unb\/∃ v,σ[i]?=some (some v)/\AV K ρ H a v
theorem SR.cO {τ:List A} {σ:St} (s:SR K ρ H τ σ) (e:Ext0 ρ ρ' H H'):SR K ρ' H' τ σ:=⟨s.len,fun i a h=>by
 rcases s.at i a h with z | ⟨v,h1,h2⟩
 ·exact .inl z
 ·exact .inr ⟨v,h1,AV.cO e h2⟩⟩
theorem SR.ext {τ:List A} {σ:St} (s:SR K ρ H τ σ) (e:Ext ρ ρ' H H'):SR K ρ' H' τ σ:=s.cO e.toExt0
theorem Rel.out {S:ak} {D:Addr} {vs ws:List V} (R:Rel K ρ H S) (hD:H D=some (.lst vs)) (hn:D∉ρ):Ext0 ρ ρ H (upd H D (.lst ws))/\Rel K ρ (upd H D (.lst ws)) S:=by
 have ex:Ext0 ρ ρ H (upd H D (.lst ws)):=⟨List.prefix_refl _,fun b u i h=>by
  have:b≠D:=by
   intro z;subst z;rw [hD] at h;cases h;exact i
  rw [aL this];exact h⟩
 refine ⟨ex,R.len,R.nd,fun n a o h1 h2=>?_⟩
 have na:a≠D:=fun z=>hn (by rw [<- z];exact List.mem_of_getElem? h1)
 have:=R.at n a o h1 h2
 cases o with
 | lst ys=>obtain ⟨ws',e,q⟩:=this;exact ⟨ws',by rw [aL na];exact e,AVs.cO ex q⟩
 | dct _ | cY _=>obtain ⟨ws',e,q⟩:=this;exact ⟨ws',by rw [aL na];exact e,q.cO ex⟩
 | ins _ _=>obtain ⟨oo,uu,e⟩:=this;exact ⟨oo,uu,by rw [aL na];exact e⟩
theorem Rel.take {S:ak} {D:Addr} {xs:List A} {vs:List V} (R:Rel K ρ H S) (hD:H D=some (.lst vs)) (hn:D∉ρ) (r:AVs K ρ H xs vs):Rel K (ρ++[D]) H (S++[.lst xs])/\(ρ++[D])[S.length]?=some D:=by
 have ex:Ext0 ρ (ρ++[D]) H H:=⟨List.prefix_append _ _,fun _ _ _ h=>h⟩
 have last:(ρ++[D])[S.length]?=some D:=by rw [<- R.len];simp
 refine ⟨⟨by simp [R.len],?_,fun n a o h1 h2=>?_⟩,last⟩
 ·rw [List.nodup_append]
  refine ⟨R.nd,by simp,fun a ha b hb e=>?_⟩
  have:b=D:=by simpa using hb
  exact hn (by rw [<- this,<- e];exact ha)
 ·by_cases hs:n < S.length
  ·rw [List.getElem?_append_left (by rw [R.len];exact hs)] at h1
   rw [List.getElem?_append_left hs] at h2
   have:=R.at n a o h1 h2
   cases o with
   | lst ys=>obtain ⟨ws,e,q⟩:=this;exact ⟨ws,e,AVs.cO ex q⟩
   | dct _ | cY _=>obtain ⟨ws,e,q⟩:=this;exact ⟨ws,e,q.cO ex⟩
   | ins _ _=>obtain ⟨oo,uu,e⟩:=this;exact ⟨oo,uu,e⟩
  ·have e:n=S.length:=by
    have:=(List.getElem?_eq_some_iff.mp h2).1
    simp at this
    omega
   subst e
   rw [last] at h1
   cases h1
   simp at h2
   subst h2
   exact ⟨vs,hD,AVs.cO ex r⟩
theorem SR.set {τ:List A} {σ:St} {i:Nat} {a:A} {v:V} (s:SR K ρ H τ σ) (h:AV K ρ H a v):SR K ρ H (τ.set i a) (σ.set i (some v)):=by
 refine ⟨by simp [s.len],fun j b e=>?_⟩
 by_cases hj:j=i
 ·subst hj
  have hl:j < τ.length:=by
   have:=(List.getElem?_eq_some_iff.mp e).1
   simpa using this
  rw [List.getElem?_set_self hl] at e
  cases e
  exact .inr ⟨v,List.getElem?_set_self (by rw [<- s.len];exact hl),h⟩
 ·rw [List.getElem?_set_ne (Ne.symm hj)] at e
  rw [List.getElem?_set_ne (Ne.symm hj)]
  exact s.at j b e
end
end Am
namespace Am
open PySem PySem.Spec PyProof.Rows L2
noncomputable def XE (X:Cx) (ρ:List Addr) (H:Hp):Str->ak->Prop:=fun c S'=>∀ (C:Addr) (ρ':List Addr) (H':Hp),Fg X.K c C->Ext ρ ρ' H H'->Rel X.K ρ' H' S'->EX X (.ref C) none H'
theorem XE.ext {X:Cx} {ρ ρ':List Addr} {H H':Hp} {c:Str} {S:ak} (h:XE X ρ H c S) (e:Ext ρ ρ' H H'):XE X ρ' H' c S:=fun C ρ2 H2 n e2=>h C ρ2 H2 n (e.trans e2)
noncomputable def m9 (X:Cx) (ρ:List Addr) (H:Hp) (Q:VK):A->ak->Prop:=fun a S'=>∀ ρ' H' v,Ext ρ ρ' H H'->Rel X.K ρ' H' S'->AV X.K ρ' H' a v->Q v H'
noncomputable def EJ (X:Cx) (ρ:List Addr) (H:Hp) (Q:Bool->Hp->Prop):Bool->ak->Prop:=fun b S'=>∀ ρ' H',Ext ρ ρ' H H'->Rel X.K ρ' H' S'->Q b H'
noncomputable def GP (X:Cx) (ρ:List Addr) (H:Hp) (Q:List V->Hp->Prop):List A->ak->Prop:=fun as S'=>∀ ρ' H' vs,Ext ρ ρ' H H'->Rel X.K ρ' H' S'->AVs X.K ρ' H' as vs->Q vs H'
theorem m9.ext {X:Cx} {ρ ρ':List Addr} {H H':Hp} {Q:VK} {a:A} {S:ak} (h:m9 X ρ H Q a S) (e:Ext ρ ρ' H H'):m9 X ρ' H' Q a S:=fun ρ2 H2 v e2=>h ρ2 H2 v (e.trans e2)
theorem EJ.ext {X:Cx} {ρ ρ':List Addr} {H H':Hp} {Q:Bool->Hp->Prop} {a:Bool} {S:ak} (h:EJ X ρ H Q a S) (e:Ext ρ ρ' H H'):EJ X ρ' H' Q a S:=fun ρ2 H2 e2=>h ρ2 H2 (e.trans e2)
theorem aC {α:Type} {X:Cx} {ρ ρ':List Addr} {H H':Hp} {r:R α} {P P':α->ak->Prop} (h:r.post P (XE X ρ H)) (e:Ext ρ ρ' H H') (hp:∀ a S,P a S->P' a S):r.post P' (XE X ρ' H'):=sV h hp fun _ _ z=>z.ext e
noncomputable def tE (X:Cx) (c:Ex):TE:=fun σ H Q=>∃ ρ S τ,Rel X.K ρ H S/\SR X.K ρ H τ σ/\(c τ S).post (m9 X ρ H Q) (XE X ρ H)
noncomputable def tT (X:Cx) (c:Te):TT:=fun σ H Q=>∃ ρ S τ,Rel X.K ρ H S/\SR X.K ρ H τ σ/\(c τ S).post (EJ X ρ H Q) (XE X ρ H)
noncomputable def tL (X:Cx) (c:fC):TA:=fun σ H Q=>∃ ρ S τ,Rel X.K ρ H S/\SR X.K ρ H τ σ/\(c τ S).post (GP X ρ H Q) (XE X ρ H)
noncomputable def AE (X:Cx) (e:Expr) (c:Ex):Prop:=PE X e (tE X c)
noncomputable def AT (X:Cx) (e:Expr) (c:Te):Prop:=PT X e (tT X c)
noncomputable def AW (X:Cx) (e:Expr) (c:Te):Prop:=PW X e (tT X c)
noncomputable def AL (X:Cx) (es:List Expr) (c:fC):Prop:=PA X es (tL X c)
theorem PE.imp {X:Cx} {e:Expr} {t t':TE} (h:PE X e t) (i:∀ σ H Q,t' σ H Q->t σ H Q):PE X e t':=fun pins s σ H Q I q=>h pins s σ H Q I (i σ H Q q)
theorem PT.imp {X:Cx} {e:Expr} {t t':TT} (h:PT X e t) (i:∀ σ H Q,t' σ H Q->t σ H Q):PT X e t':=fun pins s σ H Q I q=>h pins s σ H Q I (i σ H Q q)
theorem PW.imp {X:Cx} {e:Expr} {t t':TT} (h:PW X e t) (i:∀ σ H Q,t' σ H Q->t σ H Q):PW X e t':=fun w pins s σ H Q I q=>h w pins s σ H Q I (i σ H Q q)
theorem PA.imp {X:Cx} {e:List Expr} {t t':TA} (h:PA X e t) (i:∀ σ H Q,t' σ H Q->t σ H Q):PA X e t':=fun p pins s σ H Q I q=>h p pins s σ H Q I (i σ H Q q)
theorem AW.at {X:Cx} {e:Expr} {c:Te} (h:AW X e c):AT X e c:=h _
noncomputable def A.dG:A->Bool
 | .unb=>true
 | _=>false
noncomputable def aj (i:Nat):Ex:=fun τ S=>if (τ.getD i .unb).dG then .no else .ok (τ.getD i .unb) S
noncomputable def eC (a:A):Ex:=fun _ S=>.ok a S
section
variable {X:Cx} {pos:Pos} {a b:Expr}
theorem aa (i:Nat) {x:Str} (hN:X.N[i]?=some x:=by rfl) (hv:Dg X.env.scope x:=by first | exact Or.inl rfl | exact Or.inr (Or.inl rfl) | exact Or.inr (Or.inr rfl)) (hd:(x == ("__debug__" : Str))=false:=by decide)
  (hcd:(x == ("__classdict__" : Str))=false:=by decide):AE X (.Name x pos) (aj i):=PE.imp (uU hN hv hd hcd) fun σ H Q h9=>by
 obtain ⟨ρ,S,τ,R,r,h⟩:=h9
 unfold aj at h
 cases hi:τ[i]? with
 | none=>
  rw [List.getD_eq_getElem?_getD,hi] at h
  exact h.elim
 | some x=>
  rw [List.getD_eq_getElem?_getD,hi] at h
  rcases r.at i x hi with z | ⟨v,e,q⟩
  ·subst z;exact h.elim
  ·refine ⟨v,e,?_⟩
   cases x <;> first | (exact h ρ H v .refl R q) | exact h.elim
theorem az {i:Int} {j pos}:AE X (.Constant (.int i) j pos) (eC (.int i)):=PE.imp B5 fun σ H Q ⟨ρ,S,τ,R,r,h⟩=>h ρ H _ .refl R (.int i)
theorem gK {i:Bool} {j pos}:AE X (.Constant (.bool i) j pos) (eC (.bl i)):=PE.imp Eu fun σ H Q ⟨ρ,S,τ,R,r,h⟩=>h ρ H _ .refl R (.bl i)
noncomputable def aF (f:A->A->ak->R A) (ca cb:Ex):Ex:=fun τ S=>(ca τ S).bind fun a S1=>(cb τ S1).bind fun b S2=>f a b S2
noncomputable def r2 (X:Cx) (f:A->A->ak->R A):R2:=fun x y H Q=>∃ ρ S a b,Rel X.K ρ H S/\AV X.K ρ H a x/\AV X.K ρ H b y/\(f a b S).post (m9 X ρ H Q) (XE X ρ H)
noncomputable def r1 (X:Cx) (f:A->ak->R A):V->Hp->VK->Prop:=fun x H Q=>∃ ρ S a,Rel X.K ρ H S/\AV X.K ρ H a x/\(f a S).post (m9 X ρ H Q) (XE X ρ H)
noncomputable def rN (X:Cx) (f:List A->ak->R A):List V->Hp->VK->Prop:=fun xs H Q=>∃ ρ S as,Rel X.K ρ H S/\AVs X.K ρ H as xs/\(f as S).post (m9 X ρ H Q) (XE X ρ H)
theorem dO.imp {f:Value->Value->Sem Value} {r r':R2} (h:dO X f r) (i:∀ x y H Q,r' x y H Q->r x y H Q):dO X f r':=fun pins s σ H x y v u Q I rx ry q=>h pins s σ H x y v u Q I rx ry (i _ _ _ _ q)
theorem bw.imp {f:Value} {r r':List V->Hp->VK->Prop} (h:bw X f r) (i:∀ x H Q,r' x H Q->r x H Q):bw X f r':=fun pins s σ H x v Q I rx q=>h pins s σ H x v Q I rx (i _ _ _ q)
theorem gT {f:A->A->ak->R A} {ca cb:Ex} {σ:L2.St} {H:Hp} {Q:VK} (h:tE X (aF f ca cb) σ H Q):DR (r2 X f) (tE X ca) (tE X cb) σ H Q:=by
 obtain ⟨ρ,S,τ,R,r,h⟩:=h
 refine ⟨ρ,S,τ,R,r,aC (aI h) .refl fun a S1 h1 ρ1 H1 x e1 R1 v1=>⟨ρ1,S1,τ,R1,r.ext e1,aC (aI h1) e1 fun b S2 h2 ρ2 H2 y e2 R2 v2=>?_⟩⟩
 exact ⟨ρ2,S2,a,b,R2,v1.ext e2,v2,aC h2 (e1.trans e2) fun c S3 h3=>h3.ext (e1.trans e2)⟩
theorem aO {op:Operator} {f:A->A->ak->R A} {ca cb:Ex} (ho:dO X (binaryOp op) (r2 X f)) (ha:AE X a ca) (hb:AE X b cb):AE X (.BinOp a op b pos) (aF f ca cb):=
 PE.imp (Eo ho ha hb) fun σ H Q h=>gT h
theorem mK {op:CmpOp} {f:A->A->ak->R A} {ca cb:Ex} (ho:dO X (compareOp op) (r2 X f)) (ha:AE X a ca) (hb:AE X b cb) (hm:behindInMarks op b=false:=by first | exact ya _ | with_unfolding_all rfl):AE X (.Compare a [op] [b] pos) (aF f ca cb):=
 PE.imp (zd ho ha hb hm) fun σ H Q h=>gT h
noncomputable def A.Ez:A->ak->Option Bool
 | .non,_=>some false
 | .bl b,_=>some b
 | .int i,_=>some (i != 0)
 | .str x,_=>if x.length<=sizeLine then some ((x.length:Int) != 0) else none
 | .tup xs,_=>some (!xs.isEmpty)
 | .frz xs,_=>some (!xs.isEmpty)
 | .ref n,S=>(aq S n).map fun xs=>!xs.isEmpty
 | _,_=>none
noncomputable def kB (c:Ex):Te:=fun τ S=>(c τ S).bind fun a S1=>opt (a.Ez S1) fun b=>.ok b S1
noncomputable def iI (c:Ex):Te:=fun τ S=>(c τ S).bind fun a S1=>match a with
 | .bl b=>.ok b S1
 | _=>.no
theorem uT {K:PySem.W.Frag} {ρ:List Addr} {H:Hp} {b:Bool} {v:V} (h:AV K ρ H (.bl b) v):v=.bl b:=by cases h;rfl
theorem bP {op:CmpOp} {f:A->A->ak->R A} {ca cb:Ex} (ho:dO X (compareOp op) (r2 X f)) (ha:AE X a ca) (hb:AE X b cb) (hm:behindInMarks op b=false:=by first | exact ya _ | with_unfolding_all rfl):AT X (.Compare a [op] [b] pos) (iI (aF f ca cb)):=
 PT.imp (zg ho ha hb hm) fun σ H Q h9=>by
  obtain ⟨ρ,S,τ,R,r,h⟩:=h9
  refine gT ⟨ρ,S,τ,R,r,aC (aI h) .refl fun c S1 h1 ρ1 H1 x e1 R1 v1=>?_⟩
  cases c with
  | bl k=>cases uT v1;exact ⟨k,rfl,h1 ρ1 H1 e1 R1⟩
  | _=>exact h1.elim
theorem Bp {K:PySem.W.Frag} {ρ:List Addr} {H:Hp} {S:ak} {x:A} {v:V} {b:Bool} (R:Rel K ρ H S) (h:AV K ρ H x v) (e:x.Ez S=some b):BJ K v H b:=by
 have emp:∀ {xs:List A} {vs:List V},AVs K ρ H xs vs->(!xs.isEmpty)=!vs.isEmpty:=fun r=>by cases r <;> rfl
 cases h with
 | non=>exact (Option.some.inj e).symm
 | bl b=>exact (Option.some.inj e).symm
 | int i=>exact (Option.some.inj e).symm
 | str x=>
  by_cases hx:x.length<=sizeLine
  ·exact ⟨hx,by have:=(if_pos hx).symm.trans e;exact (Option.some.inj this).symm⟩
  ·have:=(if_neg hx).symm.trans e;cases this
 | tup h r=>exact .inr (.inl ⟨_,dF.of h,by rw [<- emp r];exact (Option.some.inj e).symm⟩)
 | frz h r=>exact .inl ⟨_,h.Bk,by rw [<- emp r];exact (Option.some.inj e).symm⟩
 | rng h=>cases e
 | ty n=>cases e
 | exn n h x=>cases e
 | @ref a n h=>
  have e:(aq S n).map (fun xs=>!xs.isEmpty)=some b:=e
  obtain ⟨xs,hn,e⟩:=Option.map_eq_some_iff.mp e
  obtain ⟨vs,h1,h2⟩:=R.lst h (aN hn)
  exact .inl ⟨vs,dW.of h1,by rw [<- emp h2];exact e.symm⟩
theorem gu {ca:Ex} (ha:AE X a ca) (he:∀ whole,isTrue a X.env whole=(do let v <- whole;standAt a.pos;holding [v] (truthy v)):=by intro _;rfl):AT X a (kB ca):=
 PT.imp (w6 ha he) fun σ H Q ⟨ρ,S,τ,R,r,h⟩=>⟨ρ,S,τ,R,r,aC (aI h) .refl fun c S1 h1 ρ1 H1 x e1 R1 v1=>by
  obtain ⟨b,hb,h1⟩:=aK h1
  exact ⟨b,Bp R1 v1 hb,h1 ρ1 H1 e1 R1⟩⟩
noncomputable def mC (c:Te):Te:=fun τ S=>(c τ S).bind fun b S1=>.ok (!b) S1
noncomputable def zb (c d:Te):Te:=fun τ S=>(c τ S).bind fun b S1=>match b with | true=>d τ S1 | false=>.ok false S1
noncomputable def yz (c d:Te):Te:=fun τ S=>(c τ S).bind fun b S1=>match b with | true=>.ok true S1 | false=>d τ S1
theorem iG {c:Te} (h:AT X a c):AT X (.UnaryOp .Not a pos) (mC c):=PT.imp (Ce h) fun σ H Q ⟨ρ,S,τ,R,r,h⟩=>⟨ρ,S,τ,R,r,aC (aI h) .refl fun b S1 h1=>h1⟩
theorem and_imp {c d:Te} {σ:L2.St} {H:Hp} {Q:Bool->Hp->Prop} (h:tT X (zb c d) σ H Q):Dm (tT X c) (tT X d) σ H Q:=by
 obtain ⟨ρ,S,τ,R,r,h⟩:=h
 refine ⟨ρ,S,τ,R,r,aC (aI h) .refl fun b S1 h1 ρ1 H1 e1 R1=>?_⟩
 cases b with
 | true=>
  rw [if_pos rfl]
  exact ⟨ρ1,S1,τ,R1,r.ext e1,aC h1 e1 fun _ _ z=>z.ext e1⟩
 | false=>
  rw [if_neg Bool.false_ne_true]
  exact h1 ρ1 H1 e1 R1
theorem or_imp {c d:Te} {σ:L2.St} {H:Hp} {Q:Bool->Hp->Prop} (h:tT X (yz c d) σ H Q):GA (tT X c) (tT X d) σ H Q:=by
 obtain ⟨ρ,S,τ,R,r,h⟩:=h
 refine ⟨ρ,S,τ,R,r,aC (aI h) .refl fun b S1 h1 ρ1 H1 e1 R1=>?_⟩
 cases b with
 | false=>
  rw [if_neg Bool.false_ne_true]
  exact ⟨ρ1,S1,τ,R1,r.ext e1,aC h1 e1 fun _ _ z=>z.ext e1⟩
 | true=>
  rw [if_pos rfl]
  exact h1 ρ1 H1 e1 R1
variable {rest:List Expr}
theorem zo {c:Te} (h:AT X a c):AW X (.BoolOp .And [a] pos) c:=z8 h
theorem mJ {c:Te} (h:AT X a c):AW X (.BoolOp .Or [a] pos) c:=BY h
theorem Bq {c d:Te} (h:AT X a c) (h2:AW X (.BoolOp .And (b::rest) pos) d):AW X (.BoolOp .And (a::b::rest) pos) (zb c d):=PW.imp (Cw h h2) fun _ _ _ q=>and_imp q
theorem jK {c d:Te} (h:AT X a c) (h2:AW X (.BoolOp .Or (b::rest) pos) d):AW X (.BoolOp .Or (a::b::rest) pos) (yz c d):=PW.imp (Dv h h2) fun _ _ _ q=>or_imp q
noncomputable def z0 (c d:Ex):Ex:=fun τ S=>(c τ S).bind fun a S1=>match a with | .bl true=>d τ S1 | .bl false=>.ok (.bl false) S1 | _=>.no
noncomputable def Gz (c d:Ex):Ex:=fun τ S=>(c τ S).bind fun a S1=>match a with | .bl true=>.ok (.bl true) S1 | .bl false=>d τ S1 | _=>.no
noncomputable def Fv (c:Ex):Ex:=fun τ S=>(c τ S).bind fun a S1=>match a with | .bl b=>.ok (.bl !b) S1 | _=>.no
theorem Co {op} {c:Ex} (h:AE X a c):AE X (.BoolOp op [a] pos) c:=A_ h
theorem BD {c d:Ex} (h:AE X a c) (h2:AE X (.BoolOp .And (b::rest) pos) d):AE X (.BoolOp .And (a::b::rest) pos) (z0 c d):=PE.imp (CG h h2) fun σ H Q h9=>by
 obtain ⟨ρ,S,τ,R,r,h⟩:=h9
 refine ⟨ρ,S,τ,R,r,aC (aI h) .refl fun b S1 h1 ρ1 H1 x e1 R1 v1=>?_⟩
 cases b with
 | bl k=>
  cases uT v1
  refine ⟨k,rfl,?_⟩
  cases k with
  | true=>
   rw [if_pos rfl]
   exact ⟨ρ1,S1,τ,R1,r.ext e1,aC h1 e1 fun _ _ z=>z.ext e1⟩
  | false=>
   rw [if_neg Bool.false_ne_true]
   exact h1 ρ1 H1 _ e1 R1 (.bl false)
 | _=>exact h1.elim
noncomputable def GN (t:Te) (c d:Ex):Ex:=fun τ S=>(t τ S).bind fun b S1=>match b with | true=>c τ S1 | false=>d τ S1
noncomputable def aJ:fC:=fun _ S=>.ok [] S
noncomputable def ah (c:Ex) (d:fC):fC:=fun τ S=>(c τ S).bind fun a S1=>(d τ S1).bind fun as S2=>.ok (a::as) S2
theorem aA:AL X [] aJ:=PA.imp pM fun σ H Q ⟨ρ,S,τ,R,r,h⟩=>h ρ H _ .refl R .nil
theorem af {e:Expr} {es:List Expr} {c:Ex} {d:fC} (ha:AE X e c) (hr:AL X es d) (hs:starEach (e::es) X.env=(false,eval e X.env)::starEach es X.env:=by rfl):AL X (e::es) (ah c d):=
 PA.imp (mW ha hr hs) fun σ H Q h9=>by
  obtain ⟨ρ,S,τ,R,r,h⟩:=h9
  refine ⟨ρ,S,τ,R,r,aC (aI h) .refl fun a S1 h1 ρ1 H1 x e1 R1 v1=>⟨ρ1,S1,τ,R1,r.ext e1,aC (aI h1) e1 fun as S2 h2 ρ2 H2 xs e2 R2 v2=>?_⟩⟩
  exact h2 ρ2 H2 _ (e1.trans e2) R2 (.cons (v1.ext e2) v2)
noncomputable def fY (d:fC):Ex:=fun τ S=>(d τ S).bind fun as S1=>gd (as.length<=sizeLine) (.ok (.tup as) S1)
noncomputable def newL (as:List A) (S:ak):R A:=gd (as.length<=sizeLine) (.ok (.ref S.length) (S++[.lst as]))
noncomputable def iD (d:fC):Ex:=fun τ S=>(d τ S).bind fun as S1=>newL as S1
theorem rG {ρ ρ0:List Addr} {H H0:Hp} {S:ak} {as:List A} {vs:List V} {Q:VK} (R:Rel X.K ρ H S) (r:AVs X.K ρ H as vs) (e:Ext ρ0 ρ H0 H) (h:m9 X ρ0 H0 Q (.tup as) S):∀ p,H p=none->Q (.ref p) (upd H p (.tup vs)):=fun p hp=>by
 obtain ⟨ex,R'⟩:=R.im (u:=.tup vs) hp
 exact h ρ _ _ (e.trans ex) R' (.tup cF (r.ext ex))
theorem dQ {ρ ρ0:List Addr} {H H0:Hp} {S:ak} {as:List A} {vs:List V} {Q:VK} (R:Rel X.K ρ H S) (r:AVs X.K ρ H as vs) (e:Ext ρ0 ρ H0 H) (h:m9 X ρ0 H0 Q (.ref S.length) (S++[.lst as])):∀ p,H p=none->Q (.ref p) (upd H p (.lst vs)):=fun p hp=>by
 obtain ⟨ex,R',g⟩:=R.lay hp r
 exact h _ _ _ (e.trans ex) R' (.ref g)
theorem zw {ρ ρ0:List Addr} {H H0:Hp} {S:ak} {as:List A} {vs:List V} {Q:VK} (R:Rel X.K ρ H S) (r:AVs X.K ρ H as vs) (e:Ext ρ0 ρ H0 H) (h:(newL as S).post (m9 X ρ0 H0 Q) (XE X ρ0 H0)):vs.length<=sizeLine/\∀ p,H p=none->Q (.ref p) (upd H p (.lst vs)):=by
 obtain ⟨hl,h⟩:=aW h
 exact ⟨by rw [<- r.length];exact hl,dQ R r e h⟩
theorem fH {es:List Expr} {d:fC} {x1} (h:AL X es d):AE X (.Tuple es x1 pos) (fY d):=PE.imp (C1 h) fun σ H Q h9=>by
 obtain ⟨ρ,S,τ,R,r,h⟩:=h9
 refine ⟨ρ,S,τ,R,r,aC (aI h) .refl fun as S1 h1 ρ1 H1 xs e1 R1 v1=>?_⟩
 obtain ⟨hl,h1⟩:=aW h1
 exact ⟨by rw [<- v1.length];exact hl,rG R1 v1 e1 h1⟩
theorem fJ {es:List Expr} {d:fC} (h:AL X es d):AE X (.List es pos) (iD d):=PE.imp (Be h) fun σ H Q ⟨ρ,S,τ,R,r,h⟩=>
 ⟨ρ,S,τ,R,r,aC (aI h) .refl fun as S1 h1 ρ1 H1 xs e1 R1 v1=>zw R1 v1 e1 h1⟩
end
section
variable {X:Cx} {pos:Pos} {a b:Expr}
noncomputable def aSub (a b:A) (S:ak):R A:=match a,b with
 | .int i,.int j=>.ok (.int (i - j)) S
 | _,_=>.no
theorem kI:dO X (binaryOp .Sub) (r2 X aSub):=dO.imp Cs fun x y H Q h9=>by
 obtain ⟨ρ,S,a,b,R,va,vb,h⟩:=h9
 cases va <;> first | exact h.elim | (cases vb <;> first | exact h.elim | exact ⟨_,_,rfl,rfl,h _ _ _ .refl R (.int _)⟩)
noncomputable def ny (i j:Int):Bool:=(decide (-(2 ^ 64) < i) && decide (i < 2 ^ 64)) || (decide (-(2 ^ 64) < j) && decide (j < 2 ^ 64))
theorem mulOk_of {i j:Int} (h:ny i j=true):yF i j:=by
 unfold ny at h
 simp only [Bool.or_eq_true,Bool.and_eq_true,decide_eq_true_eq] at h
 exact h
noncomputable def gM (a b:A) (S:ak):R A:=match a,b with
 | .int i,.int j=>gd (ny i j) (.ok (.int (i * j)) S)
 | .ref n,.int k=>opt (aq S n) fun xs=>gd (-(2 ^ 63)<=k/\k < 2 ^ 63/\xs.length * k.toNat<=sizeLine) (.ok (.ref S.length) (S++[.lst (List.replicate k.toNat xs).flatten]))
 | _,_=>.no
theorem AVs.rep {K:PySem.W.Frag} {ρ:List Addr} {H:Hp} {xs:List A} {vs:List V} (r:AVs K ρ H xs vs):∀ k:Nat,AVs K ρ H (List.replicate k xs).flatten (List.replicate k vs).flatten
 | 0=>.nil
 | k+1=>by rw [List.replicate_succ,List.replicate_succ,List.flatten_cons,List.flatten_cons];exact r.append (AVs.rep r k)
theorem kR:dO X (binaryOp .Mult) (r2 X gM):=fun pins s σ H x y v u Q I rx ry h9=>by
 obtain ⟨ρ,S,a,b,R,va,vb,h⟩:=h9
 cases va with
 | int i=>
  cases vb with
  | int j=>
   obtain ⟨hm,h⟩:=aW h
   exact BW pins s σ H _ _ v u Q I rx ry ⟨i,j,rfl,rfl,mulOk_of hm,h _ _ _ .refl R (.int _)⟩
  | _=>exact h.elim
 | @ref p n hp=>
  cases vb with
  | int k=>
   obtain ⟨xs,hn,h⟩:=aK h
   obtain ⟨hc,h⟩:=aW h
   obtain ⟨vs,h1,h2⟩:=R.lst hp (aN hn)
   exact BH pins s σ H _ _ v u Q I rx ry ⟨p,k,vs,rfl,rfl,h1,hc.1,hc.2.1,by rw [<- h2.length];exact hc.2.2,dQ R (h2.rep _) .refl h⟩
  | _=>exact h.elim
 | _=>exact h.elim
noncomputable def p8 (a b:A) (S:ak):R A:=match a,b with
 | .int i,.int j=>gd (0 < j/\j < 18446744073709551616) (.ok (.int (i / j)) S)
 | _,_=>.no
theorem wg:dO X (binaryOp .FloorDiv) (r2 X p8):=dO.imp uy fun x y H Q h9=>by
 obtain ⟨ρ,S,a,b,R,va,vb,h⟩:=h9
 cases va <;> first | exact h.elim | (cases vb <;> first | exact h.elim | exact ⟨_,_,rfl,rfl,(aW h).1,(aW h).2 _ _ _ .refl R (.int _)⟩)
noncomputable def mS (a b:A) (S:ak):R A:=match a,b with
 | .int i,.int j=>gd (0 < j) (.ok (.int (i % j)) S)
 | _,_=>.no
theorem nc:dO X (binaryOp .Mod) (r2 X mS):=dO.imp BA fun x y H Q h9=>by
 obtain ⟨ρ,S,a,b,R,va,vb,h⟩:=h9
 cases va <;> first | exact h.elim | (cases vb <;> first | exact h.elim | exact ⟨_,_,rfl,rfl,(aW h).1,(aW h).2 _ _ _ .refl R (.int _)⟩)
noncomputable def pX (a b:A) (S:ak):R A:=match a,b with
 | .int i,.int j=>gd (0<=j/\j<=1000000/\i.natAbs < 2 ^ 64) (.ok (.int (i ^ j.toNat)) S)
 | _,_=>.no
theorem uG:dO X (binaryOp .Pow) (r2 X pX):=dO.imp Cm fun x y H Q h9=>by
 obtain ⟨ρ,S,a,b,R,va,vb,h⟩:=h9
 cases va <;> first | exact h.elim | (cases vb <;> first | exact h.elim | exact ⟨_,_,rfl,rfl,(aW h).1,(aW h).2 _ _ _ .refl R (.int _)⟩)
noncomputable def cE (a b:A) (S:ak):R A:=match a,b with
 | .int i,.int j=>.ok (.int (i+j)) S
 | .tup xs,.tup ys=>gd (xs.length+ys.length<=sizeLine) (.ok (.tup (xs++ys)) S)
 | .str x,.str y=>gd (x.length+y.length<=sizeLine) (.ok (.str (x++y)) S)
 | .ref n,.ref m=>opt (aq S n) fun xs=>opt (aq S m) fun ys=>gd (xs.length+ys.length<=sizeLine) (.ok (.ref S.length) (S++[.lst (xs++ys)]))
 | _,_=>.no
theorem AVs.nil_inv {K:PySem.W.Frag} {ρ:List Addr} {H:Hp} {xs:List A} {vs:List V} (r:AVs K ρ H xs vs):xs=[] ↔ vs=[]:=by cases r <;> simp
theorem cK:dO X (binaryOp .Add) (r2 X cE):=fun pins s σ H x y v u Q I rx ry h9=>by
 obtain ⟨ρ,S,a,b,R,va,vb,h⟩:=h9
 cases va with
 | int i=>
  cases vb with
  | int j=>exact Ct pins s σ H _ _ v u Q I rx ry ⟨i,j,rfl,rfl,h _ _ _ .refl R (.int _)⟩
  | _=>exact h.elim
 | str x=>
  cases vb with
  | str y=>
   obtain ⟨hc,h⟩:=aW h
   exact pQ pins s σ H _ _ v u Q I rx ry ⟨x,y,rfl,rfl,hc,h _ _ _ .refl R (.str _)⟩
  | _=>exact h.elim
 | @tup p xs vs h1 r1=>
  cases vb with
  | @tup q ys ws h2 r2=>
   obtain ⟨hc,h⟩:=aW h
   by_cases hv:vs=[]
   ·have hx:=r1.nil_inv.mpr hv
    subst hv hx
    exact vO pins s σ H _ _ v u Q I rx ry ⟨p,q,ws,rfl,rfl,dF.of h1,dF.of h2,h _ _ _ .refl R (.tup h2 r2)⟩
   ·refine yP pins s σ H _ _ v u Q I rx ry ⟨p,q,vs,ws,rfl,rfl,dF.of h1,dF.of h2,hv,by rw [<- r1.length,<- r2.length];exact hc,fun e=>?_,fun _=>rG R (r1.append r2) .refl h⟩
    have hy:=r2.nil_inv.mpr e
    subst hy
    rw [List.append_nil] at h
    exact h _ _ _ .refl R (.tup h1 r1)
  | _=>exact h.elim
 | @ref p n hp=>
  cases vb with
  | @ref q m hq=>
   obtain ⟨xs,hn,h⟩:=aK h
   obtain ⟨ys,hm,h⟩:=aK h
   obtain ⟨hc,h⟩:=aW h
   obtain ⟨vs,h1,h2⟩:=R.lst hp (aN hn)
   obtain ⟨ws,h3,h4⟩:=R.lst hq (aN hm)
   exact CA pins s σ H _ _ v u Q I rx ry ⟨p,q,vs,ws,rfl,rfl,h1,h3,by rw [<- h2.length,<- h4.length];exact hc,dQ R (h2.append h4) .refl h⟩
  | _=>exact h.elim
 | _=>exact h.elim
noncomputable def Ey (a b:A) (S:ak):R A:=match a,b with
 | .int i,.int j=>.ok (.bl (decide (i < j))) S
 | _,_=>.no
theorem DM (hu:X.A.units+64 < cLine):dO X (compareOp .Lt) (r2 X Ey):=fun pins s σ H x y v u Q I rx ry h9=>by
 obtain ⟨ρ,S,a,b,R,va,vb,h⟩:=h9
 cases va with
 | int i=>
  cases vb with
  | int j=>exact Dy pins s σ H _ _ v u Q I rx ry ⟨i,j,rfl,rfl,h _ _ _ .refl R (.bl _)⟩
  | _=>exact h.elim
 | _=>exact h.elim
noncomputable def E7 (a b:A) (S:ak):R A:=match a,b with
 | .int i,.int j=>.ok (.bl (decide (i<=j))) S
 | _,_=>.no
theorem Fe:dO X (compareOp .LtE) (r2 X E7):=dO.imp D5 fun x y H Q h9=>by
 obtain ⟨ρ,S,a,b,R,va,vb,h⟩:=h9
 cases va <;> first | exact h.elim | (cases vb <;> first | exact h.elim | exact ⟨_,_,rfl,rfl,h _ _ _ .refl R (.bl _)⟩)
noncomputable def EW (a b:A) (S:ak):R A:=match a,b with
 | .int i,.int j=>.ok (.bl (decide (j < i))) S
 | _,_=>.no
theorem D4 (hu:X.A.units+64 < cLine):dO X (compareOp .Gt) (r2 X EW):=fun pins s σ H x y v u Q I rx ry h9=>by
 obtain ⟨ρ,S,a,b,R,va,vb,h⟩:=h9
 cases va with
 | int i=>
  cases vb with
  | int j=>exact DH pins s σ H _ _ v u Q I rx ry ⟨i,j,rfl,rfl,h _ _ _ .refl R (.bl _)⟩
  | _=>exact h.elim
 | _=>exact h.elim
noncomputable def EC (a b:A) (S:ak):R A:=match a,b with
 | .int i,.int j=>.ok (.bl (decide (j<=i))) S
 | _,_=>.no
theorem Fc:dO X (compareOp .GtE) (r2 X EC):=dO.imp DE fun x y H Q h9=>by
 obtain ⟨ρ,S,a,b,R,va,vb,h⟩:=h9
 cases va <;> first | exact h.elim | (cases vb <;> first | exact h.elim | exact ⟨_,_,rfl,rfl,h _ _ _ .refl R (.bl _)⟩)
noncomputable def A5 (neg:Bool) (a b:A) (S:ak):R A:=match a,b with
 | .bl i,.bl j=>.ok (.bl (if neg then i != j else i == j)) S
 | .non,.non=>.ok (.bl (!neg)) S
 | .unb,.non=>.no
 | .exn _,.non=>.no
 | _,.non=>.ok (.bl neg) S
 | _,_=>.no
noncomputable def C5 (f:A->ak->R A) (c:Ex):Ex:=fun τ S=>(c τ S).bind fun a S1=>f a S1
noncomputable def tU (a:A) (S:ak):R A:=match a with
 | .int i=>.ok (.int (-i)) S
 | _=>.no
theorem DP:EK X (unaryOp .USub) (r1 X tU):=fun pins s σ H x v Q I rx h9=>by
 obtain ⟨ρ,S,a,R,va,h⟩:=h9
 cases va with
 | int i=>exact Bg pins s σ H _ v Q I rx ⟨i,rfl,h _ _ _ .refl R (.int _)⟩
 | _=>exact h.elim
theorem Cd {f:A->ak->R A} {c:Ex} {σ:L2.St} {H:Hp} {Q:VK} (h:tE X (C5 f c) σ H Q):GD (r1 X f) (tE X c) σ H Q:=by
 obtain ⟨ρ,S,τ,R,r,h⟩:=h
 exact ⟨ρ,S,τ,R,r,aC (aI h) .refl fun a S1 h1 ρ1 H1 x e1 R1 v1=>⟨ρ1,S1,a,R1,v1,aC h1 e1 fun c S3 h3=>h3.ext e1⟩⟩
theorem xB {c:Ex} (h:AE X a c):AE X (.UnaryOp .USub a pos) (C5 tU c):=PE.imp (Ew DP h) fun _ _ _ q=>Cd q
noncomputable def iZ (a b:A) (S:ak):R A:=match a,b with
 | .tup xs,.int i=>opt (gj xs i) fun x=>.ok x S
 | .frz xs,.int i=>opt (gj xs i) fun x=>.ok x S
 | .ref n,.int i=>opt (aq S n) fun xs=>opt (gj xs i) fun x=>.ok x S
 | .str z,.int i=>gd (z.length<=sizeLine) (opt (gj z.cps.toList i) fun c=>.ok (.str ⟨#[c]⟩) S)
 | _,_=>.no
theorem AVs.gj {K:PySem.W.Frag} {ρ:List Addr} {H:Hp} {xs:List A} {vs:List V} {i:Int} {x:A} (r:AVs K ρ H xs vs) (h:L2.gj xs i=some x):∃ v,L2.gj vs i=some v/\AV K ρ H x v:=by
 unfold L2.gj at h ⊢
 rw [<- r.length]
 cases hj:qU xs.length i with
 | none=>rw [hj] at h;cases h
 | some j=>
  rw [hj] at h
  exact r.get h
theorem DC:Bw X (r2 X iZ):=fun value slice pins s σ H x y v u Q I rx ry ⟨ρ,S,a,b,R,va,vb,h⟩ hs=>by
 cases va with
 | @tup p xs vs h1 r1=>
  cases vb with
  | int i=>
   obtain ⟨x,hx,h⟩:=aK h
   obtain ⟨z,e,q⟩:=r1.gj hx
   exact Bx value slice pins s σ H _ _ v u Q I rx ry ⟨p,vs,i,z,rfl,rfl,dF.of h1,e,h _ _ _ .refl R q⟩ hs
  | _=>exact h.elim
 | @frz p xs vs h1 r1=>
  cases vb with
  | int i=>
   obtain ⟨x,hx,h⟩:=aK h
   obtain ⟨z,e,q⟩:=r1.gj hx
   exact qW value slice pins s σ H _ _ v u Q I rx ry ⟨p,vs,i,z,rfl,rfl,h1.Bk,e,h _ _ _ .refl R q⟩ hs
  | _=>exact h.elim
 | @ref p n hp=>
  cases vb with
  | int i=>
   obtain ⟨xs,hn,h⟩:=aK h
   obtain ⟨x,hx,h⟩:=aK h
   obtain ⟨vs,h1,r1⟩:=R.lst hp (aN hn)
   obtain ⟨z,e,q⟩:=r1.gj hx
   exact qW value slice pins s σ H _ _ v u Q I rx ry ⟨p,vs,i,z,rfl,rfl,dW.of h1,e,h _ _ _ .refl R q⟩ hs
  | _=>exact h.elim
 | str z=>
  cases vb with
  | int i=>
   obtain ⟨hz,h⟩:=aW h
   obtain ⟨c,hc,h⟩:=aK h
   exact BF value slice pins s σ H _ _ v u Q I rx ry ⟨z,i,c,rfl,rfl,hz,hc,h _ _ _ .refl R (.str _)⟩ hs
  | _=>exact h.elim
 | _=>exact h.elim
theorem dg {ca cb:Ex} (ha:AE X a ca) (hb:AE X b cb) (hs:lX b:=by exact fun _ _=>rfl):AE X (.Subscript a b pos) (aF iZ ca cb):=PE.imp (A1 DC ha hb hs) fun σ H Q h=>gT h
end
noncomputable def gJ (f:A->A->Option Bool):List A->List A->Option Bool
 | [],[]=>some true
 | x::xs,y::ys=>(f x y).bind fun p=>(gJ f xs ys).map fun q=>p && q
 | _,_=>some false
inductive Sh
 | non
 | bl (b:Bool)
 | int (i:Int)
 | str (x:Str)
 | tup (xs:List A)
 | lst
noncomputable def Bs (S:ak):A->Option Sh
 | .non=>some .non
 | .bl b=>some (.bl b)
 | .int i=>some (.int i)
 | .str x=>some (.str x)
 | .tup xs=>some (.tup xs)
 | .ref i=>(aq S i).map fun _=>.lst
 | _=>none
noncomputable def yZ (f:A->A->Option Bool):Sh->Sh->Option Bool
 | .non,.non=>some true
 | .bl x,.bl y=>some (x == y)
 | .bl x,.int y=>some ((if x then 1 else 0) == y)
 | .int x,.bl y=>some (x == (if y then 1 else 0))
 | .int x,.int y=>some (x == y)
 | .str x,.str y=>some (x == y)
 | .tup xs,.tup ys=>gJ f xs ys
 | .lst,.lst=>none
 | _,_=>some false
noncomputable def kq (S:ak):Nat->A->A->Option Bool
 | 0,_,_=>none
 | n+1,a,b=>match a,b with
  | .ref i,.ref j=>(aq S i).bind fun xs=>(aq S j).bind fun ys=>gJ (kq S n) xs ys
  | _,_=>(Bs S a).bind fun x=>(Bs S b).bind fun y=>yZ (kq S n) x y
section
variable {X:Cx} {pins:List (Addr×Obj)} {σ:L2.St} {H:Hp} {s:Shared} {ρ:List Addr} {S:ak}
inductive KdV (s:Shared):Sh->Value->Prop
 | non:KdV s .non .none
 | bl (b:Bool):KdV s (.bl b) (.bool b)
 | int (i:Int) (t:Tok):KdV s (.int i) (.int i t)
 | str (x:Str) (t:Tok):KdV s (.str x) (.str x t)
 | tup {p:Addr} {us:List Value} (xs:List A) (h:s.heap.IsTuple p us.toArray):KdV s (.tup xs) (.ref p)
 | lst {p:Addr} {us:List Value} (h:s.heap.IsList p us.toArray):KdV s .lst (.ref p)
theorem sI {p:Addr} {us ws:Array Value} (h:s.heap.IsTuple p us) (h':s.heap.IsList p ws):False:=by
 obtain ⟨o,e,c,_⟩:=h
 obtain ⟨o',e',c',_⟩:=h'
 rw [e] at e'
 cases e'
 exact absurd (c.symm.trans c') (by decide)
theorem qH (I:Inv X pins σ H s) (R:Rel X.K ρ H S) {a:A} {x:V} {u:Value} {h:Sh} (ha:AV X.K ρ H a x) (r:RelV x u) (e:Bs S a=some h):KdV s h u:=by
 cases ha with
 | non=>cases e;cases (show u=Value.none from r);exact .non
 | bl b=>cases e;cases (show u=Value.bool b from r);exact .bl b
 | int i=>cases e;obtain ⟨t,rfl⟩:∃ t,u=Value.int i t:=r;exact .int i t
 | str i=>cases e;obtain ⟨t,rfl⟩:∃ t,u=Value.str i t:=r;exact .str i t
 | tup h1 r1=>cases e;cases (show u=Value.ref _ from r);obtain ⟨us,_,p,_⟩:=I.tuple (dF.of h1);exact .tup _ p
 | ref h1=>
  obtain ⟨xs,e1,rfl⟩:=Option.map_eq_some_iff.mp e
  cases (show u=Value.ref _ from r)
  obtain ⟨vs,h3,r1⟩:=R.lst h1 (aN e1)
  obtain ⟨us,_,p,_⟩:=I.list (dW.of h3)
  exact .lst p.isList
 | _=>cases e
noncomputable def Al (B:Around) (s:Shared) (u v:Value) (k:Bool):Prop:=SeqAt.RcAt B s u v k/\SeqAt.EqAt B s u v k/\SeqAt.RcNeAt B s u v (!k)
theorem Ek {B:Around} (hu:B.units < cLine) {f:A->A->Option Bool} {h h':Sh} {u v:Value} {k:Bool} (d:KdV s h u) (d':KdV s h' v) (nt:∀ xs ys,h=.tup xs->h'≠.tup ys) (e:yZ f h h'=some k):Al B s u v k:=by
 cases d with
 | non=>cases d' with
  | non=>cases e;exact ⟨.none_none,.same _,.none_none⟩
  | bl b=>cases e;exact ⟨.none_bool _,.none_bool _,.none_bool _⟩
  | int i t=>cases e;exact ⟨.none_int _ _,.none_int _ _,.none_int _ _⟩
  | str x t=>cases e;exact ⟨.none_str _ _,.none_str _ _,.none_str _ _⟩
  | tup xs p=>cases e;exact ⟨.none_tuple p hu,.none_tuple p hu,.none_tuple p hu⟩
  | lst p=>cases e;exact ⟨.none_list p hu,.none_list p hu,.none_list p hu⟩
 | bl c=>cases d' with
  | non=>cases e;exact ⟨.bool_none _,.bool_none _,.bool_none _⟩
  | bl b=>cases e;exact ⟨.bool_bool _ _,.bool_bool _ _,.bool_bool _ _⟩
  | int i t=>cases e;exact ⟨.bool_int _ _ _,.bool_int _ _ _,.bool_int _ _ _⟩
  | str x t=>cases e;exact ⟨.bool_str _ _ _,.bool_str _ _ _,.bool_str _ _ _⟩
  | tup xs p=>cases e;exact ⟨.bool_tuple _ p hu,.bool_tuple _ p hu,.bool_tuple _ p hu⟩
  | lst p=>cases e;exact ⟨.bool_list _ p hu,.bool_list _ p hu,.bool_list _ p hu⟩
 | int c t'=>cases d' with
  | non=>cases e;exact ⟨.int_none _ _,.int_none _ _,.int_none _ _⟩
  | bl b=>cases e;exact ⟨.int_bool _ _ _,.int_bool _ _ _,.int_bool _ _ _⟩
  | int i t=>cases e;exact ⟨.int_int _ _ _ _,.int_int _ _ _ _,.int_int _ _ _ _⟩
  | str x t=>cases e;exact ⟨.int_str _ _ _ _,.int_str _ _ _ _,.int_str _ _ _ _⟩
  | tup xs p=>cases e;exact ⟨.int_tuple _ _ p hu,.int_tuple _ _ p hu,.int_tuple _ _ p hu⟩
  | lst p=>cases e;exact ⟨.int_list _ _ p hu,.int_list _ _ p hu,.int_list _ _ p hu⟩
 | str c t'=>cases d' with
  | non=>cases e;exact ⟨.str_none _ _,.str_none _ _,.str_none _ _⟩
  | bl b=>cases e;exact ⟨.str_bool _ _ _,.str_bool _ _ _,.str_bool _ _ _⟩
  | int i t=>cases e;exact ⟨.str_int _ _ _ _,.str_int _ _ _ _,.str_int _ _ _ _⟩
  | str x t=>cases e;exact ⟨.str_str _ _ _ _,.str_str _ _ _ _,.str_str _ _ _ _⟩
  | tup xs p=>cases e;exact ⟨.str_tuple _ _ p hu,.str_tuple _ _ p hu,.str_tuple _ _ p hu⟩
  | lst p=>cases e;exact ⟨.str_list _ _ p hu,.str_list _ _ p hu,.str_list _ _ p hu⟩
 | tup zs p'=>cases d' with
  | non=>cases e;exact ⟨.tuple_none p' hu,.tuple_none p' hu,.tuple_none p' hu⟩
  | bl b=>cases e;exact ⟨.tuple_bool _ p' hu,.tuple_bool _ p' hu,.tuple_bool _ p' hu⟩
  | int i t=>cases e;exact ⟨.tuple_int _ _ p' hu,.tuple_int _ _ p' hu,.tuple_int _ _ p' hu⟩
  | str x t=>cases e;exact ⟨.tuple_str _ _ p' hu,.tuple_str _ _ p' hu,.tuple_str _ _ p' hu⟩
  | tup xs p=>exact absurd rfl (nt _ _ rfl)
  | lst p=>cases e;exact ⟨.tuple_list p' p hu,.of_refs (fun z=>by subst z;exact sI p' p) (.tuple_list p' p hu),.tuple_list p' p hu⟩
 | lst p'=>cases d' with
  | non=>cases e;exact ⟨.list_none p' hu,.list_none p' hu,.list_none p' hu⟩
  | bl b=>cases e;exact ⟨.list_bool _ p' hu,.list_bool _ p' hu,.list_bool _ p' hu⟩
  | int i t=>cases e;exact ⟨.list_int _ _ p' hu,.list_int _ _ p' hu,.list_int _ _ p' hu⟩
  | str x t=>cases e;exact ⟨.list_str _ _ p' hu,.list_str _ _ p' hu,.list_str _ _ p' hu⟩
  | tup xs p=>cases e;exact ⟨.list_tuple p' p hu,.of_refs (fun z=>by subst z;exact sI p p') (.list_tuple p' p hu),.list_tuple p' p hu⟩
  | lst p=>cases e
theorem lT {a:A} {x:V} {xs:List A} (h:AV X.K ρ H a x) (e:Bs S a=some (.tup xs)):a=.tup xs/\∃ p vs,x=.ref p/\H p=some (.tup vs)/\AVs X.K ρ H xs vs:=by
 cases h with
 | tup h r=>cases e;exact ⟨rfl,_,_,rfl,h,r⟩
 | ref h=>obtain ⟨_,_,z⟩:=Option.map_eq_some_iff.mp e;cases z
 | _=>cases e
theorem l_ {i:Nat} {x:V} (h:AV X.K ρ H (.ref i) x):∃ p,x=.ref p/\ρ[i]?=some p:=by
 cases h with
 | ref h=>exact ⟨_,rfl,h⟩
theorem uK {a:A} (e:Bs S a=some .lst):∃ i,a=.ref i:=by
 cases a with
 | ref i=>exact ⟨i,rfl⟩
 | _=>cases e
theorem wI {n:Nat} {a b:A} {k:Bool} (e:kq S (n+1) a b=some k):(∃ i j xs ys,a=.ref i/\b=.ref j/\aq S i=some xs/\aq S j=some ys/\gJ (kq S n) xs ys=some k)\/(∃ h h',Bs S a=some h/\Bs S b=some h'/\yZ (kq S n) h h'=some k/\(h=.lst->h'≠.lst)):=by
 unfold kq at e
 split at e
 ·obtain ⟨xs,e1,e⟩:=Option.bind_eq_some_iff.mp e
  obtain ⟨ys,e2,e⟩:=Option.bind_eq_some_iff.mp e
  exact .inl ⟨_,_,xs,ys,rfl,rfl,e1,e2,e⟩
 ·rename_i nr
  obtain ⟨h,e1,e⟩:=Option.bind_eq_some_iff.mp e
  obtain ⟨h',e2,e⟩:=Option.bind_eq_some_iff.mp e
  refine .inr ⟨h,h',e1,e2,e,fun z1 z2=>?_⟩
  subst z1 z2
  obtain ⟨i,rfl⟩:=uK e1
  obtain ⟨j,rfl⟩:=uK e2
  exact nr i j rfl rfl
theorem z9 {f:A->A->Option Bool} {h h':Sh} {u:Value} {k:Bool} (d:KdV s h u) (d':KdV s h' u) (nt:∀ xs ys,h=.tup xs->h'≠.tup ys) (e:yZ f h h'=some k):k=true:=by
 cases d with
 | non=>cases d';exact (Option.some.inj e).symm
 | bl b=>cases d';exact (Option.some.inj e).symm.trans (beq_self_eq_true b)
 | int b=>cases d';exact (Option.some.inj e).symm.trans (beq_self_eq_true b)
 | str b=>cases d';exact (Option.some.inj e).symm.trans (beq_self_eq_true b)
 | tup xs p=>cases d' with
  | tup=>exact absurd rfl (nt _ _ rfl)
  | lst q=>exact (sI p q).elim
 | lst p=>cases d' with
  | tup _ q=>exact (sI q p).elim
  | lst q=>cases e
theorem nM {f:A->A->Option Bool} (hf:∀ a b x u k,AV X.K ρ H a x->AV X.K ρ H b x->RelV x u->f a b=some k->k=true):∀ {xs ys:List A} {vs:List V} {us:List Value} {k:Bool},AVs X.K ρ H xs vs->AVs X.K ρ H ys vs->Vals vs us->gJ f xs ys=some k->k=true:=by
 intro xs ys vs us k h1 h2 q e
 induction q generalizing xs ys k with
 | nil=>cases h1;cases h2;exact (Option.some.inj e).symm
 | cons rv _ ih=>
  cases h1 with
  | cons h t=>cases h2 with
   | cons h' t'=>
    obtain ⟨p,e1,e⟩:=Option.bind_eq_some_iff.mp e
    obtain ⟨q,e2,e3⟩:=Option.map_eq_some_iff.mp e
    rw [<- e3,hf _ _ _ _ p h h' rv e1,ih t t' e2];rfl
theorem qB (h h':Sh):(∃ xs ys,h=.tup xs/\h'=.tup ys)\/(∀ xs ys,h=.tup xs->h'≠.tup ys):=by
 cases h with
 | tup xs=>cases h' with
  | tup ys=>exact .inl ⟨xs,ys,rfl,rfl⟩
  | _=>exact .inr fun _ _ _ z=>nomatch z
 | _=>exact .inr fun _ _ z=>nomatch z
theorem mD (I:Inv X pins σ H s) (R:Rel X.K ρ H S):∀ (n:Nat) (a b:A) (x:V) (u:Value) (k:Bool),AV X.K ρ H a x->AV X.K ρ H b x->RelV x u->kq S n a b=some k->k=true
 | 0,_,_,_,_,_,_,_,_,e=>nomatch e
 | n+1,a,b,x,u,k,ha,hb,ru,e=>by
  rcases wI e with ⟨i,j,xs,ys,rfl,rfl,e1,e2,e⟩ | ⟨h,h',e1,e2,e,_⟩
  ·obtain ⟨p,rfl,h1⟩:=l_ ha
   obtain ⟨q,z,h2⟩:=l_ hb
   cases z
   obtain ⟨vs,h3,r1⟩:=R.lst h1 (aN e1)
   obtain ⟨ws,h4,r2⟩:=R.lst h2 (aN e2)
   rw [h3] at h4
   cases h4
   obtain ⟨us,q,_⟩:=I.list (dW.of h3)
   exact nM (fun a b x u k=>mD I R n a b x u k) r1 r2 q e
  ·rcases qB h h' with ⟨xs,ys,rfl,rfl⟩ | nt
   ·obtain ⟨rfl,p,vs,rfl,h3,r1⟩:=lT ha e1
    obtain ⟨rfl,q,ws,z,h4,r2⟩:=lT hb e2
    cases z
    have:=I.kN (dF.of h3) (dF.of h4)
    subst this
    obtain ⟨us,q,_⟩:=I.tuple (dF.of h3)
    exact nM (fun a b x u k=>mD I R n a b x u k) r1 r2 q e
   ·exact z9 (qH I R ha ru e1) (qH I R hb ru e2) nt e
noncomputable def kC (f:A->A->Option Bool) (xs ys:List A) (j:Nat):Bool:=match xs[j]?,ys[j]? with
 | some x,some y=>(f x y).getD true
 | _,_=>true
theorem jz {f:A->A->Option Bool}:∀ {xs ys:List A} {k:Bool},gJ f xs ys=some k->k=((List.range (min xs.length ys.length)).all (kC f xs ys) && xs.length == ys.length)/\∀ j x y,xs[j]?=some x->ys[j]?=some y->f x y=some (kC f xs ys j)
 | [],[],k,e=>⟨(Option.some.inj e).symm,fun j x y h=>by simp at h⟩
 | [],_::_,k,e=>⟨(Option.some.inj e).symm,fun j x y h=>by simp at h⟩
 | _::_,[],k,e=>⟨(Option.some.inj e).symm,fun j x y _ h=>by simp at h⟩
 | x::xs,y::ys,k,e=>by
  unfold gJ at e
  cases e1:f x y with
  | none=>rw [e1] at e;cases e
  | some p=>
   rw [e1] at e
   obtain ⟨q,e2,e3⟩:=Option.map_eq_some_iff.mp e
   obtain ⟨h1,h2⟩:=jz e2
   have p0:kC f (x::xs) (y::ys) 0=p:=by simp [kC,e1]
   have ps:∀ j,kC f (x::xs) (y::ys) (j+1)=kC f xs ys j:=fun j=>by simp [kC]
   refine ⟨?_,fun j a b ha hb=>?_⟩
   ·rw [<- e3,h1,List.length_cons,List.length_cons,Nat.succ_min_succ,List.range_succ_eq_map,List.all_cons,List.all_map,p0]
    have:(kC f (x::xs) (y::ys) ∘ Nat.succ)=kC f xs ys:=funext ps
    rw [this,Bool.and_assoc]
    simp
   ·cases j with
    | zero=>
     simp at ha hb
     subst ha hb
     rw [p0];exact e1
    | succ j=>rw [ps];exact h2 j a b (by simpa using ha) (by simpa using hb)
theorem jy {f:A->A->Option Bool} {B:Around} (hf:∀ a b x y u v k,AV X.K ρ H a x->AV X.K ρ H b y->RelV x u->RelV y v->f a b=some k->SeqAt.EqAt B s u v k) {xs ys:List A} {vs ws:List V} {us ts:List Value} {k:Bool}
  (r1:AVs X.K ρ H xs vs) (r2:AVs X.K ρ H ys ws) (q1:Vals vs us) (q2:Vals ws ts) (e:gJ f xs ys=some k):∀ j (h1:j < us.toArray.size) (h2:j < ts.toArray.size),SeqAt.EqAt B s us.toArray[j] ts.toArray[j] (kC f xs ys j):=by
 intro j h1 h2
 have l1:=r1.length
 have l2:=r2.length
 have l3:=q1.length
 have l4:=q2.length
 have hx:j < xs.length:=by simp at h1;omega
 have hy:j < ys.length:=by simp at h2;omega
 have e1:xs[j]?=some xs[j]:=List.getElem?_eq_getElem hx
 have e2:ys[j]?=some ys[j]:=List.getElem?_eq_getElem hy
 obtain ⟨x,ex,ax⟩:=r1.get e1
 obtain ⟨y,ey,ay⟩:=r2.get e2
 obtain ⟨u,eu,ru⟩:=q1.get ex
 obtain ⟨t,et,rt⟩:=q2.get ey
 have a1:us.toArray[j]=u:=by
  have:us[j]?=some us.toArray[j]:=by simp at h1;simp [h1]
  rw [eu] at this;exact (Option.some.inj this).symm
 have a2:ts.toArray[j]=t:=by
  have:ts[j]?=some ts.toArray[j]:=by simp at h2;simp [h2]
  rw [et] at this;exact (Option.some.inj this).symm
 rw [a1,a2]
 exact hf _ _ x y u t _ ax ay ru rt ((jz e).2 j _ _ e1 e2)
theorem in1_units (B:Around):B.in1.units=B.units+1:=rfl
theorem yh (I:Inv X pins σ H s) (R:Rel X.K ρ H S):∀ (n:Nat) (B:Around) (a b:A) (x y:V) (u v:Value) (k:Bool),B.units+n < cLine->AV X.K ρ H a x->AV X.K ρ H b y->RelV x u->RelV y v->kq S n a b=some k->Al B s u v k
 | 0,_,_,_,_,_,_,_,_,_,_,_,_,_,e=>nomatch e
 | n+1,B,a,b,x,y,u,v,k,hu,ha,hb,rx,ry,e=>by
  have hu0:B.units < cLine:=by omega
  have items:∀ a b x y u v k,AV X.K ρ H a x->AV X.K ρ H b y->RelV x u->RelV y v->kq S n a b=some k->SeqAt.EqAt B.in1 s u v k:=fun a b x y u v k h1 h2 h3 h4 h5=>(yh I R n B.in1 a b x y u v k (by rw [in1_units];omega) h1 h2 h3 h4 h5).2.1
  have same:=fun (z:y=x)=>mD I R (n+1) a b x u k ha (z ▸ hb) rx e
  have refs:∀ {p q:Addr},x=.ref p->y=.ref q->u=.ref p->v=.ref q->SeqAt.RcAt B s u v k->SeqAt.EqAt B s u v k:=fun {p q} z1 z2 z3 z4 h=>by
   subst z3 z4
   by_cases hp:p=q
   ·subst hp
    rw [same (z2.trans z1.symm)]
    exact .same _
   ·exact .of_refs hp h
  rcases wI e with ⟨i,j,xs,ys,rfl,rfl,e1,e2,e⟩ | ⟨h,h',e1,e2,e,_⟩
  ·obtain ⟨p,rfl,h1⟩:=l_ ha
   obtain ⟨q,rfl,h2⟩:=l_ hb
   obtain ⟨vs,h3,r1⟩:=R.lst h1 (aN e1)
   obtain ⟨ws,h4,r2⟩:=R.lst h2 (aN e2)
   obtain ⟨us,q1,p1,_⟩:=I.list (dW.of h3)
   obtain ⟨ts,q2,p2,_⟩:=I.list (dW.of h4)
   have ru:=refs rfl rfl rx ry
   cases (show u=Value.ref p from rx)
   cases (show v=Value.ref q from ry)
   have l1:=r1.length
   have l2:=r2.length
   have l3:=q1.length
   have l4:=q2.length
   have ek:=(jz e).1
   by_cases hl:xs.length=ys.length
   ·rw [<- hl,Nat.min_self,beq_self_eq_true,Bool.and_true] at ek
    have eh:us.toArray.size=ts.toArray.size:=by simp;omega
    have z1:=SeqAt.RcAt.lists p1.isList p2.isList eh hu0 (jy items r1 r2 q1 q2 e)
    have z2:=SeqAt.RcNeAt.lists p1.isList p2.isList eh hu0 (jy items r1 r2 q1 q2 e)
    rw [List.size_toArray,<- l3,<- l1,<- ek] at z1 z2
    exact ⟨z1,ru z1,z2⟩
   ·have:(xs.length == ys.length)=false:=by simpa using hl
    rw [this,Bool.and_false] at ek
    subst ek
    have eh:(us.toArray.size != ts.toArray.size)=true:=by simp;omega
    have z1:=SeqAt.RcAt.lists_lengths p1.isList p2.isList eh hu0
    exact ⟨z1,ru z1,SeqAt.RcNeAt.lists_lengths p1.isList p2.isList eh hu0⟩
  ·rcases qB h h' with ⟨xs,ys,rfl,rfl⟩ | nt
   ·obtain ⟨rfl,p,vs,rfl,h3,r1⟩:=lT ha e1
    obtain ⟨rfl,q,ws,rfl,h4,r2⟩:=lT hb e2
    have ru:=refs rfl rfl rx ry
    cases (show u=Value.ref p from rx)
    cases (show v=Value.ref q from ry)
    obtain ⟨us,q1,p1,_⟩:=I.tuple (dF.of h3)
    obtain ⟨ts,q2,p2,_⟩:=I.tuple (dF.of h4)
    have ek:=(jz e).1
    have z1:=SeqAt.RcAt.tuples p1 p2 hu0 (jy items r1 r2 q1 q2 e)
    have z2:=SeqAt.RcNeAt.tuples p1 p2 hu0 (jy items r1 r2 q1 q2 e)
    rw [List.size_toArray,List.size_toArray,<- q1.length,<- q2.length,<- r1.length,<- r2.length,<- ek] at z1 z2
    exact ⟨z1,ru z1,z2⟩
   ·exact Ek hu0 (qH I R ha rx e1) (qH I R hb ry e2) nt e
end
section
variable {X:Cx}
noncomputable def eW (neg:Bool) (a b:A) (S:ak):R A:=opt (kq S 12 a b) fun k=>.ok (.bl (if neg then !k else k)) S
theorem oR (hu:X.A.units+64 < cLine):dO X (compareOp .Eq) (r2 X (eW false)):=fun pins s σ H x y v u Q I rx ry h9=>by
 obtain ⟨ρ,S,a,b,R,va,vb,h⟩:=h9
 obtain ⟨k,e,h⟩:=aK h
 exact (yh I R 12 X.A a b x y v u k (by omega) va vb rx ry e).1 _ _ _ _ ⟨.bl _,H,I,rfl,h _ _ _ .refl R (.bl _)⟩
theorem mh (hu:X.A.units+64 < cLine):dO X (compareOp .NotEq) (r2 X (eW true)):=fun pins s σ H x y v u Q I rx ry h9=>by
 obtain ⟨ρ,S,a,b,R,va,vb,h⟩:=h9
 obtain ⟨k,e,h⟩:=aK h
 exact (yh I R 12 X.A a b x y v u k (by omega) va vb rx ry e).2.2 _ _ _ _ ⟨.bl _,H,I,rfl,h _ _ _ .refl R (.bl _)⟩
end
section
variable {X:Cx} {pos:Pos} {a b:Expr}
noncomputable abbrev Pt:=List A->ak->R (Option Int)
noncomputable def EA:Pt:=fun _ S=>.ok none S
noncomputable def Df (c:Ex):Pt:=fun τ S=>(c τ S).bind fun a S1=>match a with
 | .int i=>.ok (some i) S1
 | _=>.no
noncomputable def zc (xs:List A) (lo hi:Option Int):List A:=(xs.drop (HT.Dp xs.length 0 lo)).take (HT.Dp xs.length xs.length hi - HT.Dp xs.length 0 lo)
noncomputable def EM (a:A) (lo hi:Option Int) (S:ak):R A:=match a with
 | .ref n=>opt (aq S n) fun xs=>.ok (.ref S.length) (S++[.lst (zc xs lo hi)])
 | .frz xs=>.ok (.ref S.length) (S++[.lst (zc xs lo hi)])
 | .tup xs=>gd (¬ (HT.Dp xs.length 0 lo=0/\HT.Dp xs.length xs.length hi=xs.length)) (.ok (.tup (zc xs lo hi)) S)
 | _=>.no
noncomputable def GL (c:Ex) (lo hi:Pt):Ex:=fun τ S=>(c τ S).bind fun a S1=>(lo τ S1).bind fun l S2=>(hi τ S2).bind fun u S3=>EM a l u S3
noncomputable def Ed (a:A) (S:ak):R A:=match a with
 | .ref n=>opt (aq S n) fun xs=>.ok (.ref S.length) (S++[.lst xs.reverse])
 | .tup xs=>.ok (.tup xs.reverse) S
 | _=>.no
noncomputable def bK (f:List A->ak->R A) (d:fC):Ex:=fun τ S=>(d τ S).bind fun as S1=>f as S1
theorem oA {f:List A->ak->R A} {d:fC} {σ:L2.St} {H:Hp} {Q:VK} (h:tE X (bK f d) σ H Q):Fq (rN X f) (tL X d) σ H Q:=by
 obtain ⟨ρ,S,τ,R,r,h⟩:=h
 exact ⟨ρ,S,τ,R,r,aC (aI h) .refl fun as S1 h1 ρ1 H1 vs e1 R1 v1=>⟨ρ1,S1,as,R1,v1,aC h1 e1 fun _ _ z=>z.ext e1⟩⟩
variable {x:Str} {p:Pos} {e:Expr} {es:List Expr} {id T:String} {f:List A->ak->R A} {d:fC}
theorem bL (hc:bw X (.builtin id) (rN X f)) (hm:X.mg x=none) (hv:bootBuiltins x=some (.builtin id)) (ha:AL X (e::es) d) (hg:Gl X x:=by rfl) (hn:x ≠ "__name__" := by decide) (hdb:(x == ("__debug__" : Str))=false:=by decide)
  (he:starEach (e::es) X.env=(false,eval e X.env)::starEach es X.env:=by rfl) (hpl:(backTo pos (starEach es X.env)).any (·.1)=false:=by rfl):AE X (.Call (.Name x p) (e::es) [] pos) (bK f d):=
 PE.imp (vC hc hg hm hv ha hn hdb he hpl) fun _ _ _ h=>oA h
theorem cV (hc:bw X (.type T) (rN X f)) (hm:X.mg x=none) (hv:bootBuiltins x=some (.type T)) (ha:AL X (e::es) d) (hg:Gl X x:=by rfl) (hn:x ≠ "__name__" := by decide) (hdb:(x == ("__debug__" : Str))=false:=by decide)
  (he:starEach (e::es) X.env=(false,eval e X.env)::starEach es X.env:=by rfl) (hpl:(backTo pos (starEach es X.env)).any (·.1)=false:=by rfl):AE X (.Call (.Name x p) (e::es) [] pos) (bK f d):=
 PE.imp (tZ hc hg hm hv ha hn hdb he hpl) fun _ _ _ h=>oA h
theorem qm (hm:X.mg x=none) (hv:bootBuiltins x=some (.type T)) (hg:Gl X x:=by rfl) (hn:x ≠ "__name__" := by decide) (hdb:(x == ("__debug__" : Str))=false:=by decide):AE X (.Name x pos) (eC (.ty T)):=
 PE.imp (zq (v:=.ty T) hg hm hv rfl hn hdb) fun σ H Q ⟨ρ,S,τ,R,r,h⟩=>h ρ H _ .refl R (.ty T)
noncomputable def A.seq (S:ak):A->Option (List A)
 | .tup xs=>some xs
 | .frz xs=>some xs
 | .ref n=>aq S n
 | _=>none
theorem BR {K:PySem.W.Frag} {ρ:List Addr} {H:Hp} {x:A} {vs:List V} (h:AVs K ρ H [x] vs):∃ v,vs=[v]/\AV K ρ H x v:=by
 cases h with
 | cons h t=>cases t;exact ⟨_,rfl,h⟩
theorem Ea {K:PySem.W.Frag} {ρ:List Addr} {H:Hp} {x y:A} {vs:List V} (h:AVs K ρ H [x,y] vs):∃ v w,vs=[v,w]/\AV K ρ H x v/\AV K ρ H y w:=by
 cases h with
 | cons h t=>obtain ⟨w,rfl,h'⟩:=BR t;exact ⟨_,_,rfl,h,h'⟩
noncomputable def f1 (g:A->ak->R A):List A->ak->R A:=fun as S=>match as with
 | [x]=>g x S
 | _=>.no
noncomputable def f2 (g:A->A->ak->R A):List A->ak->R A:=fun as S=>match as with
 | [x,y]=>g x y S
 | _=>.no
theorem zJ {g:A->ak->R A} {as:List A} {S:ak} {P:A->ak->Prop} {E:Str->ak->Prop} (h:(f1 g as S).post P E):∃ x,as=[x]/\(g x S).post P E:=by
 match as,h with
 | [],h=>exact h.elim
 | [x],h=>exact ⟨x,rfl,h⟩
 | _::_::_,h=>exact h.elim
theorem zu {g:A->A->ak->R A} {as:List A} {S:ak} {P:A->ak->Prop} {E:Str->ak->Prop} (h:(f2 g as S).post P E):∃ x y,as=[x,y]/\(g x y S).post P E:=by
 match as,h with
 | [],h=>exact h.elim
 | [_],h=>exact h.elim
 | [x,y],h=>exact ⟨x,y,rfl,h⟩
 | _::_::_::_,h=>exact h.elim
theorem C6 {g:A->ak->R A} {vs:List V} {H:Hp} {Q:VK} (h:rN X (f1 g) vs H Q):∃ v,vs=[v]/\∃ ρ S x,Rel X.K ρ H S/\AV X.K ρ H x v/\(g x S).post (m9 X ρ H Q) (XE X ρ H):=by
 obtain ⟨ρ,S,as,R,v,h⟩:=h
 obtain ⟨x,rfl,h⟩:=zJ h
 obtain ⟨w,rfl,hv⟩:=BR v
 exact ⟨w,rfl,ρ,S,x,R,hv,h⟩
theorem FZ {g:A->A->ak->R A} {vs:List V} {H:Hp} {Q:VK} (h:rN X (f2 g) vs H Q):∃ v w,vs=[v,w]/\∃ ρ S x y,Rel X.K ρ H S/\AV X.K ρ H x v/\AV X.K ρ H y w/\(g x y S).post (m9 X ρ H Q) (XE X ρ H):=by
 obtain ⟨ρ,S,as,R,v,h⟩:=h
 obtain ⟨x,y,rfl,h⟩:=zu h
 obtain ⟨w,w',rfl,hv,hv'⟩:=Ea v
 exact ⟨w,w',rfl,ρ,S,x,y,R,hv,hv',h⟩
noncomputable def mP (x:A) (S:ak):R A:=match x with
 | .str x=>gd (x.length<=sizeLine) (.ok (.int x.length) S)
 | .tup xs=>.ok (.int xs.length) S
 | .frz xs=>.ok (.int xs.length) S
 | .ref n=>opt (aq S n) fun xs=>.ok (.int xs.length) S
 | _=>.no
theorem sE:bw X (.builtin "len") (rN X (f1 mP)):=bw.imp uX fun vs H Q h0=>by
 obtain ⟨w,rfl,ρ,S,x,R,hv,h⟩:=C6 h0
 clear h0
 cases hv with
 | str z=>
  obtain ⟨hz,h⟩:=aW h
  exact ⟨_,_,rfl,⟨hz,rfl⟩,h _ _ _ .refl R (.int _)⟩
 | @tup p xs us h1 r=>exact ⟨_,us.length,rfl,.inr ⟨us,(dF.of h1),rfl⟩,by rw [<- r.length];exact h _ _ _ .refl R (.int _)⟩
 | @frz p xs us h1 r=>exact ⟨_,us.length,rfl,.inl ⟨us,h1.Bk,rfl⟩,by rw [<- r.length];exact h _ _ _ .refl R (.int _)⟩
 | ref hp=>
  obtain ⟨xs,hn,h⟩:=aK h
  obtain ⟨us,h1,r⟩:=R.lst hp (aN hn)
  exact ⟨_,us.length,rfl,.inl ⟨us,dW.of h1,rfl⟩,by rw [<- r.length];exact h _ _ _ .refl R (.int _)⟩
 | _=>exact h.elim
noncomputable def Gh (x:A) (S:ak):R A:=match x with
 | .int i=>.ok (.int (if i < 0 then -i else i)) S
 | _=>.no
noncomputable def xR (x y:A) (S:ak):R A:=match x,y with
 | .int i,.int j=>.ok (.int (if j > i then j else i)) S
 | _,_=>.no
theorem B3 (hc:X.calm=true):bw X (.builtin "max") (rN X (f2 xR)):=bw.imp (tW hc) fun vs H Q h0=>by
 obtain ⟨w,w',rfl,ρ,S,x,y,R,hv,hv',h⟩:=FZ h0
 clear h0
 cases hv <;> first | exact h.elim | (cases hv' <;> first | exact h.elim | exact ⟨_,_,rfl,h _ _ _ .refl R (.int _)⟩)
noncomputable def uJ (x y:A) (S:ak):R A:=match x,y with
 | .int i,.int j=>.ok (.int (if j < i then j else i)) S
 | _,_=>.no
theorem B9 (hc:X.calm=true):bw X (.builtin "min") (rN X (f2 uJ)):=bw.imp (uq hc) fun vs H Q h0=>by
 obtain ⟨w,w',rfl,ρ,S,x,y,R,hv,hv',h⟩:=FZ h0
 clear h0
 cases hv <;> first | exact h.elim | (cases hv' <;> first | exact h.elim | exact ⟨_,_,rfl,h _ _ _ .refl R (.int _)⟩)
noncomputable def sG (x:A) (S:ak):R A:=match x with
 | .int i=>.ok (.int i) S
 | .bl k=>.ok (.int (if k then 1 else 0)) S
 | .str y=>opt (PySem.intText? y) fun n=>gd (y.length<=640) (.ok (.int n) S)
 | _=>.no
theorem Bt:bw X (.type "int") (rN X (f1 sG)):=fun pins s σ H xs us Q I rv h0=>by
 obtain ⟨w,rfl,ρ,S,x,R,hv,h⟩:=C6 h0
 clear h0
 cases hv with
 | int i=>exact kQ pins s σ H _ us Q I rv (.inl ⟨i,rfl,h _ _ _ .refl R (.int _)⟩)
 | bl k=>exact kQ pins s σ H _ us Q I rv (.inr ⟨k,rfl,h _ _ _ .refl R (.int _)⟩)
 | str y=>
  obtain ⟨n,hn,h⟩:=aK h
  obtain ⟨hl,h⟩:=aW h
  exact ud pins s σ H _ us Q I rv ⟨y,n,rfl,hl,hn,h _ _ _ .refl R (.int _)⟩
 | _=>exact h.elim
noncomputable def za (x y:A) (S:ak):R A:=match x,y with
 | .int i,.int j=>.ok (.rng i j) S
 | _,_=>.no
noncomputable def rQ (i j:Int):Prop:=(-(2 ^ 62)<=i/\i < 2 ^ 62/\-(2 ^ 62)<=j/\j < 2 ^ 62)/\(j - i).toNat<=1000
instance (i j:Int):Decidable (rQ i j):=by unfold rQ;infer_instance
noncomputable def fP (x:A) (S:ak):R A:=match x with
 | .rng i j=>gd (rQ i j) (.ok (.ref S.length) (S++[.lst ((oM i j).map .int)]))
 | .tup xs=>.ok (.ref S.length) (S++[.lst xs])
 | .frz xs=>.ok (.ref S.length) (S++[.lst xs])
 | .ref n=>opt (aq S n) fun xs=>.ok (.ref S.length) (S++[.lst xs])
 | _=>.no
theorem iP (hc:X.calm=true):bw X (.type "list") (rN X (f1 fP)):=fun pins s σ H vs us Q I rx h0=>by
 obtain ⟨w,rfl,ρ,S,x,R,hv,h⟩:=C6 h0
 clear h0
 cases hv with
 | @rng p i j hp=>
  obtain ⟨hc',h⟩:=aW h
  exact ku hc pins s σ H _ us Q I rx ⟨p,i,j,rfl,hp,hc'.1,hc'.2,dQ R (j7 _) .refl h⟩
 | @tup p xs vs h1 r=>exact eL pins s σ H _ us Q I rx ⟨p,vs,rfl,.inr (dF.of h1),dQ R r .refl h⟩
 | @frz p xs vs h1 r=>exact eL pins s σ H _ us Q I rx ⟨p,vs,rfl,.inl h1.Bk,dQ R r .refl h⟩
 | @ref p n hp=>
  obtain ⟨xs,hn,h⟩:=aK h
  obtain ⟨vs,h1,r⟩:=R.lst hp (aN hn)
  exact eL pins s σ H _ us Q I rx ⟨p,vs,rfl,.inl (dW.of h1),dQ R r .refl h⟩
 | _=>exact h.elim
noncomputable def wH (x:A) (S:ak):R A:=match x with
 | .rng i j=>gd (rQ i j) (.ok (.tup ((oM i j).map .int)) S)
 | .tup xs=>.ok (.tup xs) S
 | .frz xs=>.ok (.tup xs) S
 | .ref n=>opt (aq S n) fun xs=>.ok (.tup xs) S
 | _=>.no
noncomputable def A.Bh:List A->Option (List Bool)
 | []=>some []
 | .bl b::xs=>(A.Bh xs).map (b::·)
 | _=>none
theorem wC {K:PySem.W.Frag} {ρ:List Addr} {H:Hp}:∀ {xs:List A} {vs:List V} {bs:List Bool},AVs K ρ H xs vs->A.Bh xs=some bs->vs=bs.map V.bl
 | _,_,_,.nil,e=>by cases e;rfl
 | _,_,_,.cons (x:=.bl b) h t,e=>by
  obtain ⟨cs,e1,rfl⟩:=Option.map_eq_some_iff.mp e
  cases h
  rw [wC t e1];rfl
 | _,_,_,.cons (x:=.unb) h t,e=>nomatch e
 | _,_,_,.cons (x:=.non) h t,e=>nomatch e
 | _,_,_,.cons (x:=.int _) h t,e=>nomatch e
 | _,_,_,.cons (x:=.str _) h t,e=>nomatch e
 | _,_,_,.cons (x:=.tup _) h t,e=>nomatch e
 | _,_,_,.cons (x:=.frz _) h t,e=>nomatch e
 | _,_,_,.cons (x:=.rng _ _) h t,e=>nomatch e
 | _,_,_,.cons (x:=.ref _) h t,e=>nomatch e
 | _,_,_,.cons (x:=.exn _) h t,e=>nomatch e
 | _,_,_,.cons (x:=.ty _) h t,e=>nomatch e
noncomputable def CF (x:A) (S:ak):R A:=match x with
 | .ref n=>opt (aq S n) fun xs=>opt (A.Bh xs) fun bs=>.ok (.bl (bs.all fun b=>b)) S
 | _=>.no
theorem D8 (hc:X.calm=true):bw X (.builtin "all") (rN X (f1 CF)):=bw.imp (uh hc) fun vs H Q h0=>by
 obtain ⟨w,rfl,ρ,S,x,R,hv,h⟩:=C6 h0
 clear h0
 cases hv with
 | @ref p n hp=>
  obtain ⟨xs,hn,h⟩:=aK h
  obtain ⟨bs,hb,h⟩:=aK h
  obtain ⟨vs,h1,r⟩:=R.lst hp (aN hn)
  rw [wC r hb] at h1
  exact ⟨p,bs,rfl,dW.of h1,h _ _ _ .refl R (.bl _)⟩
 | _=>exact h.elim
noncomputable def insI (x:Int):List Int->List Int
 | []=>[x]
 | y::ys=>if x<=y then x::y::ys else y::insI x ys
noncomputable def sortI:List Int->List Int
 | []=>[]
 | x::xs=>insI x (sortI xs)
theorem insI_perm (x:Int):∀ ys:List Int,(insI x ys).Perm (x::ys)
 | []=>List.Perm.refl _
 | y::ys=>by
  unfold insI
  by_cases h:x<=y
  ·rw [if_pos h]
  ·rw [if_neg h];exact ((insI_perm x ys).cons y).trans (List.Perm.swap x y ys)
theorem sortI_perm:∀ xs:List Int,(sortI xs).Perm xs
 | []=>List.Perm.refl _
 | x::xs=>(insI_perm x (sortI xs)).trans ((sortI_perm xs).cons x)
theorem qT (x:Int):∀ ys:List Int,ys.Pairwise (·<=·)->(insI x ys).Pairwise (·<=·)
 | [],_=>List.pairwise_singleton _ _
 | y::ys,h=>by
  unfold insI
  obtain ⟨h1,h2⟩:=List.pairwise_cons.mp h
  by_cases hx:x<=y
  ·rw [if_pos hx]
   exact List.pairwise_cons.mpr ⟨fun z hz=>(List.mem_cons.mp hz).elim (fun e=>e ▸ hx) fun hz=>Int.le_trans hx (h1 z hz),h⟩
  ·rw [if_neg hx]
   refine List.pairwise_cons.mpr ⟨fun z hz=>?_,qT x ys h2⟩
   rcases List.mem_cons.mp ((insI_perm x ys).mem_iff.mp hz) with e | hz
   ·subst e;omega
   ·exact h1 z hz
theorem kg:∀ xs:List Int,(sortI xs).Pairwise (·<=·)
 | []=>List.Pairwise.nil
 | x::xs=>qT x _ (kg xs)
noncomputable def A.kd:A->ak->Option Kd
 | .non,_=>some .non
 | .bl _,_=>some .bl
 | .int _,_=>some .int
 | .str _,_=>some .str
 | .tup _,_=>some .tup
 | .ref n,S=>(aq S n).map fun _=>.lst
 | _,_=>none
theorem zI {K:PySem.W.Frag} (k:Kd):PySem.W.kitOne K k.ty (.type "str")=some (decide (k=.str)):=by cases k <;> rfl
noncomputable def m_ (k:Kd) (c:String):Option Bool:=if c = "int" then some (decide (k=.int\/k=.bl)) else if c = "bool" then some (decide (k=.bl)) else if c = "tuple" then some (decide (k=.tup)) else if c = "list" then some (decide (k=.lst)) else if c = "str" then some (decide (k=.str)) else none
theorem qE {K:PySem.W.Frag} {k:Kd} {c:String} {b:Bool} (h:m_ k c=some b):PySem.W.kitOne K k.ty (.type c)=some b:=by
 unfold m_ at h
 split at h
 ·rename_i e;subst e;rw [<- h];exact yN k
 ·split at h
  ·rename_i e;subst e;rw [<- h];exact xH k
  ·split at h
   ·rename_i e;subst e;rw [<- h];exact kit_tuple k
   ·split at h
    ·rename_i e;subst e;rw [<- h];exact xC k
    ·split at h
     ·rename_i e;subst e;rw [<- h];exact zI k
     ·cases h
noncomputable def tF (x y:A) (S:ak):R A:=match y with
 | .ty c=>opt (x.kd S) fun k=>opt (m_ k c) fun b=>.ok (.bl b) S
 | _=>.no
theorem D3 {K:PySem.W.Frag} {ρ:List Addr} {H:Hp} {S:ak} {x:A} {v:V} {k:Kd} (R:Rel K ρ H S) (h:AV K ρ H x v) (e:x.kd S=some k):(∃ p vs,v=.ref p/\dF K H p vs/\k=.tup)\/CP H v k:=by
 cases h with
 | non=>cases e;exact .inr rfl
 | bl b=>cases e;exact .inr ⟨b,rfl⟩
 | int i=>cases e;exact .inr ⟨i,rfl⟩
 | str i=>cases e;exact .inr ⟨i,rfl⟩
 | tup h r=>cases e;exact .inl ⟨_,_,rfl,(dF.of h),rfl⟩
 | ref h=>
  obtain ⟨xs,e1,e2⟩:=Option.map_eq_some_iff.mp e
  obtain ⟨vs,h1,_⟩:=R.lst h (aN e1)
  cases e2
  exact .inr ⟨_,vs,rfl,h1⟩
 | _=>cases e
theorem qa:bw X (.builtin "isinstance") (rN X (f2 tF)):=fun pins s σ H vs us Q I rx h0=>by
 obtain ⟨w,w',rfl,ρ,S,x,y,R,hv,hv',h⟩:=FZ h0
 clear h0
 cases hv' with
 | ty c=>
  obtain ⟨k,hk,h⟩:=aK h
  obtain ⟨b,hb,hq⟩:=aK h
  have hq:m9 X ρ H Q (.bl b) S:=hq
  clear h
  rcases D3 R hv hk with ⟨p,vs,rfl,ht,rfl⟩ | hd
  ·obtain ⟨u1,u2,rfl,r1,r2⟩:=vals2 rx
   obtain ⟨its,q,⟨o,h1,h2,_⟩,_⟩:=I.tuple ht
   cases (show _=Value.ref p from r1)
   cases (show _=Value.type c from r2)
   exact PySem.W.kia_one PySem.W.kitx_tuple I.m5 ⟨o,h1,h2⟩ (qE hb) (fun z=>nomatch z) fun tk=>⟨.bl b,H,I.tok _,rfl,hq _ _ _ .refl R (.bl _)⟩
  ·exact oi (c:=c) pins s σ H _ us Q I rx ⟨w,_,b,rfl,hd.Fj,qE hb,hq _ _ _ .refl R (.bl _)⟩
 | _=>exact h.elim
end
theorem Gw:∀ (N:Nat) (l:List Nat),l.Nodup->(∀ x∈l,x < N)->l.length<=N
 | 0,l,_,h=>by
  cases l with
  | nil=>exact Nat.le_refl _
  | cons a l=>exact absurd (h a (List.mem_cons_self ..)) (Nat.not_lt_zero _)
 | N+1,l,nd,h=>by
  have h1:=Gw N (l.erase N) (nd.erase N) fun x hx=>by
   have:=h x (List.mem_of_mem_erase hx)
   have:x≠N:=fun z=>by
    subst z
    exact (List.Nodup.not_mem_erase nd) hx
   omega
  have:=List.le_length_erase (l:=l) (a:=N)
  omega
theorem pW {N:Nat} {g:Nat->Nat} (h:∀ i,i < N->g i < N) (inj:∀ i j,i < j->j < N->g i≠g j):((List.range N).map g).Perm (List.range N):=by
 have nd:((List.range N).map g).Nodup:=by
  unfold List.Nodup
  rw [List.pairwise_iff_getElem]
  intro i j hi hj hij
  rw [List.length_map,List.length_range] at hi hj
  rw [List.getElem_map,List.getElem_map,List.getElem_range,List.getElem_range]
  exact inj i j hij hj
 have lt:∀ x∈(List.range N).map g,x < N:=fun x hx=>by
  obtain ⟨i,hi,rfl⟩:=List.mem_map.mp hx
  exact h i (List.mem_range.mp hi)
 refine (List.perm_ext_iff_of_nodup nd List.nodup_range).mpr fun a=>⟨fun ha=>List.mem_range.mpr (lt a ha),fun ha=>?_⟩
 refine Classical.byContradiction fun hn=>?_
 have:=Gw N (a::(List.range N).map g) (List.nodup_cons.mpr ⟨hn,nd⟩) fun x hx=>by
  rcases List.mem_cons.mp hx with rfl | hx
  ·exact List.mem_range.mp ha
  ·exact lt x hx
 rw [List.length_cons,List.length_map,List.length_range] at this
 omega
theorem range_getD {α:Type} (l:List α) (d:α):(List.range l.length).map (fun i=>l.getD i d)=l:=by
 apply List.ext_getElem?
 intro i
 rw [List.getElem?_map]
 by_cases c:i < l.length
 ·rw [List.getElem?_range c]
  show some (l.getD i d)=_
  rw [List.getD_eq_getElem?_getD,List.getElem?_eq_getElem c];rfl
 ·rw [List.getElem?_eq_none (by rw [List.length_range];omega),List.getElem?_eq_none (by omega)];rfl
theorem vg {K:PySem.W.Frag} {ρ:List Addr} {H:Hp} {α:Type} {f:α->A} {h:α->V}:∀ {l:List α},(∀ a∈l,AV K ρ H (f a) (h a))->AVs K ρ H (l.map f) (l.map h)
 | [],_=>.nil
 | a::l,e=>.cons (e a (List.mem_cons_self ..)) (vg fun b hb=>e b (List.mem_cons_of_mem _ hb))
section
variable {X:Cx}
end
section
variable {X:Cx}
end
noncomputable def RS.post (r:RS) (N:List A->ak->Prop) (T:A->ak->Prop) (B C:List A->ak->Prop) (E:Str->ak->Prop):Prop:=match r with
 | .nx τ S=>N τ S
 | .rt a S=>T a S
 | .bk τ S=>B τ S
 | .ct τ S=>C τ S
 | .ex c S=>E c S
 | .no=>False
noncomputable def RS.of {α:Type} (r:R α) (f:α->ak->RS):RS:=match r with
 | .ok a S=>f a S
 | .ex c S=>.ex c S
 | .no=>.no
theorem of_post {α:Type} {r:R α} {f:α->ak->RS} {N B C:List A->ak->Prop} {T:A->ak->Prop} {E:Str->ak->Prop} (h:(RS.of r f).post N T B C E):r.post (fun a S=>(f a S).post N T B C E) E:=by
 cases r <;> exact h
theorem RS.mono {r:RS} {N B C N' B' C':List A->ak->Prop} {T T':A->ak->Prop} {E E':Str->ak->Prop} (h:r.post N T B C E) (hn:∀ τ S,N τ S->N' τ S) (ht:∀ a S,T a S->T' a S) (hb:∀ τ S,B τ S->B' τ S) (hc:∀ τ S,C τ S->C' τ S) (he:∀ c S,E c S->E' c S):r.post N' T' B' C' E':=by
 cases r with
 | nx τ S=>exact hn _ _ h
 | rt a S=>exact ht _ _ h
 | bk τ S=>exact hb _ _ h
 | ct τ S=>exact hc _ _ h
 | ex c S=>exact he _ _ h
 | no=>exact h.elim
noncomputable def yx (X:Cx) (ρ:List Addr) (H:Hp) (N:L2.St->Hp->Prop):List A->ak->Prop:=fun τ' S'=>∀ ρ' H' σ',Ext ρ ρ' H H'->Rel X.K ρ' H' S'->SR X.K ρ' H' τ' σ'->N σ' H'
theorem yx.ext {X:Cx} {ρ ρ':List Addr} {H H':Hp} {N:L2.St->Hp->Prop} {τ:List A} {S:ak} (h:yx X ρ H N τ S) (e:Ext ρ ρ' H H'):yx X ρ' H' N τ S:=fun ρ2 H2 σ2 e2=>h ρ2 H2 σ2 (e.trans e2)
noncomputable def rS (X:Cx) (ρ:List Addr) (H:Hp) (D:Ends) (r:RS):Prop:=r.post (yx X ρ H D.nx) (m9 X ρ H D.rt) (yx X ρ H D.bk) (yx X ρ H D.ct) (XE X ρ H)
theorem rS.ext {X:Cx} {ρ ρ':List Addr} {H H':Hp} {D:Ends} {r:RS} (h:rS X ρ H D r) (e:Ext ρ ρ' H H'):rS X ρ' H' D r:=RS.mono h (fun _ _ z=>z.ext e) (fun _ _ z=>z.ext e) (fun _ _ z=>z.ext e) (fun _ _ z=>z.ext e) fun _ _ z=>z.ext e
noncomputable def tS (X:Cx) (c:Sm):TS:=fun D σ H=>∃ ρ S τ,Rel X.K ρ H S/\SR X.K ρ H τ σ/\rS X ρ H D (c τ S)
noncomputable def AS (X:Cx) (st:Stmt) (c:Sm):Prop:=PS X st (tS X c)
noncomputable def An (X:Cx) (sts:List Stmt) (c:Sm):Prop:=m7 X sts (tS X c)
noncomputable def tG (X:Cx) (g:Tg):TG:=fun v σ H Q=>∃ ρ S τ a,Rel X.K ρ H S/\SR X.K ρ H τ σ/\AV X.K ρ H a v/\(g a τ S).post (yx X ρ H Q) (XE X ρ H)
noncomputable def AG (X:Cx) (e:Expr) (g:Tg):Prop:=PG X e (tG X g)
noncomputable abbrev yw:=List A->List A->ak->R (List A)
noncomputable def GO (X:Cx) (g:yw):Ar:=fun vs σ H Q=>∃ ρ S τ as,Rel X.K ρ H S/\SR X.K ρ H τ σ/\AVs X.K ρ H as vs/\(g as τ S).post (yx X ρ H Q) (XE X ρ H)
noncomputable def ER (X:Cx) (es:List Expr) (g:yw):Prop:=DB X es (GO X g)
section
variable {X:Cx} {pos:Pos} {a b e:Expr} {st:Stmt} {rest:List Stmt} {c d:Sm}
theorem PS.imp {t t':TS} (h:PS X st t) (i:∀ D σ H,t' D σ H->t D σ H):PS X st t':=fun pins s σ H D I q=>h pins s σ H D I (i D σ H q)
theorem m7.imp {t t':TS} (h:m7 X rest t) (i:∀ D σ H,t' D σ H->t D σ H):m7 X rest t':=fun pins s σ H D I q=>h pins s σ H D I (i D σ H q)
theorem PG.imp {t t':TG} (h:PG X e t) (i:∀ v σ H Q,t' v σ H Q->t v σ H Q):PG X e t':=fun pins s σ H v u Q I r q=>h pins s σ H v u Q I r (i _ _ _ _ q)
noncomputable def bI (i:Nat):Tg:=fun a τ S=>.ok (τ.set i a) S
theorem aQ {i:Nat} {x:Str} (hN:X.N.Nodup) (hi:X.N[i]?=some x:=by rfl) (hx:Loc X.env.scope x:=by first | exact Or.inl rfl | exact Or.inr rfl) (hf:X.fn x=true\/X.env.scope.names.lookup x=some .local:=by first | exact .inl rfl | exact .inr rfl | assumption):AG X (.Name x pos) (bI i):=
 PG.imp (rj hN hi hx hf) fun v σ H Q ⟨ρ,S,τ,a,R,r,va,h⟩=>h ρ H _ .refl R (r.set va)
noncomputable def oX:yw:=fun as τ S=>match as with
 | []=>.ok τ S
 | _=>.no
noncomputable def gE (g:Tg) (gs:yw):yw:=fun as τ S=>match as with
 | a::as=>(g a τ S).bind fun τ1 S1=>gs as τ1 S1
 | []=>.no
theorem cT:ER X [] oX:=fun pins s σ H vs us Q I r ⟨ρ,S,τ,as,R,sr,va,h⟩=>y9 pins s σ H vs us Q I r (by
 cases va with
 | nil=>exact ⟨rfl,h ρ H σ .refl R sr⟩
 | cons _ _=>exact h.elim)
theorem aV {es:List Expr} {g:Tg} {gs:yw} (h1:AG X e g) (h2:ER X es gs) (hs:(assignEach (e::es) X.env).map (·.2)=assign e X.env::(assignEach es X.env).map (·.2):=by rfl):ER X (e::es) (gE g gs):=
 fun pins s σ H vs us Q I r ⟨ρ,S,τ,as,R,sr,va,h⟩=>uY h1 h2 hs pins s σ H vs us Q I r (by
  cases va with
  | nil=>exact h.elim
  | cons ha hr=>exact ⟨_,_,rfl,ρ,S,τ,_,R,sr,ha,aC (aI h) .refl fun τ1 S1 h1 ρ1 H1 σ1 e1 R1 sr1=>⟨ρ1,S1,τ1,_,R1,sr1,hr.ext e1,aC h1 e1 fun _ _ z=>z.ext e1⟩⟩)
noncomputable def oY (n:Nat) (gs:yw):Tg:=fun a τ S=>match a with
 | .tup xs=>gd (xs.length=n) (gs xs τ S)
 | _=>.no
theorem ef {es:List Expr} {k n:Nat} {gs:yw} (hc:X.calm=true) (h:ER X es gs) (hn:(assignEach es X.env).length=n:=by rfl) (hst:(assignEach es X.env).findIdx? (·.1)=none:=by rfl):AG X (.Tuple es k pos) (oY n gs):=
 PG.imp (By hc h hn hst) fun v σ H Q h9=>by
  obtain ⟨ρ,S,τ,a,R,r,va,h⟩:=h9
  cases va with
  | tup h1 r1=>
   obtain ⟨hl,h⟩:=aW h
   exact ⟨_,_,rfl,dF.of h1,by rw [<- r1.length];exact hl,ρ,S,τ,_,R,r,r1,h⟩
  | _=>exact h.elim
noncomputable def nO (o i v:A) (S:ak):R Unit:=match o,i with
 | .ref n,.int k=>opt (aq S n) fun xs=>opt (qU xs.length k) fun j=>.ok () (S.set n (.lst (xs.set j v)))
 | _,_=>.no
noncomputable def GR (X:Cx):wN:=fun o i v H Q=>∃ ρ S ao ai av,Rel X.K ρ H S/\AV X.K ρ H ao o/\AV X.K ρ H ai i/\AV X.K ρ H av v/\(nO ao ai av S).post (fun _ S'=>∀ ρ' H',Ext ρ ρ' H H'->Rel X.K ρ' H' S'->Q H') (XE X ρ H)
theorem yG:vd X (GR X):=fun pins s σ H o i v ov iv u Q I ro ri rv h9=>by
 obtain ⟨ρ,S,ao,ai,av,R,h1,h2,h3,h⟩:=h9
 cases h1 with
 | @ref p n hp=>
  cases h2 with
  | int k=>
   obtain ⟨xs,hn,h⟩:=aK h
   obtain ⟨j,hj,h⟩:=aK h
   obtain ⟨vs,e,r⟩:=R.lst hp (aN hn)
   obtain ⟨ex,R'⟩:=R.put hp (aN hn) (r.set h3 j)
   exact set_list pins s σ H _ _ v ov iv u Q I ro ri rv ⟨p,vs,k,j,rfl,rfl,e,by rw [<- r.length];exact hj,h _ _ ex R'⟩
  | _=>exact h.elim
 | _=>exact h.elim
noncomputable def EH (co ci:Ex):Tg:=fun a τ S=>(co τ S).bind fun o S1=>(ci τ S1).bind fun i S2=>(nO o i a S2).bind fun _ S3=>.ok τ S3
theorem wV {o i:Expr} {co ci:Ex} (ho:AE X o co) (hi:AE X i ci)
  (ha:∀ v,assign (.Subscript o i pos) X.env v=(do
   let ov <- holding [v] (eval o X.env)
   let iv <- holding [v,ov] (eval i X.env)
   standAt pos
   holding [v,ov,iv] (setItem ov iv v)
   release [v,ov,iv] []):=by intro _;rfl):AG X (.Subscript o i pos) (EH co ci):=PG.imp (w9 ho hi yG ha) fun v σ H Q h9=>by
 obtain ⟨ρ,S,τ,a,R,r,va,h⟩:=h9
 refine ⟨ρ,S,τ,R,r,aC (aI h) .refl fun o S1 h1 ρ1 H1 x e1 R1 v1=>⟨ρ1,S1,τ,R1,r.ext e1,aC (aI h1) e1 fun i S2 h2 ρ2 H2 y e2 R2 v2=>?_⟩⟩
 refine ⟨ρ2,S2,o,i,a,R2,v1.ext e2,v2,va.ext (e1.trans e2),aC (aI h2) (e1.trans e2) fun _ S3 h3 ρ3 H3 e3 R3=>?_⟩
 exact h3 ρ3 H3 σ ((e1.trans e2).trans e3) R3 (r.ext ((e1.trans e2).trans e3))
noncomputable def e_:Sm:=fun τ S=>.nx τ S
noncomputable def bh (c d:Sm):Sm:=fun τ S=>match c τ S with
 | .nx τ' S'=>d τ' S'
 | r=>r
theorem bV:An X [] e_:=m7.imp zH fun D σ H ⟨ρ,S,τ,R,r,h⟩=>h ρ H σ .refl R r
theorem zR {D:Ends} {σ:L2.St} {H:Hp} (h:tS X (bh c d) D σ H):DX (tS X c) (tS X d) D σ H:=by
 obtain ⟨ρ,S,τ,R,r,h⟩:=h
 refine ⟨ρ,S,τ,R,r,?_⟩
 unfold bh at h
 cases hc:c τ S with
 | nx τ1 S1=>
  rw [hc] at h
  exact fun ρ1 H1 σ1 e1 R1 r1=>⟨ρ1,S1,τ1,R1,r1,rS.ext h e1⟩
 | rt a S1=>rw [hc] at h;exact h
 | bk τ1 S1=>rw [hc] at h;exact h
 | ct τ1 S1=>rw [hc] at h;exact h
 | ex x S1=>rw [hc] at h;exact h
 | no=>rw [hc] at h;exact h
theorem aE (h1:AS X st c) (h2:An X rest d):An X (st::rest) (bh c d):=m7.imp (wU h1 h2) fun D σ H h=>zR h
theorem aH (h1:AS X st c):An X [st] c:=yK h1
noncomputable def Cu:Sm:=fun τ S=>.bk τ S
noncomputable def DF:Sm:=fun τ S=>.ct τ S
noncomputable def qf (e:Ex):Sm:=fun τ S=>.of (e τ S) fun _ S1=>.nx τ S1
theorem qL {f:Ex} (he:AE X e f) (hs:swapsWith e none pos.line X.env=pure false:=by rfl):AS X (.Expr e pos) (qf f):=PS.imp (z7 he hs) fun D σ H ⟨ρ,S,τ,R,r,h⟩=>
 ⟨ρ,S,τ,R,r,aC (of_post h) .refl fun a S1 h1 ρ1 H1 x e1 R1 v1=>h1 ρ1 H1 σ e1 R1 (r.ext e1)⟩
noncomputable def cJ (e:Ex):Sm:=fun τ S=>.of (e τ S) fun a S1=>.rt a S1
theorem bE {f:Ex} (he:AE X e f):AS X (.Return (some e) pos) (cJ f):=PS.imp (BP he) fun D σ H ⟨ρ,S,τ,R,r,h⟩=>⟨ρ,S,τ,R,r,aC (of_post h) .refl fun a S1 h1=>h1⟩
noncomputable def DN:Sm:=fun τ S=>.rt .non S
noncomputable def kj (t:Te) (c d:Sm):Sm:=fun τ S=>.of (t τ S) fun b S1=>match b with | true=>c τ S1 | false=>d τ S1
theorem dh {t:Te} {ca cb:List Stmt} (ht:AT X e t) (ha:An X ca c) (hb:An X cb d):AS X (.If e ca cb pos) (kj t c d):=PS.imp (Dh ht ha hb) fun D σ H h9=>by
 obtain ⟨ρ,S,τ,R,r,h⟩:=h9
 refine ⟨ρ,S,τ,R,r,aC (of_post h) .refl fun b S1 h1 ρ1 H1 e1 R1=>?_⟩
 cases b with
 | true=>rw [if_pos rfl];exact ⟨ρ1,S1,τ,R1,r.ext e1,rS.ext h1 e1⟩
 | false=>rw [if_neg Bool.false_ne_true];exact ⟨ρ1,S1,τ,R1,r.ext e1,rS.ext h1 e1⟩
noncomputable def br (e:Ex) (g:Tg):Sm:=fun τ S=>.of (e τ S) fun a S1=>.of (g a τ S1) fun τ' S2=>.nx τ' S2
theorem yO {f:Ex} {g:Tg} {D:Ends} {σ:L2.St} {H:Hp} (h:tS X (br f g) D σ H):zU (tE X f) (tG X g) D σ H:=by
 obtain ⟨ρ,S,τ,R,r,h⟩:=h
 exact ⟨ρ,S,τ,R,r,aC (of_post h) .refl fun a S1 h1 ρ1 H1 x e1 R1 v1=>⟨ρ1,S1,τ,a,R1,r.ext e1,v1,aC (of_post h1) e1 fun τ2 S2 h2=>yx.ext h2 e1⟩⟩
theorem iT {tg:Expr} {f:Ex} {g:Tg} (he:AE X e f) (hg:AG X tg g) (hs:swapsWithSole [tg] e pos.line X.env=pure false:=by rfl) (hw:swappedStores [tg] e X.env=pure none:=by rfl)
  (h1:(assignEach [tg] X.env).map (·.2)=[assign tg X.env]:=by rfl):AS X (.Assign [tg] e pos) (br f g):=PS.imp (Cj he hg hs hw h1) fun D σ H h=>yO h
theorem aX {i:Nat} {x:Str} {f:Ex} {pos':Pos} (hN:X.N.Nodup) (he:AE X e f) (hi:X.N[i]?=some x:=by rfl) (hx:Loc X.env.scope x:=by first | exact Or.inl rfl | exact Or.inr rfl) (hs:swapsWith e (some (.Name x pos')) pos.line X.env=pure false:=by rfl) (hf:X.fn x=true\/X.env.scope.names.lookup x=some .local:=by first | exact .inl rfl | exact .inr rfl | assumption) :
  AS X (.Assign [.Name x pos'] e pos) (br f (bI i)):=PS.imp (CI hN hi hx he hs hf) fun D σ H ⟨ρ,S,τ,R,r,h⟩=>
 ⟨ρ,S,τ,R,r,aC (of_post h) .refl fun a S1 h1 ρ1 H1 x e1 R1 v1=>h1 ρ1 H1 _ e1 R1 ((r.ext e1).set v1)⟩
noncomputable def E1 (i j:Nat) (c:fC):Sm:=fun τ S=>.of (c τ S) fun as S1=>match as with
 | [a,b]=>.nx ((τ.set i a).set j b) S1
 | _=>.no
noncomputable def Fw (a b:A) (S:ak):R A:=match a,b with
 | .int i,.int j=>.ok (.int (i+j)) S
 | _,_=>.no
noncomputable def Eb (i:Nat) (f:A->A->ak->R A) (e:Ex):Sm:=fun τ S=>if (τ.getD i .unb).dG then .no else .of (e τ S) fun b S1=>.of (f (τ.getD i .unb) b S1) fun c S2=>.nx (τ.set i c) S2
noncomputable def yU (a b:A) (S:ak):R A:=match a,b with
 | .ref n,.int i=>opt (aq S n) fun xs=>gd (0<=i) (opt (xs[i.toNat]?) fun x=>.ok x S)
 | _,_=>.no
noncomputable def D6 (co ci ce:Ex) (f:A->A->ak->R A):Sm:=fun τ S=>.of (co τ S) fun o S1=>.of (ci τ S1) fun i S2=>.of (yU o i S2) fun x S3=>.of (ce τ S3) fun y S4=>.of (f x y S4) fun z S5=>.of (nO o i z S5) fun _ S6=>.nx τ S6
end
end Am
namespace L2
open PySem PySem.Spec PyProof.Rows
section
variable {X:Cx}
end
end L2
namespace Am
open PySem PySem.Spec PyProof.Rows L2
section
variable {X:Cx}
end
section
variable {X:Cx} {o e:Expr} {p2 spos pos:Pos} {co ci:Ex}
end
structure Src where
 k:Nat
 get:Nat->ak->Option A
 fin:ak->Bool
structure JR (K:PySem.W.Frag) (s:Src) (J:It) (ρ0:List Addr) (H0:Hp):Prop where
 go:∀ (i:Nat) (S:ak) (H:Hp) (ρ:List Addr) (x:A),Ext0 ρ0 ρ H0 H->Rel K ρ H S->s.get i S=some x->J.go i H/\∀ v H',J.yld i H v H'->Ext ρ ρ H H'/\Rel K ρ H' S/\AV K ρ H' x v
 stop:∀ (S:ak) (H:Hp) (ρ:List Addr),Ext0 ρ0 ρ H0 H->Rel K ρ H S->s.fin S=true->J.stop s.k H
noncomputable abbrev Ic:=List A->ak->R Src
noncomputable def tI (X:Cx) (c:Ic):TI:=fun σ H Q=>∃ ρ S τ,Rel X.K ρ H S/\SR X.K ρ H τ σ/\(c τ S).post (fun s S'=>∀ ρ' H' J,Ext ρ ρ' H H'->Rel X.K ρ' H' S'->JR X.K s J ρ' H'->Q J H') (XE X ρ H)
noncomputable def AI (X:Cx) (tg iter:Expr) (c:Ic):Prop:=PI X tg iter (tI X c)
noncomputable def eZ (xs:List A):Src:=⟨xs.length,fun i _=>xs[i]?,fun _=>true⟩
noncomputable def d9 (n k:Nat):Src:=⟨k,fun i S=>(aq S n).bind (·[i]?),fun S=>match aq S n with
 | some ys=>decide (ys.length<=k)
 | none=>false⟩
noncomputable def iN (lo hi:Int):Src:=⟨(hi - lo).toNat,fun i _=>if i < (hi - lo).toNat then some (.int (lo+i)) else none,fun _=>true⟩
noncomputable def dP (c:Ex):Ic:=fun τ S=>(c τ S).bind fun a S1=>match a with
 | .tup xs=>.ok (eZ xs) S1
 | .frz xs=>.ok (eZ xs) S1
 | .ref n=>opt (aq S1 n) fun xs=>.ok (d9 n xs.length) S1
 | .str x=>gd (x.cps.all (· < 128)=true) (.ok (eZ (x.cps.toList.map fun c=>.str ⟨#[c]⟩)) S1)
 | _=>.no
section
variable {X:Cx} {pos:Pos} {tg e a b:Expr}
theorem C4 {K:PySem.W.Frag} {ρ0:List Addr} {H0:Hp} {p:Addr} {xs:List A} {vs:List V} (h:dF K H0 p vs) (r:AVs K ρ0 H0 xs vs):JR K (eZ xs) (C7 K p) ρ0 H0 where
 go:=fun i S H ρ x e R g=>by
  obtain ⟨v,ev,av⟩:=(AVs.cO e r).get g
  have hs:=e.Gy h
  refine ⟨⟨vs,v,hs,ev⟩,fun w H' ⟨e1,y⟩=>?_⟩
  subst e1
  have:=y vs hs
  rw [ev] at this
  cases this
  exact ⟨.refl,R,av⟩
 stop:=fun S H ρ e R _=>⟨vs,e.Gy h,by rw [<- r.length];exact Nat.le_refl _⟩
theorem Bo {K:PySem.W.Frag} {ρ0:List Addr} {H0:Hp} {p:Addr} {xs:List A} {vs:List V} (h:Fz K H0 p vs) (r:AVs K ρ0 H0 xs vs):JR K (eZ xs) (EO K p) ρ0 H0 where
 go:=fun i S H ρ x e R g=>by
  obtain ⟨v,ev,av⟩:=(AVs.cO e r).get g
  have hs:=(e.fz h).Bk
  refine ⟨⟨vs,v,hs,ev⟩,fun w H' ⟨e1,y⟩=>?_⟩
  subst e1
  have:=y vs hs
  rw [ev] at this
  cases this
  exact ⟨.refl,R,av⟩
 stop:=fun S H ρ e R _=>⟨vs,(e.fz h).Bk,by rw [<- r.length];exact Nat.le_refl _⟩
theorem B6 {K:PySem.W.Frag} {ρ0:List Addr} {H0:Hp} {p:Addr} {n k:Nat} (h:ρ0[n]?=some p):JR K (d9 n k) (EO K p) ρ0 H0 where
 go:=fun i S H ρ x e R g=>by
  obtain ⟨ys,hn,hx⟩:=Option.bind_eq_some_iff.mp (show (aq S n).bind (·[i]?)=some x from g)
  obtain ⟨vs,h1,r⟩:=R.lst (e.get h) (aN hn)
  obtain ⟨v,ev,av⟩:=r.get hx
  refine ⟨⟨vs,v,dW.of h1,ev⟩,fun w H' ⟨e1,y⟩=>?_⟩
  subst e1
  have:=y vs (dW.of h1)
  rw [ev] at this
  cases this
  exact ⟨.refl,R,av⟩
 stop:=fun S H ρ e R g=>by
  have g:(match aq S n with
   | some ys=>decide (ys.length<=k)
   | none=>false)=true:=g
  cases hn:aq S n with
  | none=>rw [hn] at g;cases g
  | some ys=>
   rw [hn] at g
   obtain ⟨vs,h1,r⟩:=R.lst (e.get h) (aN hn)
   exact ⟨vs,dW.of h1,by rw [<- r.length];exact of_decide_eq_true g⟩
theorem Cf {K:PySem.W.Frag} {ρ0:List Addr} {H0:Hp} {lo hi:Int}:JR K (iN lo hi) (EN lo (hi - lo).toNat) ρ0 H0 where
 go:=fun i S H ρ x e R g=>by
  have g:(if i < (hi - lo).toNat then some (A.int (lo+i)) else none)=some x:=g
  by_cases hi':i < (hi - lo).toNat
  ·rw [if_pos hi'] at g
   cases g
   refine ⟨hi',fun w H' ⟨e1,y⟩=>?_⟩
   subst e1 y
   exact ⟨.refl,R,.int _⟩
  ·rw [if_neg hi'] at g;cases g
 stop:=fun S H ρ e R _=>Nat.le_refl _
theorem Cr {K:PySem.W.Frag} {ρ0:List Addr} {H0:Hp} {x:Str}:JR K (eZ (x.cps.toList.map fun c=>A.str ⟨#[c]⟩)) (FE x) ρ0 H0 where
 go:=fun i S H ρ y e R g=>by
  have g:(x.cps.toList.map fun c=>A.str ⟨#[c]⟩)[i]?=some y:=g
  rw [List.getElem?_map] at g
  obtain ⟨c,hc,rfl⟩:=Option.map_eq_some_iff.mp g
  rw [Array.getElem?_toList] at hc
  refine ⟨(Array.getElem?_eq_some_iff.mp hc).1,fun w H' ⟨e1,c',hc',y'⟩=>?_⟩
  rw [hc] at hc'
  cases hc'
  subst e1 y'
  exact ⟨.refl,R,.str _⟩
 stop:=fun S H ρ e R _=>by
  show (x.cps.toList.map fun c=>A.str ⟨#[c]⟩).length=x.cps.size
  rw [List.length_map,Array.length_toList]
theorem dD {c:Ex} (he:AE X e c):AI X tg e (dP c):=fun pins s σ H Q I h9=>by
 obtain ⟨ρ,S,τ,R,r,h⟩:=h9
 have hb:=aI h
 cases hc:c τ S with
 | no=>rw [hc] at hb;exact hb.elim
 | ex x S1=>
  rw [hc] at hb
  exact vZ he pins s σ H Q I ⟨ρ,S,τ,R,r,by rw [hc];exact hb⟩
 | ok a S1=>
  rw [hc] at hb
  cases a with
  | tup xs=>
   refine vZ he pins s σ H Q I ⟨ρ,S,τ,R,r,?_⟩
   rw [hc]
   intro ρ1 H1 x e1 R1 v1
   cases v1 with
   | tup h1 r1=>exact ⟨_,rfl,⟨_,(dF.of h1)⟩,hb ρ1 H1 _ e1 R1 (C4 (dF.of h1) r1)⟩
  | frz xs=>
   refine qh he pins s σ H Q I ⟨ρ,S,τ,R,r,?_⟩
   rw [hc]
   intro ρ1 H1 x e1 R1 v1
   cases v1 with
   | frz h1 r1=>exact ⟨_,rfl,⟨_,h1.Bk⟩,hb ρ1 H1 _ e1 R1 (Bo h1 r1)⟩
  | ref n=>
   obtain ⟨xs,hn,hb⟩:=aK hb
   refine qh he pins s σ H Q I ⟨ρ,S,τ,R,r,?_⟩
   rw [hc]
   intro ρ1 H1 x e1 R1 v1
   cases v1 with
   | ref hp=>
    obtain ⟨vs,h1,r1⟩:=R1.lst hp (aN hn)
    exact ⟨_,rfl,⟨_,dW.of h1⟩,hb ρ1 H1 _ e1 R1 (B6 hp)⟩
  | str x=>
   obtain ⟨ha,hb⟩:=aW hb
   refine CT he pins s σ H Q I ⟨ρ,S,τ,R,r,?_⟩
   rw [hc]
   intro ρ1 H1 v e1 R1 v1
   cases v1 with
   | str=>exact ⟨x,rfl,ha,hb ρ1 H1 _ e1 R1 Cr⟩
  | _=>exact hb.elim
noncomputable def bnd (i:Int):Prop:=-(2 ^ 62)<=i/\i < 2 ^ 62
instance (i:Int):Decidable (bnd i):=by unfold bnd;infer_instance
noncomputable def fm (c:Ex):Ic:=fun τ S=>(c τ S).bind fun a S1=>match a with
 | .int j=>gd (bnd j) (.ok (iN 0 j) S1)
 | _=>.no
theorem dz {p:Pos} {c:Ex} (hm:X.mg "range" = none) (ha:AE X a c) (hg:Gl X "range" := by rfl) (hs:starEach [a] X.env=[(false,eval a X.env)]:=by rfl):AI X tg (.Call (.Name "range" p) [a] [] pos) (fm c):=fun pins s σ H Q I h9=>by
 obtain ⟨ρ,S,τ,R,r,h⟩:=h9
 refine um hg hm (mW ha pM hs) hs pins s σ H Q I ⟨ρ,S,τ,R,r,aC (aI h) .refl fun x S1 h1 ρ1 H1 v e1 R1 v1=>?_⟩
 cases v1 with
 | int j=>
  obtain ⟨hb,h1⟩:=aW h1
  exact ⟨_,rfl,hb.1,hb.2,by have:=h1 ρ1 H1 _ e1 R1 Cf;rwa [Int.sub_zero] at this⟩
 | _=>exact h1.elim
noncomputable def dS (s:Src) (g:Tg) (c:Sm):Nat->Nat->Sm
 | 0,_=>fun τ S=>if s.fin S then .nx τ S else .no
 | k+1,i=>fun τ S=>match s.get i S with
  | none=>.no
  | some x=>.of (g x τ S) fun τ1 S1=>match c τ1 S1 with
   | .nx τ' S'=>dS s g c k (i+1) τ' S'
   | .ct τ' S'=>dS s g c k (i+1) τ' S'
   | .bk τ' S'=>.nx τ' S'
   | r=>r
noncomputable def cD (src:Ic) (g:Tg) (c:Sm):Sm:=fun τ S=>.of (src τ S) fun s S1=>dS s g c s.k 0 τ S1
theorem cN {iter:Expr} {body:List Stmt} {src:Ic} {g:Tg} {c:Sm} (hp:PassesOwn (model X.prog X.w) X.A X.env X.xe) (hc:X.calm=true) (hi:AI X tg iter src) (hg:AG X tg g) (hb:An X body c)
  (hs:∀ x,foldedSetIterable iter X.env x=pure x:=by intro _;rfl):AS X (.For tg iter body [] pos) (cD src g c):=PS.imp (BU hp hc hi hg hb hs) fun D σ H h9=>by
 obtain ⟨ρ,S,τ,R,r,h⟩:=h9
 refine ⟨ρ,S,τ,R,r,aC (of_post h) .refl fun s S1 h1 ρ1 H1 J e1 R1 jr=>?_⟩
 refine ⟨fun i m σ' H'=>m+i=s.k/\∃ ρ' S' τ',Ext ρ1 ρ' H1 H'/\Rel X.K ρ' H' S'/\SR X.K ρ' H' τ' σ'/\rS X ρ' H' D (dS s g c m i τ' S'),⟨s.k,rfl,ρ1,S1,τ,.refl,R1,r.ext e1,rS.ext h1 e1⟩,?_⟩
 rintro i m σ2 H2 ⟨hm,ρ2,S2,τ2,e2,R2,r2,h2⟩
 cases m with
 | zero=>
  left
  have h2:rS X ρ2 H2 D (if s.fin S2 then .nx τ2 S2 else .no):=h2
  cases hf:s.fin S2 with
  | false=>rw [hf] at h2;exact h2.elim
  | true=>
   rw [hf] at h2
   refine ⟨by rw [show i=s.k by omega];exact jr.stop S2 H2 ρ2 e2.toExt0 R2 hf,h2 ρ2 H2 σ2 .refl R2 r2⟩
 | succ m=>
  right
  have h2:rS X ρ2 H2 D (match s.get i S2 with
   | none=>.no
   | some x=>.of (g x τ2 S2) fun τ1 S1=>match c τ1 S1 with
    | .nx τ' S'=>dS s g c m (i+1) τ' S'
    | .ct τ' S'=>dS s g c m (i+1) τ' S'
    | .bk τ' S'=>.nx τ' S'
    | r=>r):=h2
  cases hx:s.get i S2 with
  | none=>rw [hx] at h2;exact h2.elim
  | some x=>
   rw [hx] at h2
   obtain ⟨hgo,hy⟩:=jr.go i S2 H2 ρ2 x e2.toExt0 R2 hx
   refine ⟨hgo,fun σ' H'=>m+(i+1)=s.k/\∃ ρ' S' τ',Ext ρ1 ρ' H1 H'/\Rel X.K ρ' H' S'/\SR X.K ρ' H' τ' σ'/\rS X ρ' H' D (dS s g c m (i+1) τ' S'),fun σ' H' z=>⟨m,Nat.lt_succ_self _,z⟩,fun v H3 y=>?_⟩
   obtain ⟨e3,R3,v3⟩:=hy v H3 y
   refine ⟨ρ2,S2,τ2,x,R3,r2.ext e3,v3,aC (of_post h2) e3 fun τ4 S4 h4 ρ4 H4 σ4 e4 R4 r4=>⟨ρ4,S4,τ4,R4,r4,?_⟩⟩
   have e24:=e3.trans e4
   cases hcc:c τ4 S4 with
   | nx τ5 S5=>rw [hcc] at h4;exact fun ρ5 H5 σ5 e5 R5 r5=>⟨by omega,ρ5,S5,τ5,(e2.trans e24).trans e5,R5,r5,rS.ext h4 (e24.trans e5)⟩
   | ct τ5 S5=>rw [hcc] at h4;exact fun ρ5 H5 σ5 e5 R5 r5=>⟨by omega,ρ5,S5,τ5,(e2.trans e24).trans e5,R5,r5,rS.ext h4 (e24.trans e5)⟩
   | bk τ5 S5=>rw [hcc] at h4;exact yx.ext h4 e24
   | rt x5 S5=>rw [hcc] at h4;exact m9.ext h4 e24
   | ex x5 S5=>rw [hcc] at h4;exact XE.ext h4 e24
   | no=>rw [hcc] at h4;exact h4
end
section
variable {X:Cx} {tg a b c0:Expr} {pos:Pos}
end
noncomputable def R.gF {α β:Type} (r:R α) (f:α->ak->R β):R β:=match r with
 | .ok a S=>f a S
 | _=>.no
theorem gW {α β:Type} {r:R α} {f:α->ak->R β} {b:β} {S2:ak} (h:r.gF f=.ok b S2):∃ a S,r=.ok a S/\f a S=.ok b S2:=by
 cases r with
 | ok a S=>exact ⟨a,S,rfl,h⟩
 | ex _ _=>cases h
 | no=>cases h
theorem pB {α β:Type} {r:R α} {f:α->ak->R β} {P:β->ak->Prop} {E:Str->ak->Prop} (h:(r.gF f).post P E):∃ a S,r=.ok a S/\(f a S).post P E:=by
 cases r with
 | ok a S=>exact ⟨a,S,rfl,h⟩
 | ex _ _=>exact h.elim
 | no=>exact h.elim
theorem Cg {α β:Type} {o:Option β} {f:β->R α} {a:α} {S:ak} (h:opt o f=.ok a S):∃ b,o=some b/\f b=.ok a S:=by
 cases o with
 | none=>cases h
 | some b=>exact ⟨b,rfl,h⟩
noncomputable def d7 (s:Src) (g:Tg) (t:Te) (e:Ex):Nat->Nat->List A->ak->R (List A)
 | 0,_=>fun _ S=>if s.fin S then .ok [] S else .no
 | k+1,i=>fun τ S=>opt (s.get i S) fun x=>(g x τ S).gF fun τ1 S1=>(t τ1 S1).gF fun b S2=>match b with
  | true=>(e τ1 S2).gF fun y S3=>(d7 s g t e k (i+1) τ1 S3).gF fun ys S4=>.ok (y::ys) S4
  | false=>d7 s g t e k (i+1) τ1 S2
noncomputable def cM (cap:List (Option Nat)) (τ:List A):List A:=cap.map fun o=>match o with
 | some j=>τ.getD j .unb
 | none=>.unb
noncomputable def bR (cap:List (Option Nat)) (src:Ic) (g:Tg) (t:Te) (e:Ex):Ex:=fun τ S=>(src τ S).bind fun s S1=>(d7 s g t e s.k 0 (cM cap τ) S1).gF fun ys S2=>newL ys S2
noncomputable def iX:Te:=fun _ S=>.ok true S
theorem nR {s:Src} {g:Tg} {t:Te} {e:Ex} {k i:Nat} {τ:List A} {S S':ak} {zs:List A} (h:d7 s g t e (k+1) i τ S=.ok zs S') :
  ∃ x τ1 S1 b S2,s.get i S=some x/\g x τ S=.ok τ1 S1/\t τ1 S1=.ok b S2/\(b=true->∃ y S3 ws,e τ1 S2=.ok y S3/\d7 s g t e k (i+1) τ1 S3=.ok ws S'/\zs=y::ws)/\(b=false->d7 s g t e k (i+1) τ1 S2=.ok zs S'):=by
 obtain ⟨x,hx,h⟩:=Cg h
 obtain ⟨τ1,S1,h1,h⟩:=gW h
 obtain ⟨b,S2,h2,h⟩:=gW h
 refine ⟨x,τ1,S1,b,S2,hx,h1,h2,fun hb=>?_,fun hb=>?_⟩
 ·subst hb
  obtain ⟨y,S3,h3,h⟩:=gW h
  obtain ⟨ws,S4,h4,h⟩:=gW h
  cases h
  exact ⟨y,S3,ws,h3,h4,rfl⟩
 ·subst hb;exact h
noncomputable def EU (K:PySem.W.Frag) (c:Ex):TE:=fun σ H Q=>∃ ρ S τ a S',Rel K ρ H S/\SR K ρ H τ σ/\c τ S=.ok a S'/\∀ ρ' H' v,Ext ρ ρ' H H'->Rel K ρ' H' S'->AV K ρ' H' a v->Q v H'
noncomputable def DZ (K:PySem.W.Frag) (c:Te):TT:=fun σ H Q=>∃ ρ S τ a S',Rel K ρ H S/\SR K ρ H τ σ/\c τ S=.ok a S'/\∀ ρ' H',Ext ρ ρ' H H'->Rel K ρ' H' S'->Q a H'
noncomputable def EE (K:PySem.W.Frag) (g:Tg):TG:=fun v σ H Q=>∃ ρ S τ a τ' S',Rel K ρ H S/\SR K ρ H τ σ/\AV K ρ H a v/\g a τ S=.ok τ' S'/\∀ ρ' H' σ',Ext ρ ρ' H H'->Rel K ρ' H' S'->SR K ρ' H' τ' σ'->Q σ' H'
section
variable {X:Cx} {pos:Pos} {tg iter elt e:Expr} {ifs:List Expr} {scope:Scope} {N:List Str} {cap:List (Option Nat)} {src:Ic} {g:Tg} {t:Te} {c:Ex}
theorem AE.e0 {K:PySem.W.Frag} (hK:X.K=K) (h:AE X e c):PE X e (EU K c):=PE.imp h fun σ H Q ⟨ρ,S,τ,a,S',R,r,hc,q⟩=>⟨ρ,S,τ,by rw [hK];exact R,by rw [hK];exact r,by rw [hc];exact fun ρ' H' v e R' v'=>q ρ' H' v e (by rw [<- hK];exact R') (by rw [<- hK];exact v')⟩
theorem AT.t0 {K:PySem.W.Frag} (hK:X.K=K) (h:AT X e t):PT X e (DZ K t):=PT.imp h fun σ H Q ⟨ρ,S,τ,a,S',R,r,hc,q⟩=>⟨ρ,S,τ,by rw [hK];exact R,by rw [hK];exact r,by rw [hc];exact fun ρ' H' e R'=>q ρ' H' e (by rw [<- hK];exact R')⟩
theorem AG.g0 {K:PySem.W.Frag} (hK:X.K=K) (h:AG X e g):PG X e (EE K g):=PG.imp h fun v σ H Q ⟨ρ,S,τ,a,τ',S',R,r,va,hc,q⟩=>⟨ρ,S,τ,a,by rw [hK];exact R,by rw [hK];exact r,by rw [hK];exact va,by rw [hc];exact fun ρ' H' v e R' v'=>q ρ' H' v e (by rw [<- hK];exact R') (by rw [<- hK];exact v')⟩
noncomputable def EI (X:Cx) (ifs:List Expr) (t:Te):Prop:=B0 X ifs (DZ X.K t)
theorem gX:EI X [] iX:=fun pins s σ H Q I ⟨ρ,S,τ,a,S',R,r,hc,q⟩=>yE pins s σ H Q I (by cases hc;exact q ρ H .refl R)
theorem rJ (h:AT X e t):EI X [e] t:=yL (h.t0 rfl)
theorem C_ {K:PySem.W.Frag} {ρ:List Addr} {H:Hp} {τ:List A} {σ:L2.St} (r:SR K ρ H τ σ) (cap:List (Option Nat)):SR K ρ H (cM cap τ) (cap.map (BL σ)):=by
 refine ⟨by simp [cM],fun i a h=>?_⟩
 unfold cM at h
 rw [List.getElem?_map] at h
 obtain ⟨o,ho,e⟩:=Option.map_eq_some_iff.mp h
 cases o with
 | none=>exact .inl e.symm
 | some j=>
  have e:τ.getD j .unb=a:=e
  cases hj:τ[j]? with
  | none=>rw [List.getD_eq_getElem?_getD,hj] at e;exact .inl e.symm
  | some b=>
   rw [List.getD_eq_getElem?_getD,hj] at e
   have e:b=a:=e
   subst e
   rcases r.at j b hj with z | ⟨v,h1,h2⟩
   ·exact .inl z
   ·exact .inr ⟨v,by rw [List.getElem?_map,ho];show some ((σ[j]?).getD none)=_;rw [h1];rfl,h2⟩
theorem Rel.AZ {K:PySem.W.Frag} {ρ:List Addr} {H:Hp} {S:ak} {p:Addr} (R:Rel K ρ H S) (hp:H p=none):p∉ρ:=fun hm=>by
 obtain ⟨n,hn,e⟩:=List.mem_iff_getElem.mp hm
 have hl:n < S.length:=by rw [<- R.len];exact hn
 have:=R.at n p S[n] (by rw [List.getElem?_eq_getElem hn,e]) (List.getElem?_eq_getElem hl)
 cases ho:S[n] with
 | lst xs=>rw [ho] at this;obtain ⟨vs,h,_⟩:=this;rw [hp] at h;cases h
 | dct _ | cY _=>rw [ho] at this;obtain ⟨vs,h,_⟩:=this;rw [hp] at h;cases h
 | ins _ _=>rw [ho] at this;obtain ⟨_,_,h⟩:=this;rw [hp] at h;cases h
theorem nq (σ:L2.St) (H:Hp) (Q:VK) (h:tE X (bR cap src g t c) σ H Q):Ej cap (tI X src) (EE X.K g) (DZ X.K t) (EU X.K c) σ H Q:=by
 obtain ⟨ρ,S,τ,R,r,h⟩:=h
 refine ⟨ρ,S,τ,R,r,aC (aI h) .refl fun s S1 h1 ρ1 H1 J e1 R1 jr D hD=>?_⟩
 obtain ⟨ys,S2,hcg,h1⟩:=pB h1
 obtain ⟨hlen,h1⟩:=aW h1
 have h1:m9 X ρ H Q (.ref S2.length) (S2++[.lst ys]):=h1
 obtain ⟨eD,RD⟩:=R1.im (u:=.lst []) hD
 have nD:=R1.AZ hD
 refine ⟨fun i m σ' H'=>m+i=s.k/\∃ ρ' S' τ' acc zs accV,Ext0 ρ1 ρ' H1 H'/\(∀ a u,a≠D->H1 a=some u->a∉ρ1->H' a=some u)/\(∀ a∈ρ',a∈ρ1\/H1 a=none)/\D∉ρ'/\H' D=some (.lst accV)/\Rel X.K ρ' H' S'/\SR X.K ρ' H' τ' σ'/\AVs X.K ρ' H' acc accV/\d7 s g t c m i τ' S'=.ok zs S2/\acc++zs=ys,
  ⟨s.k,rfl,ρ1,S1,cM cap τ,[],ys,[],eD.toExt0,fun a u na hu _=>by rw [aL na];exact hu,fun a ha=>.inl ha,nD,cF,RD,(C_ ((r.ext e1).ext eD) cap),.nil,hcg,rfl⟩,?_⟩
 rintro i m σ3 H3 ⟨hm,ρ3,S3,τ3,acc,zs,accV,e3,fr3,nw3,nD3,hD3,R3,r3,ac3,cg3,eys⟩
 cases m with
 | zero=>
  left
  have cg3:(if s.fin S3 then Am.R.ok [] S3 else .no)=.ok zs S2:=cg3
  cases hf:s.fin S3 with
  | false=>rw [hf] at cg3;cases cg3
  | true=>
   rw [hf] at cg3
   cases cg3
   rw [List.append_nil] at eys
   subst eys
   refine ⟨by rw [show i=s.k by omega];exact jr.stop _ H3 ρ3 e3 R3 hf,?_⟩
   obtain ⟨RT,gt⟩:=R3.take hD3 nD3 ac3
   refine h1 (ρ3++[D]) H3 _ (e1.trans ⟨⟨e3.pre.trans (List.prefix_append _ _),e3.im⟩,fun a u hu na=>fr3 a u (aT hu hD) hu na,fun a ha=>?_⟩) RT (.ref gt)
   rcases List.mem_append.mp ha with z | z
   ·exact nw3 a z
   ·have:a=D:=by simpa using z
    rw [this];exact .inr hD
 | succ m=>
  right
  obtain ⟨x,τ4,S4,b,S5,hx,hg4,ht5,hT,hF⟩:=nR cg3
  obtain ⟨hgo,hy⟩:=jr.go i S3 H3 ρ3 x e3 R3 hx
  refine ⟨hgo,fun v H4 y=>?_⟩
  obtain ⟨e4,R4,v4⟩:=hy v H4 y
  refine ⟨ρ3,S3,τ3,x,τ4,S4,R4,r3.ext e4,v4,hg4,fun ρ5 H5 σ5 e5 R5 r5=>?_⟩
  refine ⟨ρ5,S4,τ4,b,S5,R5,r5,ht5,fun ρ6 H6 e6 R6=>?_⟩
  have e36:=(e4.trans e5).trans e6
  have stay:∀ {ρ7:List Addr} {H7:Hp},Ext ρ3 ρ7 H3 H7->Ext0 ρ1 ρ7 H1 H7/\(∀ a u,a≠D->H1 a=some u->a∉ρ1->H7 a=some u)/\(∀ a∈ρ7,a∈ρ1\/H1 a=none)/\D∉ρ7/\H7 D=some (.lst accV):=fun {ρ7 H7} e7=>by
   refine ⟨⟨e3.pre.trans e7.pre,fun a u i h=>e7.im a u i (e3.im a u i h)⟩,fun a u na hu nr=>e7.fr a u (fr3 a u na hu nr) fun z=>(nw3 a z).elim nr fun z=>by (rw [z] at hu;cases hu),fun a ha=>?_,fun z=>(e7.nw D z).elim nD3 fun z=>by (rw [hD3] at z;cases z),e7.fr D _ hD3 nD3⟩
   by_cases hr:a∈ρ1
   ·exact .inl hr
   ·right
    cases q:H1 a with
    | none=>rfl
    | some u=>
     have aD:a≠D:=aT q hD
     rcases e7.nw a ha with z | z
     ·exact ((nw3 a z).elim hr fun z=>by (rw [z] at q;cases q)).elim
     ·rw [fr3 a u aD q hr] at z;cases z
  cases b with
  | false=>
   dsimp only
   rw [if_neg Bool.false_ne_true]
   obtain ⟨g1,g2,g3,g4,g5⟩:=stay e36
   exact ⟨m,Nat.lt_succ_self _,by omega,ρ6,S5,τ4,acc,zs,accV,g1,g2,g3,g4,g5,R6,r5.ext e6,ac3.ext e36,hF rfl,eys⟩
  | true=>
   dsimp only
   rw [if_pos rfl]
   obtain ⟨y,S6,ws,he6,cg6,ezs⟩:=hT rfl
   refine ⟨ρ6,S5,τ4,y,S6,R6,r5.ext e6,he6,fun ρ7 H7 w e7 R7 v7=>?_⟩
   obtain ⟨g1,g2,g3,g4,g5⟩:=stay (e36.trans e7)
   obtain ⟨ex8,R8⟩:=R7.out (ws:=accV++[w]) g5 g4
   have l1:=ac3.length
   refine ⟨accV,g5,?_,m,Nat.lt_succ_self _,by omega,ρ7,S6,τ4,acc++[y],ws,accV++[w],?_,fun a u na hu nr=>by rw [aL na];exact g2 a u na hu nr,g3,g4,cF,R8,(r5.ext (e6.trans e7)).cO ex8,(AVs.cO ex8 ((ac3.ext (e36.trans e7)).append (.one v7))),cg6,?_⟩
   ·have:(acc++zs).length<=sizeLine:=by rw [eys];exact hlen
    rw [ezs,List.length_append,List.length_cons] at this
    omega
   ·exact ⟨g1.pre,fun a u i h=>ex8.im a u i (g1.im a u i h)⟩
   ·rw [List.append_assoc,<- eys,ezs];rfl
theorem gH (hc:X.calm=true) (Sc:CpScope X scope N cap) (hi:AI X tg iter src) (hg:∀ C s₀ H₀ ex,AG (cI X scope N C s₀ H₀ ex) tg g) (ht:∀ C s₀ H₀ ex,EI (cI X scope N C s₀ H₀ ex) ifs t) (he:∀ C s₀ H₀ ex,AE (cI X scope N C s₀ H₀ ex) elt c)
  (hs:∀ x,foldedSetIterable iter X.env x=pure x:=by intro _;rfl):AE X (.ListComp elt [⟨tg,iter,ifs,0⟩] scope pos) (bR cap src g t c):=
 PE.imp (Eg hc Sc hi (g:=EE X.K g) (tc:=DZ X.K t) (te:=EU X.K c) (fun C s₀ H₀ ex=>(hg C s₀ H₀ ex).g0 rfl) (fun C s₀ H₀ ex=>ht C s₀ H₀ ex) (fun C s₀ H₀ ex=>(he C s₀ H₀ ex).e0 rfl) hs) nq
theorem qp {i:Nat} {x:Str} {pos' spos:Pos} (hN:X.N.Nodup) (hc:X.calm=true) (Sc:CpScope X scope N cap) (hi:AI X tg iter src) (hg:∀ C s₀ H₀ ex,AG (cI X scope N C s₀ H₀ ex) tg g) (ht:∀ C s₀ H₀ ex,EI (cI X scope N C s₀ H₀ ex) ifs t) (he:∀ C s₀ H₀ ex,AE (cI X scope N C s₀ H₀ ex) elt c)
  (hi':X.N[i]?=some x:=by rfl) (hx:Loc X.env.scope x:=by first | exact Or.inl rfl | exact Or.inr rfl)
  (hsw:swapsWith (.ListComp elt [⟨tg,iter,ifs,0⟩] scope pos) (some (.Name x pos')) spos.line X.env=pure true:=by rfl) (hf:X.fn x=true\/X.env.scope.names.lookup x=some .local:=by first | exact .inl rfl | exact .inr rfl | assumption)
  (hs:∀ x,foldedSetIterable iter X.env x=pure x:=by intro _;rfl):AS X (.Assign [.Name x pos'] (.ListComp elt [⟨tg,iter,ifs,0⟩] scope pos) spos) (br (bR cap src g t c) (bI i)):=
 PS.imp (wk hN hi' hx hc Sc hi (g:=EE X.K g) (tc:=DZ X.K t) (te:=EU X.K c) (fun C s₀ H₀ ex=>(hg C s₀ H₀ ex).g0 rfl) (fun C s₀ H₀ ex=>ht C s₀ H₀ ex) (fun C s₀ H₀ ex=>(he C s₀ H₀ ex).e0 rfl) hsw hf hs) fun D σ H ⟨ρ,S,τ,R,r,h⟩=>
  nq σ H _ ⟨ρ,S,τ,R,r,aC (of_post h) .refl fun a S1 h1 ρ1 H1 x e1 R1 v1=>h1 ρ1 H1 _ e1 R1 ((r.ext e1).set v1)⟩
end
noncomputable def A.lst? (S:ak):A->Option (List A)
 | .ref n=>aq S n
 | _=>none
noncomputable def EV (f:A->List A->ak->R A) (co:Ex) (d:fC):Ex:=fun τ S=>(co τ S).bind fun o S1=>opt (o.lst? S1) fun _=>(d τ S1).bind fun as S2=>f o as S2
noncomputable def Ge (f:A->List A->ak->R A) (co:Ex):Ex:=fun τ S=>(co τ S).bind fun o S1=>opt (o.lst? S1) fun _=>f o [] S1
noncomputable def rM (X:Cx) (f:A->List A->ak->R A):V->List V->Hp->VK->Prop:=fun x vs H Q=>∃ ρ S o as,Rel X.K ρ H S/\AV X.K ρ H o x/\AVs X.K ρ H as vs/\(f o as S).post (m9 X ρ H Q) (XE X ρ H)
section
variable {X:Cx} {pos apos cpos:Pos} {o e:Expr} {es:List Expr} {name:Str} {id:String} {f:A->List A->ak->R A} {co:Ex} {d:fC}
theorem lst?_ty {K:PySem.W.Frag} {ρ:List Addr} {H:Hp} {S:ak} {x:A} {v:V} {xs:List A} (R:Rel K ρ H S) (h:AV K ρ H x v) (e:x.lst? S=some xs):ES K "list" v H:=by
 cases h with
 | ref h=>
  obtain ⟨vs,h1,_⟩:=R.lst h (aN e)
  exact .inl ⟨rfl,vs,dW.of h1⟩
 | _=>cases e
theorem Ag (slot:Slot "list" name id) (hty:typeOf (.builtin id)=pure (.type "method_descriptor")) (hm:Ep X id (rM X f)) (ho:AE X o co) (ha:AL X (e::es) d)
  (hbase:attributeBase o name X.env (eval o X.env)=eval o X.env:=by rfl)
  (hfew:((backTo cpos (starEach (e::es) X.env)).all (fun x=>!x.1) && (backToKw cpos (keywordEach [] X.env)).all (fun x=>x.1.isSome)
   && decide ((e::es).length+([]:List Keyword).length+(if ([]:List Keyword).isEmpty then 0 else 1) < 30))=true:=by rfl)
  (hline:(apos.endLine == cpos.line)=true:=by rfl) (hs:starEach (e::es) X.env=(false,eval e X.env)::starEach es X.env:=by rfl) (hplain:(backTo cpos (starEach es X.env)).any (·.1)=false:=by rfl) :
  AE X (.Call (.Attribute o name apos) (e::es) [] cpos) (EV f co d):=PE.imp (Ah PySem.F.plainAttrs_list slot hty hm ho ha hbase hfew hline hs hplain) fun σ H Q h9=>by
 obtain ⟨ρ,S,τ,R,r,h⟩:=h9
 refine ⟨ρ,S,τ,R,r,aC (aI h) .refl fun x S1 h1 ρ1 H1 v e1 R1 v1=>?_⟩
 obtain ⟨xs,hx,h1⟩:=aK h1
 refine ⟨lst?_ty R1 v1 hx,ρ1,S1,τ,R1,r.ext e1,aC (aI h1) e1 fun as S2 h2 ρ2 H2 vs e2 R2 v2=>?_⟩
 exact ⟨ρ2,S2,x,as,R2,v1.ext e2,v2,aC h2 (e1.trans e2) fun _ _ z=>z.ext (e1.trans e2)⟩
noncomputable def jv (o:A) (as:List A) (S:ak):R A:=match o,as with
 | .ref n,[x]=>opt (aq S n) fun xs=>gd (xs.length < sizeLine) (.ok .non (S.set n (.lst (xs++[x]))))
 | _,_=>.no
theorem oV:Ep X "list.append" (rM X jv):=fun pins s σ H x vs v us Q I rx rv h9=>by
 obtain ⟨ρ,S,o,as,R,vo,va,h⟩:=h9
 cases vo with
 | @ref p n hp=>
  match as,va,h with
  | [],_,h=>exact h.elim
  | _::_::_,_,h=>exact h.elim
  | [y],va,h=>
   obtain ⟨w,rfl,hw⟩:=BR va
   obtain ⟨xs,hn,h⟩:=aK h
   obtain ⟨hl,h⟩:=aW h
   obtain ⟨ws,h1,r⟩:=R.lst hp (aN hn)
   obtain ⟨ex,R'⟩:=R.put hp (aN hn) (r.append (.one hw))
   exact lC pins s σ H _ _ v us Q I rx rv ⟨p,ws,w,rfl,rfl,h1,by rw [<- r.length];exact hl,h _ _ _ ex R' .non⟩
 | _=>exact h.elim
end
noncomputable def eY (N:List Str) (m:Sm) (as:List A) (S:ak):R A:=match m (as++List.replicate (N.length - as.length) .unb) S with
 | .rt a S'=>.ok a S'
 | .nx _ S'=>.ok .non S'
 | .ex c S'=>.ex c S'
 | _=>.no
noncomputable def kD (K:PySem.W.Frag) (n:Nat) (F:List A->ak->R A):Sp:=fun vs H Q _=>vs.length=n/\∃ ρ S as a S',Rel K ρ H S/\AVs K ρ H as vs/\F as S=.ok a S'/\∀ ρ' H' v,Ext ρ ρ' H H'->Rel K ρ' H' S'->AV K ρ' H' a v->Q v H'
theorem zS {K:PySem.W.Frag} {ρ:List Addr} {H:Hp} {as:List A} {vs:List V} (r:AVs K ρ H as vs) (N:List Str):SR K ρ H (as++List.replicate (N.length - as.length) .unb) (L2.start N vs):=by
 have hl:=r.length
 refine ⟨by unfold L2.start;simp [hl],fun i a h=>?_⟩
 by_cases hi:i < as.length
 ·rw [List.getElem?_append_left hi] at h
  obtain ⟨v,hv,av⟩:=r.get h
  exact .inr ⟨v,by unfold L2.start;rw [List.getElem?_append_left (by simp;omega),List.getElem?_map,hv];rfl,av⟩
 ·rw [List.getElem?_append_right (by omega),List.getElem?_replicate] at h
  split at h
  ·exact .inl (Option.some.inj h).symm
  ·cases h
section
variable {P:Program} {w:World} {K:PySem.W.Frag} {mg:Str->Option Value} {base:Heap}
theorem pO {x qual:Str} {st:Stmt} {f:Addr} {fd:FuncData} {N ps:List Str} {k:Nat} {m:Sm} (F:Fun K x qual st f fd) (Sc:FnScope N ps (aG st))
  (body:∀ (cdv:Value) (A:Around) (outer:List Env) (s:Shared) (H:Hp) (E:XK),Room k (A.deeper (envOfC qual (aG st) s.heap.objs.size f cdv))->An (pe jg P w K mg base N qual (aG st) f cdv A outer s H E).Et (a_ st) m) :
  FnOk P w K mg base jg (k+1) f fd ps (kD K ps.length (eY N m)):=by
 refine F.ok Sc (fun vs H Q E h=>h.1) fun cdv B outer s H vs Q E hr ⟨hl,ρ,S,as,a,S',R,va,hF,q⟩=>⟨_,body cdv B outer s H E hr,ρ,S,_,R,zS va N,?_⟩
 unfold eY at hF
 cases hm:m (as++List.replicate (N.length - as.length) .unb) S with
 | rt b S2=>rw [hm] at hF;cases hF;exact q
 | nx τ S2=>rw [hm] at hF;cases hF;exact fun ρ' H' σ' e R' _=>q ρ' H' _ e R' .non
 | bk τ S2=>rw [hm] at hF;cases hF
 | ct τ S2=>rw [hm] at hF;cases hF
 | ex c S2=>rw [hm] at hF;cases hF
 | no=>rw [hm] at hF;cases hF
end
noncomputable abbrev ff (P:Program) (w:World) (K:PySem.W.Frag) (mg:Str->Option Value) (base:Heap) (k:Nat) (x:Str) (ps:List Str) (F:List A->ak->R A):Prop:=Kn P w K mg base k x ps (kD K ps.length F)
noncomputable def eFn (F:List A->ak->R A) (d:fC):Ex:=fun τ S=>(d τ S).bind fun as S1=>match F as S1 with
 | .ok a S2=>.ok a S2
 | _=>.no
section
variable {X:Cx} {pos p:Pos} {e:Expr} {es:List Expr} {x:Str} {ps:List Str} {k:Nat} {F:List A->ak->R A} {d:fC}
theorem bB (G:ff X.prog X.w X.K X.mg X.base k x ps F) (hr:Room k X.A) (ha:AL X (e::es) d) (hl:∀ τ S as S',d τ S=.ok as S'->as.length=ps.length) (hg:Gl X x:=by rfl) (hdb:(x == ("__debug__" : Str))=false:=by decide)
  (hs:starEach (e::es) X.env=(false,eval e X.env)::starEach es X.env:=by rfl) (hplain:(backTo pos (starEach es X.env)).any (·.1)=false:=by rfl):AE X (.Call (.Name x p) (e::es) [] pos) (eFn F d):=
 PE.imp (Du G hr ha hg hdb hs hplain) fun σ H Q h9=>by
  obtain ⟨ρ,S,τ,R,r,h⟩:=h9
  refine ⟨ρ,S,τ,R,r,?_⟩
  have hb:=aI h
  cases hd:d τ S with
  | no=>rw [hd] at hb;exact hb
  | ex c S1=>rw [hd] at hb;exact hb
  | ok as S1=>
   rw [hd] at hb
   intro ρ1 H1 vs e1 R1 v1
   rw [List.append_nil]
   refine ⟨by rw [<- v1.length];exact hl τ S as S1 hd,ρ1,S1,as,?_⟩
   have hb:Am.R.post (match F as S1 with
    | .ok a S2=>.ok a S2
    | _=>.no) (m9 X ρ H Q) (XE X ρ H):=hb
   cases hF:F as S1 with
   | ok a S2=>rw [hF] at hb;exact ⟨a,S2,R1,v1,rfl,fun ρ2 H2 v e2=>hb ρ2 H2 v (e1.trans e2)⟩
   | ex c S2=>rw [hF] at hb;exact hb.elim
   | no=>rw [hF] at hb;exact hb.elim
theorem aP:∀ τ S as S',aJ τ S=.ok as S'->as.length=0:=fun τ S as S' h=>by cases h;rfl
theorem au {c:Ex} {d:fC} {n:Nat} (h:∀ τ S as S',d τ S=.ok as S'->as.length=n):∀ τ S as S',ah c d τ S=.ok as S'->as.length=n+1:=fun τ S as S' e=>by
 unfold ah at e
 cases hc:c τ S with
 | ok a S1=>
  rw [hc] at e
  cases hd:d τ S1 with
  | ok bs S2=>
   have e:R.bind (d τ S1) (fun as S2=>.ok (a::as) S2)=.ok as S':=e
   rw [hd] at e;cases e;rw [List.length_cons,h τ S1 bs _ hd]
  | ex _ _=>
   have e:R.bind (d τ S1) (fun as S2=>.ok (a::as) S2)=.ok as S':=e
   rw [hd] at e;cases e
  | no=>
   have e:R.bind (d τ S1) (fun as S2=>.ok (a::as) S2)=.ok as S':=e
   rw [hd] at e;cases e
 | ex _ _=>rw [hc] at e;cases e
 | no=>rw [hc] at e;cases e
end
section
variable {X:Cx} {pos:Pos} {a b c d:Expr}
end
section
variable {X:Cx}
end
section
variable {X:Cx}
end
section
variable {X:Cx} {pos apos cpos:Pos} {a b o e:Expr} {es:List Expr}
end
section
variable {K:PySem.W.Frag} {ρ ρ':List Addr} {H H':Hp}
end
section
variable {X:Cx} {pos:Pos} {a b:Expr}
end
section
variable {X:Cx} {pos:Pos} {a b:Expr}
end
section
variable {X:Cx} {pos:Pos} {a b tg:Expr}
noncomputable def sL (n k:Nat):Src:=⟨k,fun i S=>(aq S n).bind fun xs=>if i < k then xs[k - 1 - i]? else none,fun _=>true⟩
noncomputable def GJ (a:A) (S:ak):R Src:=match a with
 | .ref n=>opt (aq S n) fun xs=>.ok (sL n xs.length) S
 | _=>.no
noncomputable def yy (c:Ex):Ic:=fun τ S=>(c τ S).bind fun a S1=>GJ a S1
theorem DA {K:PySem.W.Frag} {ρ0:List Addr} {H0:Hp} {p:Addr} {n k:Nat} (hp:ρ0[n]?=some p):JR K (sL n k) (FO K p k) ρ0 H0 where
 go:=fun i S H ρ x e R g=>by
  obtain ⟨xs,hn,g⟩:=Option.bind_eq_some_iff.mp g
  by_cases hi:i < k
  ·rw [if_pos hi] at g
   obtain ⟨vs,h1,r1⟩:=R.lst (e.get hp) (aN hn)
   obtain ⟨v,ev,av⟩:=r1.get g
   refine ⟨⟨hi,vs,v,dW.of h1,ev⟩,fun w H' z=>?_⟩
   obtain ⟨rfl,hz⟩:=z
   rw [hz vs v (dW.of h1) ev]
   exact ⟨.refl,R,av⟩
  ·rw [if_neg hi] at g;cases g
 stop:=fun S H ρ e R hf=>Nat.le_refl _
theorem o6 {p:Pos} {c:Ex} (hm:X.mg "reversed" = none) (ha:AE X a c) (hg:Gl X "reversed" := by rfl) (hs:starEach [a] X.env=[(false,eval a X.env)]:=by rfl):AI X tg (.Call (.Name "reversed" p) [a] [] pos) (yy c):=fun pins s σ H Q I h9=>by
 obtain ⟨ρ,S,τ,R,r,h⟩:=h9
 refine Br hg hm (mW ha pM hs) hs pins s σ H Q I ⟨ρ,S,τ,R,r,aC (aI h) .refl fun x S1 h1 ρ1 H1 v e1 R1 v1=>?_⟩
 cases v1 with
 | @ref p n hp=>
  obtain ⟨xs,hn,h1⟩:=aK h1
  obtain ⟨vs,g1,r1⟩:=R1.lst hp (aN hn)
  exact ⟨_,vs,rfl,dW.of g1,h1 ρ1 H1 _ e1 R1 (by rw [<- r1.length];exact DA hp)⟩
 | _=>exact h1.elim
theorem pH {c:Ex} {τ:List A} {S S1:ak} {n:Nat} {xs:List A} (h:c τ S=.ok (.ref n) S1) (hn:aq S1 n=some xs):yy c τ S=.ok (sL n xs.length) S1:=by
 unfold yy
 rw [h]
 show opt (aq S1 n) _=_
 rw [hn];rfl
end
structure Out (ρ1:List Addr) (H1:Hp) (D:Addr) (accV:List V) (ρ:List Addr) (H:Hp):Prop where
 e0:Ext0 ρ1 ρ H1 H
 fr:∀ a u,a≠D->H1 a=some u->a∉ρ1->H a=some u
 nw:∀ a∈ρ,a∈ρ1\/H1 a=none
 nD:D∉ρ
 hD:H D=some (.lst accV)
section
variable {X:Cx} {pos:Pos} {tg iter tg2 iter2 elt e:Expr} {ifs ifs2:List Expr} {scope:Scope} {N:List Str} {cap:List (Option Nat)} {src src2:Ic} {g g2:Tg} {t t2:Te} {c:Ex}
end
section
variable {P:Program} {w:World} {K:PySem.W.Frag} {mg:Str->Option Value} {base:Heap}
end
section
variable {X:Cx} {pos p:Pos} {e:Expr} {es:List Expr} {x:Str} {ps:List Str} {k:Nat} {F:List A->ak->R A} {d:fC}
end
noncomputable def GG:List Value:=[.type "ValueError",.type "Exception",.type "BaseException",.type "object"]
section
variable {X:Cx} {pos np cpos fp:Pos} {x:Str} {C:Addr} {e1 e2:Expr} {es:List Expr} {ps:List (Str ⊕ Ex)}
end
section
variable {X:Cx} {pos np hp:Pos} {y n:Str} {Dc:Addr} {i:Nat} {body suite:List Stmt} {b0:Stmt} {c d:Sm} {cs:List Str}
end
section
variable {X:Cx} {pos p py:Pos} {a:Expr} {y:Str} {vy:V} {cy:Value} {f:Str->Option Bool} {c:Ex}
end
structure ExcK (K:PySem.W.Frag) (U:Addr) (c:Str) (C:Addr):Prop where
 n:Fg K c C
 q:PySem.W.excIn K C GG "ValueError.__new__" = true
 r:L2.mroIn K C=some (.ref U::GG)
 x:XCls K C
 cl:(PySem.W.clsIn K C).isSome=true
 v:PySem.W.kitOne K (.ref C) (.type "ValueError")=some true
section
variable {X:Cx} {pos p py:Pos} {a:Expr} {y:Str} {Cy:Addr} {tb:List (Str×Bool)} {c:Ex}
end
section
variable {P:Program} {w:World} {K:PySem.W.Frag} {mg:Str->Option Value} {base:Heap}
end
section
variable {X:Cx} {pos p:Pos} {e:Expr} {es:List Expr} {x:Str} {ps:List Str} {k:Nat} {F:List A->ak->R A} {d:fC}
end
section
variable {X:Cx} {pos np hp:Pos} {y n:Str} {Dc:Addr} {i:Nat} {suite:List Stmt} {b b0:Stmt} {c d:Sm} {cs:List Str}
end
end Am
namespace L2
open PySem PySem.Spec PyProof.Rows
end L2
namespace Am
open PySem PySem.Spec PyProof.Rows L2
theorem tu {K:PySem.W.Frag} {H:Hp} {a:Addr} {ns:List Int} {F:List A->ak->R A} (hO:zC H) (hS:dW K H a (ns.map V.int)) (h:∃ S',F [.frz (ns.map .int)] []=.ok (.bl true) S'):kD K 1 F [.ref a] H (fun v _=>v=.bl true) fun _ _ _=>False:=by
 obtain ⟨S',h⟩:=h
 have fz:Fz K H a (ns.map V.int):=by
  rcases hS with (h | ⟨o,h⟩) | h
  ·rcases hO a with z | ⟨ob,xs,z⟩
   ·rw [h] at z;cases z
   ·rw [h] at z;cases z
  ·exact .inl ⟨o,h⟩
  ·exact .inr h
 exact ⟨rfl,[],[],_,_,S',⟨rfl,List.nodup_nil,fun n a o h=>by simp at h⟩,.cons (.frz fz (j7 ns)) .nil,h,fun ρ' H' v _ _ hv=>uT hv⟩
section
variable {P:Program} {w:World} {K:PySem.W.Frag} {mg:Str->Option Value} {base:Heap} {f:Addr} {fd:FuncData} {ps:List Str} {k n:Nat}
end
theorem C8 {P:List Value->Prop} (h:∀ a0,P [a0]):∀ us:List Value,us.length=1->P us
 | [_],_=>h _
theorem BE {P:List Value->Prop} (h:∀ a0 a1,P [a0,a1]):∀ us:List Value,us.length=2->P us
 | [_,_],_=>h _ _
theorem Cz {n:Nat} {us:List Value} (h:us.length=n+1):∃ a t,us=a::t/\t.length=n:=by
 cases us with
 | nil=>simp at h
 | cons a t=>exact ⟨a,t,rfl,by simpa using h⟩
theorem Gk {P:List Value->Prop} (h:∀ a0 a1 a2,P [a0,a1,a2]):∀ us:List Value,us.length=3->P us:=fun us e=>by
 obtain ⟨a0,t0,rfl,e0⟩:=Cz e
 obtain ⟨a1,t1,rfl,e1⟩:=Cz e0
 obtain ⟨a2,t2,rfl,e2⟩:=Cz e1
 cases List.length_eq_zero_iff.mp e2
 exact h _ _ _
end Am
namespace Am
open PySem L2
section
variable {α β:Type} {a b:A} {S S1 S2:ak} {τ:List A} {x:α}
@[simp] theorem R.jB {f:α->ak->R β}:(R.ok x S).bind f=f x S:=rfl
@[simp] theorem R.rO {f:α->ak->R β} {c:Str}:(R.ex c S:R α).bind f=.ex c S:=rfl
@[simp] theorem R.cP {f:α->ak->R β}:(R.ok x S).gF f=f x S:=rfl
@[simp] theorem RS.of_ok {f:α->ak->RS}:RS.of (R.ok x S) f=f x S:=rfl
@[simp] theorem RS.Ay {f:α->ak->RS} {c:Str}:RS.of (R.ex c S:R α) f=.ex c S:=rfl
@[simp] theorem fW {f:β->R α} {y:β}:opt (some y) f=f y:=rfl
@[simp] theorem qV {r:R α}:gd True r=r:=if_pos trivial
theorem fK {c:Prop} [Decidable c] {r:R α} (h:c):gd c r=r:=if_pos h
@[simp] theorem rV {i:Nat}:aj i τ S=bif (τ.getD i .unb).dG then .no else .ok (τ.getD i .unb) S:=by unfold aj;cases (τ.getD i .unb).dG <;> rfl
@[simp] theorem r8 {xs:List A}:A.dG (.tup xs)=false:=rfl
@[simp] theorem qc {xs:List A}:A.dG (.frz xs)=false:=rfl
@[simp] theorem pZ {i:Int}:A.dG (.int i)=false:=rfl
@[simp] theorem v_ {i:Bool}:A.dG (.bl i)=false:=rfl
@[simp] theorem qK {i:Str}:A.dG (.str i)=false:=rfl
@[simp] theorem sA {i:Nat}:A.dG (.ref i)=false:=rfl
@[simp] theorem rZ:A.dG .non=false:=rfl
@[simp] theorem qM {i j:Int}:A.dG (.rng i j)=false:=rfl
@[simp] theorem qv {c:Str}:A.dG (.exn c)=false:=rfl
@[simp] theorem AU:eC a τ S=.ok a S:=rfl
noncomputable def DO (f:A->A->ak->R A) (cb:Ex) (τ:List A) (a:A) (S:ak):R A:=(cb τ S).bind (f a)
@[simp] theorem rq {f:A->A->ak->R A} {cb:Ex}:DO f cb τ a S=(cb τ S).bind (f a):=rfl
@[simp] theorem qZ {f:A->A->ak->R A} {ca cb:Ex}:aF f ca cb τ S=(ca τ S).bind (DO f cb τ):=rfl
@[simp] theorem uR {f:A->ak->R A} {ca:Ex}:C5 f ca τ S=(ca τ S).bind f:=rfl
@[simp] theorem rB {c:Ex}:kB c τ S=(c τ S).bind fun a S1=>opt (a.Ez S1) fun b=>.ok b S1:=rfl
noncomputable def aB (a:A) (S:ak):R Bool:=match a with
 | .bl b=>.ok b S
 | _=>.no
@[simp] theorem AB {b:Bool}:aB (.bl b) S=.ok b S:=rfl
@[simp] theorem xO {c:Ex}:iI c τ S=(c τ S).bind aB:=rfl
@[simp] theorem rF {c:Te}:mC c τ S=(c τ S).bind fun b S1=>.ok (!b) S1:=rfl
noncomputable def Cc (d:Te) (τ:List A) (b:Bool) (S:ak):R Bool:=match b with | true=>d τ S | false=>.ok false S
noncomputable def Fb (d:Te) (τ:List A) (b:Bool) (S:ak):R Bool:=match b with | true=>.ok true S | false=>d τ S
@[simp] theorem x_ {d:Te}:Cc d τ true S=d τ S:=rfl
@[simp] theorem vH {d:Te}:Cc d τ false S=.ok false S:=rfl
@[simp] theorem A6 {d:Te}:Fb d τ true S=.ok true S:=rfl
@[simp] theorem AA {d:Te}:Fb d τ false S=d τ S:=rfl
@[simp] theorem qJ {c d:Te}:zb c d τ S=(c τ S).bind (Cc d τ):=rfl
@[simp] theorem v5 {c d:Te}:yz c d τ S=(c τ S).bind (Fb d τ):=rfl
@[simp] theorem sF:iX τ S=.ok true S:=rfl
noncomputable def yj (d:Ex) (τ:List A) (a:A) (S:ak):R A:=match a with | .bl true=>d τ S | .bl false=>.ok (.bl false) S | _=>.no
noncomputable def CN (d:Ex) (τ:List A) (a:A) (S:ak):R A:=match a with | .bl true=>.ok (.bl true) S | .bl false=>d τ S | _=>.no
@[simp] theorem qq {d:Ex}:yj d τ (.bl true) S=d τ S:=rfl
@[simp] theorem p_ {d:Ex}:yj d τ (.bl false) S=.ok (.bl false) S:=rfl
@[simp] theorem wo {d:Ex}:CN d τ (.bl true) S=.ok (.bl true) S:=rfl
@[simp] theorem vz {d:Ex}:CN d τ (.bl false) S=d τ S:=rfl
@[simp] theorem qt {c d:Ex}:z0 c d τ S=(c τ S).bind (yj d τ):=by
 unfold z0
 cases c τ S with
 | ok a S1=>cases a <;> first | rfl | (rename_i b;cases b <;> rfl)
 | _=>rfl
@[simp] theorem uH {c d:Ex}:Gz c d τ S=(c τ S).bind (CN d τ):=by
 unfold Gz
 cases c τ S with
 | ok a S1=>cases a <;> first | rfl | (rename_i b;cases b <;> rfl)
 | _=>rfl
noncomputable def A3 (a:A) (S:ak):R A:=match a with | .bl b=>.ok (.bl !b) S | _=>.no
@[simp] theorem nP {b:Bool}:A3 (.bl b) S=.ok (.bl !b) S:=rfl
@[simp] theorem rf {c:Ex}:Fv c τ S=(c τ S).bind A3:=rfl
noncomputable def B_ (c d:Ex) (τ:List A) (b:Bool) (S:ak):R A:=match b with | true=>c τ S | false=>d τ S
@[simp] theorem xV {c d:Ex}:B_ c d τ true S=c τ S:=rfl
@[simp] theorem wF {c d:Ex}:B_ c d τ false S=d τ S:=rfl
@[simp] theorem vn {t:Te} {c d:Ex}:GN t c d τ S=(t τ S).bind (B_ c d τ):=rfl
@[simp] theorem qg:aJ τ S=.ok [] S:=rfl
noncomputable def pN (a:A) (as:List A) (S:ak):R (List A):=.ok (a::as) S
noncomputable def AM (d:fC) (τ:List A) (a:A) (S:ak):R (List A):=(d τ S).bind (pN a)
@[simp] theorem kH {as:List A}:pN a as S=.ok (a::as) S:=rfl
@[simp] theorem nH {d:fC}:AM d τ a S=(d τ S).bind (pN a):=rfl
@[simp] theorem oG {c:Ex} {d:fC}:ah c d τ S=(c τ S).bind (AM d τ):=rfl
@[simp] theorem q_ {d:fC}:fY d τ S=(d τ S).bind fun as S1=>gd (as.length<=sizeLine) (.ok (.tup as) S1):=rfl
@[simp] theorem sH {d:fC}:iD d τ S=(d τ S).bind newL:=rfl
theorem bA {as:List A} (h:as.length<=16777216):newL as S=.ok (.ref S.length) (S++[.lst as]):=fK (by rw [sizeLine_eq];exact h)
@[simp] theorem oE {f:List A->ak->R A} {d:fC}:bK f d τ S=(d τ S).bind f:=rfl
noncomputable def Fx (r:R A):R A:=match r with
 | .ok a S=>.ok a S
 | _=>.no
@[simp] theorem xF:Fx (.ok a S)=.ok a S:=rfl
noncomputable def GB (f:List A->ak->R A) (as:List A) (S:ak):R A:=Fx (f as S)
@[simp] theorem xD {f:List A->ak->R A} {as:List A}:GB f as S=Fx (f as S):=rfl
@[simp] theorem vK {f:List A->ak->R A} {d:fC}:eFn f d τ S=(d τ S).bind (GB f):=rfl
@[simp] theorem Au {g:A->ak->R A}:f1 g [a] S=g a S:=rfl
@[simp] theorem A7 {g:A->A->ak->R A}:f2 g [a,b] S=g a b S:=rfl
noncomputable def Bf (h:Pt) (τ:List A) (a:A) (l:Option Int) (S:ak):R A:=(h τ S).bind (EM a l)
noncomputable def Gu (l h:Pt) (τ:List A) (a:A) (S:ak):R A:=(l τ S).bind (Bf h τ a)
@[simp] theorem rR {h:Pt} {l:Option Int}:Bf h τ a l S=(h τ S).bind (EM a l):=rfl
@[simp] theorem uZ {l h:Pt}:Gu l h τ a S=(l τ S).bind (Bf h τ a):=rfl
@[simp] theorem wJ {c:Ex} {l h:Pt}:GL c l h τ S=(c τ S).bind (Gu l h τ):=rfl
@[simp] theorem nA:EA τ S=.ok none S:=rfl
noncomputable def GC (a:A) (S:ak):R (Option Int):=match a with
 | .int i=>.ok (some i) S
 | _=>.no
@[simp] theorem qN {i:Int}:GC (.int i) S=.ok (some i) S:=rfl
@[simp] theorem nJ {c:Ex}:Df c τ S=(c τ S).bind GC:=rfl
noncomputable def CC (f:A->List A->ak->R A) (d:fC) (τ:List A) (o:A) (S:ak) (_:List A):R A:=(d τ S).bind (f o)
noncomputable def Gm (f:A->List A->ak->R A) (d:fC) (τ:List A) (o:A) (S:ak):R A:=opt (o.lst? S) (CC f d τ o S)
@[simp] theorem qX {f:A->List A->ak->R A} {d:fC} {xs:List A}:CC f d τ a S xs=(d τ S).bind (f a):=rfl
@[simp] theorem we {f:A->List A->ak->R A} {d:fC}:Gm f d τ a S=opt (a.lst? S) (CC f d τ a S):=rfl
@[simp] theorem vD {f:A->List A->ak->R A} {c:Ex} {d:fC}:EV f c d τ S=(c τ S).bind (Gm f d τ):=rfl
@[simp] theorem qu {f:A->List A->ak->R A} {c:Ex}:Ge f c τ S=(c τ S).bind fun o S1=>opt (o.lst? S1) fun _=>f o [] S1:=rfl
@[simp] theorem lst?_ref {n:Nat}:A.lst? S (.ref n)=aq S n:=rfl
noncomputable def RS.seq (r:RS) (d:Sm):RS:=match r with
 | .nx τ S=>d τ S
 | r=>r
@[simp] theorem RS.wY {d:Sm}:RS.seq (.nx τ S) d=d τ S:=rfl
@[simp] theorem RS.wZ {d:Sm}:RS.seq (.rt a S) d=.rt a S:=rfl
@[simp] theorem RS.vQ {d:Sm} {c:Str}:RS.seq (.ex c S) d=.ex c S:=rfl
@[simp] theorem RS.uO {d:Sm}:RS.seq (.bk τ S) d=.bk τ S:=rfl
@[simp] theorem RS.vj {d:Sm}:RS.seq (.ct τ S) d=.ct τ S:=rfl
@[simp] theorem jA {c d:Sm}:bh c d τ S=RS.seq (c τ S) d:=by unfold bh RS.seq;cases c τ S <;> rfl
@[simp] theorem rY:e_ τ S=.nx τ S:=rfl
@[simp] theorem kY:Cu τ S=.bk τ S:=rfl
@[simp] theorem n_:DF τ S=.ct τ S:=rfl
@[simp] theorem nQ {e:Ex}:qf e τ S=RS.of (e τ S) fun _ S1=>.nx τ S1:=rfl
@[simp] theorem pY {e:Ex}:cJ e τ S=RS.of (e τ S) .rt:=rfl
@[simp] theorem n9:DN τ S=.rt .non S:=rfl
noncomputable def FH (c d:Sm) (τ:List A) (b:Bool) (S:ak):RS:=match b with | true=>c τ S | false=>d τ S
@[simp] theorem Ax {c d:Sm}:FH c d τ true S=c τ S:=rfl
@[simp] theorem Aj {c d:Sm}:FH c d τ false S=d τ S:=rfl
@[simp] theorem vq {t:Te} {c d:Sm}:kj t c d τ S=RS.of (t τ S) (FH c d τ):=rfl
noncomputable def Ei (g:Tg) (τ:List A) (a:A) (S:ak):RS:=RS.of (g a τ S) .nx
@[simp] theorem qo {g:Tg}:Ei g τ a S=RS.of (g a τ S) .nx:=rfl
@[simp] theorem qi {e:Ex} {g:Tg}:br e g τ S=RS.of (e τ S) (Ei g τ):=rfl
@[simp] theorem uD {i:Nat}:bI i a τ S=.ok (τ.set i a) S:=rfl
noncomputable def Bj (a o:A) (τ:List A) (i:A) (S:ak):R (List A):=(nO o i a S).bind fun _ S3=>.ok τ S3
noncomputable def Gq (ci:Ex) (τ:List A) (a o:A) (S:ak):R (List A):=(ci τ S).bind (Bj a o τ)
@[simp] theorem sN {o i:A}:Bj a o τ i S=(nO o i a S).bind fun _ S3=>.ok τ S3:=rfl
@[simp] theorem wX {ci:Ex} {o:A}:Gq ci τ a o S=(ci τ S).bind (Bj a o τ):=rfl
@[simp] theorem vB {co ci:Ex}:EH co ci a τ S=(co τ S).bind (Gq ci τ a):=rfl
@[simp] theorem uL {n:Nat} {gs:yw} {xs:List A}:oY n gs (.tup xs) τ S=gd (xs.length=n) (gs xs τ S):=rfl
@[simp] theorem xr:oX [] τ S=.ok τ S:=rfl
@[simp] theorem wj {g:Tg} {gs:yw} {as:List A}:gE g gs (a::as) τ S=(g a τ S).bind (gs as):=rfl
noncomputable def Gx (i j:Nat) (τ:List A) (as:List A) (S:ak):RS:=match as with
 | [a,b]=>.nx ((τ.set i a).set j b) S
 | _=>.no
@[simp] theorem xm {i j:Nat}:Gx i j τ [a,b] S=.nx ((τ.set i a).set j b) S:=rfl
@[simp] theorem qS {i j:Nat} {c:fC}:E1 i j c τ S=RS.of (c τ S) (Gx i j τ):=rfl
noncomputable def xT (i:Nat) (τ:List A) (c:A) (S:ak):RS:=.nx (τ.set i c) S
noncomputable def Em (i:Nat) (f:A->A->ak->R A) (τ:List A) (b:A) (S:ak):RS:=.of (f (τ.getD i .unb) b S) (xT i τ)
@[simp] theorem oq {i:Nat}:xT i τ a S=.nx (τ.set i a) S:=rfl
@[simp] theorem qR {i:Nat} {f:A->A->ak->R A}:Em i f τ a S=.of (f (τ.getD i .unb) a S) (xT i τ):=rfl
@[simp] theorem sO {i:Nat} {f:A->A->ak->R A} {e:Ex}:Eb i f e τ S=bif (τ.getD i .unb).dG then .no else .of (e τ S) (Em i f τ):=by
 unfold Eb;cases (τ.getD i .unb).dG <;> rfl
noncomputable def Gg (o i:A) (τ:List A) (z:A) (S:ak):RS:=.of (nO o i z S) fun _ S6=>.nx τ S6
noncomputable def FW (f:A->A->ak->R A) (o i x:A) (τ:List A) (y:A) (S:ak):RS:=.of (f x y S) (Gg o i τ)
noncomputable def Fd (ce:Ex) (f:A->A->ak->R A) (o i:A) (τ:List A) (x:A) (S:ak):RS:=.of (ce τ S) (FW f o i x τ)
noncomputable def En (ce:Ex) (f:A->A->ak->R A) (o:A) (τ:List A) (i:A) (S:ak):RS:=.of (yU o i S) (Fd ce f o i τ)
noncomputable def EF (ci ce:Ex) (f:A->A->ak->R A) (τ:List A) (o:A) (S:ak):RS:=.of (ci τ S) (En ce f o τ)
@[simp] theorem wR {o i:A}:Gg o i τ a S=.of (nO o i a S) fun _ S6=>.nx τ S6:=rfl
@[simp] theorem yt {f:A->A->ak->R A} {o i x:A}:FW f o i x τ a S=.of (f x a S) (Gg o i τ):=rfl
@[simp] theorem wW {ce:Ex} {f:A->A->ak->R A} {o i:A}:Fd ce f o i τ a S=.of (ce τ S) (FW f o i a τ):=rfl
@[simp] theorem uP {ce:Ex} {f:A->A->ak->R A} {o:A}:En ce f o τ a S=.of (yU o a S) (Fd ce f o a τ):=rfl
@[simp] theorem wz {ci ce:Ex} {f:A->A->ak->R A}:EF ci ce f τ a S=.of (ci τ S) (En ce f a τ):=rfl
@[simp] theorem nT {co ci ce:Ex} {f:A->A->ak->R A}:D6 co ci ce f τ S=RS.of (co τ S) (EF ci ce f τ):=rfl
noncomputable def RS.end (r:RS):R A:=match r with
 | .rt a S'=>.ok a S'
 | .nx _ S'=>.ok .non S'
 | .ex c S'=>.ex c S'
 | _=>.no
@[simp] theorem RS.vc:RS.end (.rt a S)=.ok a S:=rfl
@[simp] theorem RS.yu:RS.end (.nx τ S)=.ok .non S:=rfl
@[simp] theorem RS.uz {c:Str}:RS.end (.ex c S)=.ex c S:=rfl
theorem h_ {N:List Str} {m:Sm} {as:List A}:eY N m as S=RS.end (m (as++List.replicate (N.length - as.length) .unb) S):=by
 unfold eY RS.end;cases m (as++List.replicate (N.length - as.length) .unb) S <;> rfl
@[simp] theorem xG {i j:Int}:cE (.int i) (.int j) S=.ok (.int (i+j)) S:=rfl
@[simp] theorem yo {i j:Int}:aSub (.int i) (.int j) S=.ok (.int (i - j)) S:=rfl
@[simp] theorem uB {i j:Int}:Fw (.int i) (.int j) S=.ok (.int (i+j)) S:=rfl
theorem rE {i j:Int} (h:-18446744073709551616 < i) (h':i < 18446744073709551616):gM (.int i) (.int j) S=.ok (.int (i * j)) S:=fK (by unfold ny;simp;left;exact ⟨by omega,by omega⟩)
theorem mul_r {i j:Int} (h:-18446744073709551616 < j) (h':j < 18446744073709551616):gM (.int i) (.int j) S=.ok (.int (i * j)) S:=fK (by unfold ny;simp;right;exact ⟨by omega,by omega⟩)
theorem xW {i j:Int} (h:0 < j) (h':j < 1073741824):p8 (.int i) (.int j) S=.ok (.int (i / j)) S:=fK ⟨h,by omega⟩
theorem ou {i j:Int} (h:0 < j):mS (.int i) (.int j) S=.ok (.int (i % j)) S:=fK h
@[simp] theorem Ai {i j:Int}:Ey (.int i) (.int j) S=.ok (.bl (decide (i < j))) S:=rfl
@[simp] theorem z_ {i j:Int}:E7 (.int i) (.int j) S=.ok (.bl (decide (i<=j))) S:=rfl
@[simp] theorem Aw {i j:Int}:EW (.int i) (.int j) S=.ok (.bl (decide (j < i))) S:=rfl
@[simp] theorem Ak {i j:Int}:EC (.int i) (.int j) S=.ok (.bl (decide (j<=i))) S:=rfl
@[simp] theorem AH {i j:Bool}:A5 false (.bl i) (.bl j) S=.ok (.bl (i == j)) S:=rfl
@[simp] theorem wG {i j:Bool}:A5 true (.bl i) (.bl j) S=.ok (.bl (i != j)) S:=rfl
@[simp] theorem yl {i:Int}:tU (.int i) S=.ok (.int (-i)) S:=rfl
@[simp] theorem uC {xs:List A}:mP (.tup xs) S=.ok (.int xs.length) S:=rfl
@[simp] theorem vY {xs:List A}:mP (.frz xs) S=.ok (.int xs.length) S:=rfl
@[simp] theorem yf {n:Nat}:mP (.ref n) S=opt (aq S n) fun xs=>.ok (.int xs.length) S:=rfl
@[simp] theorem u_ {i:Int}:Gh (.int i) S=.ok (.int (if i < 0 then -i else i)) S:=rfl
@[simp] theorem sC {i j:Int}:xR (.int i) (.int j) S=.ok (.int (if j > i then j else i)) S:=rfl
@[simp] theorem sD {i j:Int}:uJ (.int i) (.int j) S=.ok (.int (if j < i then j else i)) S:=rfl
@[simp] theorem p9 {i:Int}:sG (.int i) S=.ok (.int i) S:=rfl
@[simp] theorem sf {i:Bool}:sG (.bl i) S=.ok (.int (if i then 1 else 0)) S:=rfl
@[simp] theorem lM {i j:Int}:za (.int i) (.int j) S=.ok (.rng i j) S:=rfl
@[simp] theorem Af {xs:List A} {i:Int}:iZ (.tup xs) (.int i) S=opt (gj xs i) fun x=>.ok x S:=rfl
@[simp] theorem AF {xs:List A} {i:Int}:iZ (.frz xs) (.int i) S=opt (gj xs i) fun x=>.ok x S:=rfl
@[simp] theorem A2 {n:Nat} {i:Int}:iZ (.ref n) (.int i) S=opt (aq S n) fun xs=>opt (gj xs i) fun x=>.ok x S:=rfl
@[simp] theorem wD {n:Nat} {k:Int}:nO (.ref n) (.int k) a S=opt (aq S n) fun xs=>opt (qU xs.length k) fun j=>.ok () (S.set n (.lst (xs.set j a))):=rfl
@[simp] theorem xq {n:Nat} {i:Int}:yU (.ref n) (.int i) S=opt (aq S n) fun xs=>gd (0<=i) (opt (xs[i.toNat]?) fun x=>.ok x S):=rfl
@[simp] theorem sj {xs:List A}:fP (.tup xs) S=.ok (.ref S.length) (S++[.lst xs]):=rfl
@[simp] theorem r_ {xs:List A}:fP (.frz xs) S=.ok (.ref S.length) (S++[.lst xs]):=rfl
@[simp] theorem qO {n:Nat}:fP (.ref n) S=opt (aq S n) fun xs=>.ok (.ref S.length) (S++[.lst xs]):=rfl
@[simp] theorem ni {xs:List A}:wH (.tup xs) S=.ok (.tup xs) S:=rfl
@[simp] theorem nB {n:Nat}:wH (.ref n) S=opt (aq S n) fun xs=>.ok (.tup xs) S:=rfl
@[simp] theorem uw {xs:List A}:Ed (.tup xs) S=.ok (.tup xs.reverse) S:=rfl
@[simp] theorem xN {n:Nat}:Ed (.ref n) S=opt (aq S n) fun xs=>.ok (.ref S.length) (S++[.lst xs.reverse]):=rfl
@[simp] theorem Ae {n:Nat} {l u:Option Int}:EM (.ref n) l u S=opt (aq S n) fun xs=>.ok (.ref S.length) (S++[.lst (zc xs l u)]):=rfl
@[simp] theorem jU {n:Nat}:jv (.ref n) [a] S=opt (aq S n) fun xs=>gd (xs.length < sizeLine) (.ok .non (S.set n (.lst (xs++[a])))):=rfl
@[simp] theorem vX {b:Bool}:A.Ez (.bl b) S=some b:=rfl
@[simp] theorem qY {i:Int}:A.Ez (.int i) S=some (i != 0):=rfl
theorem xP {o:O}:(S++[o])[S.length]?=some o:=by simp
@[simp] theorem aU {xs:List A}:aq (S++[.lst xs]) S.length=some xs:=gQ xP
theorem bz {o:O} {n:Nat} {xs:List A} (h:aq S n=some xs):aq (S++[o]) n=some xs:=by
 have h':=aN h
 exact gQ (by rw [List.getElem?_append_left (List.getElem?_eq_some_iff.mp h').1];exact h')
theorem jY {n:Nat} {xs:List A} (h:aq S n=some xs):n < S.length:=(List.getElem?_eq_some_iff.mp (aN h)).1
theorem lW {n:Nat} {ys:List A} (h:n < S.length):aq (S.set n (.lst ys)) n=some ys:=gQ (List.getElem?_set_self h)
theorem pI {n m:Nat} {ys:List A} (h:n≠m):aq (S.set n (.lst ys)) m=aq S m:=by unfold aq;rw [List.getElem?_set_ne h]
theorem mX {xs:List A} {i:Int} {k:Nat} {x:A} (h:i=k) (hx:xs[k]?=some x):gj xs i=some x:=by rw [h];exact yQ hx
theorem xh {n:Nat} {i:Int} {k:Nat} (h:i=k) (hk:k < n):qU n i=some k:=by
 subst h
 unfold qU
 rw [if_pos (by omega),if_pos (by omega)]
 simp
end
structure Kp (b:Nat->Prop) (S S':ak):Prop where
 len:S.length<=S'.length
 obj:∀ (n:Nat) (o:O),¬ b n->S[n]?=some o->S'[n]?=some o
noncomputable abbrev gD:=Kp fun _=>False
theorem Kp.lst {b:Nat->Prop} {S S':ak} (h:Kp b S S') (n:Nat) (xs:List A) (hb:¬ b n) (e:aq S n=some xs):aq S' n=some xs:=gQ (h.obj n _ hb (aN e))
theorem Kp.refl {b:Nat->Prop} {S:ak}:Kp b S S:=⟨Nat.le_refl _,fun _ _ _ h=>h⟩
theorem Kp.trans {b:Nat->Prop} {S S1 S2:ak} (h:Kp b S S1) (h':Kp b S1 S2):Kp b S S2:=⟨Nat.le_trans h.len h'.len,fun n xs hb e=>h'.obj n xs hb (h.obj n xs hb e)⟩
theorem pV {S:ak} {n:Nat} {o:O} (e:S[n]?=some o):n < S.length:=(List.getElem?_eq_some_iff.mp e).1
theorem Kp.lay {b:Nat->Prop} {S S1:ak} {o:O} (h:Kp b S S1):Kp b S (S1++[o]):=⟨Nat.le_trans h.len (by simp),fun n xs hb e=>by
 have:=h.obj n xs hb e
 rw [List.getElem?_append_left (pV this)];exact this⟩
theorem Kp.Bc {b:Nat->Prop} {S S1:ak} {m:Nat} {o:O} (h:Kp b S S1) (hm:b m\/S.length<=m):Kp b S (S1.set m o):=⟨by rw [List.length_set];exact h.len,fun n xs hb e=>by
 have:m≠n:=fun z=>by
  subst z
  rcases hm with z | z
  ·exact hb z
  ·exact absurd (pV e) (by omega)
 rw [List.getElem?_set_ne this]
 exact h.obj n xs hb e⟩
theorem Kp.set {b:Nat->Prop} {S S1:ak} {m:Nat} {ys:List A} (h:Kp b S S1) (hm:b m\/S.length<=m):Kp b S (S1.set m (.lst ys)):=h.Bc hm
theorem Kp.old {b c:Nat->Prop} {S S1 S2:ak} (h:Kp b S S1) (h':Kp c S1 S2) (hc:∀ n,n < S.length->¬ b n->¬ c n):Kp b S S2:=⟨Nat.le_trans h.len h'.len,fun n xs hb e=>h'.obj n xs (hc n (pV e) hb) (h.obj n xs hb e)⟩
theorem mT {s:Src} {g:Tg} {c:Sm} (Inv:Nat->List A->ak->Prop) (Post:RS->Prop)
  (step:∀ i τ S,i < s.k->Inv i τ S->∃ x τ1 S1,s.get i S=some x/\g x τ S=.ok τ1 S1/\((∃ τ' S',c τ1 S1=.nx τ' S'/\Inv (i+1) τ' S')\/(∃ a S',c τ1 S1=.rt a S'/\Post (.rt a S'))))
  (fin:∀ τ S,Inv s.k τ S->s.fin S=true/\Post (.nx τ S)):∀ k i τ S,k+i=s.k->Inv i τ S->Post (dS s g c k i τ S)
 | 0,i,τ,S,hk,hi=>by
  have:i=s.k:=by omega
  subst this
  obtain ⟨hf,q⟩:=fin τ S hi
  unfold dS
  rw [if_pos hf]
  exact q
 | k+1,i,τ,S,hk,hi=>by
  obtain ⟨x,τ1,S1,hx,hg,h⟩:=step i τ S (by omega) hi
  unfold dS
  rw [hx]
  show Post (RS.of (g x τ S) fun τ1 S1=>match c τ1 S1 with
   | .nx τ' S'=>dS s g c k (i+1) τ' S'
   | .ct τ' S'=>dS s g c k (i+1) τ' S'
   | .bk τ' S'=>.nx τ' S'
   | r=>r)
  rw [hg]
  show Post (match c τ1 S1 with
   | .nx τ' S'=>dS s g c k (i+1) τ' S'
   | .ct τ' S'=>dS s g c k (i+1) τ' S'
   | .bk τ' S'=>.nx τ' S'
   | r=>r)
  rcases h with ⟨τ',S',e,hi'⟩ | ⟨a,S',e,q⟩
  ·rw [e];exact mT Inv Post step fin k (i+1) τ' S' (by omega) hi'
  ·rw [e];exact q
theorem iy {lo hi:Int} {j:Nat} {c:Sm} {src:Ic} {τ:List A} {S S1:ak} (hs:src τ S=.ok (iN lo hi) S1) (Inv:Nat->List A->ak->Prop) (Post:RS->Prop) (h0:Inv 0 τ S1)
  (step:∀ (i:Nat) τ S,(i:Int) < hi - lo->Inv i τ S->(∃ τ' S',c (τ.set j (.int (lo+i))) S=.nx τ' S'/\Inv (i+1) τ' S')\/(∃ a S',c (τ.set j (.int (lo+i))) S=.rt a S'/\Post (.rt a S')))
  (fin:∀ τ S,Inv (hi - lo).toNat τ S->Post (.nx τ S)):Post (cD src (bI j) c τ S):=by
 unfold cD
 rw [hs]
 refine mT (s:=iN lo hi) Inv Post (fun i τ S hi' h=>?_) (fun τ S h=>⟨rfl,fin τ S h⟩) _ 0 τ S1 rfl h0
 have hi':i < (hi - lo).toNat:=hi'
 exact ⟨.int (lo+i),_,S,if_pos hi',rfl,step i τ S (by omega) h⟩
theorem p5 {xs:List A} {g:Tg} {c:Sm} {src:Ic} {τ:List A} {S S1:ak} (hs:src τ S=.ok (eZ xs) S1) (Inv:Nat->List A->ak->Prop) (Post:RS->Prop) (h0:Inv 0 τ S1)
  (step:∀ (i:Nat) x τ S,xs[i]?=some x->Inv i τ S->∃ τ1 S1,g x τ S=.ok τ1 S1/\((∃ τ' S',c τ1 S1=.nx τ' S'/\Inv (i+1) τ' S')\/(∃ a S',c τ1 S1=.rt a S'/\Post (.rt a S'))))
  (fin:∀ τ S,Inv xs.length τ S->Post (.nx τ S)):Post (cD src g c τ S):=by
 unfold cD
 rw [hs]
 refine mT (s:=eZ xs) Inv Post (fun i τ S hi' h=>?_) (fun τ S h=>⟨rfl,fin τ S h⟩) _ 0 τ S1 rfl h0
 have hi':i < xs.length:=hi'
 obtain ⟨τ1,S1,e,q⟩:=step i xs[i] τ S (List.getElem?_eq_getElem hi') h
 exact ⟨xs[i],τ1,S1,List.getElem?_eq_getElem hi',e,q⟩
theorem jn {n:Nat} {xs:List A} {g:Tg} {c:Sm} {src:Ic} {τ:List A} {S S1:ak} (hs:src τ S=.ok (d9 n xs.length) S1) (Inv:Nat->List A->ak->Prop) (Post:RS->Prop) (h0:Inv 0 τ S1) (hl:∀ i τ S,Inv i τ S->aq S n=some xs)
  (step:∀ (i:Nat) x τ S,xs[i]?=some x->Inv i τ S->∃ τ1 S1,g x τ S=.ok τ1 S1/\((∃ τ' S',c τ1 S1=.nx τ' S'/\Inv (i+1) τ' S')\/(∃ a S',c τ1 S1=.rt a S'/\Post (.rt a S'))))
  (fin:∀ τ S,Inv xs.length τ S->Post (.nx τ S)):Post (cD src g c τ S):=by
 unfold cD
 rw [hs]
 refine mT (s:=d9 n xs.length) Inv Post (fun i τ S hi' h=>?_) (fun τ S h=>⟨?_,fin τ S h⟩) _ 0 τ S1 rfl h0
 ·have hi':i < xs.length:=hi'
  obtain ⟨τ1,S1,e,q⟩:=step i xs[i] τ S (List.getElem?_eq_getElem hi') h
  exact ⟨xs[i],τ1,S1,by show (aq S n).bind _=_;rw [hl i τ S h];exact List.getElem?_eq_getElem hi',e,q⟩
 ·show (match aq S n with
   | some ys=>decide (ys.length<=xs.length)
   | none=>false)=true
  rw [hl _ τ S h]
  exact decide_eq_true (Nat.le_refl _)
@[simp] theorem eE {c:Ex} {τ:List A} {S S1:ak} {j:Int} (h:c τ S=.ok (.int j) S1) (hb:bnd j):fm c τ S=.ok (iN 0 j) S1:=by
 unfold fm;rw [h];exact fK hb
theorem C3 {c:Ex} {τ:List A} {S S1:ak} {xs:List A} (h:c τ S=.ok (.tup xs) S1):dP c τ S=.ok (eZ xs) S1:=by unfold dP;rw [h];rfl
theorem gw {c:Ex} {τ:List A} {S S1:ak} {n:Nat} {xs:List A} (h:c τ S=.ok (.ref n) S1) (hl:aq S1 n=some xs):dP c τ S=.ok (d9 n xs.length) S1:=by
 unfold dP;rw [h];show opt (aq S1 n) _=_;rw [hl];rfl
theorem jk {s:Src} {g:Tg} {t:Te} {e:Ex} {P:ak->Prop} {T:List A->Prop} (it:Nat->A) (p:Nat->Bool) (f:Nat->A)
  (hget:∀ i S,i < s.k->P S->s.get i S=some (it i)) (hfin:∀ S,P S->s.fin S=true)
  (step:∀ i τ S,i < s.k->T τ->P S->∃ τ1 S1 S2,g (it i) τ S=.ok τ1 S1/\t τ1 S1=.ok (p i) S2/\T τ1/\(p i=false->P S2)/\(p i=true->∃ S3,e τ1 S2=.ok (f i) S3/\P S3)) :
  ∀ k i τ S,k+i=s.k->T τ->P S->∃ S',d7 s g t e k i τ S=.ok (((List.range' i k).filter p).map f) S'/\P S'
 | 0,i,τ,S,hk,hT,hP=>⟨S,by unfold d7;rw [if_pos (hfin S hP)];rfl,hP⟩
 | k+1,i,τ,S,hk,hT,hP=>by
  obtain ⟨τ1,S1,S2,hg,ht,hT1,hF,hTr⟩:=step i τ S (by omega) hT hP
  unfold d7
  rw [hget i S (by omega) hP,fW,hg,R.cP,ht,R.cP,List.range'_succ,List.filter_cons]
  cases hp:p i with
  | false=>
   obtain ⟨S',h1,h2⟩:=jk it p f hget hfin step k (i+1) τ1 S2 (by omega) hT1 (hF hp)
   exact ⟨S',by simpa using h1,h2⟩
  | true=>
   obtain ⟨S3,he,hP3⟩:=hTr hp
   obtain ⟨S',h1,h2⟩:=jk it p f hget hfin step k (i+1) τ1 S3 (by omega) hT1 hP3
   refine ⟨S',?_,h2⟩
   show (e τ1 S2).gF _=_
   rw [he,R.cP,h1]
   rfl
theorem lB {s:Src} {cap:List (Option Nat)} {src:Ic} {t:Te} {e:Ex} {τ:List A} {S S1:ak} (hs:src τ S=.ok s S1) (it:Nat->A) (p:Nat->Bool) (f:Nat->A) (hget:∀ i,i < s.k->s.get i S1=some (it i)) (hfin:s.fin S1=true)
  (ht:∀ i,i < s.k->t (it i::cM cap τ) S1=.ok (p i) S1) (he:∀ i,i < s.k->p i=true->e (it i::cM cap τ) S1=.ok (f i) S1) (hl:s.k<=16777216) :
  bR (none::cap) src (bI 0) t e τ S=.ok (.ref S1.length) (S1++[.lst (((List.range s.k).filter p).map f)]):=by
 unfold bR
 rw [hs,R.jB]
 obtain ⟨S',h1,h2⟩:=jk (s:=s) (g:=bI 0) (t:=t) (e:=e) (P:=fun S=>S=S1) (T:=fun τ'=>∃ y,τ'=y::cM cap τ) it p f (fun i S hi h=>by subst h;exact hget i hi) (fun S h=>by subst h;exact hfin)
  (fun i τ' S hi ⟨y,hy⟩ h=>by
   subst h hy
   exact ⟨it i::cM cap τ,S,S,rfl,ht i hi,⟨_,rfl⟩,fun _=>rfl,fun hp=>⟨S,he i hi hp,rfl⟩⟩) s.k 0 (cM (none::cap) τ) S1 rfl ⟨_,rfl⟩ rfl
 subst h2
 rw [h1,R.cP,List.range_eq_range']
 refine bA ?_
 rw [List.length_map]
 refine Nat.le_trans (List.length_filter_le _ _) ?_
 rw [List.length_range']
 exact hl
theorem iS {α β:Type} (xs:List α) (p:α->Bool) (f:α->β):∀ (d:α) ,(((List.range xs.length).filter fun i=>p (xs.getD i d)).map fun i=>f (xs.getD i d))=(xs.filter p).map f:=by
 intro d
 induction xs with
 | nil=>rfl
 | cons x xs ih=>
  rw [List.length_cons,List.range_succ_eq_map,List.filter_cons,List.filter_cons]
  have e:((List.filter (fun i=>p ((x::xs).getD i d)) (List.map Nat.succ (List.range xs.length))).map fun i=>f ((x::xs).getD i d))=(xs.filter p).map f:=by
   rw [List.filter_map,List.map_map]
   rw [<- ih]
   rfl
  show List.map _ (if p x=true then _ else _)=List.map f (if p x=true then _ else _)
  by_cases hp:p x=true
  ·rw [if_pos hp,if_pos hp,List.map_cons,List.map_cons,e];rfl
  ·rw [if_neg hp,if_neg hp,e]
theorem u7 {lo hi:Int} {cap:List (Option Nat)} {src:Ic} {t:Te} {e:Ex} {τ:List A} {S S1:ak} (hs:src τ S=.ok (iN lo hi) S1) (p:Int->Bool) (f:Int->A)
  (ht:∀ k,lo<=k->k < hi->t (.int k::cM cap τ) S1=.ok (p k) S1) (he:∀ k,lo<=k->k < hi->p k=true->e (.int k::cM cap τ) S1=.ok (f k) S1) (hl:(hi - lo).toNat<=16777216) :
  bR (none::cap) src (bI 0) t e τ S=.ok (.ref S1.length) (S1++[.lst (((oM lo hi).filter p).map f)]):=by
 rw [lB hs (fun i=>.int (lo+i)) (fun i=>p (lo+i)) (fun i=>f (lo+i)) (fun i hi'=>if_pos hi') rfl (fun i hi'=>ht _ (by omega) (by have:i < (hi - lo).toNat:=hi';omega)) (fun i hi'=>he _ (by omega) (by have:i < (hi - lo).toNat:=hi';omega)) hl]
 unfold oM
 rw [List.filter_map,List.map_map]
 rfl
@[simp] theorem vM {cap:List (Option Nat)} {τ:List A}:cM (none::cap) τ=.unb::cM cap τ:=rfl
@[simp] theorem vL {cap:List (Option Nat)} {τ:List A} {j:Nat}:cM (some j::cap) τ=τ.getD j .unb::cM cap τ:=rfl
@[simp] theorem nF {τ:List A}:cM [] τ=[]:=rfl
theorem rW {x:A} {xs:List A}:gj (x::xs) 0=some x:=mX (k:=0) rfl rfl
theorem qj {x y:A} {xs:List A}:gj (x::y::xs) 1=some y:=mX (k:=1) rfl rfl
theorem yS {ns:List Int} {i:Int} {k:Nat} {x:Int} (h:i=k) (hx:ns[k]?=some x):gj (ns.map A.int) i=some (.int x):=mX h (by rw [List.getElem?_map,hx];rfl)
theorem iQ {j:Int} (h:-4611686018427387904<=j) (h':j < 4611686018427387904):bnd j:=⟨by omega,by omega⟩
theorem lE {S:ak} {n:Nat}:∀ (xs ys:List Int),gJ (kq S (n+1)) (xs.map .int) (ys.map .int)=some (decide (xs=ys))
 | [],[]=>rfl
 | [],_::_=>rfl
 | _::_,[]=>rfl
 | x::xs,y::ys=>by
  show (kq S (n+1) (.int x) (.int y)).bind _=_
  show Option.bind (some (x == y)) _=_
  show Option.map _ (gJ (kq S (n+1)) (xs.map .int) (ys.map .int))=_
  rw [lE xs ys]
  show some (x == y && decide (xs=ys))=_
  by_cases h1:x=y <;> by_cases h2:xs=ys <;> simp [h1,h2]
@[simp] theorem A4 {S:ak} {x y:Bool}:eW false (.bl x) (.bl y) S=.ok (.bl (x == y)) S:=rfl
@[simp] theorem Ac {S:ak} {x y:Bool}:eW true (.bl x) (.bl y) S=.ok (.bl (!(x == y))) S:=rfl
@[simp] theorem Aq {S:ak} {x y:Int}:eW false (.int x) (.int y) S=.ok (.bl (x == y)) S:=rfl
@[simp] theorem Ao {S:ak} {x y:Int}:eW true (.int x) (.int y) S=.ok (.bl (!(x == y))) S:=rfl
@[simp] theorem qF {S:ak}:A5 false .non .non S=.ok (.bl true) S:=rfl
@[simp] theorem rT {S:ak} {xs:List A}:A5 false (.tup xs) .non S=.ok (.bl false) S:=rfl
@[simp] theorem r9 {S:ak} {n:Nat}:A5 false (.ref n) .non S=.ok (.bl false) S:=rfl
@[simp] theorem nv {S:ak}:A5 true .non .non S=.ok (.bl false) S:=rfl
@[simp] theorem oz {S:ak} {xs:List A}:A5 true (.tup xs) .non S=.ok (.bl true) S:=rfl
@[simp] theorem oh {S:ak} {n:Nat}:A5 true (.ref n) .non S=.ok (.bl true) S:=rfl
@[simp] theorem qQ {S:ak} {x:A} {c:String}:tF x (.ty c) S=opt (x.kd S) fun k=>opt (m_ k c) fun b=>.ok (.bl b) S:=rfl
@[simp] theorem AO {S:ak} {b:Bool}:A.kd (.bl b) S=some .bl:=rfl
@[simp] theorem wQ {S:ak} {b:Int}:A.kd (.int b) S=some .int:=rfl
@[simp] theorem u0 {S:ak} {b:List A}:A.kd (.tup b) S=some .tup:=rfl
@[simp] theorem vE {S:ak}:A.kd .non S=some .non:=rfl
@[simp] theorem uM {S:ak} {b:Str}:A.kd (.str b) S=some .str:=rfl
@[simp] theorem wA {S:ak} {n:Nat}:A.kd (.ref n) S=(aq S n).map fun _=>.lst:=rfl
@[simp] theorem vh {S:ak}:newL [] S=.ok (.ref S.length) (S++[.lst []]):=bA (by simp)
@[simp] theorem vt {S:ak} {x0:A}:newL [x0] S=.ok (.ref S.length) (S++[.lst [x0]]):=bA (by simp)
@[simp] theorem uS {S:ak} {x0 x1:A}:newL [x0,x1] S=.ok (.ref S.length) (S++[.lst [x0,x1]]):=bA (by simp)
@[simp] theorem yi {S:ak} {x0 x1 x2:A}:newL [x0,x1,x2] S=.ok (.ref S.length) (S++[.lst [x0,x1,x2]]):=bA (by simp)
@[simp] theorem uQ {S:ak} {x0 x1 x2 x3:A}:newL [x0,x1,x2,x3] S=.ok (.ref S.length) (S++[.lst [x0,x1,x2,x3]]):=bA (by simp)
@[simp] theorem ye {S:ak} {x0 x1 x2 x3 x4:A}:newL [x0,x1,x2,x3,x4] S=.ok (.ref S.length) (S++[.lst [x0,x1,x2,x3,x4]]):=bA (by simp)
@[simp] theorem wL {S:ak} {x0 x1 x2 x3 x4 x5:A}:newL [x0,x1,x2,x3,x4,x5] S=.ok (.ref S.length) (S++[.lst [x0,x1,x2,x3,x4,x5]]):=bA (by simp)
@[simp] theorem wu {S:ak} {x0 x1 x2 x3 x4 x5 x6:A}:newL [x0,x1,x2,x3,x4,x5,x6] S=.ok (.ref S.length) (S++[.lst [x0,x1,x2,x3,x4,x5,x6]]):=bA (by simp)
@[simp] theorem vf {S:ak} {x0 x1 x2 x3 x4 x5 x6 x7:A}:newL [x0,x1,x2,x3,x4,x5,x6,x7] S=.ok (.ref S.length) (S++[.lst [x0,x1,x2,x3,x4,x5,x6,x7]]):=bA (by simp)
@[simp] theorem uN {S:ak} {x0 x1 x2 x3 x4 x5 x6 x7 x8:A}:newL [x0,x1,x2,x3,x4,x5,x6,x7,x8] S=.ok (.ref S.length) (S++[.lst [x0,x1,x2,x3,x4,x5,x6,x7,x8]]):=bA (by simp)
@[simp] theorem qx {S:ak} {x0 x1 x2 x3 x4 x5 x6 x7 x8 x9:A}:newL [x0,x1,x2,x3,x4,x5,x6,x7,x8,x9] S=.ok (.ref S.length) (S++[.lst [x0,x1,x2,x3,x4,x5,x6,x7,x8,x9]]):=bA (by simp)
theorem fE {α:Type} {n:Nat} {r:R α} (h:n<=16777216):gd (n<=sizeLine) r=r:=fK (by rw [sizeLine_eq];exact h)
theorem qC {α:Type} {n:Nat} {r:R α} (h:n < 16777216):gd (n < sizeLine) r=r:=fK (by rw [sizeLine_eq];exact h)
theorem A8 {x:A} {xs:List A}:(x::xs).getD 0 .unb=x:=rfl
theorem Az {x:A} {xs:List A} {n:Nat}:(x::xs).getD (n+1) .unb=xs.getD n .unb:=rfl
theorem DT {x y:A} {xs:List A}:(x::xs).set 0 y=y::xs:=rfl
theorem sets {x y:A} {xs:List A} {n:Nat}:(x::xs).set (n+1) y=x::xs.set n y:=rfl
theorem rep0 {x:A}:List.replicate 0 x=[]:=rfl
theorem reps {x:A} {n:Nat}:List.replicate (n+1) x=x::List.replicate n x:=rfl
theorem D7 {x:A} {xs ys:List A}:(x::xs)++ys=x::(xs++ys):=rfl
theorem DY {ys:List A}:[]++ys=ys:=rfl
theorem bQ:type_of% (And.intro @R.jB (And.intro @R.rO (And.intro @R.cP (And.intro @RS.of_ok (And.intro @RS.Ay (And.intro @fW (And.intro @qV (And.intro @rV (And.intro @r8 (And.intro @qc (And.intro @pZ (And.intro @v_ (And.intro @qK (And.intro @sA (And.intro @rZ (And.intro @qM (And.intro @qv (And.intro @AU (And.intro @qZ (And.intro @uR (And.intro @rB (And.intro @AB (And.intro @xO (And.intro @rF (And.intro @qJ (And.intro @v5 (And.intro @sF (And.intro @qq (And.intro @p_ (And.intro @wo (And.intro @vz (And.intro @qt (And.intro @uH (And.intro @nP (And.intro @rf (And.intro @vn (And.intro @qg (And.intro @oG (And.intro @q_ (And.intro @sH (And.intro @oE (And.intro @xF (And.intro @vK (And.intro @Au (And.intro @A7 (And.intro @wJ (And.intro @nA (And.intro @qN (And.intro @nJ (And.intro @vD (And.intro @qu (And.intro @lst?_ref (And.intro @RS.wY (And.intro @RS.wZ (And.intro @RS.vQ (And.intro @RS.uO (And.intro @RS.vj (And.intro @jA (And.intro @rY (And.intro @kY (And.intro @n_ (And.intro @nQ (And.intro @pY (And.intro @n9 (And.intro @vq (And.intro @qi (And.intro @uD (And.intro @vB (And.intro @uL (And.intro @xr (And.intro @wj (And.intro @xm (And.intro @qS (And.intro @sO (And.intro @nT (And.intro @RS.vc (And.intro @RS.yu (And.intro @RS.uz (And.intro @xG (And.intro @yo (And.intro @uB (And.intro @Ai (And.intro @z_ (And.intro @Aw (And.intro @Ak (And.intro @AH (And.intro @wG (And.intro @yl (And.intro @uC (And.intro @vY (And.intro @yf (And.intro @u_ (And.intro @sC (And.intro @sD (And.intro @p9 (And.intro @sf (And.intro @lM (And.intro @Af (And.intro @AF (And.intro @A2 (And.intro @wD (And.intro @xq (And.intro @sj (And.intro @r_ (And.intro @qO (And.intro @ni (And.intro @nB (And.intro @uw (And.intro @xN (And.intro @Ae (And.intro @jU (And.intro @vX (And.intro @qY (And.intro @aU (And.intro @vM (And.intro @vL (And.intro @nF (And.intro @A4 (And.intro @Ac (And.intro @Aq (And.intro @Ao (And.intro @qF (And.intro @rT (And.intro @r9 (And.intro @nv (And.intro @oz (And.intro @oh (And.intro @qQ (And.intro @AO (And.intro @wQ (And.intro @u0 (And.intro @vE (And.intro @uM (And.intro @wA (And.intro @vh (And.intro @vt (And.intro @uS (And.intro @yi (And.intro @uQ (And.intro @ye (And.intro @wL (And.intro @wu (And.intro @vf (And.intro @uN (And.intro @qx (And.intro @A8 (And.intro @Az (And.intro @DT (And.intro @sets (And.intro @rep0 (And.intro @reps (And.intro @D7 (And.intro @DY (And.intro @h_ (And.intro @rq (And.intro @x_ (And.intro @vH (And.intro @A6 (And.intro @AA (And.intro @xV (And.intro @wF (And.intro @kH (And.intro @nH (And.intro @xD (And.intro @rR (And.intro @uZ (And.intro @qX (And.intro @we (And.intro @Ax (And.intro @Aj (And.intro @qo (And.intro @sN (And.intro @wX (And.intro @oq (And.intro @qR (And.intro @wz (And.intro @uP (And.intro @wW (And.intro @yt (@wR)))))))))))))))))))))))))))))))))))))))))))))))))))))))))))))))))))))))))))))))))))))))))))))))))))))))))))))))))))))))))))))))))))))))))))))))))))))))))))))))))))))))))))))))))))):=And.intro @R.jB (And.intro @R.rO (And.intro @R.cP (And.intro @RS.of_ok (And.intro @RS.Ay (And.intro @fW (And.intro @qV (And.intro @rV (And.intro @r8 (And.intro @qc (And.intro @pZ (And.intro @v_ (And.intro @qK (And.intro @sA (And.intro @rZ (And.intro @qM (And.intro @qv (And.intro @AU (And.intro @qZ (And.intro @uR (And.intro @rB (And.intro @AB (And.intro @xO (And.intro @rF (And.intro @qJ (And.intro @v5 (And.intro @sF (And.intro @qq (And.intro @p_ (And.intro @wo (And.intro @vz (And.intro @qt (And.intro @uH (And.intro @nP (And.intro @rf (And.intro @vn (And.intro @qg (And.intro @oG (And.intro @q_ (And.intro @sH (And.intro @oE (And.intro @xF (And.intro @vK (And.intro @Au (And.intro @A7 (And.intro @wJ (And.intro @nA (And.intro @qN (And.intro @nJ (And.intro @vD (And.intro @qu (And.intro @lst?_ref (And.intro @RS.wY (And.intro @RS.wZ (And.intro @RS.vQ (And.intro @RS.uO (And.intro @RS.vj (And.intro @jA (And.intro @rY (And.intro @kY (And.intro @n_ (And.intro @nQ (And.intro @pY (And.intro @n9 (And.intro @vq (And.intro @qi (And.intro @uD (And.intro @vB (And.intro @uL (And.intro @xr (And.intro @wj (And.intro @xm (And.intro @qS (And.intro @sO (And.intro @nT (And.intro @RS.vc (And.intro @RS.yu (And.intro @RS.uz (And.intro @xG (And.intro @yo (And.intro @uB (And.intro @Ai (And.intro @z_ (And.intro @Aw (And.intro @Ak (And.intro @AH (And.intro @wG (And.intro @yl (And.intro @uC (And.intro @vY (And.intro @yf (And.intro @u_ (And.intro @sC (And.intro @sD (And.intro @p9 (And.intro @sf (And.intro @lM (And.intro @Af (And.intro @AF (And.intro @A2 (And.intro @wD (And.intro @xq (And.intro @sj (And.intro @r_ (And.intro @qO (And.intro @ni (And.intro @nB (And.intro @uw (And.intro @xN (And.intro @Ae (And.intro @jU (And.intro @vX (And.intro @qY (And.intro @aU (And.intro @vM (And.intro @vL (And.intro @nF (And.intro @A4 (And.intro @Ac (And.intro @Aq (And.intro @Ao (And.intro @qF (And.intro @rT (And.intro @r9 (And.intro @nv (And.intro @oz (And.intro @oh (And.intro @qQ (And.intro @AO (And.intro @wQ (And.intro @u0 (And.intro @vE (And.intro @uM (And.intro @wA (And.intro @vh (And.intro @vt (And.intro @uS (And.intro @yi (And.intro @uQ (And.intro @ye (And.intro @wL (And.intro @wu (And.intro @vf (And.intro @uN (And.intro @qx (And.intro @A8 (And.intro @Az (And.intro @DT (And.intro @sets (And.intro @rep0 (And.intro @reps (And.intro @D7 (And.intro @DY (And.intro @h_ (And.intro @rq (And.intro @x_ (And.intro @vH (And.intro @A6 (And.intro @AA (And.intro @xV (And.intro @wF (And.intro @kH (And.intro @nH (And.intro @xD (And.intro @rR (And.intro @uZ (And.intro @qX (And.intro @we (And.intro @Ax (And.intro @Aj (And.intro @qo (And.intro @sN (And.intro @wX (And.intro @oq (And.intro @qR (And.intro @wz (And.intro @uP (And.intro @wW (And.intro @yt (@wR)))))))))))))))))))))))))))))))))))))))))))))))))))))))))))))))))))))))))))))))))))))))))))))))))))))))))))))))))))))))))))))))))))))))))))))))))))))))))))))))))))))))))))))))))))
theorem bools:(∀ b:Bool,cond false b b=b)/\(∀ (α:Type) (x y:α),cond false x y=y)/\(∀ (α:Type) (x y:α),cond true x y=x):=⟨fun _=>rfl,fun _ _ _=>rfl,fun _ _ _=>rfl⟩
theorem gG:(∀ (x:Str) (xs:List Str),(x::xs).length=xs.length+1)/\([]:List Str).length=0/\(∀ (x:A) (xs:List A),(x::xs).length=xs.length+1)/\([]:List A).length=0:=⟨fun _ _=>rfl,rfl,fun _ _=>rfl,rfl⟩
section
variable {τ:List A} {S:ak}
theorem tQ {b:Bool} {xs:List A}:A.Bh (.bl b::xs)=(A.Bh xs).map (b::·):=rfl
end
end Am
namespace L2
open PySem PySem.Spec PyProof.Rows
section
variable {P:Program} {w:World} {A:Around} {E:Value->Shared->Prop} {s:Shared} {it d:Addr} {i ep:Nat} {es:Array DictEntry} {o:Obj}
end
section
variable {P:Program} {w:World}
end
section
variable {X:Cx}
end
section
variable {P:Program} {w:World} {A:Around} {E:Value->Shared->Prop} {s:Shared}
theorem tH:typeLookup (.type "list") "keys" = pure none:=am_miss_of_fast (by kernel_rfl)
theorem sS {a:Addr} {o:Obj} {xs:Array Value} {k:Nat} {Q:Option Value->Shared->Prop} (hx:s.heap.get? a=some o) (hc:o.cls=.type "list") (hdat:o.data=.seq xs k) (hd:o.dict=none) (hA:A.handled=none)
  (h:∀ h' tk,(∀ b ob,s.heap.get? b=some ob->h'.get? b=some ob)->Q none { s with heap:=h',toks:=tk }):wpAny (model P w) A (getAttr? (.ref a) "keys") Q E s:=by
 obtain ⟨c,dct,dat,sl⟩:=o
 simp only at hc hdat hd
 subst hc hdat hd
 obtain ⟨hp,g,d,tk,os⟩:=s
 have hT:∀ tk',(⟨hp,g,d,tk',os⟩:Shared).TypeIs (.ref a) "list" := fun _=>⟨_,hx,rfl⟩
 have f1:=sub_AttributeError
 have f3:=F.slot_list_getattribute.lookup
 have f4:=F.slot_list_getattribute.bind (.ref a)
 have f5:=am_list_getattr_none
 unfold getAttr? getAttrBy? getAttrBy
 repeat (any_goals (first | assumption | exact hT _ | ((with_reducible show wpAny _ _ (call (Value.builtin "list.__getattribute__") _ _) _ _ _);refine call_meets F.slot_list_getattribute (hT _) am_entry_list_getattribute (F.args_list_getattribute_2 _ _) (meets_getattribute_miss_list a xs k sl "keys" _ tH (by decide) (by size_fits)) ⟨hx,hA,fun h' tk' e hx'=>?_⟩) | wp_step))
 obtain ⟨t',u',he⟩:=hx'.there
 show wpAny _ _ (getattributeRaised _ _ _ _ _ _ _) _ _ _
 unfold getattributeRaised
 repeat (any_goals (first | assumption | wp_step))
 exact h _ _ hx'.keeps
theorem lO:entryFor table "dict.update.loop" = some Builtin.«dict.update.loop»:=entryFor_of_tree (by kernel_rfl)
theorem gb:plainId "dict.update.loop" = true:=by decide +kernel
noncomputable def vp (h:Heap) (d I:Addr) (its:List Value) (ps:List (Int×Value)):Prop:=∀ (i:Nat) (v:Value),its[i]?=some v->∃ (b:Addr) (p:Int×Value) (t:Tok),v=.ref b/\b≠d/\b≠I/\ps[i]?=some p/\IsTup h b #[.int p.1 t,p.2]
theorem vp.mono {h h':Heap} {d I:Addr} {its:List Value} {ps:List (Int×Value)} (x:vp h d I its ps) (k:∀ b o,b≠d->b≠I->h.get? b=some o->h'.get? b=some o):vp h' d I its ps:=fun i v hv=>by
 obtain ⟨b,p,t,h1,h2,h3,h4,o,h5,h6⟩:=x i v hv
 exact ⟨b,p,t,h1,h2,h3,h4,o,k b o h2 h3 h5,h6⟩
noncomputable def BV (ps:List (Int×Value)):List (Key×Value):=ps.foldl (fun acc p=>stored acc (Sum.inl p.1) p.2) []
theorem uA (ps:List (Int×Value)) (i:Nat) (p:Int×Value) (h:ps[i]?=some p):BV (ps.take (i+1))=stored (BV (ps.take i)) (Sum.inl p.1) p.2:=by
 unfold BV
 rw [List.take_add_one,h,List.foldl_append];rfl
theorem qA:∀ (ps:List (Int×Value)) (acc:List (Key×Value)),(ps.foldl (fun acc p=>stored acc (Sum.inl p.1) p.2) acc).length<=acc.length+ps.length
 | [],acc=>Nat.le_refl _
 | p::ps,acc=>by
  have:=qA ps (stored acc (Sum.inl p.1) p.2)
  have h:(stored acc (Sum.inl p.1) p.2).length<=acc.length+1:=by
   unfold stored
   split
   ·rw [List.length_map];omega
   ·rw [List.length_append];exact Nat.le_refl _
  rw [List.foldl_cons,List.length_cons]
  omega
theorem vF {R:Result->Shared->Prop} {I l d:Addr} {St:Nat->Heap->Prop} {its:List Value} {ps:List (Int×Value)} (W:Walks P w A.in1 I [I,l] [I] its.length (fun i v=>its[i]?=some v) St) (hdI:d≠I) (hdl:d≠l) (hl:ps.length=its.length) (hz:ps.length<=sizeLine) :
  ∀ (k i:Nat) (s:Shared),its.length - i=k->i<=its.length->St i s.heap->s.heap.DictOf (bf P w) d (BV (ps.take i))->vp s.heap d I its ps ->
   (∀ h' tk,h'.DictOf (bf P w) d (BV ps)->(∀ b o,b≠d->b≠I->s.heap.get? b=some o->h'.get? b=some o)->R (.ok (.ret .none)) { s with heap:=h',toks:=tk }) ->
   codeAny (model P w) A (.builtin "dict.update.loop" ⟨[.ref d,.ref I,rawInt i,.none],[]⟩) R s:=by
 intro k
 induction k with
 | zero=>
  intro i s hk hi hst hD hP hR
  have hin:i=its.length:=by omega
  subst hin
  refine codeAny_builtin lO ?_
  rw [Around.under_plainId gb _]
  show wpAny _ A.in1 (pyNext (.ref I) >>= _) _ _ s
  refine wpAny_bind (W.done s _ _ hst fun h' tk hm=>?_)
  show wpAny _ A.in1 (Builtin.Dict.addKeywords d [] >>= _) _ _ _
  refine wpAny_bind (wpAny_pure (wpAny_pure (hR h' tk ?_ fun b o _ h2 e=>hm b o (by simpa using h2) e)))
  rw [<- hl,List.take_length] at hD
  obtain ⟨o,es,ep,ho,rest⟩:=hD
  exact ⟨o,es,ep,hm d o (by simpa using hdI) ho,rest⟩
 | succ k ih=>
  intro i s hk hi hst hD hP hR
  have hlt:i < its.length:=by omega
  refine codeAny_builtin lO ?_
  rw [Around.under_plainId gb _]
  show wpAny _ A.in1 (pyNext (.ref I) >>= _) _ _ s
  refine wpAny_bind (W.item i s _ _ hlt hst fun v h' tk hv hst' hm=>?_)
  have hP':vp h' d I its ps:=hP.mono fun b o h1 h2 e=>hm b o (by simpa using h2) e
  obtain ⟨b,p,t,rfl,hbd,hbI,hp,o,ho,hc,n,hd⟩:=hP' i v hv
  have hD':h'.DictOf (bf P w) d (BV (ps.take i)):=by
   obtain ⟨o,es,ep,ho,rest⟩:=hD
   exact ⟨o,es,ep,hm d o (by simpa using hdI) ho,rest⟩
  have hT:Shared.TypeIs { s with heap:=h',toks:=tk } (.ref b) "tuple" := ⟨o,ho,hc⟩
  have hpair:∀ (A:Around) (E:Value->Shared->Prop) (Q:List Value->Shared->Prop),Q [.int p.1 t,p.2] { s with heap:=h',toks:=tk }->wpAny (model P w) A (Builtin.Dict.pairItems (.ref b)) Q E { s with heap:=h',toks:=tk }:=fun A E Q q=>by
   unfold Builtin.Dict.pairItems
   refine wpAny_bind (wpAny_typeOf hT ?_)
   rw [if_pos (by decide)]
   refine wpAny_bind (wpAny_seqItems ho hd (wpAny_pure q))
  have hlen:(BV (ps.take i)).length<=sizeLine:=by
   refine Nat.le_trans (qA (ps.take i) []) ?_
   rw [List.length_take,List.length_nil]
   omega
  refine wpAny_bind (wpAny_holding (wpAny_bind (wpAny_tryCatch (hpair _ _ _ ?_))))
  show wpAny _ _ (holding [Value.int p.1 t,p.2] (dictSet d (.int p.1 t) p.2)) _ _ _
  refine wpAny_holding (wpAny_dictSet_pairs (hsz:=hlen) (knd:=bf P w) (k:=Sum.inl p.1) (s:={ s with heap:=h',toks:=tk }) (show Value.isInt p.1 (.int p.1 t)=true by simp [Value.isInt]) hD' fun h2 hD2 hs=>?_)
  refine wpAny_pure ⟨plainId_quiet gb _,?_⟩
  have hsame:∀ b o,b≠d->b≠I->s.heap.get? b=some o->h2.get? b=some o:=fun b o h3 h4 e=>by rw [hs.2 b h3];exact hm b o (by simpa using h4) e
  refine ih (i+1) _ (by omega) hlt (W.frame _ _ _ hst' fun b hb o e=>?_) (by rw [uA ps i p hp];exact hD2) (hP.mono hsame) fun h3 tk3 hD3 hs3=>hR h3 tk3 hD3 fun b o h4 h5 e=>hs3 b o h4 h5 (hsame b o h4 h5 e)
  have hne:b≠d:=by
   intro z
   subst z
   rcases List.mem_cons.mp hb with z | z
   ·exact hdI z
   ·exact hdl (by simpa using z)
  show h2.get? b=some o
  rw [hs.2 b hne];exact e
theorem lG {pins:List (Addr×Obj)} {σ:L2.St} {H:Hp} {X:Cx} (I:Inv X pins σ H s):∀ (rs:List Addr) (ps:List (Int×V)),rs.length=ps.length->(∀ (i:Nat) (r:Addr) (q:Int×V),rs[i]?=some r->ps[i]?=some q->dF X.K H r [.int q.1,q.2]) ->
  ∃ qs:List (Int×Value),KV ps qs/\∀ (i:Nat) (r:Addr),rs[i]?=some r->∃ q t,qs[i]?=some q/\IsTup s.heap r #[.int q.1 t,q.2]
 | [],[],_,_=>⟨[],.nil,fun i r h=>by simp at h⟩
 | [],_::_,h,_=>nomatch h
 | _::_,[],h,_=>nomatch h
 | r::rs,p::ps,hl,hh=>by
  obtain ⟨qs,h1,h2⟩:=lG I rs ps (by simpa using hl) fun i r q e1 e2=>hh (i+1) r q (by simpa using e1) (by simpa using e2)
  obtain ⟨its,rv,tp,_⟩:=I.tuple (hh 0 r p rfl rfl)
  obtain ⟨u1,u2,rfl,r1,r2⟩:=vals2 rv
  obtain ⟨t,rfl⟩:∃ t,u1=Value.int p.1 t:=r1
  refine ⟨(p.1,u2)::qs,.cons ⟨rfl,r2⟩ h1,fun i r' e=>?_⟩
  cases i with
  | zero=>cases e;exact ⟨(p.1,u2),t,rfl,tp⟩
  | succ i=>exact h2 i r' (by simpa using e)
noncomputable def E_ (ps:List (Int×V)):List (Key×V):=ps.foldl (fun acc p=>putK acc (Sum.inl p.1) p.2) []
theorem Dn:∀ {ps:List (Int×V)} {qs:List (Int×Value)},KV ps qs->∀ {as:List (Key×V)} {bs:List (Key×Value)},KV as bs->KV (ps.foldl (fun acc p=>putK acc (Sum.inl p.1) p.2) as) (qs.foldl (fun acc p=>stored acc (Sum.inl p.1) p.2) bs):=by
 intro ps qs h
 unfold KV at h
 induction h with
 | nil=>exact fun h=>h
 | @cons p q ps qs h t ih=>
  intro as bs h2
  rw [List.foldl_cons,List.foldl_cons]
  obtain ⟨e,r⟩:=h
  rw [e]
  exact ih (h2.put _ r)
theorem rL:∀ (ps:List (Int×V)) (acc:List (Key×V)),(ps.foldl (fun acc p=>putK acc (Sum.inl p.1) p.2) acc).length<=acc.length+ps.length
 | [],acc=>Nat.le_refl _
 | p::ps,acc=>by
  have:=rL ps (putK acc (Sum.inl p.1) p.2)
  have:=fM acc (Sum.inl p.1) p.2
  rw [List.foldl_cons,List.length_cons]
  omega
end
section
variable {X:Cx}
theorem pC (hc:X.calm=true):bw X (.type "dict") (fun xs H Q=>∃ (p:Addr) (rs:List Addr) (ps:List (Int×V)),xs=[.ref p]/\dW X.K H p (rs.map V.ref)/\rs.length=ps.length /\
  (∀ (i:Nat) (r:Addr) (q:Int×V),rs[i]?=some r->ps[i]?=some q->dF X.K H r [.int q.1,q.2])/\∀ l,H l=none->Q (.ref l) (upd H l (.dK (E_ ps)))):=by
 intro pins s σ H xs us Q I r h
 obtain ⟨p,rs,ps,rfl,hq,hlen,hT,q⟩:=h
 obtain ⟨u,rfl,rx⟩:=vals1 r
 cases rx
 obtain ⟨its,rv,pl,hz⟩:=I.list hq
 have ei:=ly rv
 subst ei
 rw [List.length_map] at hz
 obtain ⟨qs,kv,tp⟩:=lG I rs ps hlen hT
 have ql:ps.length=qs.length:=kv.length
 obtain ⟨o,n,ho,hcl,hdn,hd⟩:=pl
 have lp:p < s.heap.objs.size:=Heap.lt_size ho
 refine callType_codes (Q₁:=fun obj s₁=>obj=.ref s.heap.objs.size/\s₁={ s with heap:=s.heap.push { cls:=.type "dict",data:=.dict #[] } }) F.kt_called_dict (F.kt_typeCall_dict_1 _) F.entry_dict_init (kt_code_dict_new _ ⟨rfl,rfl⟩) ?_
 rintro obj s₁ ⟨rfl,rfl⟩
 have hnew:(s.heap.push { cls:=.type "dict",data:=.dict #[] }).DictOf (bf X.prog X.w) s.heap.objs.size []:=Heap.DictOf.new s.heap
 have ho':(s.heap.push { cls:=.type "dict",data:=.dict #[] }).get? p=some o:=Heap.get?_push_of_some _ ho
 have hTy:Shared.TypeIs { s with heap:=s.heap.push { cls:=.type "dict",data:=.dict #[] } } (.ref p) "list" := ⟨o,ho',hcl⟩
 refine ⟨hnew.typeIs,F.args_dict_init_2 _ _,?_⟩
 unfold Builtin.«dict.__init__»
 refine wpAny_bind ?_
 unfold Builtin.Dict.selfAndRest
 refine wpAny_bind (wpAny_notOrdered_dict hnew.typeIs ?_)
 show wpAny _ _ (pure (s.heap.objs.size,[Value.ref p])) _ _ _
 refine wpAny_pure ?_
 show wpAny _ _ (Builtin.Dict.updateFrom "dict.__init__" s.heap.objs.size (.ref p) [] .none) _ _ _
 unfold Builtin.Dict.updateFrom
 refine wpAny_bind (wpAny_typeOf hTy ?_)
 rw [if_pos (by decide)]
 refine wpAny_bind (sS ho' hcl hd hdn (show X.A.in1.in1.handled=none from I.ok.hd hc) fun h' tk hk=>?_)
 rw [if_pos (by rfl)]
 refine wpAny_bind (wpAny_rule ?_)
 have hl2:h'.IsList p (rs.map Value.ref).toArray:=⟨o,hk p o ho',hcl,n,hd⟩
 refine wpAny_bind (wpAny_pyIter_list (s:={ s with heap:=h',toks:=tk }) hl2 ?_)
 refine wpAny_pure ⟨plainId_quiet gb _,?_⟩
 have sz:s.heap.objs.size < h'.objs.size:=Heap.lt_size (hk _ _ (Heap.get?_push_size _ rfl))
 have W:Walks X.prog X.w X.A.in1.in1 h'.objs.size [h'.objs.size,p] [h'.objs.size] (rs.map Value.ref).length (fun i v=>(rs.map Value.ref)[i]?=some v) (fun i h=>h.IsListIter h'.objs.size p i/\h.IsList p (rs.map Value.ref).toArray):=by
  have W:=Walks.list (prog:=X.prog) (w:=X.w) (A:=X.A.in1.in1) (I.ok.hd hc) h'.objs.size p (Nat.ne_of_lt (Heap.lt_size (hk p o ho'))) (rs.map Value.ref).toArray
  rw [List.size_toArray] at W
  simp only [List.getElem?_toArray] at W
  exact W
 refine vF (d:=s.heap.objs.size) (its:=rs.map Value.ref) (ps:=qs) W (Nat.ne_of_lt sz) (Ne.symm (Nat.ne_of_lt lp)) (by rw [List.length_map];omega) (by omega) (rs.map Value.ref).length 0 _ (by omega) (Nat.zero_le _)
  ⟨⟨_,Heap.get?_push_size _ rfl,rfl,rfl⟩,hl2.push _⟩ ?_ (fun i v hv=>?_) fun h2 tk2 hD hs=>⟨rfl,.ref s.heap.objs.size,_,I.laid (t':=tk2) (o:=.dK (E_ ps)) (fun b ob eb=>?_) (Nat.le_refl _) ?_,rfl,q _ (I.hok.fresh (Nat.le_refl _))⟩
 ·obtain ⟨o,es,ep,e,rest⟩:=hnew
  exact ⟨o,es,ep,Heap.get?_push_of_some _ (hk _ _ e),rest⟩
 ·rw [List.getElem?_map] at hv
  obtain ⟨r,hr,rfl⟩:=Option.map_eq_some_iff.mp hv
  obtain ⟨q,t,h1,o2,h2,h3⟩:=tp i r hr
  have lr:=Heap.lt_size h2
  exact ⟨r,q,t,rfl,Nat.ne_of_lt lr,Nat.ne_of_lt (Nat.lt_trans lr sz),h1,o2,Heap.get?_push_of_some _ (hk _ _ (Heap.get?_push_of_some _ h2)),h3⟩
 ·have lb:=Heap.lt_size eb
  exact hs b ob (Nat.ne_of_lt lb) (Nat.ne_of_lt (Nat.lt_trans lb sz)) (Heap.get?_push_of_some _ (hk _ _ (Heap.get?_push_of_some _ eb)))
 ·refine yg (Nat.le_trans (rL ps []) (by rw [List.length_nil];omega)) ?_ (Dn kv .nil) hD
  exact beq_eq_false_iff_ne.mpr (Ne.symm (Nat.ne_of_lt I.big))
noncomputable def yI (ns:List Int):Sx.Ord where
 lt i j:=decide (ns.getD i 0 < ns.getD j 0)
 zK i:=decide_eq_false (by omega)
 tr i j k h1 h2:=decide_eq_true (by have:=of_decide_eq_true h1;have:=of_decide_eq_true h2;omega)
 neg i j k h:=by
  have:=of_decide_eq_true h
  by_cases c:ns.getD i 0 < ns.getD j 0
  ·exact .inl (decide_eq_true c)
  ·exact .inr (decide_eq_true (by omega))
theorem ju:∀ {vs:List Value} {ns:List Int},IntsAre vs ns->vs.length=ns.length/\∀ i,i < vs.length->∃ t,vs.getD i .none=.int (ns.getD i 0) t
 | _,_,.nil=>⟨rfl,fun i h=>absurd h (Nat.not_lt_zero _)⟩
 | _,_,.cons n t h=>by
  obtain ⟨h1,h2⟩:=ju h
  refine ⟨congrArg (·+1) h1,fun i hi=>?_⟩
  cases i with
  | zero=>exact ⟨t,rfl⟩
  | succ i=>exact h2 i (by simpa using hi)
theorem jV {f:Nat->Int} {h:Nat->Value}:∀ (l:List Nat),(∀ i∈l,∃ t,h i=.int (f i) t)->Vals (l.map fun i=>V.int (f i)) (l.map h)
 | [],_=>.nil
 | i::l,e=>.cons (e i (List.mem_cons_self ..)) (jV l fun j hj=>e j (List.mem_cons_of_mem _ hj))
theorem pP {pins:List (Addr×Obj)} {s:Shared} {σ:St} {H:Hp} {Q:VK} {h':Heap} {tk:Nat} {vs:List Value} {ns:List Int} (I1:Inv X pins σ H { s with heap:=h',toks:=tk }) (hi:IntsAre vs ns) (hz:vs.length<=sizeLine)
  (q:∀ l g,H l=none->Sx.Cl g 0 ns.length->Sx.So (yI ns) g 0 ns.length->Q (.ref l) (upd H l (.lst ((List.range ns.length).map fun i=>V.int (ns.getD (g i) 0))))) :
  wpAny (model X.prog X.w) X.A.in1 (do
   let l <- newList vs
   let _ <- holding [l] (call (Value.builtin "list.sort") [l] [])
   ret l) (fun fin s'=>∃ v,fin=Fin.done (Flow.ret v)/\EP X pins σ Q v s') X.xe { s with heap:=h',toks:=tk }:=by
 obtain ⟨hN,at_⟩:=ju hi
 refine wpAny_bind (wpAny_newList ?_)
 have hoL:(h'.push (seqObj "list" vs.toArray 0)).get? h'.objs.size=some (seqObj "list" vs.toArray 0):=Heap.get?_push_size _ rfl
 show wpAny _ _ _ _ _ { s with toks:=tk,heap:=h'.push (seqObj "list" vs.toArray 0) }
 refine wpAny_bind (wpAny_holding (wpAny_call_entry slot_list_sort ⟨_,hoL,rfl⟩ entry_list_sort (Sx.sZ (o:=yI ns) (kd:=oneType') hoL hz (fun h2 Q' q'=>?_) (fun h2 i j hi' hj E' Q' q'=>?_) fun g hc hs=>⟨_,rfl,?_⟩) (args_list_sort _)))
 ·obtain ⟨a,b,r,rfl⟩:∃ a b r,vs=a::b::r:=by
   cases vs with
   | nil=>simp at h2
   | cons a vs=>cases vs with
    | nil=>simp at h2
    | cons b r=>exact ⟨a,b,r,rfl⟩
  exact wpAny_of_eq (keyKind_ints hi) q'
 ·obtain ⟨t,e1⟩:=at_ i hi'
  obtain ⟨u,e2⟩:=at_ j hj
  show wpAny _ _ (keyLt' oneType' (vs.getD i .none) (vs.getD j .none)) Q' E' _
  rw [e1,e2,keyLt'_oneType]
  exact Sx.zN true q'
 ·rw [hN] at hc hs ⊢
  obtain ⟨e,he⟩:=sortedHeap_at (out:=((List.range ns.length).map fun i=>vs.getD (g i) .none).toArray) hoL
  have old:∀ b ob,h'.get? b=some ob->(sortedHeap (h'.push (seqObj "list" vs.toArray 0)) h'.objs.size vs ((List.range ns.length).map fun i=>vs.getD (g i) .none).toArray).get? b=some ob:=fun b ob eb=>by
   rw [sortedHeap_old (Nat.ne_of_lt (Heap.lt_size eb)) (by rw [Heap.size_push];exact Nat.lt_succ_of_lt (Heap.lt_size eb))]
   exact Heap.get?_push_of_some _ eb
  refine wpAny_pure ⟨_,rfl,.ref h'.objs.size,_,I1.laid (t':=tk) (o:=.lst ((List.range ns.length).map fun i=>V.int (ns.getD (g i) 0))) old (Nat.le_refl _) ?_,rfl,q _ g (I1.hok.fresh (Nat.le_refl _)) hc hs⟩
  refine ⟨by rw [List.length_map,List.length_range];omega,(List.range ns.length).map fun i=>vs.getD (g i) .none,e,jV _ fun i hi=>at_ _ (by have:=(hc i (Nat.zero_le _) (List.mem_range.mp hi)).2;omega),he⟩
theorem sQ {P:Program} {w:World} {vs:List (Key×Value)}:∀ {acc:List Value} {ns:List Int},vs.map (·.1)=ns.map Sum.inl->acc.length=vs.length->(∀ (j:Nat) v,acc[j]?=some v->∃ k x,vs[j]?=some (k,x)/\(bf P w).is k v=true)->IntsAre acc ns:=by
 intro acc ns hk hl h
 induction acc generalizing vs ns with
 | nil=>cases vs with
  | nil=>cases ns with
   | nil=>exact .nil
   | cons=>cases hk
  | cons=>cases hl
 | cons a acc ih=>cases vs with
  | nil=>cases hl
  | cons v vs=>cases ns with
   | nil=>cases hk
   | cons n ns=>
    rw [List.map_cons,List.map_cons,List.cons.injEq] at hk
    obtain ⟨k,x,e1,e2⟩:=h 0 a rfl
    cases e1
    obtain ⟨e3,e4⟩:=hk
    have e3:k=Sum.inl n:=e3
    subst e3
    obtain ⟨t,rfl⟩:=Value.isInt_shape (k:=n) (v:=a) e2
    exact .cons n t (ih e4 (by simpa using hl) fun j v e=>h (j+1) v (by simpa using e))
theorem mq (hc:X.calm=true):bw X (.builtin "sorted") (fun xs H Q=>∃ (d:Addr) (kvs:List (Key×V)) (ns:List Int),xs=[.ref d]/\H d=some (.dK kvs)/\kvs.map (fun p=>p.1)=ns.map Sum.inl /\
  ∀ l g,H l=none->Sx.Cl g 0 ns.length->Sx.So (yI ns) g 0 ns.length->Q (.ref l) (upd H l (.lst ((List.range ns.length).map fun i=>V.int (ns.getD (g i) 0))))):=by
 intro pins s σ H xs us Q I r h
 obtain ⟨d,kvs,ns,rfl,ed,ek,q⟩:=h
 obtain ⟨u,rfl,rx⟩:=vals1 r
 cases rx
 obtain ⟨z,hd,vs,rel,dd⟩:=AY I.hok ed
 obtain ⟨ep,da⟩:=dd.dictAt
 have kl:kvs.length=vs.length:=rel.length
 have ke:vs.map (·.1)=kvs.map (·.1):=by
  clear ek z dd da kl ed
  unfold KV at rel
  induction rel with
  | nil=>rfl
  | cons h _ ih=>rw [List.map_cons,List.map_cons,ih,h.1]
 refine Calls.call_function_entry kind_sorted plain_sorted entry_sorted (args_sorted1 _) ?_
 unfold Builtin.«sorted»
 refine wpAny_bind (m:=checkCount "sorted" 1 1 _) (wpAny_pure ?_)
 refine wpAny_bind (PySem.W.kdu_collect (PySem.W.kdl_dict hd) (show X.A.in1.handled=none from I.ok.hd hc) da (by omega) fun h' tk acc hk hacc=>?_)
 have al:acc.toList.length=vs.length:=by rw [Array.length_toList];exact hacc.1
 exact pP (s:=s) (I.kept (t':=tk) hk) (sQ (P:=X.prog) (w:=X.w) (ke.trans ek) al fun j v e=>hacc.2 j v (by rw [Array.getElem?_toList] at e;exact e)) (by omega) q
end
end L2
namespace Am
open PySem PySem.Spec PyProof.Rows L2
noncomputable def bF (S:ak) (n:Nat):Option (List (Int×A)):=match S[n]? with
 | some (.cY xs)=>some xs
 | _=>none
theorem di {S:ak} {n:Nat} {xs:List (Int×A)} (h:bF S n=some xs):S[n]?=some (.cY xs):=by
 unfold bF at h
 split at h
 ·rename_i e;cases h;exact e
 ·cases h
theorem mH {S:ak} {n:Nat} {xs:List (Int×A)} (h:S[n]?=some (.cY xs)):bF S n=some xs:=by
 unfold bF;rw [h]
noncomputable def b_ (kvs:List (Int×A)) (k:Int):Option A:=(kvs.find? fun kv=>decide (kv.1=k)).map (·.2)
noncomputable def iR (kvs:List (Int×A)) (k:Int) (v:A):List (Int×A):=
 if (b_ kvs k).isSome=true then kvs.map (fun kv=>if kv.1=k then (kv.1,v) else kv) else kvs++[(k,v)]
section
variable {K:PySem.W.Frag} {ρ ρ':List Addr} {H H':Hp}
theorem sX {p:Int×A} {r:List (Int×A)} {k:Int} (e:p.1=k):b_ (p::r) k=some p.2:=by simp [b_,List.find?_cons,e]
theorem sY {p:Int×A} {r:List (Int×A)} {k:Int} (e:¬ p.1=k):b_ (p::r) k=b_ r k:=by simp [b_,List.find?_cons,e]
theorem DJ {a b:Int} (e:(Sum.inl a:Key)=Sum.inl b):a=b:=by injection e
theorem DI.look:∀ {kvs:List (Int×A)} {ks:List (Key×V)} (k:Int),DI K ρ H kvs ks->(b_ kvs k).isSome=(gv ks (Sum.inl k:Key)).isSome/\∀ x,b_ kvs k=some x->∃ v,gv ks (Sum.inl k:Key)=some v/\AV K ρ H x v
 | [],[],k,_=>⟨rfl,fun x h=>nomatch h⟩
 | p::r,q::r',k,⟨⟨e,a⟩,t⟩=>by
  by_cases c:p.1=k
  ·have c':q.1=(Sum.inl k:Key):=by rw [e,c]
   rw [sX c,gZ c']
   exact ⟨rfl,fun x h=>by cases h;exact ⟨_,rfl,a⟩⟩
  ·have c':¬ q.1=(Sum.inl k:Key):=fun z=>c (DJ (e.symm.trans z))
   rw [sY c,gR c']
   exact DI.look k t
theorem DI.repl {x:A} {v:V} (h:AV K ρ H x v) (k:Int):∀ {kvs:List (Int×A)} {ks:List (Key×V)},DI K ρ H kvs ks->DI K ρ H (kvs.map fun kv=>if kv.1=k then (kv.1,x) else kv) (ks.map fun kv=>if kv.1=(Sum.inl k:Key) then (kv.1,v) else kv)
 | [],[],_=>trivial
 | p::r,q::r',⟨⟨e,a⟩,t⟩=>by
  refine ⟨?_,DI.repl h k t⟩
  dsimp only
  by_cases c:p.1=k
  ·rw [if_pos c,if_pos (by rw [e,c])];exact ⟨e,h⟩
  ·rw [if_neg c,if_neg (fun z=>c (DJ (e.symm.trans z)))];exact ⟨e,a⟩
theorem DI.snoc {x:A} {v:V} (h:AV K ρ H x v) (k:Int):∀ {kvs:List (Int×A)} {ks:List (Key×V)},DI K ρ H kvs ks->DI K ρ H (kvs++[(k,x)]) (ks++[(Sum.inl k,v)])
 | [],[],_=>⟨⟨rfl,h⟩,trivial⟩
 | p::r,q::r',⟨a,t⟩=>⟨a,DI.snoc h k t⟩
theorem DI.put {x:A} {v:V} (h:AV K ρ H x v) (k:Int) {kvs:List (Int×A)} {ks:List (Key×V)} (d:DI K ρ H kvs ks):DI K ρ H (iR kvs k x) (putK ks (Sum.inl k:Key) v):=by
 unfold iR putK
 rw [kc,<- (d.look k).1]
 by_cases c:(b_ kvs k).isSome=true
 ·rw [if_pos c,if_pos c];exact DI.repl h k d
 ·rw [if_neg c,if_neg c];exact DI.snoc h k d
theorem DI.length:∀ {kvs:List (Int×A)} {ks:List (Key×V)},DI K ρ H kvs ks->kvs.length=ks.length
 | [],[],_=>rfl
 | _::_,_::_,⟨_,t⟩=>congrArg (·+1) t.length
theorem DI.keys:∀ {kvs:List (Int×A)} {ks:List (Key×V)},DI K ρ H kvs ks->ks.map (·.1)=kvs.map fun kv=>(Sum.inl kv.1:Key)
 | [],[],_=>rfl
 | _::_,_::_,⟨⟨e,_⟩,t⟩=>by rw [List.map_cons,List.map_cons,e,DI.keys t]
theorem Rel.cY {S:ak} {n:Nat} {a:Addr} {xs:List (Int×A)} (R:Rel K ρ H S) (ha:ρ[n]?=some a) (hS:S[n]?=some (.cY xs)):∃ vs,H a=some (.dK vs)/\DI K ρ H xs vs:=R.at n a _ ha hS
theorem Rel.Dt {S:ak} {p:Addr} {xs:List (Int×A)} {vs:List (Key×V)} (R:Rel K ρ H S) (hp:H p=none) (r:DI K ρ H xs vs):Ext ρ (ρ++[p]) H (upd H p (.dK vs))/\Rel K (ρ++[p]) (upd H p (.dK vs)) (S++[.cY xs])/\(ρ++[p])[S.length]?=some p:=by
 have ex:Ext ρ (ρ++[p]) H (upd H p (.dK vs)):=⟨⟨List.prefix_append _ _,fun a u _ h=>by rw [aL (aT h hp)];exact h⟩,fun a u h _=>by rw [aL (aT h hp)];exact h,fun a h=>by
  rcases List.mem_append.mp h with z | z
  ·exact .inl z
  ·have e:a=p:=by simpa using z
   rw [e];exact .inr hp⟩
 have np:p∉ρ:=R.AZ hp
 have last:(ρ++[p])[S.length]?=some p:=by rw [<- R.len];simp
 refine ⟨ex,⟨by simp [R.len],?_,?_⟩,last⟩
 ·rw [List.nodup_append]
  refine ⟨R.nd,by simp,fun a ha b hb e=>?_⟩
  have:b=p:=by simpa using hb
  exact np (by rw [<- this,<- e];exact ha)
 ·intro n a o h1 h2
  by_cases hn:n < S.length
  ·rw [List.getElem?_append_left (by rw [R.len];exact hn)] at h1
   rw [List.getElem?_append_left hn] at h2
   have na:a≠p:=fun z=>np (by rw [<- z];exact List.mem_of_getElem? h1)
   have:=R.at n a o h1 h2
   cases o with
   | lst ys=>obtain ⟨ws,e,q⟩:=this;exact ⟨ws,by rw [aL na];exact e,q.ext ex⟩
   | dct _ | cY _=>obtain ⟨ws,e,q⟩:=this;exact ⟨ws,by rw [aL na];exact e,q.ext ex⟩
   | ins _ _=>obtain ⟨oo,uu,e⟩:=this;exact ⟨oo,uu,by rw [aL na];exact e⟩
  ·have e:n=S.length:=by
    have:=(List.getElem?_eq_some_iff.mp h2).1
    simp at this
    omega
   subst e
   rw [last] at h1
   cases h1
   simp at h2
   subst h2
   exact ⟨vs,cF,r.ext ex⟩
theorem Rel.iR {S:ak} {n:Nat} {a:Addr} {xs ys:List (Int×A)} {ws:List (Key×V)} (R:Rel K ρ H S) (ha:ρ[n]?=some a) (hS:S[n]?=some (.cY xs)) (r:DI K ρ H ys ws):Ext ρ ρ H (upd H a (.dK ws))/\Rel K ρ (upd H a (.dK ws)) (S.set n (.cY ys)):=by
 obtain ⟨vs,e,_⟩:=R.at n a _ ha hS
 have ex:Ext ρ ρ H (upd H a (.dK ws)):=⟨⟨List.prefix_refl _,fun b u i h=>by
  have:b≠a:=by
   intro z;subst z;rw [e] at h;cases h;exact i
  rw [aL this];exact h⟩,fun b u h n=>by
  rw [aL (fun z=>n (by rw [z];exact List.mem_of_getElem? ha))];exact h,fun _ h=>.inl h⟩
 refine ⟨ex,by rw [List.length_set];exact R.len,R.nd,fun m b o h1 h2=>?_⟩
 by_cases hm:m=n
 ·subst hm
  rw [ha] at h1;cases h1
  rw [List.getElem?_set_self (List.getElem?_eq_some_iff.mp hS).1] at h2
  cases h2
  exact ⟨ws,cF,r.ext ex⟩
 ·rw [List.getElem?_set_ne (Ne.symm hm)] at h2
  have nb:b≠a:=fun z=>by
   subst z
   obtain ⟨l1,e1⟩:=List.getElem?_eq_some_iff.mp ha
   obtain ⟨l2,e2⟩:=List.getElem?_eq_some_iff.mp h1
   exact hm ((List.getElem_inj R.nd).mp (e2.trans e1.symm))
  have:=R.at m b o h1 h2
  cases o with
  | lst ys=>obtain ⟨ws',e',q⟩:=this;exact ⟨ws',by rw [aL nb];exact e',q.ext ex⟩
  | dct _ | cY _=>obtain ⟨ws',e',q⟩:=this;exact ⟨ws',by rw [aL nb];exact e',q.ext ex⟩
  | ins _ _=>obtain ⟨oo,uu,e'⟩:=this;exact ⟨oo,uu,by rw [aL nb];exact e'⟩
end
section
variable {X:Cx} {pos:Pos} {a b:Expr}
noncomputable def iB (x y:A) (S:ak):R A:=match x,y with
 | .ref n,.int k=>opt (bF S n) fun kvs=>opt (b_ kvs k) fun v=>.ok v S
 | _,_=>.no
theorem t7 {x y:A} {S:ak} {P:A->ak->Prop} {E:Str->ak->Prop} (h:(iB x y S).post P E):∃ n k kvs v,x=.ref n/\y=.int k/\bF S n=some kvs/\b_ kvs k=some v/\P v S:=by
 unfold iB at h
 split at h
 ·obtain ⟨kvs,h1,h⟩:=aK h
  obtain ⟨v,h2,h⟩:=aK h
  exact ⟨_,_,kvs,v,rfl,rfl,h1,h2,h⟩
 ·exact h.elim
theorem Dl (hu:X.A.units+64 < cLine):Bw X (r2 X iB):=fun value slice pins s σ H x y v u Q I rx ry ⟨ρ,S,a,b,R,va,vb,h⟩ hs=>by
 obtain ⟨n,k,kvs,z,ha,hb,hn,hz,hP⟩:=t7 h
 subst ha hb
 cases vb
 cases va with
 | @ref p _ hp=>
  obtain ⟨ks,e,d⟩:=R.cY hp (di hn)
  obtain ⟨w,hw,aw⟩:=(d.look k).2 z hz
  have g:lV H p (kV (Sum.inl k)) (gv ks (Sum.inl k)):=lV.k e
  rw [hw] at g
  exact yH (by omega) value slice pins s σ H _ _ v u Q I rx ry ⟨p,w,rfl,g,hP _ _ _ .refl R aw⟩ hs
theorem mR (hu:X.A.units+64 < cLine) {ca cb:Ex} (ha:AE X a ca) (hb:AE X b cb) (hs:lX b:=by exact fun _ _=>rfl):AE X (.Subscript a b pos) (aF iB ca cb):=PE.imp (A1 (Dl hu) ha hb hs) fun σ H Q h=>gT h
noncomputable def lu (o i v:A) (S:ak):R Unit:=match o,i with
 | .ref n,.int k=>opt (bF S n) fun kvs=>gd (kvs.length < sizeLine) (.ok () (S.set n (.cY (iR kvs k v))))
 | _,_=>.no
theorem o8 {x y v:A} {S:ak} {P:Unit->ak->Prop} {E:Str->ak->Prop} (h:(lu x y v S).post P E):∃ n k kvs,x=.ref n/\y=.int k/\bF S n=some kvs/\kvs.length < sizeLine/\P () (S.set n (.cY (iR kvs k v))):=by
 unfold lu at h
 split at h
 ·obtain ⟨kvs,h1,h⟩:=aK h
  obtain ⟨h2,h⟩:=aW h
  exact ⟨_,_,kvs,rfl,rfl,h1,h2,h⟩
 ·exact h.elim
noncomputable def FU (X:Cx):wN:=fun o i v H Q=>∃ ρ S ao ai av,Rel X.K ρ H S/\AV X.K ρ H ao o/\AV X.K ρ H ai i/\AV X.K ρ H av v/\(lu ao ai av S).post (fun _ S'=>∀ ρ' H',Ext ρ ρ' H H'->Rel X.K ρ' H' S'->Q H') (XE X ρ H)
theorem zP (hu:X.A.units+64 < cLine):vd X (FU X):=fun pins s σ H o i v ov iv u Q I ro ri rv h9=>by
 obtain ⟨ρ,S,ao,ai,av,R,h1,h2,h3,h⟩:=h9
 obtain ⟨n,k,kvs,ha,hb,hn,hl,hP⟩:=o8 h
 subst ha hb
 cases h2
 cases h1 with
 | @ref p _ hp=>
  obtain ⟨ks,e,d⟩:=R.cY hp (di hn)
  obtain ⟨ex,R'⟩:=R.iR hp (di hn) (d.put h3 k)
  exact set_dict (by omega) pins s σ H _ _ v ov iv u Q I ro ri rv ⟨p,_,rfl,yr.k (k:=Sum.inl k) e (by rw [<- d.length];exact hl),hP _ _ ex R'⟩
noncomputable def nG (co ci:Ex):Tg:=fun a τ S=>(co τ S).bind fun o S1=>(ci τ S1).bind fun i S2=>(lu o i a S2).bind fun _ S3=>.ok τ S3
theorem jE (hu:X.A.units+64 < cLine) {o i:Expr} {co ci:Ex} (ho:AE X o co) (hi:AE X i ci)
  (ha:∀ v,assign (.Subscript o i pos) X.env v=(do
   let ov <- holding [v] (eval o X.env)
   let iv <- holding [v,ov] (eval i X.env)
   standAt pos
   holding [v,ov,iv] (setItem ov iv v)
   release [v,ov,iv] []):=by intro _;rfl):AG X (.Subscript o i pos) (nG co ci):=PG.imp (w9 ho hi (zP hu) ha) fun v σ H Q h9=>by
 obtain ⟨ρ,S,τ,a,R,r,va,h⟩:=h9
 refine ⟨ρ,S,τ,R,r,aC (aI h) .refl fun o S1 h1 ρ1 H1 x e1 R1 v1=>⟨ρ1,S1,τ,R1,r.ext e1,aC (aI h1) e1 fun i S2 h2 ρ2 H2 y e2 R2 v2=>?_⟩⟩
 refine ⟨ρ2,S2,o,i,a,R2,v1.ext e2,v2,va.ext (e1.trans e2),aC (aI h2) (e1.trans e2) fun _ S3 h3 ρ3 H3 e3 R3=>?_⟩
 exact h3 ρ3 H3 σ ((e1.trans e2).trans e3) R3 (r.ext ((e1.trans e2).trans e3))
noncomputable def j9:Ex:=fun _ S=>.ok (.ref S.length) (S++[.cY []])
theorem jP:AE X (.Dict [] [] pos) j9:=PE.imp xx fun σ H Q ⟨ρ,S,τ,R,r,h⟩ p hp=>by
 obtain ⟨ex,R',hl⟩:=R.Dt (xs:=[]) (vs:=[]) hp trivial
 exact h _ _ _ ex R' (.ref hl)
noncomputable def dk? (a:A) (S:ak):Option Unit:=match a with
 | .ref n=>(bF S n).map fun _=>()
 | _=>none
noncomputable def nh (f:A->List A->ak->R A) (co:Ex) (d:fC):Ex:=fun τ S=>(co τ S).bind fun x S1=>opt (dk? x S1) fun _=>(d τ S1).bind fun as S2=>f x as S2
theorem dk?_ty {K:PySem.W.Frag} {ρ:List Addr} {H:Hp} {S:ak} {x:A} {v:V} {u:Unit} (R:Rel K ρ H S) (a:AV K ρ H x v) (e:dk? x S=some u):ES K "dict" v H:=by
 cases a with
 | @ref p n h=>
  obtain ⟨xs,hx,_⟩:=Option.map_eq_some_iff.mp e
  obtain ⟨vs,h1,_⟩:=R.cY h (di hx)
  exact .inr (.inr (.inl ⟨rfl,.inl ⟨vs,h1⟩⟩))
 | _=>cases e
theorem mU {o e:Expr} {es:List Expr} {name:Str} {id:String} {apos cpos:Pos} {f:A->List A->ak->R A} {co:Ex} {d:fC} (slot:Slot "dict" name id) (hty:typeOf (.builtin id)=pure (.type "method_descriptor")) (hm:Ep X id (rM X f)) (ho:AE X o co) (ha:AL X (e::es) d)
  (hbase:attributeBase o name X.env (eval o X.env)=eval o X.env:=by rfl)
  (hfew:((backTo cpos (starEach (e::es) X.env)).all (fun x=>!x.1) && (backToKw cpos (keywordEach [] X.env)).all (fun x=>x.1.isSome)
   && decide ((e::es).length+([]:List Keyword).length+(if ([]:List Keyword).isEmpty then 0 else 1) < 30))=true:=by rfl)
  (hline:(apos.endLine == cpos.line)=true:=by rfl) (hs:starEach (e::es) X.env=(false,eval e X.env)::starEach es X.env:=by rfl) (hplain:(backTo cpos (starEach es X.env)).any (·.1)=false:=by rfl) :
  AE X (.Call (.Attribute o name apos) (e::es) [] cpos) (nh f co d):=PE.imp (Ah PySem.F.plainAttrs_dict slot hty hm ho ha hbase hfew hline hs hplain) fun σ H Q h9=>by
 obtain ⟨ρ,S,τ,R,r,h⟩:=h9
 refine ⟨ρ,S,τ,R,r,aC (aI h) .refl fun x S1 h1 ρ1 H1 v e1 R1 v1=>?_⟩
 obtain ⟨xs,hx,h1⟩:=aK h1
 refine ⟨dk?_ty R1 v1 hx,ρ1,S1,τ,R1,r.ext e1,aC (aI h1) e1 fun as S2 h2 ρ2 H2 vs e2 R2 v2=>?_⟩
 exact ⟨ρ2,S2,x,as,R2,v1.ext e2,v2,aC h2 (e1.trans e2) fun _ _ z=>z.ext (e1.trans e2)⟩
noncomputable def gp (o:A) (as:List A) (S:ak):R A:=match o,as with
 | .ref n,[.int k,y]=>opt (bF S n) fun kvs=>.ok ((b_ kvs k).getD y) S
 | _,_=>.no
theorem pF {x:A} {as:List A} {S:ak} {P:A->ak->Prop} {E:Str->ak->Prop} (h:(gp x as S).post P E):∃ n k y kvs,x=.ref n/\as=[.int k,y]/\bF S n=some kvs/\P ((b_ kvs k).getD y) S:=by
 unfold gp at h
 split at h
 ·obtain ⟨kvs,h1,h⟩:=aK h
  exact ⟨_,_,_,kvs,rfl,rfl,h1,h⟩
 ·exact h.elim
theorem lS (hu:X.A.units+64 < cLine):Ep X "dict.get" (rM X gp):=fun pins s σ H x vs v us Q I rx rv h9=>by
 obtain ⟨ρ,S,o,as,R,vo,va,h⟩:=h9
 obtain ⟨n,k,y,kvs,ho,has,hn,hP⟩:=pF h
 subst ho has
 obtain ⟨w1,w2,rfl,hz,hy⟩:=Ea va
 cases hz
 cases vo with
 | @ref p _ hp=>
  obtain ⟨ks,h1,dv⟩:=R.cY hp (di hn)
  cases rx
  obtain ⟨u1,u2,rfl,r1,r2⟩:=vals2 rv
  refine C2 (by omega) I (lV.k (k:=Sum.inl k) h1) r1 r2 fun w' s' I' rw'=>⟨_,H,I',rw',hP _ _ _ .refl R ?_⟩
  obtain ⟨l1,l2⟩:=dv.look k
  cases e1:b_ kvs k with
  | none=>
   rw [e1] at l1
   cases e2:gv ks (Sum.inl k:Key) with
   | none=>exact hy
   | some _=>rw [e2] at l1;cases l1
  | some x1=>
   obtain ⟨v1,e2,a1⟩:=l2 x1 e1
   rw [e2]
   exact a1
end
noncomputable def zx:List A->Option (List (Int×A))
 | []=>some []
 | .tup [.int k,x]::r=>(zx r).map fun ps=>(k,x)::ps
 | _=>none
noncomputable def zm (ps:List (Int×A)):List (Int×A):=ps.foldl (fun acc p=>iR acc p.1 p.2) []
section
variable {K:PySem.W.Frag} {ρ:List Addr} {H:Hp}
theorem zk {x y:A} {vs:List V} (r:AVs K ρ H [x,y] vs):∃ v w,vs=[v,w]/\AV K ρ H x v/\AV K ρ H y w:=by
 cases r with
 | cons h t=>cases t with
  | cons h' t'=>cases t';exact ⟨_,_,rfl,h,h'⟩
theorem u9 {x:A} {xs:List A} {ps:List (Int×A)} (e:zx (x::xs)=some ps):∃ k y ps',x=.tup [.int k,y]/\zx xs=some ps'/\ps=(k,y)::ps':=by
 unfold zx at e
 split at e
 ·rename_i e2;cases e2
 ·rename_i k y r e2
  cases e2
  obtain ⟨ps',h1,h2⟩:=Option.map_eq_some_iff.mp e
  exact ⟨_,_,_,rfl,h1,h2.symm⟩
 ·cases e
theorem Di:∀ {xs:List A} {vs:List V} {ps:List (Int×A)},AVs K ρ H xs vs->zx xs=some ps ->
  ∃ (rs:List Addr) (qs:List (Int×V)),vs=rs.map V.ref/\rs.length=qs.length/\(∀ (i:Nat) (r:Addr) (q:Int×V),rs[i]?=some r->qs[i]?=some q->dF K H r [.int q.1,q.2]) /\
   ∀ as bs,DI K ρ H as bs->DI K ρ H (ps.foldl (fun acc p=>iR acc p.1 p.2) as) (qs.foldl (fun acc p=>putK acc (Sum.inl p.1) p.2) bs):=by
 intro xs
 induction xs with
 | nil=>intro vs ps r e;cases r;cases e;exact ⟨[],[],rfl,rfl,fun i r q h=>by simp at h,fun as bs h=>h⟩
 | cons x xs ih=>
  intro vs ps r e
  obtain ⟨k,y,ps',rfl,e1,rfl⟩:=u9 e
  cases r with
  | cons h t=>
   obtain ⟨rs,qs,rfl,hl,hh,hd⟩:=ih t e1
   cases h with
   | @tup a _ us h r=>
    obtain ⟨v,w,rfl,h1,h2⟩:=zk r
    cases h1
    refine ⟨a::rs,(k,w)::qs,rfl,by rw [List.length_cons,List.length_cons,hl],fun i r q e1 e2=>?_,fun as bs d=>hd _ _ (d.put h2 k)⟩
    cases i with
    | zero=>cases e1;cases e2;exact dF.of h
    | succ i=>exact hh i r q (by simpa using e1) (by simpa using e2)
end
section
variable {X:Cx}
noncomputable def o7 (x:A) (S:ak):R A:=match x with
 | .ref n=>opt (aq S n) fun xs=>opt (zx xs) fun ps=>.ok (.ref S.length) (S++[.cY (zm ps)])
 | _=>.no
theorem zA (hc:X.calm=true):bw X (.type "dict") (rN X (f1 o7)):=bw.imp (pC hc) fun vs H Q h0=>by
 obtain ⟨w,rfl,ρ,S,x,R,hv,h⟩:=C6 h0
 clear h0
 cases hv with
 | ref hp=>
  rename_i p n
  obtain ⟨xs,hn,h⟩:=aK h
  obtain ⟨ps,hb,h⟩:=aK h
  obtain ⟨us,h1,r⟩:=R.lst hp (aN hn)
  obtain ⟨rs,qs,rfl,hl,hh,hd⟩:=Di r hb
  refine ⟨p,rs,qs,rfl,dW.of h1,hl,hh,fun l hl'=>?_⟩
  obtain ⟨ex,R',hl⟩:=R.Dt (xs:=zm ps) (vs:=E_ qs) hl' (hd [] [] trivial)
  exact h _ _ _ ex R' (.ref hl)
 | _=>exact h.elim
noncomputable def iE (x:A) (S:ak):R A:=match x with
 | .ref n=>opt (bF S n) fun kvs=>.ok (.ref S.length) (S++[.lst ((sortI (kvs.map Prod.fst)).map .int)])
 | _=>.no
theorem yM {ns:List Int} {g:Nat->Nat} (c:Sx.Cl g 0 ns.length) (so:Sx.So (yI ns) g 0 ns.length):(List.range ns.length).map (fun i=>ns.getD (g i) 0)=sortI ns:=by
 refine zh ?_ ?_ (kg ns)
 ·refine List.Perm.trans ?_ (sortI_perm ns).symm
  have p:=pW (N:=ns.length) (g:=g) (fun i hi=>(c i (Nat.zero_le _) hi).2) fun i j hij hj z=>by
   have:=so i j (Nat.zero_le _) hij hj
   rw [z] at this
   exact this.zK
  have:=p.map fun i=>ns.getD i 0
  rw [List.map_map,range_getD] at this
  exact this
 ·rw [List.pairwise_iff_getElem]
  intro i j hi hj hij
  rw [List.length_map,List.length_range] at hi hj
  rw [List.getElem_map,List.getElem_map,List.getElem_range,List.getElem_range]
  have:=of_decide_eq_false (so i j (Nat.zero_le _) hij hj).ge
  omega
theorem se (hc:X.calm=true):bw X (.builtin "sorted") (rN X (f1 iE)):=bw.imp (mq hc) fun vs H Q h0=>by
 obtain ⟨w,rfl,ρ,S,x,R,hv,h⟩:=C6 h0
 clear h0
 cases hv with
 | ref hp=>
  rename_i p n
  obtain ⟨kvs,hn,h⟩:=aK h
  obtain ⟨ks,g1,dv⟩:=R.cY hp (di hn)
  refine ⟨p,ks,kvs.map Prod.fst,rfl,g1,by rw [dv.keys,List.map_map];rfl,fun l g hl' hc hs=>?_⟩
  have av:AVs X.K ρ H ((sortI (kvs.map Prod.fst)).map .int) ((List.range (kvs.map Prod.fst).length).map fun i=>V.int ((kvs.map Prod.fst).getD (g i) 0)):=by
   rw [<- yM hc hs,List.map_map]
   exact vg fun i _=>.int _
  exact dQ R av .refl h l hl'
 | _=>exact h.elim
@[irreducible] noncomputable def big:Nat:=2 ^ 4096
theorem qy:big=2 ^ 4096:=by unfold big;rfl
theorem nX {i:Int} (h:i.natAbs < big):Builtin.Int.intBits i<=2 ^ 20:=by
 rw [qy] at h
 exact Nat.le_trans (intBits_le h) (by decide)
noncomputable def nu (a b:A) (S:ak):R A:=match a,b with
 | .int i,.int j=>gd (i.natAbs < big/\j.natAbs < big) (.ok (.int (i * j)) S)
 | _,_=>.no
theorem xj:dO X (binaryOp .Mult) (r2 X nu):=fun pins s σ H x y v u Q I rx ry h9=>by
 obtain ⟨ρ,S,a,b,R,va,vb,h⟩:=h9
 cases va with
 | int i=>cases vb with
  | int j=>
   obtain ⟨⟨h1,h2⟩,h⟩:=aW h
   obtain ⟨t,rfl⟩:∃ t,v=Value.int i t:=rx
   obtain ⟨t',rfl⟩:∃ t,u=Value.int j t:=ry
   exact mul_int ⟨.int _,H,I.tok _,⟨_,rfl⟩,h _ _ _ .refl R (.int _)⟩ (IntMulOk.of_bits (nX h1) (nX h2))
  | _=>exact h.elim
 | _=>exact h.elim
end
theorem ze:bootBuiltins "dict" = some (.type "dict"):=by decide +kernel
end Am
namespace Bl
open L2
theorem take_snoc {l:List Int} {i:Nat} (h:i < l.length):l.take (i+1)=l.take i++[l[i]]:=by
 rw [List.take_succ,List.getElem?_eq_getElem h];rfl
end Bl
namespace Am
open PySem L2 Bl
end Am
namespace Tb
noncomputable def fg (r:List Int) (x:Int):Nat:=r.findIdx fun y=>decide (x < y)
noncomputable def put:List (List Int)->Int->List (List Int)
 | [],x=>[[x]]
 | r::rs,x=>if fg r x=r.length then (r++[x])::rs else r.set (fg r x) x::put rs (r.getD (fg r x) 0)
noncomputable def row:List (List Int)->Int->Nat
 | [],_=>0
 | r::rs,x=>if fg r x=r.length then 0 else row rs (r.getD (fg r x) 0)+1
noncomputable def add:List (List Int)->Nat->Int->List (List Int)
 | [],_,k=>[[k]]
 | q::qs,0,k=>(q++[k])::qs
 | q::qs,i+1,k=>q::add qs i k
noncomputable def gs (r:List Int) (x:Int):List Nat:=(List.range r.length).filter fun k=>decide (x < r.getD k 0)
end Tb
namespace Am
open PySem L2
noncomputable def Rows (S:ak):List Nat->List (List Int)->Prop
 | [],[]=>True
 | r::rs,x::T=>aq S r=some (x.map .int)/\Rows S rs T
 | _,_=>False
structure Tab (S:ak) (n:Nat) (rs:List Nat) (T:List (List Int)):Prop where
 top:aq S n=some (rs.map .ref)
 rows:Rows S rs T
 nd:(n::rs).Nodup
theorem vP {S:ak} {a b:A} {k:Bool} (h:kq S 12 a b=some k):eW false a b S=.ok (.bl k) S:=by unfold eW;rw [h];rfl
theorem jJ {S:ak} {a b:A} {k:Bool} (h:kq S 12 a b=some k):eW true a b S=.ok (.bl (!k)) S:=by unfold eW;rw [h];rfl
theorem wO {xs:List A} {n:Nat} {cap:List (Option Nat)} {src:Ic} {t:Te} {e:Ex} {τ:List A} {S:ak} (hs:src τ S=.ok (d9 n xs.length) S) (hx:aq S n=some xs) (p:A->Bool) (f:A->A)
  (ht:∀ x∈xs,t (x::cM cap τ) S=.ok (p x) S) (he:∀ x∈xs,p x=true->e (x::cM cap τ) S=.ok (f x) S) (hl:xs.length<=16777216) :
  bR (none::cap) src (bI 0) t e τ S=.ok (.ref S.length) (S++[.lst ((xs.filter p).map f)]):=by
 have hm:∀ i,i < xs.length->xs.getD i .unb∈xs:=fun i hi=>by
  rw [List.getD_eq_getElem?_getD,List.getElem?_eq_getElem hi];exact List.getElem_mem hi
 rw [lB hs (fun i=>xs.getD i .unb) (fun i=>p (xs.getD i .unb)) (fun i=>f (xs.getD i .unb)) (fun i hi=>by
  have hi:i < xs.length:=hi
  show (aq S n).bind _=_
  rw [hx,Option.bind_some,List.getD_eq_getElem?_getD,List.getElem?_eq_getElem hi];rfl) (by
   show (match aq S n with
    | some ys=>decide (ys.length<=xs.length)
    | none=>false)=true
   rw [hx]
   simp) (fun i hi=>ht _ (hm i hi)) (fun i hi=>he _ (hm i hi)) hl]
 have:=iS xs p f .unb
 show R.ok _ (S++[O.lst (((List.range xs.length).filter _).map _)])=_
 rw [this]
theorem getD_at {r:List Int} {k:Nat} (h:k < r.length):r[k]?=some (r.getD k 0):=by rw [List.getD_eq_getElem?_getD,List.getElem?_eq_getElem h];rfl
end Am
namespace Po
open Am
noncomputable abbrev Pl:=List (Int×Int)
noncomputable def val (d:Pl) (k:Int):Int:=((d.find? fun p=>decide (p.1=k)).map (·.2)).getD 0
noncomputable def has (d:Pl) (k:Int):Bool:=d.any fun p=>decide (p.1=k)
noncomputable def put (d:Pl) (k v:Int):Pl:=if has d k=true then d.map (fun p=>if p.1=k then (p.1,v) else p) else d++[(k,v)]
noncomputable def acc (d:Pl) (k v:Int):Pl:=put d k (val d k+v)
noncomputable def cf:Pl->Int->Int
 | [],_=>0
 | p::l,k=>(if p.1=k then p.2 else 0)+cf l k
theorem cW {p:Int×Int} {d:Pl} {k:Int}:val (p::d) k=if p.1=k then p.2 else val d k:=by
 unfold val
 rw [List.find?_cons]
 by_cases h:p.1=k
 ·rw [decide_eq_true h,if_pos h];rfl
 ·rw [decide_eq_false h,if_neg h]
theorem jO {p:Int×Int} {d:Pl} {k:Int}:has (p::d) k=(decide (p.1=k) || has d k):=rfl
theorem iw {d:Pl} {k:Int}:has d k=true ↔ k∈d.map Prod.fst:=by
 unfold has
 rw [List.any_eq_true,List.mem_map]
 constructor
 ·rintro ⟨p,h1,h2⟩;exact ⟨p,h1,of_decide_eq_true h2⟩
 ·rintro ⟨p,h1,h2⟩;exact ⟨p,h1,decide_eq_true h2⟩
theorem xJ {d:Pl} {k:Int} (h:has d k=false):val d k=0:=by
 induction d with
 | nil=>rfl
 | cons p d ih=>
  rw [jO,Bool.or_eq_false_iff] at h
  rw [cW,if_neg (of_decide_eq_false h.1),ih h.2]
theorem zF {d:Pl} {k v j:Int} (h:has d k=false):val (d++[(k,v)]) j=if j=k then v else val d j:=by
 induction d with
 | nil=>
  show val [(k,v)] j=_
  rw [cW]
  by_cases c:k=j
  ·rw [if_pos c,if_pos c.symm]
  ·rw [if_neg c,if_neg (fun z=>c z.symm)]
 | cons p d ih=>
  rw [jO,Bool.or_eq_false_iff] at h
  have:=of_decide_eq_false h.1
  rw [List.cons_append,cW,cW,ih h.2]
  by_cases c:p.1=j
  ·rw [if_pos c,if_pos c,if_neg (fun z=>this (c.trans z))]
  ·rw [if_neg c,if_neg c]
theorem zB {d:Pl} {k v j:Int}:val (d.map fun p=>if p.1=k then (p.1,v) else p) j=if j=k/\has d k=true then v else val d j:=by
 induction d with
 | nil=>
  rw [if_neg (fun z=>by cases z.2)];rfl
 | cons p d ih=>
  rw [List.map_cons,cW,cW,ih,jO]
  by_cases c:p.1=k
  ·rw [if_pos c,decide_eq_true c,Bool.true_or]
   by_cases e:j=k
   ·rw [if_pos (show p.1=j by omega),if_pos ⟨e,rfl⟩]
   ·rw [if_neg (show ¬ p.1=j by omega),if_neg (fun z=>e z.1),if_neg (fun z=>e z.1),if_neg (show ¬ p.1=j by omega)]
  ·rw [if_neg c,decide_eq_false c,Bool.false_or]
   by_cases e:p.1=j
   ·rw [if_pos e,if_pos e,if_neg (fun z=>c (e.trans z.1))]
   ·rw [if_neg e,if_neg e]
theorem zG {d:Pl} {k v j:Int}:val (put d k v) j=if j=k then v else val d j:=by
 unfold put
 cases h:has d k with
 | true=>
  rw [if_pos rfl,zB,h]
  by_cases c:j=k
  ·rw [if_pos ⟨c,rfl⟩,if_pos c]
  ·rw [if_neg (fun z=>c z.1),if_neg c]
 | false=>rw [if_neg (by simp),zF h]
theorem yY {d:Pl} {k v j:Int}:val (acc d k v) j=val d j+if k=j then v else 0:=by
 unfold acc
 rw [zG]
 by_cases c:j=k
 ·subst c;rw [if_pos rfl,if_pos rfl]
 ·rw [if_neg c,if_neg (fun z=>c z.symm),Int.add_zero]
theorem xK {d:Pl} {k v:Int}:(put d k v).map Prod.fst=if has d k=true then d.map Prod.fst else d.map Prod.fst++[k]:=by
 unfold put
 split
 ·rw [List.map_map]
  apply List.map_congr_left
  intro p _
  show (if p.1=k then (p.1,v) else p).1=p.1
  split <;> rfl
 ·rw [List.map_append];rfl
theorem Cp {d:Pl} {k v:Int} (h:(d.map Prod.fst).Nodup):((put d k v).map Prod.fst).Nodup:=by
 rw [xK]
 split
 ·exact h
 ·rename_i c
  rw [List.nodup_append]
  refine ⟨h,List.pairwise_singleton _ _,fun a ha b hb z=>c ?_⟩
  rw [List.mem_singleton] at hb
  rw [iw,<- hb,<- z];exact ha
theorem zy {d:Pl} {k v:Int}:(put d k v).length<=d.length+1:=by
 unfold put
 split
 ·rw [List.length_map];omega
 ·rw [List.length_append];exact Nat.le_refl _
noncomputable def Bd (c:Nat) (d:Pl):Prop:=∀ p∈d,p.2.natAbs<=c
theorem Bd.val {c:Nat} {d:Pl} (h:Bd c d) (k:Int):(val d k).natAbs<=c:=by
 induction d with
 | nil=>exact Nat.zero_le _
 | cons p d ih=>
  rw [cW]
  split
  ·exact h p (List.mem_cons_self ..)
  ·exact ih fun q hq=>h q (List.mem_cons_of_mem _ hq)
theorem Bd.put {c:Nat} {d:Pl} {k v:Int} (h:Bd c d) (hv:v.natAbs<=c):Bd c (put d k v):=fun p hp=>by
 unfold Po.put at hp
 split at hp
 ·obtain ⟨q,hq,rfl⟩:=List.mem_map.mp hp
  split
  ·exact hv
  ·exact h q hq
 ·rcases List.mem_append.mp hp with z | z
  ·exact h p z
  ·rw [List.mem_singleton.mp z];exact hv
theorem Bd.mono {c c':Nat} {d:Pl} (h:Bd c d) (l:c<=c'):Bd c' d:=fun p hp=>Nat.le_trans (h p hp) l
theorem Bd.acc {c m:Nat} {d:Pl} {k v:Int} (h:Bd c d) (hv:v.natAbs<=m):Bd (c+m) (acc d k v):=by
 refine Bd.put (h.mono (Nat.le_add_right _ _)) ?_
 have:=h.val k
 omega
noncomputable def dc (d ps:Pl):Pl:=ps.foldl (fun d p=>acc d p.1 p.2) d
theorem xS (d:Pl):dc d []=d:=rfl
theorem jG (d ps qs:Pl):dc d (ps++qs)=dc (dc d ps) qs:=by unfold dc;rw [List.foldl_append]
theorem oS (ps:Pl):∀ (d:Pl) (k:Int),val (dc d ps) k=val d k+cf ps k:=by
 induction ps with
 | nil=>intro d k;rw [xS];show _=_+0;rw [Int.add_zero]
 | cons p ps ih=>
  intro d k
  show val (dc (acc d p.1 p.2) ps) k=_
  rw [ih,yY]
  show _=_+(_+_)
  rw [Int.add_assoc]
theorem jl (ps:Pl):∀ {d:Pl},(d.map Prod.fst).Nodup->((dc d ps).map Prod.fst).Nodup:=by
 induction ps with
 | nil=>intro d h;exact h
 | cons p ps ih=>intro d h;exact ih (Cp h)
theorem b8 (ps:Pl):∀ (d:Pl),(dc d ps).length<=d.length+ps.length:=by
 induction ps with
 | nil=>intro d;exact Nat.le_refl _
 | cons p ps ih=>
  intro d
  have h1:=ih (acc d p.1 p.2)
  have h2:(acc d p.1 p.2).length<=d.length+1:=zy
  show (dc (acc d p.1 p.2) ps).length<=_
  rw [List.length_cons]
  omega
theorem Bd.dc {m:Nat} {ps:Pl} (hp:Bd m ps):∀ {c:Nat} {d:Pl},Bd c d->Bd (c+ps.length * m) (dc d ps):=by
 induction ps with
 | nil=>intro c d h;rw [List.length_nil,Nat.zero_mul,Nat.add_zero];exact h
 | cons p ps ih=>
  intro c d h
  have:=ih (fun q hq=>hp q (List.mem_cons_of_mem _ hq)) (h.acc (k:=p.1) (hp p (List.mem_cons_self ..)))
  rw [List.length_cons,Nat.succ_mul]
  refine Bd.mono this ?_
  omega
structure Ok (l:Pl):Prop where
 up:l.Pairwise fun p q=>p.1 < q.1
 nz:∀ p∈l,p.2≠0
theorem Ok.tail {p:Int×Int} {l:Pl} (h:Ok (p::l)):Ok l:=⟨(List.pairwise_cons.mp h.up).2,fun q hq=>h.nz q (List.mem_cons_of_mem _ hq)⟩
theorem nZ {l:Pl} {k:Int} (h:∀ p∈l,k < p.1):cf l k=0:=by
 induction l with
 | nil=>rfl
 | cons p l ih=>
  show (if p.1=k then p.2 else 0)+cf l k=0
  have:=h p (List.mem_cons_self ..)
  rw [if_neg (by omega),ih fun q hq=>h q (List.mem_cons_of_mem _ hq)];rfl
theorem Ok.head {p:Int×Int} {l:Pl} (h:Ok (p::l)):cf (p::l) p.1=p.2:=by
 show (if p.1=p.1 then p.2 else 0)+cf l p.1=p.2
 rw [if_pos rfl,nZ (List.pairwise_cons.mp h.up).1,Int.add_zero]
theorem Ok.low {p:Int×Int} {l:Pl} (h:Ok (p::l)) {k:Int} (hk:k < p.1):cf (p::l) k=0:=nZ fun q hq=>by
 rcases List.mem_cons.mp hq with rfl | z
 ·exact hk
 ·have:=(List.pairwise_cons.mp h.up).1 q z;omega
theorem uniq:∀ {l m:Pl},Ok l->Ok m->(∀ k,cf l k=cf m k)->l=m
 | [],[],_,_,_=>rfl
 | [],q::m,_,h,e=>by
  have:=e q.1
  rw [h.head] at this
  exact absurd this.symm (h.nz q (List.mem_cons_self ..))
 | p::l,[],h,_,e=>by
  have:=e p.1
  rw [h.head] at this
  exact absurd this (h.nz p (List.mem_cons_self ..))
 | p::l,q::m,h,h',e=>by
  have n1:=h.nz p (List.mem_cons_self ..)
  have n2:=h'.nz q (List.mem_cons_self ..)
  have e1:p.1=q.1:=by
   rcases Int.lt_trichotomy p.1 q.1 with c | c | c
   ·have:=e p.1;rw [h.head,h'.low c] at this;exact absurd this n1
   ·exact c
   ·have:=e q.1;rw [h'.head,h.low c] at this;exact absurd this.symm n2
  have e2:p.2=q.2:=by
   have:=e p.1
   rw [h.head,e1,h'.head] at this
   exact this
  have e3:p=q:=Prod.ext e1 e2
  subst e3
  rw [uniq h.tail h'.tail fun k=>by
   have:(if p.1=k then p.2 else 0)+cf l k=(if p.1=k then p.2 else 0)+cf m k:=e k
   omega]
noncomputable def m8 (d:Pl):Pl:=((sortI (d.map Prod.fst)).filter fun k=>val d k != 0).map fun k=>(k,val d k)
theorem zX {ks:List Int} (h:ks.Nodup):(sortI ks).Pairwise (· < ·):=by
 have p:=kg ks
 have n:(sortI ks).Nodup:=(sortI_perm ks).nodup_iff.mpr h
 have:(sortI ks).Pairwise fun a b=>a<=b/\a≠b:=p.and n
 exact this.imp fun ⟨a,b⟩=>by omega
theorem mE {d:Pl} (h:(d.map Prod.fst).Nodup):Ok (m8 d):=by
 refine ⟨?_,fun p hp=>?_⟩
 ·unfold m8
  rw [List.pairwise_map]
  exact (zX h).filter _
 ·obtain ⟨k,hk,rfl⟩:=List.mem_map.mp hp
  have:=(List.mem_filter.mp hk).2
  simpa using this
theorem w_ {d:Pl} {k:Int}:∀ {ks:List Int},ks.Nodup->cf (ks.map fun j=>(j,val d j)) k=if k∈ks then val d k else 0
 | [],_=>by rw [if_neg (by simp)];rfl
 | j::ks,h=>by
  obtain ⟨h1,h2⟩:=List.nodup_cons.mp h
  show (if j=k then val d j else 0)+cf (ks.map fun j=>(j,val d j)) k=_
  rw [w_ h2]
  by_cases c:j=k
  ·subst c
   rw [if_pos rfl,if_neg h1,if_pos (List.mem_cons_self ..),Int.add_zero]
  ·rw [if_neg c,Int.zero_add]
   by_cases e:k∈ks
   ·rw [if_pos e,if_pos (List.mem_cons_of_mem _ e)]
   ·rw [if_neg e,if_neg fun z=>(List.mem_cons.mp z).elim (fun z=>c z.symm) e]
theorem v9 {d:Pl} (h:(d.map Prod.fst).Nodup) (k:Int):cf (m8 d) k=val d k:=by
 unfold m8
 rw [w_ (((sortI_perm _).nodup_iff.mpr h).filter _)]
 split
 ·rfl
 ·rename_i c
  cases e:has d k with
  | false=>exact (xJ e).symm
  | true=>
   by_cases z:val d k=0
   ·exact z.symm
   ·exact absurd (List.mem_filter.mpr ⟨(sortI_perm _).mem_iff.mpr (iw.mp e),by simpa using z⟩) c
theorem CQ {d e:Pl} (h:(d.map Prod.fst).Nodup) (h':(e.map Prod.fst).Nodup) (hv:∀ k,val d k=val e k):m8 d=m8 e:=
 uniq (mE h) (mE h') fun k=>by rw [v9 h,v9 h',hv]
theorem Ok.nd {l:Pl} (h:Ok l):(l.map Prod.fst).Nodup:=by
 unfold List.Nodup
 rw [List.pairwise_map]
 exact h.up.imp fun a=>by omega
theorem BS {l:Pl} (h:(l.map Prod.fst).Nodup) (k:Int):val l k=cf l k:=by
 induction l with
 | nil=>rfl
 | cons p l ih=>
  obtain ⟨h1,h2⟩:=List.nodup_cons.mp h
  rw [cW]
  show _=(if p.1=k then p.2 else 0)+cf l k
  rw [<- ih h2]
  by_cases c:p.1=k
  ·have:has l k=false:=by
    cases e:has l k with
    | false=>rfl
    | true=>exact absurd (iw.mp e) (by rw [<- c];exact h1)
   rw [if_pos c,if_pos c,xJ this,Int.add_zero]
  ·rw [if_neg c,if_neg c,Int.zero_add]
noncomputable def xY (d ps:Pl):Pl:=ps.foldl (fun d p=>put d p.1 p.2) d
theorem rP:∀ (ps d:Pl),((d++ps).map Prod.fst).Nodup->xY d ps=d++ps
 | [],d,_=>by rw [List.append_nil];rfl
 | p::ps,d,h=>by
  have hn:has d p.1=false:=by
   cases e:has d p.1 with
   | false=>rfl
   | true=>
    rw [List.map_append,List.nodup_append] at h
    exact absurd rfl (h.2.2 _ (iw.mp e) p.1 (List.mem_map_of_mem (List.mem_cons_self ..)))
  have e:put d p.1 p.2=d++[p]:=by unfold put;rw [hn];rfl
  show xY (put d p.1 p.2) ps=_
  rw [e,rP ps (d++[p]) (by rw [List.append_assoc];exact h),List.append_assoc];rfl
theorem y_ {l:Pl} (h:Ok l):xY [] l=l:=rP l [] h.nd
noncomputable def plus (a b:Pl):Pl:=m8 (dc a b)
noncomputable def oF (a b:Pl):Pl:=m8 (dc [] (a++b))
theorem zz {a b:Pl} (h:Ok a):plus a b=oF a b:=by
 refine CQ (jl _ h.nd) (jl _ List.nodup_nil) fun k=>?_
 rw [oS,oS,BS h.nd]
 have:∀ (a b:Pl),cf (a++b) k=cf a k+cf b k:=fun a b=>by
  induction a with
  | nil=>exact (Int.zero_add _).symm
  | cons p a ih=>
   show _+cf (a++b) k=_+_+_
   rw [ih,Int.add_assoc]
 rw [this]
 show _=0+_
 rw [Int.zero_add]
theorem wB (a b:Pl):Ok (oF a b):=mE (jl _ List.nodup_nil)
noncomputable def oW (a b:Pl):Pl:=a.flatMap fun p=>b.map fun q=>(p.1+q.1,p.2 * q.2)
noncomputable def times (a b:Pl):Pl:=m8 (dc [] (oW a b))
theorem fS (a b:Pl):Ok (times a b):=mE (jl _ List.nodup_nil)
theorem xU (a:Pl) (p:Int×Int) (b:Pl):oW (a++[p]) b=oW a b++b.map fun q=>(p.1+q.1,p.2 * q.2):=by
 unfold oW
 rw [List.flatMap_append,List.flatMap_cons,List.flatMap_nil,List.append_nil]
theorem gf (a b:Pl):(oW a b).length=a.length * b.length:=by
 induction a with
 | nil=>simp [oW]
 | cons p a ih=>
  show ((b.map _)++oW a b).length=_
  rw [List.length_append,List.length_map,ih,List.length_cons,Nat.succ_mul]
  omega
theorem Bd.oW {c c':Nat} {a b:Pl} (h:Bd c a) (h':Bd c' b):Bd (c * c') (oW a b):=fun r hr=>by
 obtain ⟨p,hp,hr⟩:=List.mem_flatMap.mp hr
 obtain ⟨q,hq,rfl⟩:=List.mem_map.mp hr
 show (p.2 * q.2).natAbs<=_
 rw [Int.natAbs_mul]
 exact Nat.mul_le_mul (h p hp) (h' q hq)
theorem Bd.m8 {c:Nat} {d:Pl} (h:Bd c d):Bd c (m8 d):=fun p hp=>by
 obtain ⟨k,_,rfl⟩:=List.mem_map.mp hp
 exact h.val k
theorem mz (d:Pl):(m8 d).length<=d.length:=by
 unfold Po.m8
 rw [List.length_map]
 refine Nat.le_trans (List.length_filter_le _ _) ?_
 rw [(sortI_perm _).length_eq,List.length_map]
 exact Nat.le_refl _
noncomputable def turn (a:Pl):Pl:=a.reverse.map fun p=>(-p.1,p.2)
theorem yC {a:Pl} (h:Ok a):Ok (turn a):=by
 refine ⟨?_,fun p hp=>?_⟩
 ·unfold turn
  rw [List.pairwise_map,List.pairwise_reverse]
  exact h.up.imp fun c=>by show _ < _;simp;omega
 ·obtain ⟨q,hq,rfl⟩:=List.mem_map.mp hp
  exact h.nz q (List.mem_reverse.mp hq)
noncomputable def iv (d:Pl):List (Int×A):=d.map fun p=>(p.1,.int p.2)
noncomputable def pA (p:Int×Int):A:=.tup [.int p.1,.int p.2]
noncomputable def pl (l:Pl):List A:=l.map pA
theorem lQ (d:Pl) (k:Int):b_ (iv d) k=(d.find? fun p=>decide (p.1=k)).map fun p=>.int p.2:=by
 unfold b_ iv
 rw [List.find?_map,Option.map_map];rfl
theorem xX (d:Pl) (k:Int):(b_ (iv d) k).getD (.int 0)=.int (val d k):=by
 rw [lQ]
 unfold val
 cases d.find? fun p=>decide (p.1=k) <;> rfl
theorem nk {d:Pl} {k:Int} (h:k∈d.map Prod.fst):b_ (iv d) k=some (.int (val d k)):=by
 have:=iw.mpr h
 unfold has at this
 rw [lQ]
 unfold val
 cases e:d.find? fun p=>decide (p.1=k) with
 | some p=>rfl
 | none=>
  obtain ⟨p,hp,hd⟩:=List.any_eq_true.mp this
  exact absurd hd (List.find?_eq_none.mp e p hp)
theorem pT (d:Pl) (k v:Int):iR (iv d) k (.int v)=iv (put d k v):=by
 have e:(b_ (iv d) k).isSome=has d k:=by
  rw [lQ,Option.isSome_map]
  unfold has
  rw [Bool.eq_iff_iff,List.find?_isSome,List.any_eq_true]
 unfold iR put
 rw [e]
 unfold iv
 split
 ·rw [List.map_map,List.map_map]
  apply List.map_congr_left
  intro p _
  show (if p.1=k then (p.1,A.int v) else (p.1,.int p.2))=_
  show _=((if p.1=k then (p.1,v) else p).1,A.int (if p.1=k then (p.1,v) else p).2)
  split <;> rfl
 ·rw [List.map_append];rfl
theorem zp (d:Pl):(iv d).map Prod.fst=d.map Prod.fst:=by
 unfold iv
 rw [List.map_map];rfl
theorem Av:∀ l:Pl,zx (pl l)=some (iv l)
 | []=>rfl
 | p::l=>by
  show (zx (pl l)).map _=_
  rw [Av l];rfl
theorem zD (l:Pl):zm (iv l)=iv (xY [] l):=by
 have:∀ (l d:Pl),(iv l).foldl (fun acc p=>iR acc p.1 p.2) (iv d)=iv (xY d l):=by
  intro l
  induction l with
  | nil=>intro d;rfl
  | cons p l ih=>
   intro d
   show (iv l).foldl _ (iR (iv d) p.1 (.int p.2))=_
   rw [pT,ih];rfl
 exact this l []
end Po
namespace Am
open PySem L2 Po
noncomputable abbrev EG:Tg:=oY 2 (gE (bI 0) (gE (bI 1) oX))
theorem jX {s:Src} {cap:List (Option Nat)} {src:Ic} {e:Ex} {τ:List A} {S S1:ak} (hs:src τ S=.ok s S1) (a b f:Nat->A) (hget:∀ i,i < s.k->s.get i S1=some (.tup [a i,b i])) (hfin:s.fin S1=true)
  (he:∀ i,i < s.k->e (a i::b i::cM cap τ) S1=.ok (f i) S1) (hl:s.k<=16777216) :
  bR (none::none::cap) src EG iX e τ S=.ok (.ref S1.length) (S1++[.lst ((List.range s.k).map f)]):=by
 unfold bR
 rw [hs,R.jB]
 obtain ⟨S',h1,h2⟩:=jk (s:=s) (g:=EG) (t:=iX) (e:=e) (P:=fun S=>S=S1) (T:=fun τ'=>∃ y z,τ'=y::z::cM cap τ) (fun i=>.tup [a i,b i]) (fun _=>true) f (fun i S hi h=>by subst h;exact hget i hi) (fun S h=>by subst h;exact hfin)
  (fun i τ' S hi ⟨y,z,hy⟩ h=>by
   subst h hy
   exact ⟨a i::b i::cM cap τ,S,S,rfl,rfl,⟨_,_,rfl⟩,fun h=>(nomatch h),fun hp=>⟨S,he i hi,rfl⟩⟩) s.k 0 (cM (none::none::cap) τ) S1 rfl ⟨_,_,rfl⟩ rfl
 subst h2
 rw [h1,R.cP,List.range_eq_range',List.filter_eq_self.mpr (fun _ _=>rfl)]
 refine bA ?_
 rw [List.length_map,List.length_range']
 exact hl
theorem yb {l:Pl} {i:Nat} (h:i < l.length):(pl l)[i]?=some (.tup [.int (l.getD i (0,0)).1,.int (l.getD i (0,0)).2]):=by
 unfold pl
 rw [List.getElem?_map,List.getElem?_eq_getElem h,List.getD_eq_getElem?_getD,List.getElem?_eq_getElem h];rfl
theorem ck (l:Pl):(pl l).length=l.length:=List.length_map ..
theorem w4 {l:Pl} {n:Nat} {cap:List (Option Nat)} {src:Ic} {e:Ex} {τ:List A} {S S1:ak} (hs:src τ S=.ok (d9 n (pl l).length) S1) (hx:aq S1 n=some (pl l)) (f:Int×Int->A)
  (he:∀ p:Int×Int,e (.int p.1::.int p.2::cM cap τ) S1=.ok (f p) S1) (hl:l.length<=16777216) :
  bR (none::none::cap) src EG iX e τ S=.ok (.ref S1.length) (S1++[.lst (l.map f)]):=by
 rw [jX hs (fun i=>.int (l.getD i (0,0)).1) (fun i=>.int (l.getD i (0,0)).2) (fun i=>f (l.getD i (0,0))) (fun i hi=>by
  have hi:i < (pl l).length:=hi
  rw [ck] at hi
  show (aq S1 n).bind _=_
  rw [hx,Option.bind_some,yb hi]) (by
   show (match aq S1 n with
    | some ys=>decide (ys.length<=(pl l).length)
    | none=>false)=true
   rw [hx]
   simp) (fun i _=>he _) (by show (pl l).length<=_;rw [ck];exact hl)]
 have:=range_getD l (0,0)
 show R.ok _ (S1++[O.lst ((List.range (pl l).length).map _)])=_
 rw [ck]
 conv=>rhs;rw [<- this,List.map_map]
 rfl
theorem j0 {l:Pl} {n:Nat} {cap:List (Option Nat)} {src:Ic} {e:Ex} {τ:List A} {S S1:ak} (hs:src τ S=.ok (sL n (pl l).length) S1) (hx:aq S1 n=some (pl l)) (f:Int×Int->A)
  (he:∀ p:Int×Int,e (.int p.1::.int p.2::cM cap τ) S1=.ok (f p) S1) (hl:l.length<=16777216) :
  bR (none::none::cap) src EG iX e τ S=.ok (.ref S1.length) (S1++[.lst (l.reverse.map f)]):=by
 have rg:∀ i,i < l.length->l.reverse.getD i (0,0)=l.getD (l.length - 1 - i) (0,0):=fun i hi=>by
  rw [List.getD_eq_getElem?_getD,List.getD_eq_getElem?_getD,List.getElem?_reverse hi]
 rw [jX hs (fun i=>.int (l.reverse.getD i (0,0)).1) (fun i=>.int (l.reverse.getD i (0,0)).2) (fun i=>f (l.reverse.getD i (0,0))) (fun i hi=>by
  have hi:i < (pl l).length:=hi
  rw [ck] at hi
  show (aq S1 n).bind _=_
  rw [hx,Option.bind_some,ck,if_pos hi,yb (by omega),rg i hi]) rfl (fun i _=>he _) (by show (pl l).length<=_;rw [ck];exact hl)]
 have:=range_getD l.reverse (0,0)
 show R.ok _ (S1++[O.lst ((List.range (pl l).length).map _)])=_
 rw [ck]
 conv=>rhs;rw [<- this,List.map_map,List.length_reverse]
 rfl
theorem sU {xs:List A} {n:Nat} {cap:List (Option Nat)} {src:Ic} {t:Te} {e:Ex} {τ:List A} {S S1:ak} (hs:src τ S=.ok (d9 n xs.length) S1) (hx:aq S1 n=some xs) (p:A->Bool) (f:A->A)
  (ht:∀ x∈xs,t (x::cM cap τ) S1=.ok (p x) S1) (he:∀ x∈xs,p x=true->e (x::cM cap τ) S1=.ok (f x) S1) (hl:xs.length<=16777216) :
  bR (none::cap) src (bI 0) t e τ S=.ok (.ref S1.length) (S1++[.lst ((xs.filter p).map f)]):=by
 have:=wO (S:=S1) (src:=fun _ _=>.ok (d9 n xs.length) S1) (τ:=τ) rfl hx p f ht he hl
 unfold bR at this ⊢
 rw [hs]
 exact this
theorem mQ {S:ak} {d:List (Int×A)}:bF (S++[.cY d]) S.length=some d:=mH xP
theorem vW {S:ak} {o:O} {n:Nat} {d:List (Int×A)} (h:bF S n=some d):bF (S++[o]) n=some d:=by
 have h':=di h
 exact mH (by rw [List.getElem?_append_left (List.getElem?_eq_some_iff.mp h').1];exact h')
theorem A9 {S:ak} {n:Nat} {d:List (Int×A)} (h:bF S n=some d):n < S.length:=(List.getElem?_eq_some_iff.mp (di h)).1
theorem uF {S:ak} {n:Nat} {d:List (Int×A)} (h:n < S.length):bF (S.set n (.cY d)) n=some d:=mH (List.getElem?_set_self h)
theorem qk {S:ak} {n m:Nat} {d:List (Int×A)} {xs:List A} (h:bF S n=some d) (h':aq S m=some xs):n≠m:=fun z=>by
 subst z
 have e1:=di h
 rw [aN h'] at e1
 cases e1
theorem qw {f:A->List A->ak->R A} {co:Ex} {d:fC} {τ:List A} {S:ak}:nh f co d τ S=(co τ S).bind fun x S1=>opt (dk? x S1) fun _=>(d τ S1).bind fun as S2=>f x as S2:=rfl
theorem vU {n:Nat} {S:ak}:dk? (.ref n) S=(bF S n).map fun _=>():=rfl
theorem nI {n:Nat} {k:Int} {y:A} {S:ak}:gp (.ref n) [.int k,y] S=opt (bF S n) fun kvs=>.ok ((b_ kvs k).getD y) S:=rfl
theorem rH {co ci:Ex} {a:A} {τ:List A} {S:ak}:nG co ci a τ S=(co τ S).bind fun o S1=>(ci τ S1).bind fun i S2=>(lu o i a S2).bind fun _ S3=>.ok τ S3:=rfl
theorem nW {n:Nat} {k:Int} {v:A} {S:ak}:lu (.ref n) (.int k) v S=opt (bF S n) fun kvs=>gd (kvs.length < sizeLine) (.ok () (S.set n (.cY (iR kvs k v)))):=rfl
theorem qb {n:Nat} {k:Int} {S:ak}:iB (.ref n) (.int k) S=opt (bF S n) fun kvs=>opt (b_ kvs k) fun v=>.ok v S:=rfl
theorem iO {τ:List A} {S:ak}:j9 τ S=.ok (.ref S.length) (S++[.cY []]):=rfl
theorem tw {n:Nat} {S:ak}:iE (.ref n) S=opt (bF S n) fun kvs=>.ok (.ref S.length) (S++[.lst ((sortI (kvs.map Prod.fst)).map .int)]):=rfl
theorem tK {n:Nat} {S:ak}:o7 (.ref n) S=opt (aq S n) fun xs=>opt (zx xs) fun ps=>.ok (.ref S.length) (S++[.cY (zm ps)]):=rfl
theorem E2 {i j:Int} {S:ak} (h:i.natAbs < big) (h':j.natAbs < big):nu (.int i) (.int j) S=.ok (.int (i * j)) S:=fK ⟨h,h'⟩
theorem xy (d:Pl):(iv d).length=d.length:=List.length_map ..
noncomputable abbrev CD:Sm:=br (aF cE (nh gp (aj 2) (ah (aj 3) (ah (eC (.int 0)) (aJ)))) (aj 4)) (nG (aj 2) (aj 3))
theorem acc_step {S:ak} {d:Nat} {D:Pl} {x0 x1:A} {k v:Int} (hd:bF S d=some (iv D)) (hl:D.length < 16777216):CD [x0,x1,.ref d,.int k,.int v] S=.nx [x0,x1,.ref d,.int k,.int v] (S.set d (.cY (iv (acc D k v)))):=by
 unfold CD
 simp only [bQ,bools,qw,vU,hd,Option.map_some,nI,xX,rH,nW,qC (show (iv D).length < 16777216 by rw [xy];exact hl),pT]
 rfl
noncomputable abbrev Gp:Tg:=oY 2 (gE (bI 3) (gE (bI 4) oX))
theorem qP {S S1:ak} {d n:Nat} {D l:Pl} {x0 x1 x3 x4:A} {src:Ic} (hs:src [x0,x1,.ref d,x3,x4] S=.ok (d9 n (pl l).length) S1) (hn:aq S1 n=some (pl l)) (hd:bF S1 d=some (iv D)) (hl:D.length+l.length < 16777216) :
  ∃ y3 y4 S',cD src Gp CD [x0,x1,.ref d,x3,x4] S=.nx [x0,x1,.ref d,y3,y4] S'/\bF S' d=some (iv (dc D l))/\Kp (·=d) S1 S':=by
 have nd:=qk hd hn
 refine jn (n:=n) (xs:=pl l) hs (fun i τ T=>(∃ y3 y4,τ=[x0,x1,.ref d,y3,y4])/\bF T d=some (iv (dc D (l.take i)))/\Kp (·=d) S1 T)
  (fun r=>∃ y3 y4 S',r=.nx [x0,x1,.ref d,y3,y4] S'/\bF S' d=some (iv (dc D l))/\Kp (·=d) S1 S') ⟨⟨_,_,rfl⟩,hd,Kp.refl⟩ (fun i τ T h=>h.2.2.lst _ _ (Ne.symm nd) hn) ?_ ?_
 ·rintro i z τ T hz ⟨⟨y3,y4,rfl⟩,hD,kp⟩
  unfold pl at hz
  rw [List.getElem?_map] at hz
  obtain ⟨p,hp,rfl⟩:=Option.map_eq_some_iff.mp hz
  refine ⟨[x0,x1,.ref d,.int p.1,.int p.2],T,rfl,.inl ?_⟩
  have hlen:=b8 (l.take i) D
  have hi:=(List.getElem?_eq_some_iff.mp hp).1
  rw [List.length_take] at hlen
  refine ⟨_,_,acc_step hD (by omega),⟨_,_,rfl⟩,?_,kp.Bc (.inl rfl)⟩
  rw [uF (A9 hD),List.take_add_one,hp,jG];rfl
 ·rintro τ T ⟨⟨y3,y4,rfl⟩,hD,kp⟩
  rw [ck,List.take_length] at hD
  exact ⟨y3,y4,T,rfl,hD,kp⟩
noncomputable abbrev zf:Sm:=br (aF cE (nh gp (aj 2) (ah (aF cE (aj 3) (aj 5)) (ah (eC (.int 0)) (aJ)))) (aF nu (aj 4) (aj 6))) (nG (aj 2) (aF cE (aj 3) (aj 5)))
noncomputable abbrev Gv:Tg:=oY 2 (gE (bI 5) (gE (bI 6) oX))
theorem wK {S:ak} {d:Nat} {D:Pl} {x0 x1:A} {k v j u:Int} (hd:bF S d=some (iv D)) (hl:D.length < 16777216) (hv:v.natAbs < big) (hu:u.natAbs < big):zf [x0,x1,.ref d,.int k,.int v,.int j,.int u] S=.nx [x0,x1,.ref d,.int k,.int v,.int j,.int u] (S.set d (.cY (iv (acc D (k+j) (v * u))))):=by
 unfold zf
 simp only [bQ,bools,qw,vU,hd,Option.map_some,nI,xX,E2 hv hu,rH,nW,qC (show (iv D).length < 16777216 by rw [xy];exact hl),pT]
 rfl
theorem yD {S:ak} {d n:Nat} {D l:Pl} {x0 x5 x6:A} {k v:Int} (hn:aq S n=some (pl l)) (hd:bF S d=some (iv D)) (hl:D.length+l.length < 16777216) (hv:v.natAbs < big) (hu:∀ p∈l,p.2.natAbs < big) :
  ∃ y5 y6 S',cD (dP (aj 1)) Gv zf [x0,.ref n,.ref d,.int k,.int v,x5,x6] S=.nx [x0,.ref n,.ref d,.int k,.int v,y5,y6] S'/\bF S' d=some (iv (dc D (l.map fun q=>(k+q.1,v * q.2))))/\Kp (·=d) S S':=by
 have nd:=qk hd hn
 refine jn (n:=n) (xs:=pl l) (S1:=S) (gw (by simp only [bQ,bools]) hn) (fun i τ T=>(∃ y5 y6,τ=[x0,.ref n,.ref d,.int k,.int v,y5,y6])/\bF T d=some (iv (dc D ((l.take i).map fun q=>(k+q.1,v * q.2))))/\Kp (·=d) S T)
  (fun r=>∃ y5 y6 S',r=.nx [x0,.ref n,.ref d,.int k,.int v,y5,y6] S'/\bF S' d=some (iv (dc D (l.map fun q=>(k+q.1,v * q.2))))/\Kp (·=d) S S') ⟨⟨_,_,rfl⟩,hd,Kp.refl⟩ (fun i τ T h=>h.2.2.lst _ _ (Ne.symm nd) hn) ?_ ?_
 ·rintro i z τ T hz ⟨⟨y5,y6,rfl⟩,hD,kp⟩
  unfold pl at hz
  rw [List.getElem?_map] at hz
  obtain ⟨p,hp,rfl⟩:=Option.map_eq_some_iff.mp hz
  refine ⟨[x0,.ref n,.ref d,.int k,.int v,.int p.1,.int p.2],T,rfl,.inl ?_⟩
  have hlen:=b8 ((l.take i).map fun q=>(k+q.1,v * q.2)) D
  have hi:=(List.getElem?_eq_some_iff.mp hp).1
  rw [List.length_map,List.length_take] at hlen
  refine ⟨_,_,wK hD (by omega) hv (hu p (List.mem_of_getElem? hp)),⟨_,_,rfl⟩,?_,kp.Bc (.inl rfl)⟩
  rw [uF (A9 hD),List.take_add_one,hp,List.map_append,jG];rfl
 ·rintro τ T ⟨⟨y5,y6,rfl⟩,hD,kp⟩
  rw [ck,List.take_length] at hD
  exact ⟨y5,y6,T,rfl,hD,kp⟩
noncomputable abbrev BK:Sm:=cD (dP (aj 1)) Gv zf
theorem lq {S:ak} {d n m:Nat} {a b:Pl} {x3 x4 x5 x6:A} (hn:aq S n=some (pl a)) (hm:aq S m=some (pl b)) (hd:bF S d=some []) (hl:a.length * b.length < 16777216) (ha:∀ p∈a,p.2.natAbs < big) (hb:∀ p∈b,p.2.natAbs < big) :
  ∃ y3 y4 y5 y6 S',cD (dP (aj 0)) Gp BK [.ref n,.ref m,.ref d,x3,x4,x5,x6] S=.nx [.ref n,.ref m,.ref d,y3,y4,y5,y6] S'/\bF S' d=some (iv (dc [] (oW a b)))/\Kp (·=d) S S':=by
 have nd:=qk hd hn
 have md:=qk hd hm
 refine jn (n:=n) (xs:=pl a) (S1:=S) (gw (by simp only [bQ,bools]) hn) (fun i τ T=>(∃ y3 y4 y5 y6,τ=[.ref n,.ref m,.ref d,y3,y4,y5,y6])/\bF T d=some (iv (dc [] (oW (a.take i) b)))/\Kp (·=d) S T)
  (fun r=>∃ y3 y4 y5 y6 S',r=.nx [.ref n,.ref m,.ref d,y3,y4,y5,y6] S'/\bF S' d=some (iv (dc [] (oW a b)))/\Kp (·=d) S S') ⟨⟨_,_,_,_,rfl⟩,hd,Kp.refl⟩ (fun i τ T h=>h.2.2.lst _ _ (Ne.symm nd) hn) ?_ ?_
 ·rintro i z τ T hz ⟨⟨y3,y4,y5,y6,rfl⟩,hD,kp⟩
  unfold pl at hz
  rw [List.getElem?_map] at hz
  obtain ⟨p,hp,rfl⟩:=Option.map_eq_some_iff.mp hz
  refine ⟨[.ref n,.ref m,.ref d,.int p.1,.int p.2,y5,y6],T,rfl,.inl ?_⟩
  have hlen:=b8 (oW (a.take i) b) []
  have hi:=(List.getElem?_eq_some_iff.mp hp).1
  rw [gf,List.length_take,Nat.min_eq_left (Nat.le_of_lt hi),List.length_nil,Nat.zero_add] at hlen
  have hmul:i * b.length+b.length<=a.length * b.length:=by rw [<- Nat.succ_mul];exact Nat.mul_le_mul_right _ hi
  obtain ⟨z5,z6,T',e,hD',kp'⟩:=yD (x0:=.ref n) (x5:=y5) (x6:=y6) (k:=p.1) (v:=p.2) (kp.lst _ _ (Ne.symm md) hm) hD (by omega) (ha p (List.mem_of_getElem? hp)) hb
  refine ⟨_,_,e,⟨_,_,_,_,rfl⟩,?_,kp.trans kp'⟩
  rw [hD',List.take_add_one,hp,Option.toList_some,xU,jG]
 ·rintro τ T ⟨⟨y3,y4,y5,y6,rfl⟩,hD,kp⟩
  rw [ck,List.take_length] at hD
  exact ⟨y3,y4,y5,y6,T,rfl,hD,kp⟩
noncomputable abbrev FN:Ex:=bR [none,some 0] (dP (bK (f1 iE) (ah (aj 0) (aJ)))) (bI 0) (iI (aF (eW true) (aF iB (aj 1) (aj 0)) (eC (.int 0)))) (fY (ah (aj 0) (ah (aF iB (aj 1) (aj 0)) (aJ))))
theorem xg {S:ak} {d:Nat} {D:Pl} (hd:bF S d=some (iv D)) (hl:D.length<=16777216):∃ S',FN [.ref d] S=.ok (.ref (S.length+1)) S'/\aq S' (S.length+1)=some (pl (m8 D))/\gD S S':=by
 have hd1:bF (S++[.lst ((sortI (D.map Prod.fst)).map .int)]) d=some (iv D):=vW hd
 have ls:(S++[O.lst ((sortI (D.map Prod.fst)).map A.int)]).length=S.length+1:=by simp
 have cc:=sU (n:=S.length) (xs:=(sortI (D.map Prod.fst)).map A.int) (cap:=[some 0]) (src:=dP (bK (f1 iE) (ah (aj 0) (aJ)))) (t:=iI (aF (eW true) (aF iB (aj 1) (aj 0)) (eC (.int 0)))) (e:=fY (ah (aj 0) (ah (aF iB (aj 1) (aj 0)) (aJ)))) (τ:=[.ref d]) (S:=S) (S1:=S++[.lst ((sortI (D.map Prod.fst)).map .int)])
  (gw (by simp only [bQ,bools,tw,hd,zp]) aU) aU (fun x=>match x with | .int k=>val D k != 0 | _=>false) (fun x=>match x with | .int k=>pA (k,val D k) | _=>.non) (fun x hx=>by
   obtain ⟨k,hk,rfl⟩:=List.mem_map.mp hx
   have hk:=(sortI_perm _).mem_iff.mp hk
   simp only [bQ,bools,qb,hd1,nk hk]
   rfl) (fun x hx _=>by
   obtain ⟨k,hk,rfl⟩:=List.mem_map.mp hx
   have hk:=(sortI_perm _).mem_iff.mp hk
   simp only [bQ,bools,qb,hd1,nk hk]
   exact fE (show 2<=16777216 by decide)) (by rw [List.length_map,(sortI_perm _).length_eq,List.length_map];exact hl)
 refine ⟨_,cc.trans (by rw [ls]),?_,Kp.refl.lay.lay⟩
 rw [<- ls,aU]
 congr 1
 unfold pl m8
 rw [List.map_map,List.filter_map,List.map_map];rfl
end Am
namespace K25
open PySem L2 Am
noncomputable def top (i:Nat):Stmt:=PySem.Challenge.pw_undercells_k25_polynomials.main.body.getD i (.Pass ⟨0,0,0,0⟩)
noncomputable abbrev bG:Stmt:=top 1
noncomputable def fy:List Str:=["numbers"]
noncomputable def c_:Sm:=
 cJ (bR [none,some 0] (dP (bK (f1 iE) (ah (aj 0) (aJ)))) (bI 0) (iI (aF (eW true) (aF iB (aj 1) (aj 0)) (eC (.int 0)))) (fY (ah (aj 0) (ah (aF iB (aj 1) (aj 0)) (aJ)))))
noncomputable def aZ:List A->ak->R A:=eY fy c_
noncomputable abbrev iM:Stmt:=top 2
noncomputable def vR:List Str:=["one", "other", "numbers", "power", "number"]
noncomputable def gO:Ic:=
 dP (aj 1)
noncomputable def oO:Sm:=
 br (aF cE (nh gp (aj 2) (ah (aj 3) (ah (eC (.int 0)) (aJ)))) (aj 4)) (nG (aj 2) (aj 3))
noncomputable def pL:Sm:=
 bh (br (bK (f1 o7) (ah (aj 0) (aJ))) (bI 2))
 (bh (cD (gO) (oY 2 (gE (bI 3) (gE (bI 4) (oX))))
 (oO))
 (cJ (eFn aZ (ah (aj 2) (aJ)))))
noncomputable def eX:List A->ak->R A:=eY vR pL
noncomputable abbrev gc:Stmt:=top 3
noncomputable def qG:List Str:=["one", "other", "numbers", "power", "number", "high", "many"]
noncomputable def tD:Ic:=
 dP (aj 1)
noncomputable def tB:Sm:=
 br (aF cE (nh gp (aj 2) (ah (aF cE (aj 3) (aj 5)) (ah (eC (.int 0)) (aJ)))) (aF nu (aj 4) (aj 6))) (nG (aj 2) (aF cE (aj 3) (aj 5)))
noncomputable def lg:Ic:=
 dP (aj 0)
noncomputable def lA:Sm:=
 cD (tD) (oY 2 (gE (bI 5) (gE (bI 6) (oX))))
 (tB)
noncomputable def mV:Sm:=
 bh (br (j9) (bI 2))
 (bh (cD (lg) (oY 2 (gE (bI 3) (gE (bI 4) (oX))))
 (lA))
 (cJ (eFn aZ (ah (aj 2) (aJ)))))
noncomputable def cR:List A->ak->R A:=eY qG mV
noncomputable abbrev eB:Stmt:=top 4
noncomputable def nN:List Str:=["one"]
noncomputable def jW:Sm:=
 cJ (bR [none,none] (yy (aj 0)) (oY 2 (gE (bI 0) (gE (bI 1) (oX)))) (iX) (fY (ah (C5 tU (aj 0)) (ah (aj 1) (aJ)))))
noncomputable def cH:List A->ak->R A:=eY nN jW
noncomputable abbrev dm:Stmt:=top 6
noncomputable def lI:List Str:=["_law_script", "_law_at", "_law_cell", "_law_great"]
noncomputable def iC:Sm:=
 bh (br (eC (.int 0)) (bI 2))
 (bh (kj (iI (aF Ey (aj 1) (bK (f1 mP) (ah (aj 0) (aJ)))))
 (br (aF iZ (aj 0) (aj 1)) (bI 2))
 (e_))
 (bh (br (eC (.int 0)) (bI 3))
 (bh (kj (iI (aF EC (aj 2) (aF pX (eC (.int 10)) (eC (.int 18)))))
 (br (aj 2) (bI 3))
 (e_))
 (cJ (iD (ah (aj 3) (ah (aF mS (aF cE (aF cE (aj 2) (aF gM (eC (.int 7919)) (aj 1))) (eC (.int 13))) (eC (.int 2147483647))) (aJ))))))))
noncomputable def dw:List A->ak->R A:=eY lI iC
noncomputable abbrev cA:Stmt:=top 7
noncomputable def fU:List Str:=["_law_bag_here", "_law_many", "_law_found"]
noncomputable def dX:Sm:=
 bh (kj (iI (aF EW (aF iZ (aj 0) (eC (.int 0))) (eC (.int 0))))
 (bh (br (aF mS (aF iZ (aj 0) (eC (.int 0))) (aj 1)) (bI 2))
 (bh (br (aF p8 (aF iZ (aj 0) (eC (.int 0))) (aj 1)) (EH (aj 0) (eC (.int 0))))
 (cJ (aj 2))))
 (e_))
 (bh (br (aF mS (aF cE (aF gM (aF iZ (aj 0) (eC (.int 1))) (eC (.int 48271))) (eC (.int 11))) (eC (.int 2147483647))) (EH (aj 0) (eC (.int 1))))
 (cJ (aF mS (aF mS (aF gM (aF p8 (aF iZ (aj 0) (eC (.int 1))) (eC (.int 8))) (eC (.int 69621))) (eC (.int 2147483629))) (aj 1))))
noncomputable def aM:List A->ak->R A:=eY fU dX
noncomputable abbrev b6:Stmt:=top 8
noncomputable def gP:List Str:=["_law_bag_here", "_law_way", "_law_number", "_law_k"]
noncomputable def fD:Ic:=
 fm (aF iZ (iD (ah (eC (.int 0)) (ah (eC (.int 0)) (ah (eC (.int 1)) (ah (eC (.int 3)) (aJ)))))) (aj 1))
noncomputable def fL:Sm:=
 br (aF cE (aF gM (aj 2) (aF pX (eC (.int 10)) (eC (.int 9)))) (eFn aM (ah (aj 0) (ah (aF pX (eC (.int 10)) (eC (.int 9))) (aJ))))) (bI 2)
noncomputable def eT:Sm:=
 bh (br (eFn aM (ah (aj 0) (ah (eC (.int 4)) (aJ)))) (bI 1))
 (bh (br (eFn aM (ah (aj 0) (ah (aF iZ (iD (ah (eC (.int 4)) (ah (eC (.int 4)) (ah (eC (.int 1000)) (ah (eC (.int 1000)) (aJ)))))) (aj 1)) (aJ)))) (bI 2))
 (bh (cD (fD) (bI 3)
 (fL))
 (cJ (aF gM (aj 2) (aF iZ (iD (ah (eC (.int 1)) (ah (C5 tU (eC (.int 1))) (aJ)))) (eFn aM (ah (aj 0) (ah (eC (.int 2)) (aJ)))))))))
noncomputable def bY:List A->ak->R A:=eY gP eT
noncomputable abbrev cQ:Stmt:=top 9
noncomputable def ko:List Str:=["_law_bag_here", "_law_most", "_law_far", "_law_found", "_law_power", "_law_k", "_law_number"]
noncomputable def eS:Ic:=
 fm (eFn aM (ah (aj 0) (ah (aF cE (aj 1) (eC (.int 1))) (aJ))))
noncomputable def eO:Sm:=
 bh (br (eFn bY (ah (aj 0) (aJ))) (bI 6))
 (bh (kj (zb (iI (aF (eW true) (aj 6) (eC (.int 0)))) (iI (aF E7 (aj 4) (aj 2))))
 (qf (EV jv (aj 3) (ah (fY (ah (aj 4) (ah (aj 6) (aJ)))) (aJ))))
 (e_))
 (br (aF cE (aF cE (aj 4) (eC (.int 1))) (eFn aM (ah (aj 0) (ah (eC (.int 3)) (aJ))))) (bI 4)))
noncomputable def gA:Sm:=
 bh (br (iD (aJ)) (bI 3))
 (bh (br (aF aSub (eFn aM (ah (aj 0) (ah (aF cE (aF gM (eC (.int 2)) (aj 2)) (eC (.int 1))) (aJ)))) (aj 2)) (bI 4))
 (bh (kj (iI (aF EW (aj 1) (eC (.int 20))))
 (br (aF aSub (eC (.int 0)) (aj 2)) (bI 4))
 (e_))
 (bh (cD (eS) (bI 5)
 (eO))
 (cJ (aj 3)))))
noncomputable def cj:List A->ak->R A:=eY ko gA
noncomputable abbrev bN:Stmt:=top 10
noncomputable def fX:List Str:=["_law_held"]
noncomputable def dM:Sm:=
 cJ (bR [none,some 0] (dP (bK (f1 iE) (ah (aj 0) (aJ)))) (bI 0) (iI (aF (eW true) (aF iB (aj 1) (aj 0)) (eC (.int 0)))) (fY (ah (aj 0) (ah (aF iB (aj 1) (aj 0)) (aJ)))))
noncomputable def bq:List A->ak->R A:=eY fX dM
noncomputable abbrev bM:Stmt:=top 11
noncomputable def fR:List Str:=["_law_one", "_law_other", "_law_held", "_law_power", "_law_number"]
noncomputable def bX:Ic:=
 dP (aF cE (aj 0) (aj 1))
noncomputable def eK:Sm:=
 br (aF cE (nh gp (aj 2) (ah (aj 3) (ah (eC (.int 0)) (aJ)))) (aj 4)) (nG (aj 2) (aj 3))
noncomputable def dH:Sm:=
 bh (br (j9) (bI 2))
 (bh (cD (bX) (oY 2 (gE (bI 3) (gE (bI 4) (oX))))
 (eK))
 (cJ (eFn bq (ah (aj 2) (aJ)))))
noncomputable def aY:List A->ak->R A:=eY fR dH
noncomputable abbrev bH:Stmt:=top 12
noncomputable def fh:List Str:=["_law_one", "_law_other", "_law_held", "_law_power", "_law_number", "_law_more", "_law_many"]
noncomputable def g9:Ic:=
 dP (aj 1)
noncomputable def g_:Sm:=
 br (aF cE (nh gp (aj 2) (ah (aF cE (aj 3) (aj 5)) (ah (eC (.int 0)) (aJ)))) (aF nu (aj 4) (aj 6))) (nG (aj 2) (aF cE (aj 3) (aj 5)))
noncomputable def dZ:Ic:=
 dP (aj 0)
noncomputable def dR:Sm:=
 cD (g9) (oY 2 (gE (bI 5) (gE (bI 6) (oX))))
 (g_)
noncomputable def cZ:Sm:=
 bh (br (j9) (bI 2))
 (bh (cD (dZ) (oY 2 (gE (bI 3) (gE (bI 4) (oX))))
 (dR))
 (cJ (eFn bq (ah (aj 2) (aJ)))))
noncomputable def aS:List A->ak->R A:=eY fh cZ
noncomputable abbrev bS:Stmt:=top 13
noncomputable def gg:List Str:=["_law_found", "_law_one", "_law_number"]
noncomputable def fu:Ic:=
 dP (aj 1)
noncomputable def fB:Sm:=
 kj (yz (mC (kB (bK (f2 tF) (ah (aj 2) (ah (eC (.ty "int")) (aJ)))))) (kB (bK (f2 tF) (ah (aj 2) (ah (eC (.ty "bool")) (aJ))))))
 (cJ (eC (.bl false)))
 (e_)
noncomputable def fj:Ic:=
 dP (aj 0)
noncomputable def fq:Sm:=
 bh (kj (yz (mC (kB (bK (f2 tF) (ah (aj 1) (ah (eC (.ty "tuple")) (aJ)))))) (yz (iI (aF (eW true) (bK (f1 mP) (ah (aj 1) (aJ))) (eC (.int 2)))) (iI (aF (eW false) (aF iZ (aj 1) (eC (.int 1))) (eC (.int 0))))))
 (cJ (eC (.bl false)))
 (e_))
 (cD (fu) (bI 2)
 (fB))
noncomputable def d_:Sm:=
 bh (kj (mC (kB (bK (f2 tF) (ah (aj 0) (ah (eC (.ty "list")) (aJ))))))
 (cJ (eC (.bl false)))
 (e_))
 (bh (cD (fj) (bI 1)
 (fq))
 (cJ (bK (f1 CF) (ah (bR [none,some 0] (fm (aF aSub (bK (f1 mP) (ah (aj 0) (aJ))) (eC (.int 1)))) (bI 0) (iX) (aF Ey (aF iZ (aF iZ (aj 1) (aj 0)) (eC (.int 0))) (aF iZ (aF iZ (aj 1) (aF cE (aj 0) (eC (.int 1)))) (eC (.int 0))))) (aJ)))))
noncomputable def bU:List A->ak->R A:=eY gg d_
noncomputable abbrev cB:Stmt:=top 14
noncomputable def iY:List Str:=["_law_one", "_law_other", "_law_sort", "_law_due", "_law_first", "_law_second", "_law_turn", "_law_found"]
noncomputable def gq:Ic:=
 fm (eC (.int 2))
noncomputable def gr:Sm:=
 bh (kj (iI (aF (eW false) (aj 2) (eC (.int 0))))
 (br (eFn eX (ah (aj 4) (ah (aj 5) (aJ)))) (bI 7))
 (kj (iI (aF (eW false) (aj 2) (eC (.int 1))))
 (br (eFn cR (ah (aj 4) (ah (aj 5) (aJ)))) (bI 7))
 (br (eFn cH (ah (aj 4) (aJ))) (bI 7))))
 (bh (kj (yz (mC (kB (eFn bU (ah (aj 7) (aJ))))) (yz (iI (aF (eW true) (aj 7) (aj 3))) (yz (iI (aF (eW true) (aj 4) (aj 0))) (iI (aF (eW true) (aj 5) (aj 1))))))
 (cJ (eC (.bl false)))
 (e_))
 (qf (EV jv (aj 7) (ah (fY (ah (eC (.int 99)) (ah (eC (.int 1)) (aJ)))) (aJ)))))
noncomputable def fO:Sm:=
 bh (br (aF iZ (iD (ah (eFn aY (ah (aj 0) (ah (aj 1) (aJ)))) (ah (eFn aS (ah (aj 0) (ah (aj 1) (aJ)))) (ah (iD (aJ)) (aJ))))) (aj 2)) (bI 3))
 (bh (kj (iI (aF (eW false) (aj 2) (eC (.int 2))))
 (br (bR [none,none] (yy (aj 0)) (oY 2 (gE (bI 0) (gE (bI 1) (oX)))) (iX) (fY (ah (aF aSub (eC (.int 0)) (aj 0)) (ah (aj 1) (aJ))))) (bI 3))
 (e_))
 (bh (br (bK (f1 fP) (ah (aj 0) (aJ))) (bI 4))
 (bh (br (bK (f1 fP) (ah (aj 1) (aJ))) (bI 5))
 (bh (cD (gq) (bI 6)
 (gr))
 (cJ (eC (.bl true)))))))
noncomputable def cC:List A->ak->R A:=eY iY fO
noncomputable abbrev bC:Stmt:=top 15
noncomputable def er:List Str:=["_law_one", "_law_other", "_law_told", "_law_due"]
noncomputable def cL:Sm:=
 bh (br (eFn cR (ah (bK (f1 fP) (ah (aj 0) (aJ))) (ah (bK (f1 fP) (ah (aj 1) (aJ))) (aJ)))) (bI 2))
 (bh (br (eFn aS (ah (aj 0) (ah (aj 1) (aJ)))) (bI 3))
 (bh (kj (yz (iI (aF (eW true) (eFn cR (ah (aj 2) (ah (bK (f1 fP) (ah (aj 0) (aJ))) (aJ)))) (eFn aS (ah (aj 3) (ah (aj 0) (aJ)))))) (iI (aF (eW true) (eFn eX (ah (bK (f1 fP) (ah (aj 1) (aJ))) (ah (aj 2) (aJ)))) (eFn aY (ah (aj 1) (ah (aj 3) (aJ)))))))
 (cJ (eC (.bl false)))
 (e_))
 (cJ (z0 (aF (eW false) (eFn cH (ah (aj 2) (aJ))) (bR [none,none] (yy (aj 3)) (oY 2 (gE (bI 0) (gE (bI 1) (oX)))) (iX) (fY (ah (aF aSub (eC (.int 0)) (aj 0)) (ah (aj 1) (aJ)))))) (aF (eW false) (aj 2) (aj 3))))))
noncomputable def bg:List A->ak->R A:=eY er cL
noncomputable abbrev iz:Stmt:=top 16
noncomputable def AX:List Str:=["_law_script", "_law_k", "_law_bag_here", "_law_most", "_law_one", "_law_other", "_law_sort"]
noncomputable def mZ:Ic:=
 fm (eC (.int 3))
noncomputable def lR:Sm:=
 kj (mC (kB (eFn cC (ah (aj 4) (ah (aj 5) (ah (aj 6) (aJ)))))))
 (cJ (eC (.bl false)))
 (e_)
noncomputable def r6:Ic:=
 fm (bK (f2 xR) (ah (eC (.int 2)) (ah (bK (f2 uJ) (ah (bK (f1 mP) (ah (aj 0) (aJ))) (ah (eC (.int 6)) (aJ)))) (aJ))))
noncomputable def p7:Sm:=
 bh (br (eFn dw (ah (aj 0) (ah (aj 1) (aJ)))) (bI 2))
 (bh (br (aF iZ (iD (ah (eC (.int 6)) (ah (eC (.int 40)) (aJ)))) (bK (f1 sG) (ah (aF (eW false) (eFn aM (ah (aj 2) (ah (eC (.int 8)) (aJ)))) (eC (.int 5))) (aJ)))) (bI 3))
 (bh (br (eFn cj (ah (aj 2) (ah (aj 3) (ah (eC (.int 60)) (aJ))))) (bI 4))
 (bh (br (eFn cj (ah (aj 2) (ah (aj 3) (ah (eC (.int 60)) (aJ))))) (bI 5))
 (bh (kj (iI (aF (eW false) (eFn aM (ah (aj 2) (ah (eC (.int 4)) (aJ)))) (eC (.int 1))))
 (br (bR [none,none] (dP (aj 4)) (oY 2 (gE (bI 0) (gE (bI 1) (oX)))) (iX) (fY (ah (aj 0) (ah (aF aSub (eC (.int 0)) (aj 1)) (aJ))))) (bI 5))
 (e_))
 (bh (cD (mZ) (bI 6)
 (lR))
 (kj (mC (kB (eFn bg (ah (aj 4) (ah (aj 5) (aJ))))))
 (cJ (eC (.bl false)))
 (e_)))))))
noncomputable def vA:Sm:=
 bh (cD (r6) (bI 1)
 (p7))
 (cJ (eC (.bl true)))
noncomputable def kM:List A->ak->R A:=eY AX vA
section
variable {P:Program} {w:World} {K:PySem.W.Frag} {mg:Str->Option Value} {base:Heap}
theorem iV:FnScope ["numbers"] ["numbers"] (aG bG):=⟨rfl,rfl,rfl,by decide +kernel,rfl,by decide +kernel,by decide +kernel⟩
theorem iU {f:Addr} {fd:FuncData} (F:Fun K "as_polynomial" "as_polynomial" bG f fd) (b_sorted:mg "sorted" = none):FnOk P w K mg base jg 1 f fd ["numbers"] (kD K 1 aZ):=pO (m:=c_) F iV fun cdv B outer s H E hr=>
 aH (bE (gH (N:=["power", "numbers"]) (cap:=[none,some 0]) rfl (jZ ["numbers"] rfl (by decide +kernel) (by decide +kernel) (by decide +kernel) (by decide +kernel) (by decide +kernel) (List.forall_mem_cons.mpr ⟨by first | exact Or.inl rfl | exact Or.inr rfl,(fun _ h=>nomatch h)⟩) ⟨rfl,by decide +kernel,trivial⟩) (dD (bL (se rfl) b_sorted kL (af (aa 0) (aA)))) (fun _ _ _ _=>aQ (i:=0) (show (["power", "numbers"]:List Str).Nodup by decide +kernel) rfl (Or.inl rfl) (.inr rfl)) (fun _ _ _ _=>rJ (bP (mh hr.units) (mR hr.units (aa 1) (aa 0)) (az))) (fun _ _ _ _=>fH (af (aa 0) (af (mR hr.units (aa 1) (aa 0)) (aA))))))
theorem jC:FnScope ["one", "other", "numbers", "power", "number"] ["one", "other"] (aG iM):=⟨rfl,rfl,rfl,by decide +kernel,rfl,by decide +kernel,by decide +kernel⟩
theorem zl {f:Addr} {fd:FuncData} (F:Fun K "plus" "plus" iM f fd) (b_dict:mg "dict" = none) (G_as_polynomial:ff P w K mg base 1 "as_polynomial" ["numbers"] aZ):FnOk P w K mg base jg 2 f fd ["one", "other"] (kD K 2 eX):=pO (m:=pL) F jC fun cdv B outer s H E hr=>
 aE (aX (i:=2) jC.nd (cV (zA rfl) b_dict ze (af (aa 0) (aA))))
 (aE (cN PassesOwn.never rfl (dD (aa 1)) (ef rfl (aV (aQ (i:=3) jC.nd) (aV (aQ (i:=4) jC.nd) (cT))))
 (aH (iT (aO cK (mU PySem.F.slot_dict_get PySem.F.type_dict_get (lS hr.units) (aa 2) (af (aa 3) (af (az) (aA)))) (aa 4)) (jE hr.units (aa 2) (aa 3)))))
 (aH (bE (bB G_as_polynomial (hr.mono (by decide)) (af (aa 2) (aA)) (au aP)))))
theorem eo:FnScope ["one", "other", "numbers", "power", "number", "high", "many"] ["one", "other"] (aG gc):=⟨rfl,rfl,rfl,by decide +kernel,rfl,by decide +kernel,by decide +kernel⟩
theorem vI {f:Addr} {fd:FuncData} (F:Fun K "times" "times" gc f fd) (G_as_polynomial:ff P w K mg base 1 "as_polynomial" ["numbers"] aZ):FnOk P w K mg base jg 2 f fd ["one", "other"] (kD K 2 cR):=pO (m:=mV) F eo fun cdv B outer s H E hr=>
 aE (aX (i:=2) eo.nd (jP))
 (aE (cN PassesOwn.never rfl (dD (aa 0)) (ef rfl (aV (aQ (i:=3) eo.nd) (aV (aQ (i:=4) eo.nd) (cT))))
 (aH (cN PassesOwn.never rfl (dD (aa 1)) (ef rfl (aV (aQ (i:=5) eo.nd) (aV (aQ (i:=6) eo.nd) (cT))))
 (aH (iT (aO cK (mU PySem.F.slot_dict_get PySem.F.type_dict_get (lS hr.units) (aa 2) (af (aO cK (aa 3) (aa 5)) (af (az) (aA)))) (aO xj (aa 4) (aa 6))) (jE hr.units (aa 2) (aO cK (aa 3) (aa 5))))))))
 (aH (bE (bB G_as_polynomial (hr.mono (by decide)) (af (aa 2) (aA)) (au aP)))))
theorem sP:FnScope ["one"] ["one"] (aG eB):=⟨rfl,rfl,rfl,by decide +kernel,rfl,by decide +kernel,by decide +kernel⟩
theorem ue {f:Addr} {fd:FuncData} (F:Fun K "turned" "turned" eB f fd) (b_reversed:mg "reversed" = none):FnOk P w K mg base jg 1 f fd ["one"] (kD K 1 cH):=pO (m:=jW) F sP fun cdv B outer s H E hr=>
 aH (bE (gH (N:=["power", "number"]) (cap:=[none,none]) rfl (jZ [] rfl (by decide +kernel) (by decide +kernel) (by decide +kernel) (by decide +kernel) (by decide +kernel) (fun _ h=>nomatch h) trivial) (o6 b_reversed (aa 0)) (fun _ _ _ _=>ef rfl (aV (aQ (i:=0) (show (["power", "number"]:List Str).Nodup by decide +kernel) rfl (Or.inl rfl) (.inr rfl)) (aV (aQ (i:=1) (show (["power", "number"]:List Str).Nodup by decide +kernel) rfl (Or.inl rfl) (.inr rfl)) (cT)))) (fun _ _ _ _=>gX) (fun _ _ _ _=>fH (af (xB (aa 0)) (af (aa 1) (aA))))))
theorem dB:FnScope ["_law_script", "_law_at", "_law_cell", "_law_great"] ["_law_script", "_law_at"] (aG dm):=⟨rfl,rfl,rfl,by decide +kernel,rfl,by decide +kernel,by decide +kernel⟩
theorem o4 {f:Addr} {fd:FuncData} (F:Fun K "_law_bag" "_law_bag" dm f fd) (b_len:mg "len" = none):FnOk P w K mg base jg 1 f fd ["_law_script", "_law_at"] (kD K 2 dw):=pO (m:=iC) F dB fun cdv B outer s H E hr=>
 aE (aX (i:=2) dB.nd (az))
 (aE (dh (bP (DM hr.units) (aa 1) (bL sE b_len lZ (af (aa 0) (aA))))
 (aH (aX (i:=2) dB.nd (dg (aa 0) (aa 1))))
 (bV))
 (aE (aX (i:=3) dB.nd (az))
 (aE (dh (bP Fc (aa 2) (aO uG (az) (az)))
 (aH (aX (i:=3) dB.nd (aa 2)))
 (bV))
 (aH (bE (fJ (af (aa 3) (af (aO nc (aO cK (aO cK (aa 2) (aO kR (az) (aa 1))) (az)) (az)) (aA)))))))))
theorem gS:FnScope ["_law_bag_here", "_law_many", "_law_found"] ["_law_bag_here", "_law_many"] (aG cA):=⟨rfl,rfl,rfl,by decide +kernel,rfl,by decide +kernel,by decide +kernel⟩
theorem mj {f:Addr} {fd:FuncData} (F:Fun K "_law_digit" "_law_digit" cA f fd):FnOk P w K mg base jg 1 f fd ["_law_bag_here", "_law_many"] (kD K 2 aM):=pO (m:=dX) F gS fun cdv B outer s H E hr=>
 aE (dh (bP (D4 hr.units) (dg (aa 0) (az)) (az))
 (aE (aX (i:=2) gS.nd (aO nc (dg (aa 0) (az)) (aa 1)))
 (aE (iT (aO wg (dg (aa 0) (az)) (aa 1)) (wV (aa 0) (az)))
 (aH (bE (aa 2)))))
 (bV))
 (aE (iT (aO nc (aO cK (aO kR (dg (aa 0) (az)) (az)) (az)) (az)) (wV (aa 0) (az)))
 (aH (bE (aO nc (aO nc (aO kR (aO wg (dg (aa 0) (az)) (az)) (az)) (az)) (aa 1)))))
theorem b9:FnScope ["_law_bag_here", "_law_way", "_law_number", "_law_k"] ["_law_bag_here"] (aG b6):=⟨rfl,rfl,rfl,by decide +kernel,rfl,by decide +kernel,by decide +kernel⟩
theorem kr {f:Addr} {fd:FuncData} (F:Fun K "_law_signed" "_law_signed" b6 f fd) (b_range:mg "range" = none) (G_law_digit:ff P w K mg base 1 "_law_digit" ["_law_bag_here", "_law_many"] aM):FnOk P w K mg base jg 2 f fd ["_law_bag_here"] (kD K 1 bY):=pO (m:=eT) F b9 fun cdv B outer s H E hr=>
 aE (aX (i:=1) b9.nd (bB G_law_digit (hr.mono (by decide)) (af (aa 0) (af (az) (aA))) (au (au aP))))
 (aE (aX (i:=2) b9.nd (bB G_law_digit (hr.mono (by decide)) (af (aa 0) (af (dg (fJ (af (az) (af (az) (af (az) (af (az) (aA)))))) (aa 1)) (aA))) (au (au aP))))
 (aE (cN PassesOwn.never rfl (dz b_range (dg (fJ (af (az) (af (az) (af (az) (af (az) (aA)))))) (aa 1))) (aQ (i:=3) b9.nd)
 (aH (aX (i:=2) b9.nd (aO cK (aO kR (aa 2) (aO uG (az) (az))) (bB G_law_digit (hr.mono (by decide)) (af (aa 0) (af (aO uG (az) (az)) (aA))) (au (au aP)))))))
 (aH (bE (aO kR (aa 2) (dg (fJ (af (az) (af (xB (az)) (aA)))) (bB G_law_digit (hr.mono (by decide)) (af (aa 0) (af (az) (aA))) (au (au aP)))))))))
theorem bW:FnScope ["_law_bag_here", "_law_most", "_law_far", "_law_found", "_law_power", "_law_k", "_law_number"] ["_law_bag_here", "_law_most", "_law_far"] (aG cQ):=⟨rfl,rfl,rfl,by decide +kernel,rfl,by decide +kernel,by decide +kernel⟩
theorem nE {f:Addr} {fd:FuncData} (F:Fun K "_law_poly" "_law_poly" cQ f fd) (b_range:mg "range" = none) (G_law_digit:ff P w K mg base 1 "_law_digit" ["_law_bag_here", "_law_many"] aM) (G_law_signed:ff P w K mg base 2 "_law_signed" ["_law_bag_here"] bY):FnOk P w K mg base jg 3 f fd ["_law_bag_here", "_law_most", "_law_far"] (kD K 3 cj):=pO (m:=gA) F bW fun cdv B outer s H E hr=>
 aE (aX (i:=3) bW.nd (fJ (aA)))
 (aE (aX (i:=4) bW.nd (aO kI (bB G_law_digit (hr.mono (by decide)) (af (aa 0) (af (aO cK (aO kR (az) (aa 2)) (az)) (aA))) (au (au aP))) (aa 2)))
 (aE (dh (bP (D4 hr.units) (aa 1) (az))
 (aH (aX (i:=4) bW.nd (aO kI (az) (aa 2))))
 (bV))
 (aE (cN PassesOwn.never rfl (dz b_range (bB G_law_digit (hr.mono (by decide)) (af (aa 0) (af (aO cK (aa 1) (az)) (aA))) (au (au aP)))) (aQ (i:=5) bW.nd)
 (aE (aX (i:=6) bW.nd (bB G_law_signed (hr.mono (by decide)) (af (aa 0) (aA)) (au aP)))
 (aE (dh (AW.at (Bq (bP (mh hr.units) (aa 6) (az)) (zo (bP Fe (aa 4) (aa 2)))))
 (aH (qL (Ag PySem.F.slot_list_append PySem.F.type_list_append oV (aa 3) (af (fH (af (aa 4) (af (aa 6) (aA)))) (aA)))))
 (bV))
 (aH (aX (i:=4) bW.nd (aO cK (aO cK (aa 4) (az)) (bB G_law_digit (hr.mono (by decide)) (af (aa 0) (af (az) (aA))) (au (au aP)))))))))
 (aH (bE (aa 3))))))
theorem ji:FnScope ["_law_held"] ["_law_held"] (aG bN):=⟨rfl,rfl,rfl,by decide +kernel,rfl,by decide +kernel,by decide +kernel⟩
theorem jh {f:Addr} {fd:FuncData} (F:Fun K "_law_own_poly" "_law_own_poly" bN f fd) (b_sorted:mg "sorted" = none):FnOk P w K mg base jg 1 f fd ["_law_held"] (kD K 1 bq):=pO (m:=dM) F ji fun cdv B outer s H E hr=>
 aH (bE (gH (N:=["_law_power", "_law_held"]) (cap:=[none,some 0]) rfl (jZ ["_law_held"] rfl (by decide +kernel) (by decide +kernel) (by decide +kernel) (by decide +kernel) (by decide +kernel) (List.forall_mem_cons.mpr ⟨by first | exact Or.inl rfl | exact Or.inr rfl,(fun _ h=>nomatch h)⟩) ⟨rfl,by decide +kernel,trivial⟩) (dD (bL (se rfl) b_sorted kL (af (aa 0) (aA)))) (fun _ _ _ _=>aQ (i:=0) (show (["_law_power", "_law_held"]:List Str).Nodup by decide +kernel) rfl (Or.inl rfl) (.inr rfl)) (fun _ _ _ _=>rJ (bP (mh hr.units) (mR hr.units (aa 1) (aa 0)) (az))) (fun _ _ _ _=>fH (af (aa 0) (af (mR hr.units (aa 1) (aa 0)) (aA))))))
theorem cg:FnScope ["_law_one", "_law_other", "_law_held", "_law_power", "_law_number"] ["_law_one", "_law_other"] (aG bM):=⟨rfl,rfl,rfl,by decide +kernel,rfl,by decide +kernel,by decide +kernel⟩
theorem jc {f:Addr} {fd:FuncData} (F:Fun K "_law_own_plus" "_law_own_plus" bM f fd) (G_law_own_poly:ff P w K mg base 1 "_law_own_poly" ["_law_held"] bq):FnOk P w K mg base jg 2 f fd ["_law_one", "_law_other"] (kD K 2 aY):=pO (m:=dH) F cg fun cdv B outer s H E hr=>
 aE (aX (i:=2) cg.nd (jP))
 (aE (cN PassesOwn.never rfl (dD (aO cK (aa 0) (aa 1))) (ef rfl (aV (aQ (i:=3) cg.nd) (aV (aQ (i:=4) cg.nd) (cT))))
 (aH (iT (aO cK (mU PySem.F.slot_dict_get PySem.F.type_dict_get (lS hr.units) (aa 2) (af (aa 3) (af (az) (aA)))) (aa 4)) (jE hr.units (aa 2) (aa 3)))))
 (aH (bE (bB G_law_own_poly (hr.mono (by decide)) (af (aa 2) (aA)) (au aP)))))
theorem bD:FnScope ["_law_one", "_law_other", "_law_held", "_law_power", "_law_number", "_law_more", "_law_many"] ["_law_one", "_law_other"] (aG bH):=⟨rfl,rfl,rfl,by decide +kernel,rfl,by decide +kernel,by decide +kernel⟩
theorem iH {f:Addr} {fd:FuncData} (F:Fun K "_law_own_times" "_law_own_times" bH f fd) (G_law_own_poly:ff P w K mg base 1 "_law_own_poly" ["_law_held"] bq):FnOk P w K mg base jg 2 f fd ["_law_one", "_law_other"] (kD K 2 aS):=pO (m:=cZ) F bD fun cdv B outer s H E hr=>
 aE (aX (i:=2) bD.nd (jP))
 (aE (cN PassesOwn.never rfl (dD (aa 0)) (ef rfl (aV (aQ (i:=3) bD.nd) (aV (aQ (i:=4) bD.nd) (cT))))
 (aH (cN PassesOwn.never rfl (dD (aa 1)) (ef rfl (aV (aQ (i:=5) bD.nd) (aV (aQ (i:=6) bD.nd) (cT))))
 (aH (iT (aO cK (mU PySem.F.slot_dict_get PySem.F.type_dict_get (lS hr.units) (aa 2) (af (aO cK (aa 3) (aa 5)) (af (az) (aA)))) (aO xj (aa 4) (aa 6))) (jE hr.units (aa 2) (aO cK (aa 3) (aa 5))))))))
 (aH (bE (bB G_law_own_poly (hr.mono (by decide)) (af (aa 2) (aA)) (au aP)))))
theorem dN:FnScope ["_law_found", "_law_one", "_law_number"] ["_law_found"] (aG bS):=⟨rfl,rfl,rfl,by decide +kernel,rfl,by decide +kernel,by decide +kernel⟩
theorem jT {f:Addr} {fd:FuncData} (F:Fun K "_law_is_poly" "_law_is_poly" bS f fd) (b_isinstance:mg "isinstance" = none) (b_list:mg "list" = none) (b_len:mg "len" = none) (b_tuple:mg "tuple" = none) (b_bool:mg "bool" = none) (b_int:mg "int" = none) (b_all:mg "all" = none) (b_range:mg "range" = none):FnOk P w K mg base jg 1 f fd ["_law_found"] (kD K 1 bU):=pO (m:=d_) F dN fun cdv B outer s H E hr=>
 aE (dh (iG (gu (bL qa b_isinstance cS (af (aa 0) (af (qm b_list eV) (aA))))))
 (aH (bE (gK)))
 (bV))
 (aE (cN PassesOwn.never rfl (dD (aa 0)) (aQ (i:=1) dN.nd)
 (aE (dh (AW.at (jK (iG (gu (bL qa b_isinstance cS (af (aa 1) (af (qm b_tuple ve) (aA)))))) (jK (bP (mh hr.units) (bL sE b_len lZ (af (aa 1) (aA))) (az)) (mJ (bP (oR hr.units) (dg (aa 1) (az)) (az))))))
 (aH (bE (gK)))
 (bV))
 (aH (cN PassesOwn.never rfl (dD (aa 1)) (aQ (i:=2) dN.nd)
 (aH (dh (AW.at (jK (iG (gu (bL qa b_isinstance cS (af (aa 2) (af (qm b_int xw) (aA)))))) (mJ (gu (bL qa b_isinstance cS (af (aa 2) (af (qm b_bool zT) (aA))))))))
 (aH (bE (gK)))
 (bV)))))))
 (aH (bE (bL (D8 rfl) b_all BO (af (gH (N:=["_law_k", "_law_found"]) (cap:=[none,some 0]) rfl (jZ ["_law_found"] rfl (by decide +kernel) (by decide +kernel) (by decide +kernel) (by decide +kernel) (by decide +kernel) (List.forall_mem_cons.mpr ⟨by first | exact Or.inl rfl | exact Or.inr rfl,(fun _ h=>nomatch h)⟩) ⟨rfl,by decide +kernel,trivial⟩) (dz b_range (aO kI (bL sE b_len lZ (af (aa 0) (aA))) (az))) (fun _ _ _ _=>aQ (i:=0) (show (["_law_k", "_law_found"]:List Str).Nodup by decide +kernel) rfl (Or.inl rfl) (.inr rfl)) (fun _ _ _ _=>gX) (fun _ _ _ _=>mK (DM hr.units) (dg (dg (aa 1) (aa 0)) (az)) (dg (dg (aa 1) (aO cK (aa 0) (az))) (az)))) (aA))))))
theorem bx:FnScope ["_law_one", "_law_other", "_law_sort", "_law_due", "_law_first", "_law_second", "_law_turn", "_law_found"] ["_law_one", "_law_other", "_law_sort"] (aG cB):=⟨rfl,rfl,rfl,by decide +kernel,rfl,by decide +kernel,by decide +kernel⟩
theorem mF {f:Addr} {fd:FuncData} (F:Fun K "_law_right" "_law_right" cB f fd) (b_reversed:mg "reversed" = none) (b_list:mg "list" = none) (b_range:mg "range" = none) (G_law_own_times:ff P w K mg base 2 "_law_own_times" ["_law_one", "_law_other"] aS) (G_law_own_plus:ff P w K mg base 2 "_law_own_plus" ["_law_one", "_law_other"] aY) (G_plus:ff P w K mg base 2 "plus" ["one", "other"] eX) (G_times:ff P w K mg base 2 "times" ["one", "other"] cR) (G_turned:ff P w K mg base 1 "turned" ["one"] cH) (G_law_is_poly:ff P w K mg base 1 "_law_is_poly" ["_law_found"] bU):FnOk P w K mg base jg 3 f fd ["_law_one", "_law_other", "_law_sort"] (kD K 3 cC):=pO (m:=fO) F bx fun cdv B outer s H E hr=>
 aE (aX (i:=3) bx.nd (dg (fJ (af (bB G_law_own_plus (hr.mono (by decide)) (af (aa 0) (af (aa 1) (aA))) (au (au aP))) (af (bB G_law_own_times (hr.mono (by decide)) (af (aa 0) (af (aa 1) (aA))) (au (au aP))) (af (fJ (aA)) (aA))))) (aa 2)))
 (aE (dh (bP (oR hr.units) (aa 2) (az))
 (aH (qp (i:=3) (N:=["_law_power", "_law_number"]) (cap:=[none,none]) bx.nd rfl (jZ [] rfl (by decide +kernel) (by decide +kernel) (by decide +kernel) (by decide +kernel) (by decide +kernel) (fun _ h=>nomatch h) trivial) (o6 b_reversed (aa 0)) (fun _ _ _ _=>ef rfl (aV (aQ (i:=0) (show (["_law_power", "_law_number"]:List Str).Nodup by decide +kernel) rfl (Or.inl rfl) (.inr rfl)) (aV (aQ (i:=1) (show (["_law_power", "_law_number"]:List Str).Nodup by decide +kernel) rfl (Or.inl rfl) (.inr rfl)) (cT)))) (fun _ _ _ _=>gX) (fun _ _ _ _=>fH (af (aO kI (az) (aa 0)) (af (aa 1) (aA)))) ))
 (bV))
 (aE (aX (i:=4) bx.nd (cV (iP rfl) b_list eV (af (aa 0) (aA))))
 (aE (aX (i:=5) bx.nd (cV (iP rfl) b_list eV (af (aa 1) (aA))))
 (aE (cN PassesOwn.never rfl (dz b_range (az)) (aQ (i:=6) bx.nd)
 (aE (dh (bP (oR hr.units) (aa 2) (az))
 (aH (aX (i:=7) bx.nd (bB G_plus (hr.mono (by decide)) (af (aa 4) (af (aa 5) (aA))) (au (au aP)))))
 (aH (dh (bP (oR hr.units) (aa 2) (az))
 (aH (aX (i:=7) bx.nd (bB G_times (hr.mono (by decide)) (af (aa 4) (af (aa 5) (aA))) (au (au aP)))))
 (aH (aX (i:=7) bx.nd (bB G_turned (hr.mono (by decide)) (af (aa 4) (aA)) (au aP)))))))
 (aE (dh (AW.at (jK (iG (gu (bB G_law_is_poly (hr.mono (by decide)) (af (aa 7) (aA)) (au aP)))) (jK (bP (mh hr.units) (aa 7) (aa 3)) (jK (bP (mh hr.units) (aa 4) (aa 0)) (mJ (bP (mh hr.units) (aa 5) (aa 1)))))))
 (aH (bE (gK)))
 (bV))
 (aH (qL (Ag PySem.F.slot_list_append PySem.F.type_list_append oV (aa 7) (af (fH (af (az) (af (az) (aA)))) (aA))))))))
 (aH (bE (gK)))))))
theorem cG:FnScope ["_law_one", "_law_other", "_law_told", "_law_due"] ["_law_one", "_law_other"] (aG bC):=⟨rfl,rfl,rfl,by decide +kernel,rfl,by decide +kernel,by decide +kernel⟩
theorem gY {f:Addr} {fd:FuncData} (F:Fun K "_law_told_again" "_law_told_again" bC f fd) (b_list:mg "list" = none) (b_reversed:mg "reversed" = none) (G_times:ff P w K mg base 2 "times" ["one", "other"] cR) (G_law_own_times:ff P w K mg base 2 "_law_own_times" ["_law_one", "_law_other"] aS) (G_plus:ff P w K mg base 2 "plus" ["one", "other"] eX) (G_law_own_plus:ff P w K mg base 2 "_law_own_plus" ["_law_one", "_law_other"] aY) (G_turned:ff P w K mg base 1 "turned" ["one"] cH):FnOk P w K mg base jg 3 f fd ["_law_one", "_law_other"] (kD K 2 bg):=pO (m:=cL) F cG fun cdv B outer s H E hr=>
 aE (aX (i:=2) cG.nd (bB G_times (hr.mono (by decide)) (af (cV (iP rfl) b_list eV (af (aa 0) (aA))) (af (cV (iP rfl) b_list eV (af (aa 1) (aA))) (aA))) (au (au aP))))
 (aE (aX (i:=3) cG.nd (bB G_law_own_times (hr.mono (by decide)) (af (aa 0) (af (aa 1) (aA))) (au (au aP))))
 (aE (dh (AW.at (jK (bP (mh hr.units) (bB G_times (hr.mono (by decide)) (af (aa 2) (af (cV (iP rfl) b_list eV (af (aa 0) (aA))) (aA))) (au (au aP))) (bB G_law_own_times (hr.mono (by decide)) (af (aa 3) (af (aa 0) (aA))) (au (au aP)))) (mJ (bP (mh hr.units) (bB G_plus (hr.mono (by decide)) (af (cV (iP rfl) b_list eV (af (aa 1) (aA))) (af (aa 2) (aA))) (au (au aP))) (bB G_law_own_plus (hr.mono (by decide)) (af (aa 1) (af (aa 3) (aA))) (au (au aP)))))))
 (aH (bE (gK)))
 (bV))
 (aH (bE (BD (mK (oR hr.units) (bB G_turned (hr.mono (by decide)) (af (aa 2) (aA)) (au aP)) (gH (N:=["_law_power", "_law_number"]) (cap:=[none,none]) rfl (jZ [] rfl (by decide +kernel) (by decide +kernel) (by decide +kernel) (by decide +kernel) (by decide +kernel) (fun _ h=>nomatch h) trivial) (o6 b_reversed (aa 3)) (fun _ _ _ _=>ef rfl (aV (aQ (i:=0) (show (["_law_power", "_law_number"]:List Str).Nodup by decide +kernel) rfl (Or.inl rfl) (.inr rfl)) (aV (aQ (i:=1) (show (["_law_power", "_law_number"]:List Str).Nodup by decide +kernel) rfl (Or.inl rfl) (.inr rfl)) (cT)))) (fun _ _ _ _=>gX) (fun _ _ _ _=>fH (af (aO kI (az) (aa 0)) (af (aa 1) (aA)))))) (Co (mK (oR hr.units) (aa 2) (aa 3))))))))
theorem fV:FnScope ["_law_script", "_law_k", "_law_bag_here", "_law_most", "_law_one", "_law_other", "_law_sort"] ["_law_script"] (aG iz):=⟨rfl,rfl,rfl,by decide +kernel,rfl,by decide +kernel,by decide +kernel⟩
theorem B7 {f:Addr} {fd:FuncData} (F:Fun K "law" "law" iz f fd) (b_range:mg "range" = none) (b_max:mg "max" = none) (b_min:mg "min" = none) (b_len:mg "len" = none) (b_int:mg "int" = none) (G_law_bag:ff P w K mg base 1 "_law_bag" ["_law_script", "_law_at"] dw) (G_law_digit:ff P w K mg base 1 "_law_digit" ["_law_bag_here", "_law_many"] aM) (G_law_poly:ff P w K mg base 3 "_law_poly" ["_law_bag_here", "_law_most", "_law_far"] cj) (G_law_right:ff P w K mg base 3 "_law_right" ["_law_one", "_law_other", "_law_sort"] cC) (G_law_told_again:ff P w K mg base 3 "_law_told_again" ["_law_one", "_law_other"] bg):FnOk P w K mg base jg 4 f fd ["_law_script"] (kD K 1 kM):=pO (m:=vA) F fV fun cdv B outer s H E hr=>
 aE (cN PassesOwn.never rfl (dz b_range (bL (B3 rfl) b_max BG (af (az) (af (bL (B9 rfl) b_min BC (af (bL sE b_len lZ (af (aa 0) (aA))) (af (az) (aA)))) (aA))))) (aQ (i:=1) fV.nd)
 (aE (aX (i:=2) fV.nd (bB G_law_bag (hr.mono (by decide)) (af (aa 0) (af (aa 1) (aA))) (au (au aP))))
 (aE (aX (i:=3) fV.nd (dg (fJ (af (az) (af (az) (aA)))) (cV Bt b_int xw (af (mK (oR hr.units) (bB G_law_digit (hr.mono (by decide)) (af (aa 2) (af (az) (aA))) (au (au aP))) (az)) (aA)))))
 (aE (aX (i:=4) fV.nd (bB G_law_poly (hr.mono (by decide)) (af (aa 2) (af (aa 3) (af (az) (aA)))) (au (au (au aP)))))
 (aE (aX (i:=5) fV.nd (bB G_law_poly (hr.mono (by decide)) (af (aa 2) (af (aa 3) (af (az) (aA)))) (au (au (au aP)))))
 (aE (dh (bP (oR hr.units) (bB G_law_digit (hr.mono (by decide)) (af (aa 2) (af (az) (aA))) (au (au aP))) (az))
 (aH (qp (i:=5) (N:=["_law_power", "_law_number"]) (cap:=[none,none]) fV.nd rfl (jZ [] rfl (by decide +kernel) (by decide +kernel) (by decide +kernel) (by decide +kernel) (by decide +kernel) (fun _ h=>nomatch h) trivial) (dD (aa 4)) (fun _ _ _ _=>ef rfl (aV (aQ (i:=0) (show (["_law_power", "_law_number"]:List Str).Nodup by decide +kernel) rfl (Or.inl rfl) (.inr rfl)) (aV (aQ (i:=1) (show (["_law_power", "_law_number"]:List Str).Nodup by decide +kernel) rfl (Or.inl rfl) (.inr rfl)) (cT)))) (fun _ _ _ _=>gX) (fun _ _ _ _=>fH (af (aa 0) (af (aO kI (az) (aa 1)) (aA)))) ))
 (bV))
 (aE (cN PassesOwn.never rfl (dz b_range (az)) (aQ (i:=6) fV.nd)
 (aH (dh (iG (gu (bB G_law_right (hr.mono (by decide)) (af (aa 4) (af (aa 5) (af (aa 6) (aA)))) (au (au (au aP))))))
 (aH (bE (gK)))
 (bV))))
 (aH (dh (iG (gu (bB G_law_told_again (hr.mono (by decide)) (af (aa 4) (af (aa 5) (aA))) (au (au aP)))))
 (aH (bE (gK)))
 (bV))))))))))
 (aH (bE (gK)))
end
end K25
namespace K25
open PySem L2 Am
noncomputable def kE (S:ak) (b:Nat):Prop:=∃ g st:Int,aq S b=some [.int g,.int st]/\0<=g/\0<=st/\st < 4294967296
theorem kE.kp {S S':ak} {b:Nat} {c:Nat->Prop} (h:kE S b) (k:Kp c S S') (hb:¬ c b):kE S' b:=by
 obtain ⟨g,st,e,q⟩:=h
 exact ⟨g,st,k.lst b _ hb e,q⟩
theorem kE.lt {S:ak} {b:Nat} (h:kE S b):b < S.length:=by obtain ⟨_,_,e,_⟩:=h;exact jY e
theorem yJ {S:ak} {ns:List Int} {k:Int} (h0:0<=k) (h1:k<=100):∃ S',dw [.frz (ns.map .int),.int k] S=.ok (.ref S.length) S'/\kE S' S.length/\gD S S':=by
 have e3:pX (.int 10) (.int 18)=fun S=>R.ok (.int 1000000000000000000) S:=by
  funext S;exact fK ⟨by decide,by decide,by decide⟩
 have m1:∀ x:Int,mS (.int x) (.int 2147483647)=fun S=>R.ok (.int (x % 2147483647)) S:=fun x=>by funext S;exact ou (by decide)
 have m3:∀ x:Int,gM (.int 7919) (.int x)=fun S=>R.ok (.int (7919 * x)) S:=fun x=>by funext S;exact rE (by decide) (by decide)
 have s0:∀ x:Int,0<=x % 2147483647:=fun x=>Int.emod_nonneg _ (by decide)
 have s1:∀ x:Int,x % 2147483647 < 4294967296:=fun x=>by have:=Int.emod_lt_of_pos x (show (0:Int) < 2147483647 by decide);omega
 have go:∀ cell:Int,∃ S',((RS.seq (.nx [A.frz (ns.map .int),.int k,.int cell,.unb] S) (bh (br (eC (.int 0)) (bI 3))
  (bh (kj (iI (aF EC (aj 2) (aF pX (eC (.int 10)) (eC (.int 18))))) (br (aj 2) (bI 3)) (e_))
  (cJ (iD (ah (aj 3) (ah (aF mS (aF cE (aF cE (aj 2) (aF gM (eC (.int 7919)) (aj 1))) (eC (.int 13))) (eC (.int 2147483647))) (aJ)))))))).end=.ok (.ref S.length) S')/\kE S' S.length/\gD S S':=by
  intro cell
  by_cases hc:1000000000000000000<=cell
  ·simp only [bQ,bools,e3,m1,m3,decide_eq_true hc]
   exact ⟨_,rfl,⟨_,_,aU,by omega,s0 _,s1 _⟩,Kp.refl.lay⟩
  ·simp only [bQ,bools,e3,m1,m3,decide_eq_false hc]
   exact ⟨_,rfl,⟨_,_,aU,Int.le_refl 0,s0 _,s1 _⟩,Kp.refl.lay⟩
 unfold dw iC lI
 simp only [bQ,bools,gG,Nat.reduceAdd,Nat.reduceSub,List.length_map]
 by_cases hk:k < (ns.length:Int)
 ·have hn:k.toNat < ns.length:=by omega
  have ha:gj (ns.map A.int) k=some (.int ns[k.toNat]):=yS (k:=k.toNat) (by omega) (List.getElem?_eq_getElem hn)
  rw [decide_eq_true hk]
  simp only [bQ,bools,ha]
  have:=go ns[k.toNat]
  simpa only [bQ,bools] using this
 ·rw [decide_eq_false hk]
  simp only [bQ,bools]
  have:=go 0
  simpa only [bQ,bools] using this
theorem digit {S:ak} {b:Nat} {m:Int} (h:kE S b) (h1:1<=m) (h2:m < 1073741824):∃ d S',aM [.ref b,.int m] S=.ok (.int d) S'/\0<=d/\d < m/\kE S' b/\Kp (·=b) S S':=by
 obtain ⟨g,st,hl,hg,hs,hs2⟩:=h
 have hb:=jY hl
 have i0:qU 2 0=some 0:=xh rfl (by decide)
 have i1:qU 2 1=some 1:=xh rfl (by decide)
 have fin:∀ d g' st':Int,0<=d->d < m->0<=g'->0<=st'->st' < 4294967296->aM [.ref b,.int m] S=.ok (.int d) (S.set b (.lst [.int g',.int st']))->∃ d S',aM [.ref b,.int m] S=.ok (.int d) S'/\0<=d/\d < m/\kE S' b/\Kp (·=b) S S':=
  fun d g' st' a1 a2 a3 a4 a5 e=>⟨d,_,e,a1,a2,⟨g',st',lW hb,a3,a4,a5⟩,Kp.refl.set (.inl rfl)⟩
 by_cases hg0:0 < g
 ·refine fin (g % m) (g / m) st (Int.emod_nonneg _ (by omega)) (Int.emod_lt_of_pos _ (by omega)) (Int.ediv_nonneg hg (by omega)) hs hs2 ?_
  unfold aM dX fU
  rw [h_]
  simp [hl,rW,qj,hg0,ou (show 0 < m by omega),xW (show 0 < m by omega) h2,i0]
 ·have e1:0<=(st * 48271+11) % 2147483647:=Int.emod_nonneg _ (by decide)
  have e2:(st * 48271+11) % 2147483647 < 2147483647:=Int.emod_lt_of_pos _ (by decide)
  have e3:0<=(st * 48271+11) % 2147483647 / 8:=by omega
  refine fin ((st * 48271+11) % 2147483647 / 8 * 69621 % 2147483629 % m) g ((st * 48271+11) % 2147483647) (Int.emod_nonneg _ (by omega)) (Int.emod_lt_of_pos _ (by omega)) hg e1 (by omega) ?_
  unfold aM dX fU
  rw [h_]
  simp [hl,rW,qj,hg0,i1,rE (show -18446744073709551616 < st by omega) (by omega),ou (show (0:Int) < 2147483647 by decide),lW hb,xW (show (0:Int) < 8 by decide) (by decide),rE (show -18446744073709551616 < (st * 48271+11) % 2147483647 / 8 by omega) (by omega),ou (show (0:Int) < 2147483629 by decide),ou (show 0 < m by omega)]
theorem E5:pX (.int 10) (.int 9)=fun S=>R.ok (.int 1000000000) S:=by funext S;exact fK ⟨by decide,by decide,by decide⟩
open Po (Pl Ok Bd)
theorem yc {S:ak} {d:Nat} {D:Pl} (hd:bF S d=some (Po.iv D)) (hl:D.length<=16777216):∃ S',aZ [.ref d] S=.ok (.ref (S.length+1)) S'/\aq S' (S.length+1)=some (Po.pl (Po.m8 D))/\gD S S':=by
 obtain ⟨S',e,h1,h2⟩:=xg hd hl
 refine ⟨S',?_,h1,h2⟩
 unfold aZ c_ fy
 simp only [bQ,bools,gG,Nat.reduceAdd,Nat.reduceSub]
 rw [show bR [none,some 0] _ _ _ _ _ _=_ from e]
 rfl
theorem qz {S:ak} {n m:Nat} {a b:Pl} (hn:aq S n=some (Po.pl a)) (hm:aq S m=some (Po.pl b)) (ha:Ok a) (hl:a.length+b.length < 16777216) :
  ∃ (L:Nat) (S':ak),eX [.ref n,.ref m] S=.ok (.ref L) S'/\aq S' L=some (Po.pl (Po.oF a b))/\S.length<=L/\gD S S':=by
 have hd:bF (S++[.cY (Po.iv a)]) S.length=some (Po.iv a):=mQ
 obtain ⟨y3,y4,T,e,hD,kp⟩:=qP (S:=S++[.cY (Po.iv a)]) (S1:=S++[.cY (Po.iv a)]) (x0:=.ref n) (x1:=.ref m) (x3:=.unb) (x4:=.unb) (src:=gO) (l:=b) (show gO _ _=_ from gw (by simp only [bQ,bools]) (bz hm)) (bz hm) hd hl
 have ln:=Po.b8 b a
 obtain ⟨S',e2,h1,h2⟩:=yc hD (by omega)
 have k1:gD S T:=(Kp.refl.lay (o:=.cY (Po.iv a))).old kp fun q hq _ z=>by omega
 refine ⟨T.length+1,S',?_,by rw [h1,<- Po.zz ha];rfl,by have:=k1.len;omega,k1.trans h2⟩
 unfold eX pL vR
 simp only [bQ,bools,gG,Nat.reduceAdd,Nat.reduceSub,tK,hn,Po.Av,Po.zD,Po.y_ ha]
 rw [show cD gO _ oO _ _=_ from e]
 simp only [bQ,bools,e2]
theorem fS {S:ak} {n m:Nat} {a b:Pl} (hn:aq S n=some (Po.pl a)) (hm:aq S m=some (Po.pl b)) (hl:a.length * b.length < 16777216) (ha:∀ p∈a,p.2.natAbs < big) (hb:∀ p∈b,p.2.natAbs < big) :
  ∃ (L:Nat) (S':ak),cR [.ref n,.ref m] S=.ok (.ref L) S'/\aq S' L=some (Po.pl (Po.times a b))/\S.length<=L/\gD S S':=by
 have hd:bF (S++[.cY []]) S.length=some []:=mQ
 obtain ⟨y3,y4,y5,y6,T,e,hD,kp⟩:=lq (S:=S++[.cY []]) (x3:=.unb) (x4:=.unb) (x5:=.unb) (x6:=.unb) (bz hn) (bz hm) hd hl ha hb
 have ln:=Po.b8 (Po.oW a b) []
 rw [Po.gf,List.length_nil,Nat.zero_add] at ln
 obtain ⟨S',e2,h1,h2⟩:=yc hD (by omega)
 have k1:gD S T:=(Kp.refl.lay (o:=.cY [])).old kp fun q hq _ z=>by omega
 refine ⟨T.length+1,S',?_,h1,by have:=k1.len;omega,k1.trans h2⟩
 unfold cR mV qG
 simp only [bQ,bools,gG,Nat.reduceAdd,Nat.reduceSub,iO]
 rw [show cD lg _ lA _ _=_ from e]
 simp only [bQ,bools,e2]
theorem kO {S:ak} {n:Nat} {a:Pl} (hn:aq S n=some (Po.pl a)) (hl:a.length<=16777216) :
  cH [.ref n] S=.ok (.ref S.length) (S++[.lst (Po.pl (Po.turn a))]):=by
 have cc:=j0 (l:=a) (n:=n) (cap:=[]) (src:=yy (aj 0)) (e:=fY (ah (C5 tU (aj 0)) (ah (aj 1) (aJ)))) (τ:=[.ref n]) (S:=S) (S1:=S) (pH (by simp only [bQ,bools]) hn) hn (fun p=>Po.pA (-p.1,p.2)) (fun p=>by
  simp only [bQ,bools]
  exact fE (show 2<=16777216 by decide)) hl
 unfold cH jW nN
 simp only [bQ,bools,gG,Nat.reduceAdd,Nat.reduceSub]
 rw [show bR [none,none] _ _ _ _ _ _=_ from cc]
 unfold Po.pl Po.turn
 rw [List.map_map];rfl
theorem rA {S:ak} {d:Nat} {D:Pl} (hd:bF S d=some (Po.iv D)) (hl:D.length<=16777216):∃ S',bq [.ref d] S=.ok (.ref (S.length+1)) S'/\aq S' (S.length+1)=some (Po.pl (Po.m8 D))/\gD S S':=by
 obtain ⟨S',e,h1,h2⟩:=xg hd hl
 refine ⟨S',?_,h1,h2⟩
 unfold bq dM fX
 simp only [bQ,bools,gG,Nat.reduceAdd,Nat.reduceSub]
 rw [show bR [none,some 0] _ _ _ _ _ _=_ from e]
 rfl
theorem nK {S:ak} {n m:Nat} {a b:Pl} (hn:aq S n=some (Po.pl a)) (hm:aq S m=some (Po.pl b)) (hl:a.length+b.length < 16777216) :
  ∃ (L:Nat) (S':ak),aY [.ref n,.ref m] S=.ok (.ref L) S'/\aq S' L=some (Po.pl (Po.oF a b))/\S.length<=L/\gD S S':=by
 have hd:bF (S++[.cY []]++[.lst (Po.pl (a++b))]) S.length=some (Po.iv []):=vW mQ
 have ad:cE (.ref n) (.ref m) (S++[.cY []])=.ok (.ref (S++[O.cY []]).length) (S++[.cY []]++[.lst (Po.pl (a++b))]):=by
  show opt (aq (S++[.cY []]) n) _=_
  rw [bz hn,fW,bz hm,fW]
  unfold Po.pl
  rw [List.map_append]
  exact fE (show (a.map Po.pA).length+(b.map Po.pA).length<=16777216 by rw [List.length_map,List.length_map];omega)
 obtain ⟨y3,y4,T,e,hD,kp⟩:=qP (S:=S++[.cY []]) (S1:=S++[.cY []]++[.lst (Po.pl (a++b))]) (x0:=.ref n) (x1:=.ref m) (x3:=.unb) (x4:=.unb) (src:=bX) (l:=a++b) (show bX _ _=_ from gw (by simp only [bQ,bools,ad]) aU) aU hd (by rw [List.length_append];simpa using hl)
 have ln:=Po.b8 (a++b) []
 rw [List.length_append,List.length_nil,Nat.zero_add] at ln
 obtain ⟨S',e2,h1,h2⟩:=rA hD (by omega)
 have k1:gD S T:=((Kp.refl.lay (o:=.cY [])).lay (o:=.lst (Po.pl (a++b)))).old kp fun q hq _ z=>by omega
 refine ⟨T.length+1,S',?_,h1,by have:=k1.len;omega,k1.trans h2⟩
 unfold aY dH fR
 simp only [bQ,bools,gG,Nat.reduceAdd,Nat.reduceSub,iO]
 rw [show cD bX _ eK _ _=_ from e]
 simp only [bQ,bools,e2]
theorem iW {S:ak} {n m:Nat} {a b:Pl} (hn:aq S n=some (Po.pl a)) (hm:aq S m=some (Po.pl b)) (hl:a.length * b.length < 16777216) (ha:∀ p∈a,p.2.natAbs < big) (hb:∀ p∈b,p.2.natAbs < big) :
  ∃ (L:Nat) (S':ak),aS [.ref n,.ref m] S=.ok (.ref L) S'/\aq S' L=some (Po.pl (Po.times a b))/\S.length<=L/\gD S S':=by
 have hd:bF (S++[.cY []]) S.length=some []:=mQ
 obtain ⟨y3,y4,y5,y6,T,e,hD,kp⟩:=lq (S:=S++[.cY []]) (x3:=.unb) (x4:=.unb) (x5:=.unb) (x6:=.unb) (bz hn) (bz hm) hd hl ha hb
 have ln:=Po.b8 (Po.oW a b) []
 rw [Po.gf,List.length_nil,Nat.zero_add] at ln
 obtain ⟨S',e2,h1,h2⟩:=rA hD (by omega)
 have k1:gD S T:=(Kp.refl.lay (o:=.cY [])).old kp fun q hq _ z=>by omega
 refine ⟨T.length+1,S',?_,h1,by have:=k1.len;omega,k1.trans h2⟩
 unfold aS cZ fh
 simp only [bQ,bools,gG,Nat.reduceAdd,Nat.reduceSub,iO]
 rw [show cD dZ _ dR _ _=_ from e]
 simp only [bQ,bools,e2]
end K25
namespace K25
open PySem L2 Am
open Po (Pl Ok Bd)
theorem tR {S:ak} {b:Nat} (h:kE S b):∃ (x:Int) (S':ak),bY [.ref b] S=.ok (.int x) S'/\x.natAbs<=10 ^ 31/\kE S' b/\Kp (·=b) S S':=by
 obtain ⟨w,S1,e1,w0,w1,b1,k1⟩:=digit (m:=4) h (by decide) (by decide)
 obtain ⟨mx,tr,h4,h5,h6,h7,h8⟩:∃ mx tr:Int,gj ([.int 4,.int 4,.int 1000,.int 1000]:List A) w=some (.int mx)/\gj ([.int 0,.int 0,.int 1,.int 3]:List A) w=some (.int tr)/\1<=mx/\mx<=1000/\(0<=tr/\tr<=3):=by
  rcases (by omega:w=0\/w=1\/w=2\/w=3) with z | z | z | z <;> subst z
  ·exact ⟨4,0,rfl,rfl,by decide,by decide,by decide⟩
  ·exact ⟨4,0,rfl,rfl,by decide,by decide,by decide⟩
  ·exact ⟨1000,1,rfl,rfl,by decide,by decide,by decide⟩
  ·exact ⟨1000,3,rfl,rfl,by decide,by decide,by decide⟩
 have hb:=h.lt
 have n4:∀ S:ak,newL [.int 4,.int 4,.int 1000,.int 1000] S=.ok (.ref S.length) (S++[.lst [.int 4,.int 4,.int 1000,.int 1000]]):=fun S=>bA (show 4<=16777216 by decide)
 have n5:∀ S:ak,newL [.int 0,.int 0,.int 1,.int 3] S=.ok (.ref S.length) (S++[.lst [.int 0,.int 0,.int 1,.int 3]]):=fun S=>bA (show 4<=16777216 by decide)
 obtain ⟨x0,S2,e2,x1,x2,b2,k2⟩:=digit (m:=mx) (b1.kp (c:=fun _=>False) (Kp.refl.lay (o:=.lst [.int 4,.int 4,.int 1000,.int 1000])) fun z=>z) h6 (by omega)
 unfold bY eT gP
 simp only [bQ,bools,gG,Nat.reduceAdd,Nat.reduceSub,e1,n4,h4,e2]
 have En:Kp (·=b) S S2:=(k1.lay).trans k2
 refine iy (lo:=0) (hi:=tr) (S1:=S2++[.lst [.int 0,.int 0,.int 1,.int 3]]) (show fD _ _=_ from eE (by simp only [bQ,bools,n5,h5]) (iQ (by omega) (by omega)))
  (fun i τ T=>∃ (x:Int) (a3:A),τ=[.ref b,.int w,.int x,a3]/\0<=x/\x < 1000 * 1000000000 ^ i/\kE T b/\Kp (·=b) S T)
  (fun r=>∃ (x:Int) (S':ak),RS.end (RS.seq r _)=.ok (.int x) S'/\x.natAbs<=10 ^ 31/\kE S' b/\Kp (·=b) S S')
  ⟨x0,_,rfl,x1,by show x0 < 1000 * 1;omega,b2.kp (c:=fun _=>False) (Kp.refl.lay) fun z=>z,En.lay⟩ ?_ ?_
 ·rintro i τ T hi ⟨x,a3,rfl,y0,y1,bT,kT⟩
  left
  obtain ⟨d,T1,e3,d0,d1,b3,k3⟩:=digit (m:=1000000000) bT (by decide) (by decide)
  have ml:gM (.int x) (.int 1000000000)=fun S=>R.ok (.int (x * 1000000000)) S:=by funext S;exact mul_r (by decide) (by decide)
  unfold fL
  simp only [bQ,bools,E5,ml,e3]
  refine ⟨_,_,rfl,_,_,rfl,by omega,?_,b3,kT.trans k3⟩
  rw [Int.pow_succ]
  generalize (1000000000:Int) ^ i=q at *
  omega
 ·rintro τ T ⟨x,a3,rfl,y0,y1,bT,kT⟩
  have n6:∀ S:ak,newL [.int 1,.int (-1)] S=.ok (.ref S.length) (S++[.lst [.int 1,.int (-1)]]):=fun S=>bA (show 2<=16777216 by decide)
  obtain ⟨d,T1,e3,d0,d1,b3,k3⟩:=digit (m:=2) (bT.kp (c:=fun _=>False) (Kp.refl.lay (o:=.lst [.int 1,.int (-1)])) fun z=>z) (by decide) (by decide)
  have hL:aq T1 T.length=some [.int 1,.int (-1)]:=k3.lst _ _ (by have:=bT.lt;omega) aU
  obtain ⟨s,hs,s1⟩:∃ s:Int,gj ([.int 1,.int (-1)]:List A) d=some (.int s)/\(s=1\/s=-1):=by
   rcases (by omega:d=0\/d=1) with z | z <;> subst z
   ·exact ⟨1,rfl,.inl rfl⟩
   ·exact ⟨-1,rfl,.inr rfl⟩
  have ml:gM (.int x) (.int s)=fun S=>R.ok (.int (x * s)) S:=by funext S;exact mul_r (by omega) (by omega)
  simp only [bQ,bools,n6,e3,hL,hs,ml]
  refine ⟨_,_,rfl,?_,b3,(kT.lay).trans k3⟩
  have lt:x < 1000 * 1000000000 ^ 3:=by
   rcases (by omega:(tr - 0).toNat=0\/(tr - 0).toNat=1\/(tr - 0).toNat=2\/(tr - 0).toNat=3) with z | z | z | z <;> rw [z] at y1 <;> omega
  rcases s1 with z | z <;> subst z <;> omega
theorem nj {S:ak} {b:Nat} {most far:Int} (h:kE S b) (h0:0<=most) (h1:most<=1000) (f0:0<=far) (f1:far<=1000) :
  ∃ (l:Pl) (L:Nat) (S':ak),cj [.ref b,.int most,.int far] S=.ok (.ref L) S'/\aq S' L=some (Po.pl l)/\Ok l/\Bd (10 ^ 31) l/\(l.length:Int)<=most/\kE S' b/\Kp (·=b) S S'/\S.length<=L:=by
 have nb:S.length≠b:=by have:=h.lt;omega
 obtain ⟨d,S1,e1,d0,d1,b1,k1⟩:=digit (S:=S++[.lst []]) (m:=2 * far+1) (h.kp (c:=fun _=>False) Kp.refl.lay fun z=>z) (by omega) (by omega)
 have m2:gM (.int 2) (.int far)=fun S=>R.ok (.int (2 * far)) S:=by funext S;exact rE (by decide) (by decide)
 have hL1:aq S1 S.length=some []:=k1.lst _ _ nb aU
 have EF:Kp (·=b) S S1:=(Kp.refl.lay).trans k1
 obtain ⟨c,S2,e2,c0,c1,b2,k2⟩:=digit (S:=S1) (m:=most+1) b1 (by omega) (by omega)
 have go:∀ p0:Int,∃ (l:Pl) (L:Nat) (S':ak),RS.end (RS.seq (cD eS (bI 5) eO [.ref b,.int most,.int far,.ref S.length,.int p0,.unb,.unb] S1) (cJ (aj 3)))=.ok (.ref L) S'/\aq S' L=some (Po.pl l)/\Ok l/\Bd (10 ^ 31) l/\(l.length:Int)<=most/\kE S' b/\Kp (·=b) S S'/\S.length<=L:=by
  intro p0
  refine iy (lo:=0) (hi:=c) (S1:=S2) (show eS _ _=_ from eE (by simp only [bQ,bools,e2]) (iQ (by omega) (by omega)))
   (fun i τ T=>∃ (l:Pl) (p:Int) (a5 a6:A),τ=[.ref b,.int most,.int far,.ref S.length,.int p,a5,a6]/\aq T S.length=some (Po.pl l)/\Ok l/\(∀ q∈l,q.1 < p)/\Bd (10 ^ 31) l/\l.length<=i/\kE T b/\Kp (·=b) S T)
   (fun r=>∃ (l:Pl) (L:Nat) (S':ak),RS.end (RS.seq r _)=.ok (.ref L) S'/\aq S' L=some (Po.pl l)/\Ok l/\Bd (10 ^ 31) l/\(l.length:Int)<=most/\kE S' b/\Kp (·=b) S S'/\S.length<=L)
   ⟨[],p0,_,_,rfl,k2.lst _ _ nb hL1,⟨List.Pairwise.nil,fun _ h=>nomatch h⟩,(fun _ h=>nomatch h),(fun _ h=>nomatch h),Nat.le_refl _,b2,EF.trans k2⟩ ?_ ?_
  ·rintro i τ T hi ⟨l,p,a5,a6,rfl,hL,ok,lt,bd,len,bT,kT⟩
   left
   obtain ⟨x,T1,e3,x1,b3,k3⟩:=tR bT
   have hL3:=k3.lst _ _ nb hL
   unfold eO
   simp only [bQ,bools,e3]
   have tail:∀ (l':Pl) (T2:ak),kE T2 b->Kp (·=b) S T2->aq T2 S.length=some (Po.pl l')->Ok l'->(∀ q∈l',q.1 < p+1)->Bd (10 ^ 31) l'->l'.length<=i+1 ->
     ∃ τ' S',RS.seq (.nx [.ref b,.int most,.int far,.ref S.length,.int p,.int (0+(i:Int)),.int x] T2) (br (aF cE (aF cE (aj 4) (eC (.int 1))) (eFn aM (ah (aj 0) (ah (eC (.int 3)) (aJ))))) (bI 4))=.nx τ' S' /\
     ∃ (l:Pl) (p:Int) (a5 a6:A),τ'=[.ref b,.int most,.int far,.ref S.length,.int p,a5,a6]/\aq S' S.length=some (Po.pl l)/\Ok l/\(∀ q∈l,q.1 < p)/\Bd (10 ^ 31) l/\l.length<=i+1/\kE S' b/\Kp (·=b) S S':=by
    intro l' T2 bb kk hh oo ll dd ee
    obtain ⟨y,T4,e4,y0,y1,b4,k4⟩:=digit (S:=T2) (m:=3) bb (by decide) (by decide)
    simp only [bQ,bools,e4]
    exact ⟨_,_,rfl,l',_,_,_,rfl,k4.lst _ _ nb hh,oo,fun q hq=>by have:=ll q hq;omega,dd,ee,b4,kk.trans k4⟩
   have stay:=tail l T1 b3 (kT.trans k3) hL3 ok (fun q hq=>by have:=lt q hq;omega) bd (by omega)
   by_cases hx:x=0
   ·subst hx
    simp only [bQ,bools,beq_self_eq_true] at stay ⊢
    exact stay
   ·have hx':(x == 0)=false:=by simpa using hx
    by_cases hp:p<=far
    ·have gl:gd ((Po.pl l).length < sizeLine)=fun r:Am.R A=>r:=by funext r;exact qC (show (Po.pl l).length < 16777216 by rw [ck];omega)
     have lL:=jY hL3
     have ap:=tail (l++[(p,x)]) (T1.set S.length (.lst (Po.pl (l++[(p,x)])))) (by
       obtain ⟨g,st,e,q⟩:=b3
       exact ⟨g,st,by rw [pI nb];exact e,q⟩) ((kT.trans k3).set (.inr (Nat.le_refl _))) (lW lL)
      ⟨by
       rw [List.pairwise_append]
       exact ⟨ok.up,List.pairwise_singleton _ _,fun a ha c hc=>by rw [List.mem_singleton.mp hc];exact lt a ha⟩,fun q hq=>by
       rcases List.mem_append.mp hq with z | z
       ·exact ok.nz q z
       ·rw [List.mem_singleton.mp z];exact hx⟩
      (fun q hq=>by
       rcases List.mem_append.mp hq with z | z
       ·have:=lt q z;omega
       ·rw [List.mem_singleton.mp z];show p < p+1;omega)
      (fun q hq=>by
       rcases List.mem_append.mp hq with z | z
       ·exact bd q z
       ·rw [List.mem_singleton.mp z];exact x1) (by rw [List.length_append];show l.length+1<=_;omega)
     have et:Po.pl l++[A.tup [.int p,.int x]]=Po.pl (l++[(p,x)]):=by unfold Po.pl;rw [List.map_append];rfl
     simp only [bQ,bools,hx',Bool.not_false,decide_eq_true hp,fE (show ([A.int p,.int x]:List A).length<=16777216 by simp),hL3,gl,et] at ap ⊢
     exact ap
    ·simp only [bQ,bools,hx',Bool.not_false,decide_eq_false hp] at stay ⊢
     exact stay
  ·rintro τ T ⟨l,p,a5,a6,rfl,hL,ok,lt,bd,len,bT,kT⟩
   simp only [bQ,bools]
   exact ⟨l,S.length,T,rfl,hL,ok,bd,by omega,bT,kT,Nat.le_refl _⟩
 unfold cj gA ko
 simp only [bQ,bools,gG,Nat.reduceAdd,Nat.reduceSub,m2,e1]
 by_cases hm:20 < most
 ·rw [decide_eq_true (show most > 20 from hm)]
  simp only [bQ,bools]
  exact go _
 ·rw [decide_eq_false (show ¬ most > 20 from hm)]
  simp only [bQ,bools]
  exact go _
end K25
namespace K25
open PySem L2 Am
open Po (Pl Ok Bd)
theorem vm {S:ak} {L:Nat} {l:Pl} (hL:aq S L=some (Po.pl l)) (ok:Ok l) (hl:l.length<=1000000):∃ S',bU [.ref L] S=.ok (.bl true) S'/\gD S S':=by
 unfold bU d_ gg
 simp only [bQ,bools,gG,Nat.reduceAdd,Nat.reduceSub,hL,Option.map_some,show m_ .lst "list" = some true from rfl,Bool.not_true]
 refine jn (n:=L) (xs:=Po.pl l) (S1:=S) (show fj _ _=_ from gw (by simp only [bQ,bools]) hL)
  (fun i τ T=>(∃ a1 a2:A,τ=[.ref L,a1,a2])/\T=S) (fun r=>∃ S',RS.end (RS.seq r _)=.ok (.bl true) S'/\gD S S') ⟨⟨_,_,rfl⟩,rfl⟩ (fun i τ T h=>by rw [h.2];exact hL) ?_ ?_
 ·rintro i z τ T hz ⟨⟨a1,a2,rfl⟩,rfl⟩
  unfold Po.pl at hz
  rw [List.getElem?_map] at hz
  obtain ⟨p,hp,rfl⟩:=Option.map_eq_some_iff.mp hz
  have nz:(p.2 == 0)=false:=by simpa using ok.nz p (List.mem_of_getElem? hp)
  refine ⟨[.ref L,.tup [.int p.1,.int p.2],a2],T,rfl,.inl ?_⟩
  unfold fq
  simp only [bQ,bools,show m_ .tup "tuple" = some true from rfl,Bool.not_true,List.length_cons,List.length_nil,Nat.zero_add,Nat.reduceAdd,show (((2:Nat):Int) == 2)=true from rfl,qj,nz]
  refine p5 (xs:=[.int p.1,.int p.2]) (S1:=T) (show fu _ _=_ from C3 (by simp only [bQ,bools]))
   (fun j τ T'=>(∃ a2:A,τ=[.ref L,.tup [.int p.1,.int p.2],a2])/\T'=T) (fun r=>∃ τ' S',r=.nx τ' S'/\(∃ a1 a2:A,τ'=[.ref L,a1,a2])/\S'=T) ⟨⟨_,rfl⟩,rfl⟩ ?_ ?_
  ·rintro j y τ T' hy ⟨⟨a2,rfl⟩,rfl⟩
   obtain ⟨q,rfl⟩:∃ q:Int,y=.int q:=by
    have:=List.mem_of_getElem? hy
    simp at this
    rcases this with z | z
    ·exact ⟨_,z⟩
    ·exact ⟨_,z⟩
   refine ⟨[.ref L,.tup [.int p.1,.int p.2],.int q],T',rfl,.inl ?_⟩
   unfold fB
   simp only [bQ,bools,show m_ .int "int" = some true from rfl,show m_ .int "bool" = some false from rfl,Bool.not_true]
   exact ⟨_,_,rfl,⟨_,rfl⟩,rfl⟩
  ·rintro τ T' ⟨⟨a2,rfl⟩,rfl⟩
   exact ⟨_,_,rfl,⟨_,_,rfl⟩,rfl⟩
 ·rintro τ T ⟨⟨a1,a2,rfl⟩,rfl⟩
  have ix:∀ j:Int,0<=j->j < (l.length:Int)->gj (Po.pl l) j=some (.tup [.int (l.getD j.toNat (0,0)).1,.int (l.getD j.toNat (0,0)).2]):=fun j h0 h1=>mX (k:=j.toNat) (by omega) (yb (by omega))
  have cc:=u7 (lo:=0) (hi:=(l.length:Int) - 1) (cap:=[some 0]) (src:=fm (aF aSub (bK (f1 mP) (ah (aj 0) (aJ))) (eC (.int 1)))) (t:=iX) (e:=aF Ey (aF iZ (aF iZ (aj 1) (aj 0)) (eC (.int 0))) (aF iZ (aF iZ (aj 1) (aF cE (aj 0) (eC (.int 1)))) (eC (.int 0)))) (τ:=[.ref L,a1,a2]) (S:=T) (S1:=T)
   (eE (by simp only [bQ,bools,hL,ck]) (iQ (by omega) (by omega))) (fun _=>true) (fun _=>.bl true) (fun _ _ _=>rfl) (fun j h0 h1 _=>by
    have lt:(l.getD j.toNat (0,0)).1 < (l.getD (j+1).toNat (0,0)).1:=by
     have e1:(j+1).toNat=j.toNat+1:=by omega
     rw [e1,List.getD_eq_getElem?_getD,List.getD_eq_getElem?_getD,List.getElem?_eq_getElem (show j.toNat < l.length by omega),List.getElem?_eq_getElem (show j.toNat+1 < l.length by omega)]
     exact List.pairwise_iff_getElem.mp ok.up _ _ _ _ (by omega)
    simp only [bQ,bools,hL,ix j h0 (by omega),ix (j+1) (by omega) (by omega),rW,decide_eq_true lt]) (by omega)
  have al:∀ (xs:List Int) (S:ak) (n:Nat),aq S n=some (xs.map fun _=>.bl true)->CF (.ref n) S=.ok (.bl true) S:=fun xs S n h=>by
   show opt (aq S n) _=_
   rw [h]
   show opt (A.Bh _) _=_
   have b1:∀ xs:List Int,A.Bh (xs.map fun _=>A.bl true)=some (xs.map fun _=>true):=fun xs=>by
    induction xs with
    | nil=>rfl
    | cons x xs ih=>rw [List.map_cons,tQ,ih];rfl
   rw [b1]
   have b2:∀ xs:List Int,((xs.map fun _=>true).all fun b=>b)=true:=fun xs=>by
    induction xs with
    | nil=>rfl
    | cons x xs ih=>exact ih
   show Am.R.ok (A.bl _) S=_
   rw [b2]
  simp only [bQ,bools,cc,al _ _ _ aU]
  exact ⟨_,rfl,Kp.refl.lay⟩
end K25
namespace K25
open PySem L2 Am
open Po (Pl Ok Bd)
theorem qI {S:ak} {k:Nat}:∀ l:Pl,gJ (kq S (k+2)) (Po.pl l) (Po.pl l)=some true
 | []=>rfl
 | p::l=>by
  have e:kq S (k+2) (Po.pA p) (Po.pA p)=some true:=by
   show gJ (kq S (k+1)) (([p.1,p.2]:List Int).map .int) (([p.1,p.2]:List Int).map .int)=_
   rw [lE,decide_eq_true rfl]
  show (kq S (k+2) (Po.pA p) (Po.pA p)).bind _=_
  rw [e]
  show Option.map _ (gJ (kq S (k+2)) (Po.pl l) (Po.pl l))=_
  rw [qI l];rfl
theorem j5 {S:ak} {a b:Nat} {l:Pl} (h:aq S a=some (Po.pl l)) (h':aq S b=some (Po.pl l)):kq S 12 (.ref a) (.ref b)=some true:=by
 show (aq S a).bind (fun xs=>(aq S b).bind fun ys=>gJ (kq S 11) xs ys)=_
 rw [h,h']
 exact qI (k:=9) l
theorem qD {S:ak} {n:Nat} {xs:List A} (h:aq S n=some xs) (hl:xs.length<=16777216):fP (.ref n) S=.ok (.ref S.length) (S++[.lst xs]):=by
 show opt (aq S n) _=_
 rw [h]
 rfl
structure Pair (S:ak) (n m:Nat) (a b:Pl):Prop where
 n:aq S n=some (Po.pl a)
 m:aq S m=some (Po.pl b)
 oa:Ok a
 ob:Ok b
 ba:Bd (10 ^ 31) a
 bb:Bd (10 ^ 31) b
 la:a.length<=41
 lb:b.length<=41
theorem Bm {i:Int} {c:Nat} (h:i.natAbs<=c) (hc:c < 2 ^ 4096):i.natAbs < big:=by
 rw [qy]
 exact Nat.lt_of_le_of_lt h hc
theorem Bd.big {l:Pl} {c:Nat} (h:Bd c l) (hc:c < 2 ^ 4096):∀ p∈l,p.2.natAbs < Am.big:=fun p hp=>Bm (h p hp) hc
theorem Pair.kp {S S':ak} {n m:Nat} {a b:Pl} (h:Pair S n m a b) (k:gD S S'):Pair S' n m a b:=⟨k.lst _ _ (fun z=>z) h.n,k.lst _ _ (fun z=>z) h.m,h.oa,h.ob,h.ba,h.bb,h.la,h.lb⟩
theorem Pair.mul {S:ak} {n m:Nat} {a b:Pl} (h:Pair S n m a b):a.length * b.length<=41 * 41:=Nat.mul_le_mul h.la h.lb
noncomputable def oK (a b:Pl) (s:Int):Pl:=if s=0 then Po.oF a b else if s=1 then Po.times a b else Po.turn a
theorem zL {a b:Pl} {s:Int} (h:Ok a):Ok (oK a b s):=by
 unfold oK
 split
 ·exact Po.wB a b
 ·split
  ·exact Po.fS a b
  ·exact Po.yC h
theorem ow {a b:Pl} {s:Int} (h1:a.length<=41) (h2:b.length<=41):(oK a b s).length<=10000:=by
 have hm:a.length * b.length<=41 * 41:=Nat.mul_le_mul h1 h2
 unfold oK
 split
 ·refine Nat.le_trans (Po.mz _) (Nat.le_trans (Po.b8 _ _) ?_)
  rw [List.length_append,List.length_nil];omega
 ·split
  ·refine Nat.le_trans (Po.mz _) (Nat.le_trans (Po.b8 _ _) ?_)
   rw [Po.gf,List.length_nil];omega
  ·unfold Po.turn
   rw [List.length_map,List.length_reverse];omega
theorem uI {S:ak} {n m:Nat} {a b:Pl} (h:Pair S n m a b) {x0 x1 x3 x6 x7:A} {s:Int} (h0:0<=s) (h2:s < 3):∃ (L:Nat) (S':ak),kj (iI (aF (eW false) (aj 2) (eC (.int 0))))
 (br (eFn eX (ah (aj 4) (ah (aj 5) (aJ)))) (bI 7))
 (kj (iI (aF (eW false) (aj 2) (eC (.int 1))))
 (br (eFn cR (ah (aj 4) (ah (aj 5) (aJ)))) (bI 7))
 (br (eFn cH (ah (aj 4) (aJ))) (bI 7))) [x0,x1,.int s,x3,.ref n,.ref m,x6,x7] S=.nx [x0,x1,.int s,x3,.ref n,.ref m,x6,.ref L] S'/\aq S' L=some (Po.pl (oK a b s))/\S.length<=L/\gD S S':=by
 have hm:=h.mul
 have la:=h.la
 have lb:=h.lb
 rcases (by omega:s=0\/s=1\/s=2) with z | z | z <;> subst z
 ·obtain ⟨L,S',e,h1,h2,h3⟩:=qz h.n h.m h.oa (by omega)
  refine ⟨L,S',?_,h1,h2,h3⟩
  simp only [bQ,bools,show ((0:Int) == 0)=true from rfl,e]
 ·obtain ⟨L,S',e,h1,h2,h3⟩:=fS h.n h.m (by omega) (Bd.big h.ba (by decide +kernel)) (Bd.big h.bb (by decide +kernel))
  refine ⟨L,S',?_,h1,h2,h3⟩
  simp only [bQ,bools,show ((1:Int) == 0)=false from rfl,show ((1:Int) == 1)=true from rfl,e]
 ·have e:=kO h.n (by omega)
  refine ⟨S.length,S++[.lst (Po.pl (Po.turn a))],?_,aU,Nat.le_refl _,Kp.refl.lay⟩
  simp only [bQ,bools,show ((2:Int) == 0)=false from rfl,show ((2:Int) == 1)=false from rfl,e]
theorem Cb {S:ak} {n m:Nat} {a b:Pl} (h:Pair S n m a b) {x3 x4 x5 x6 x7:A} {s:Int} (h0:0<=s) (h2:s < 3):∃ (D:Nat) (S':ak),RS.seq (br (aF iZ (iD (ah (eFn aY (ah (aj 0) (ah (aj 1) (aJ)))) (ah (eFn aS (ah (aj 0) (ah (aj 1) (aJ)))) (ah (iD (aJ)) (aJ))))) (aj 2)) (bI 3) [.ref n,.ref m,.int s,x3,x4,x5,x6,x7] S)
 (kj (iI (aF (eW false) (aj 2) (eC (.int 2))))
 (br (bR [none,none] (yy (aj 0)) (oY 2 (gE (bI 0) (gE (bI 1) (oX)))) (iX) (fY (ah (aF aSub (eC (.int 0)) (aj 0)) (ah (aj 1) (aJ))))) (bI 3))
 (e_))=.nx [.ref n,.ref m,.int s,.ref D,x4,x5,x6,x7] S'/\aq S' D=some (Po.pl (oK a b s))/\S.length<=D/\gD S S':=by
 have hm:=h.mul
 have la:=h.la
 have lb:=h.lb
 obtain ⟨P,S1,e1,p1,p2,k1⟩:=nK h.n h.m (by omega)
 obtain ⟨T,S2,e2,t1,t2,k2⟩:=iW (k1.lst _ _ (fun z=>z) h.n) (k1.lst _ _ (fun z=>z) h.m) (by omega) (Bd.big h.ba (by decide +kernel)) (Bd.big h.bb (by decide +kernel))
 have n0:newL [] S2=.ok (.ref S2.length) (S2++[.lst []]):=bA (show 0<=16777216 by decide)
 have n3:newL [.ref P,.ref T,.ref S2.length] (S2++[O.lst []])=.ok (.ref (S2++[O.lst []]).length) (S2++[.lst []]++[.lst [.ref P,.ref T,.ref S2.length]]):=bA (show 3<=16777216 by decide)
 obtain ⟨U,hU⟩:∃ U,U=S2++[O.lst []]++[O.lst [.ref P,.ref T,.ref S2.length]]:=⟨_,rfl⟩
 have kU:gD S U:=by rw [hU];exact (k1.trans k2).lay.lay
 have k2U:gD S2 U:=by rw [hU];exact Kp.refl.lay.lay
 have hLU:aq U (S2++[O.lst []]).length=some [.ref P,.ref T,.ref S2.length]:=by rw [hU];exact aU
 rw [<- hU] at n3
 have l1:=k1.len
 have l2:=k2.len
 rcases (by omega:s=0\/s=1\/s=2) with z | z | z <;> subst z
 ·refine ⟨P,U,?_,k2U.lst _ _ (fun z=>z) (k2.lst _ _ (fun z=>z) p1),p2,kU⟩
  simp only [bQ,bools,e1,e2,n0,n3,hLU,rW,show ((0:Int) == 2)=false from rfl]
 ·refine ⟨T,U,?_,k2U.lst _ _ (fun z=>z) t1,by omega,kU⟩
  simp only [bQ,bools,e1,e2,n0,n3,hLU,qj,show ((1:Int) == 2)=false from rfl]
 ·have hnU:=kU.lst _ _ (fun z=>z) h.n
  have cc:=j0 (l:=a) (n:=n) (cap:=[]) (src:=yy (aj 0)) (e:=fY (ah (aF aSub (eC (.int 0)) (aj 0)) (ah (aj 1) (aJ)))) (τ:=[.ref n,.ref m,.int 2,.ref S2.length,x4,x5,x6,x7]) (S:=U) (S1:=U) (pH (by simp only [bQ,bools]) hnU) hnU (fun p=>Po.pA (-p.1,p.2)) (fun p=>by
   simp only [bQ,bools,Int.zero_sub]
   exact fE (show 2<=16777216 by decide)) (by omega)
  have et:a.reverse.map (fun p=>Po.pA (-p.1,p.2))=Po.pl (Po.turn a):=by
   unfold Po.pl Po.turn
   rw [List.map_map];rfl
  rw [et] at cc
  refine ⟨U.length,U++[.lst (Po.pl (Po.turn a))],?_,aU,kU.len,kU.lay⟩
  have a2:gj ([.ref P,.ref T,.ref S2.length]:List A) 2=some (.ref S2.length):=rfl
  simp only [bQ,bools,e1,e2,n0,n3,hLU,a2,show ((2:Int) == 2)=true from rfl,cc]
theorem seq_assoc (r:RS) (c d:Sm):RS.seq r (bh c d)=RS.seq (RS.seq r c) d:=by cases r <;> rfl
theorem yq {S:ak} {n m:Nat} {a b:Pl} (h:Pair S n m a b) {s:Int} (h0:0<=s) (h2:s < 3):∃ S',cC [.ref n,.ref m,.int s] S=.ok (.bl true) S'/\gD S S':=by
 obtain ⟨D,S1,e1,d1,d2,k1⟩:=Cb h (x3:=.unb) (x4:=.unb) (x5:=.unb) (x6:=.unb) (x7:=.unb) h0 h2
 have p1:=h.kp k1
 have la:=h.la
 have lb:=h.lb
 have c1:=qD p1.n (by rw [ck];omega)
 have c2:=qD (bz (o:=.lst (Po.pl a)) p1.m) (by rw [ck];omega)
 obtain ⟨U,hU⟩:∃ U,U=S1++[O.lst (Po.pl a)]++[O.lst (Po.pl b)]:=⟨_,rfl⟩
 rw [<- hU] at c2
 have kU:gD S1 U:=by rw [hU];exact Kp.refl.lay.lay
 have u1:aq U S1.length=some (Po.pl a):=by rw [hU];exact bz aU
 have u2:aq U (S1++[O.lst (Po.pl a)]).length=some (Po.pl b):=by rw [hU];exact aU
 have lF:(S1++[O.lst (Po.pl a)]).length=S1.length+1:=by simp
 rw [lF] at c2 u2
 unfold cC fO iY
 rw [h_]
 simp only [gG,Nat.reduceAdd,Nat.reduceSub]
 rw [show ([A.ref n,.ref m,.int s]++List.replicate 5 A.unb)=[.ref n,.ref m,.int s,.unb,.unb,.unb,.unb,.unb] from rfl,jA,seq_assoc,e1]
 simp only [bQ,bools,p1.n,bz (o:=.lst (Po.pl a)) p1.m,lF,<- hU]
 have pU:=p1.kp kU
 have dU:=kU.lst _ _ (fun z=>z) d1
 have lD:=jY d1
 have lU:=jY u2
 refine iy (lo:=0) (hi:=2) (S1:=U) (show gq _ _=_ from eE (by simp only [bQ,bools]) (iQ (by omega) (by omega)))
  (fun i τ T=>(∃ a6 a7:A,τ=[.ref n,.ref m,.int s,.ref D,.ref S1.length,.ref (S1.length+1),a6,a7])/\gD U T)
  (fun r=>∃ S',RS.end (RS.seq r _)=.ok (.bl true) S'/\gD S S') ⟨⟨_,_,rfl⟩,Kp.refl⟩ ?_ ?_
 ·rintro i τ T hi ⟨⟨a6,a7,rfl⟩,kT⟩
  left
  have fT:Pair T S1.length (S1.length+1) a b:=⟨kT.lst _ _ (fun z=>z) u1,kT.lst _ _ (fun z=>z) u2,h.oa,h.ob,h.ba,h.bb,la,lb⟩
  obtain ⟨L,T1,e2,f1,f2,k2⟩:=uI fT (x0:=.ref n) (x1:=.ref m) (x3:=.ref D) (x6:=.int (0+(i:Int))) (x7:=a7) h0 h2
  have lw:U.length<=T.length:=kT.len
  obtain ⟨T2,e3,k3⟩:=vm f1 (zL h.oa) (by have:=ow (s:=s) la lb;omega)
  have kT2:=(kT.trans k2).trans k3
  have g1:=k3.lst _ _ (fun z=>z) f1
  have q1:eW true (.ref L) (.ref D) T2=.ok (.bl false) T2:=jJ (j5 g1 (kT2.lst _ _ (fun z=>z) dU))
  have q2:eW true (.ref S1.length) (.ref n) T2=.ok (.bl false) T2:=jJ (j5 (kT2.lst _ _ (fun z=>z) u1) (kT2.lst _ _ (fun z=>z) pU.n))
  have q3:eW true (.ref (S1.length+1)) (.ref m) T2=.ok (.bl false) T2:=jJ (j5 (kT2.lst _ _ (fun z=>z) u2) (kT2.lst _ _ (fun z=>z) pU.m))
  unfold gr
  rw [jA,show ([A.ref n,.ref m,.int s,.ref D,.ref S1.length,.ref (S1.length+1),a6,a7]:List A).set 6 (.int (0+(i:Int)))=[A.ref n,.ref m,.int s,.ref D,.ref S1.length,.ref (S1.length+1),.int (0+(i:Int)),a7] from rfl,e2]
  have gl:gd ((Po.pl (oK a b s)).length < sizeLine)=fun r:Am.R A=>r:=by funext r;exact qC (show (Po.pl (oK a b s)).length < 16777216 by rw [ck];have:=ow (s:=s) la lb;omega)
  simp only [bQ,bools,e3,Bool.not_true,q1,q2,q3,fE (show ([A.int 99,.int 1]:List A).length<=16777216 by simp),g1,gl]
  exact ⟨_,_,rfl,⟨_,_,rfl⟩,kT2.set (.inr (by omega))⟩
 ·rintro τ T ⟨⟨a6,a7,rfl⟩,kT⟩
  simp only [bQ,bools]
  exact ⟨_,rfl,(k1.trans kU).trans kT⟩
end K25
namespace K25
open PySem L2 Am
open Po (Pl Ok Bd)
theorem ux {S:ak} {n m:Nat} {a b:Pl} (h:Pair S n m a b):∃ S',bg [.ref n,.ref m] S=.ok (.bl true) S'/\gD S S':=by
 have hm:=h.mul
 have la:=h.la
 have lb:=h.lb
 have Ba:=Bd.big h.ba (by decide +kernel)
 have Bb:=Bd.big h.bb (by decide +kernel)
 obtain ⟨S2,hS2⟩:∃ S2,S2=S++[O.lst (Po.pl a)]++[O.lst (Po.pl b)]:=⟨_,rfl⟩
 have k2:gD S S2:=by rw [hS2];exact Kp.refl.lay.lay
 have u1:aq S2 S.length=some (Po.pl a):=by rw [hS2];exact bz aU
 have lF:(S++[O.lst (Po.pl a)]).length=S.length+1:=by simp
 have u2:aq S2 (S.length+1)=some (Po.pl b):=by rw [hS2,<- lF];exact aU
 obtain ⟨L1,S3,e3,f3,g3,k3⟩:=fS u1 u2 (by omega) Ba Bb
 have p3:=(h.kp k2).kp k3
 obtain ⟨L2,S4,e4,f4,g4,k4⟩:=iW p3.n p3.m (by omega) Ba Bb
 have p4:=p3.kp k4
 have t4:=k4.lst _ _ (fun z=>z) f3
 have tl:(Po.times a b).length<=41 * 41:=by
  refine Nat.le_trans (Po.mz _) (Nat.le_trans (Po.b8 _ _) ?_)
  rw [Po.gf,List.length_nil];omega
 have tb:∀ p∈Po.times a b,p.2.natAbs < big:=by
  refine Bd.big (c:=0+41 * 41 * (10 ^ 31 * 10 ^ 31)) ?_ (by decide +kernel)
  refine Po.Bd.mono (Po.Bd.m8 (Po.Bd.dc (Po.Bd.oW h.ba h.bb) (c:=0) (d:=[]) (fun _ z=>nomatch z))) ?_
  rw [Po.gf]
  exact Nat.add_le_add_left (Nat.mul_le_mul_right _ hm) _
 have tm:(Po.times a b).length * a.length<=41 * 41 * 41:=Nat.mul_le_mul tl la
 obtain ⟨X1,S5,e5,f5,g5,k5⟩:=fS (bz (o:=.lst (Po.pl a)) t4) (aU (S:=S4) (xs:=Po.pl a)) (by omega) tb Ba
 have k45:gD S4 S5:=(Kp.refl.lay).trans k5
 obtain ⟨X2,S6,e6,f6,g6,k6⟩:=iW (k45.lst _ _ (fun z=>z) f4) (p4.kp k45).n (by omega) tb Ba
 have q1:eW true (.ref X1) (.ref X2) S6=.ok (.bl false) S6:=jJ (j5 (k6.lst _ _ (fun z=>z) f5) f6)
 have k46:=k45.trans k6
 have p6:=p4.kp k46
 have t6:=k46.lst _ _ (fun z=>z) t4
 have d6:=k46.lst _ _ (fun z=>z) f4
 obtain ⟨Y1,S7,e7,f7,g7,k7⟩:=qz (aU (S:=S6) (xs:=Po.pl b)) (bz (o:=.lst (Po.pl b)) t6) h.ob (by omega)
 have k67:gD S6 S7:=(Kp.refl.lay).trans k7
 obtain ⟨Y2,S8,e8,f8,g8,k8⟩:=nK (p6.kp k67).m (k67.lst _ _ (fun z=>z) d6) (by omega)
 have q2:eW true (.ref Y1) (.ref Y2) S8=.ok (.bl false) S8:=jJ (j5 (k8.lst _ _ (fun z=>z) f7) f8)
 have k68:=k67.trans k8
 have t8:=k68.lst _ _ (fun z=>z) t6
 have d8:=k68.lst _ _ (fun z=>z) d6
 have e9:=kO t8 (by omega)
 have cc:=j0 (l:=Po.times a b) (n:=L2) (cap:=[]) (src:=yy (aj 3)) (e:=fY (ah (aF aSub (eC (.int 0)) (aj 0)) (ah (aj 1) (aJ)))) (τ:=[.ref n,.ref m,.ref L1,.ref L2]) (S:=S8++[.lst (Po.pl (Po.turn (Po.times a b)))]) (S1:=S8++[.lst (Po.pl (Po.turn (Po.times a b)))]) (pH (by simp only [bQ,bools]) (bz d8)) (bz d8) (fun p=>Po.pA (-p.1,p.2)) (fun p=>by
   simp only [bQ,bools,Int.zero_sub]
   exact fE (show 2<=16777216 by decide)) (by omega)
 have et:(Po.times a b).reverse.map (fun p=>Po.pA (-p.1,p.2))=Po.pl (Po.turn (Po.times a b)):=by
  unfold Po.pl Po.turn
  rw [List.map_map];rfl
 rw [et] at cc
 obtain ⟨S9,hS9⟩:∃ S9,S9=S8++[O.lst (Po.pl (Po.turn (Po.times a b)))]:=⟨_,rfl⟩
 rw [<- hS9] at cc e9
 have k89:gD S8 (S9++[O.lst (Po.pl (Po.turn (Po.times a b)))]):=by rw [hS9];exact Kp.refl.lay.lay
 have q3:eW false (.ref S8.length) (.ref S9.length) (S9++[.lst (Po.pl (Po.turn (Po.times a b)))])=.ok (.bl true) (S9++[.lst (Po.pl (Po.turn (Po.times a b)))]):=vP (j5 (bz (by rw [hS9];exact aU)) aU)
 have q4:eW false (.ref L1) (.ref L2) (S9++[.lst (Po.pl (Po.turn (Po.times a b)))])=.ok (.bl true) (S9++[.lst (Po.pl (Po.turn (Po.times a b)))]):=vP (j5 (k89.lst _ _ (fun z=>z) t8) (k89.lst _ _ (fun z=>z) d8))
 have h1:=h.n
 have h2:=bz (o:=.lst (Po.pl a)) h.m
 have h4:=p4.n
 have h6:=p6.m
 refine ⟨S9++[.lst (Po.pl (Po.turn (Po.times a b)))],?_,(((((k2.trans k3).trans k4).trans k46).trans k68).trans k89)⟩
 unfold bg cL er
 simp only [bQ,bools,gG,Nat.reduceAdd,Nat.reduceSub,h1,h2,lF,<- hS2,e3,e4,h4,e5,e6,q1,h6,e7,e8,q2,e9,cc,q3,q4]
theorem Ck {l:Pl} (h:Ok l):Ok (l.map fun p=>(p.1,-p.2)):=by
 refine ⟨?_,fun p hp=>?_⟩
 ·rw [List.pairwise_map];exact h.up
 ·obtain ⟨q,hq,rfl⟩:=List.mem_map.mp hp
  have:=h.nz q hq
  show -q.2≠0
  omega
theorem CZ (ns:List Int) (hl:ns.length<=63):∃ S',kM [.frz (ns.map .int)] []=.ok (.bl true) S':=by
 unfold kM vA AX
 simp only [bQ,bools,gG,Nat.reduceAdd,Nat.reduceSub]
 refine iy (lo:=0) (hi:=if (if 6 < (ns.length:Int) then 6 else (ns.length:Int)) > 2 then (if 6 < (ns.length:Int) then 6 else (ns.length:Int)) else 2) (S1:=[]) (show r6 _ _=_ from eE (by simp only [bQ,bools,List.length_map]) (iQ (by split <;> split <;> omega) (by split <;> split <;> omega)))
  (fun _ τ _=>∃ a1 a2 a3 a4 a5 a6:A,τ=[.frz (ns.map .int),a1,a2,a3,a4,a5,a6]) (fun r=>∃ S',RS.end (RS.seq r _)=.ok (.bl true) S') ⟨_,_,_,_,_,_,rfl⟩ ?_ ?_
 ·rintro i τ S hi ⟨a1,a2,a3,a4,a5,a6,rfl⟩
  left
  have hi6:(i:Int) < 6:=by split at hi <;> split at hi <;> omega
  obtain ⟨S1,e1,b1,kp1⟩:=yJ (S:=S) (ns:=ns) (k:=0+(i:Int)) (by omega) (by omega)
  have n0:newL [.int 6,.int 40] S1=.ok (.ref S1.length) (S1++[.lst [.int 6,.int 40]]):=bA (show 2<=16777216 by decide)
  obtain ⟨d,S2,e2,d0,d1,b2,kp2⟩:=digit (S:=S1++[.lst [.int 6,.int 40]]) (m:=8) (b1.kp (c:=fun _=>False) Kp.refl.lay fun z=>z) (by decide) (by decide)
  have lb:=b1.lt
  have hL:aq S2 S1.length=some [.int 6,.int 40]:=kp2.lst _ _ (by omega) aU
  obtain ⟨most,hmost,m0,m1⟩:∃ most:Int,gj ([.int 6,.int 40]:List A) (if (d == 5)=true then 1 else 0)=some (.int most)/\0<=most/\most<=40:=by
   cases d == 5
   ·exact ⟨6,rfl,by decide,by decide⟩
   ·exact ⟨40,rfl,by decide,by decide⟩
  obtain ⟨a,n,S3,e3,f3,oa,ba,la,b3,k3,_⟩:=nj (far:=60) b2 m0 (by omega) (by decide) (by decide)
  obtain ⟨b,m,S4,e4,f4,ob,bb,lb',b4,k4,_⟩:=nj (far:=60) b3 m0 (by omega) (by decide) (by decide)
  obtain ⟨c,S5,e5,c0,c1,b5,k5⟩:=digit (S:=S4) (m:=4) b4 (by decide) (by decide)
  have nn:n≠S.length:=fun z=>by
   subst z
   obtain ⟨g,st,e,_⟩:=b3
   rw [f3] at e
   cases a with
   | nil=>cases e
   | cons p a=>cases e
  have mm:m≠S.length:=fun z=>by
   subst z
   obtain ⟨g,st,e,_⟩:=b4
   rw [f4] at e
   cases b with
   | nil=>cases e
   | cons p b=>cases e
  have f5:=k5.lst _ _ nn (k4.lst _ _ nn f3)
  have g5:=k5.lst _ _ mm f4
  have tail:∀ (m:Nat) (b:Pl) (T:ak),Pair T n m a b->∃ τ' S',RS.seq (cD mZ (bI 6) lR [.frz (ns.map .int),.int (0+(i:Int)),.ref S.length,.int most,.ref n,.ref m,a6] T) (kj (mC (kB (eFn bg (ah (aj 4) (ah (aj 5) (aJ)))))) (cJ (eC (.bl false))) (e_))=.nx τ' S'/\∃ a1 a2 a3 a4 a5 a6:A,τ'=[.frz (ns.map .int),a1,a2,a3,a4,a5,a6]:=by
   intro m b T hp
   refine iy (lo:=0) (hi:=3) (S1:=T) (show mZ _ _=_ from eE (by simp only [bQ,bools]) (iQ (by decide) (by decide)))
    (fun j τ U=>(∃ a6:A,τ=[.frz (ns.map .int),.int (0+(i:Int)),.ref S.length,.int most,.ref n,.ref m,a6])/\gD T U) (fun r=>∃ τ' S',RS.seq r _=.nx τ' S'/\∃ a1 a2 a3 a4 a5 a6:A,τ'=[.frz (ns.map .int),a1,a2,a3,a4,a5,a6]) ⟨⟨_,rfl⟩,Kp.refl⟩ ?_ ?_
   ·rintro j τ U hj ⟨⟨a6,rfl⟩,kU⟩
    left
    obtain ⟨U',e,k⟩:=yq (hp.kp kU) (s:=0+(j:Int)) (by omega) (by omega)
    unfold lR
    simp only [bQ,bools,e,Bool.not_true]
    exact ⟨_,_,rfl,⟨_,rfl⟩,kU.trans k⟩
   ·rintro τ U ⟨⟨a6,rfl⟩,kU⟩
    obtain ⟨U',e,k⟩:=ux (hp.kp kU)
    simp only [bQ,bools,e,Bool.not_true]
    exact ⟨_,_,rfl,_,_,_,_,_,_,rfl⟩
  unfold p7
  simp only [bQ,bools,e1,n0,e2,hL,hmost,e3,e4,e5]
  by_cases hc:c=1
  ·subst hc
   have cc:=w4 (l:=a) (n:=n) (cap:=[]) (src:=dP (aj 4)) (e:=fY (ah (aj 0) (ah (aF aSub (eC (.int 0)) (aj 1)) (aJ)))) (τ:=[.frz (ns.map .int),.int (0+(i:Int)),.ref S.length,.int most,.ref n,.ref m,a6]) (S:=S5) (S1:=S5) (gw (by simp only [bQ,bools]) f5) f5 (fun p=>Po.pA (p.1,-p.2)) (fun p=>by
    simp only [bQ,bools,Int.zero_sub]
    exact fE (show 2<=16777216 by decide)) (by omega)
   have et:a.map (fun p=>Po.pA (p.1,-p.2))=Po.pl (a.map fun p=>(p.1,-p.2)):=by
    unfold Po.pl
    rw [List.map_map];rfl
   rw [et] at cc
   have:=tail S5.length (a.map fun p=>(p.1,-p.2)) (S5++[.lst (Po.pl (a.map fun p=>(p.1,-p.2)))]) ⟨bz f5,aU,oa,Ck oa,ba,fun p hp=>by
    obtain ⟨q,hq,rfl⟩:=List.mem_map.mp hp
    show (-q.2).natAbs<=_
    rw [Int.natAbs_neg];exact ba q hq,by omega,by rw [List.length_map];omega⟩
   simp only [bQ,bools,cc,show ((1:Int) == 1)=true from rfl] at this ⊢
   exact this
  ·have hc':(c == 1)=false:=by simpa using hc
   have:=tail m b S5 ⟨f5,g5,oa,ob,ba,bb,by omega,by omega⟩
   simp only [bQ,bools,hc'] at this ⊢
   exact this
 ·rintro τ S ⟨a1,a2,a3,a4,a5,a6,rfl⟩
  simp only [bQ,bools]
  exact ⟨_,rfl⟩
end K25
namespace K25
open PySem L2 Am
theorem all_mk {l:PySem.W.OpenLaw} {w:World} {K:PySem.W.Frag} {h:Heap} {mg:Str->Option Value} {fa f1 f2 f3 f4 f5 f6 f7 f8 f9 f10 f11 f12 f13 f14 f15:Addr} (X:K.In h) (G:h.Ns mainGlobals mg) (hfa:mg "law" = some (.ref fa))
  {od1 an1 od2 an2 od3 an3 od4 an4 od5 an5 od6 an6 od7 an7 od8 an8 od9 an9 od10 an10 od11 an11 od12 an12 od13 an13 od14 an14 od15 an15:Option Addr} {sl1 sl2 sl3 sl4 sl5 sl6 sl7 sl8 sl9 sl10 sl11 sl12 sl13 sl14 sl15:Array (Option Value)} {oc1 kV1 dc1 pm1 cd1 ct1 oc2 kV2 dc2 pm2 cd2 ct2 oc3 kV3 dc3 pm3 cd3 ct3 oc4 kV4 dc4 pm4 cd4 ct4 oc5 kV5 dc5 pm5 cd5 ct5 oc6 kV6 dc6 pm6 cd6 ct6 oc7 kV7 dc7 pm7 cd7 ct7 oc8 kV8 dc8 pm8 cd8 ct8 oc9 kV9 dc9 pm9 cd9 ct9 oc10 kV10 dc10 pm10 cd10 ct10 oc11 kV11 dc11 pm11 cd11 ct11 oc12 kV12 dc12 pm12 cd12 ct12 oc13 kV13 dc13 pm13 cd13 ct13 oc14 kV14 dc14 pm14 cd14 ct14 oc15 kV15 dc15 pm15 cd15 ct15:Value}
  (a1:PySem.W.nsIn K mainGlobals "as_polynomial" = some (some (.ref f1))) (l1:K.lookup f1=some ⟨oc1,od1,.func (PySem.W.fnOf "as_polynomial" "as_polynomial" (bu bG) (a_ bG) (aG bG) .none kV1 dc1 pm1 an1 cd1 ct1),sl1⟩) (c1:PySem.W.codeIn K cd1 "as_polynomial" = true) (k1:PySem.W.keepIn K (.ref f1)=true)
  (a2:PySem.W.nsIn K mainGlobals "plus" = some (some (.ref f2))) (l2:K.lookup f2=some ⟨oc2,od2,.func (PySem.W.fnOf "plus" "plus" (bu iM) (a_ iM) (aG iM) .none kV2 dc2 pm2 an2 cd2 ct2),sl2⟩) (c2:PySem.W.codeIn K cd2 "plus" = true) (k2:PySem.W.keepIn K (.ref f2)=true)
  (a3:PySem.W.nsIn K mainGlobals "times" = some (some (.ref f3))) (l3:K.lookup f3=some ⟨oc3,od3,.func (PySem.W.fnOf "times" "times" (bu gc) (a_ gc) (aG gc) .none kV3 dc3 pm3 an3 cd3 ct3),sl3⟩) (c3:PySem.W.codeIn K cd3 "times" = true) (k3:PySem.W.keepIn K (.ref f3)=true)
  (a4:PySem.W.nsIn K mainGlobals "turned" = some (some (.ref f4))) (l4:K.lookup f4=some ⟨oc4,od4,.func (PySem.W.fnOf "turned" "turned" (bu eB) (a_ eB) (aG eB) .none kV4 dc4 pm4 an4 cd4 ct4),sl4⟩) (c4:PySem.W.codeIn K cd4 "turned" = true) (k4:PySem.W.keepIn K (.ref f4)=true)
  (a5:PySem.W.nsIn K mainGlobals "_law_bag" = some (some (.ref f5))) (l5:K.lookup f5=some ⟨oc5,od5,.func (PySem.W.fnOf "_law_bag" "_law_bag" (bu dm) (a_ dm) (aG dm) .none kV5 dc5 pm5 an5 cd5 ct5),sl5⟩) (c5:PySem.W.codeIn K cd5 "_law_bag" = true) (k5:PySem.W.keepIn K (.ref f5)=true)
  (a6:PySem.W.nsIn K mainGlobals "_law_digit" = some (some (.ref f6))) (l6:K.lookup f6=some ⟨oc6,od6,.func (PySem.W.fnOf "_law_digit" "_law_digit" (bu cA) (a_ cA) (aG cA) .none kV6 dc6 pm6 an6 cd6 ct6),sl6⟩) (c6:PySem.W.codeIn K cd6 "_law_digit" = true) (k6:PySem.W.keepIn K (.ref f6)=true)
  (a7:PySem.W.nsIn K mainGlobals "_law_signed" = some (some (.ref f7))) (l7:K.lookup f7=some ⟨oc7,od7,.func (PySem.W.fnOf "_law_signed" "_law_signed" (bu b6) (a_ b6) (aG b6) .none kV7 dc7 pm7 an7 cd7 ct7),sl7⟩) (c7:PySem.W.codeIn K cd7 "_law_signed" = true) (k7:PySem.W.keepIn K (.ref f7)=true)
  (a8:PySem.W.nsIn K mainGlobals "_law_poly" = some (some (.ref f8))) (l8:K.lookup f8=some ⟨oc8,od8,.func (PySem.W.fnOf "_law_poly" "_law_poly" (bu cQ) (a_ cQ) (aG cQ) .none kV8 dc8 pm8 an8 cd8 ct8),sl8⟩) (c8:PySem.W.codeIn K cd8 "_law_poly" = true) (k8:PySem.W.keepIn K (.ref f8)=true)
  (a9:PySem.W.nsIn K mainGlobals "_law_own_poly" = some (some (.ref f9))) (l9:K.lookup f9=some ⟨oc9,od9,.func (PySem.W.fnOf "_law_own_poly" "_law_own_poly" (bu bN) (a_ bN) (aG bN) .none kV9 dc9 pm9 an9 cd9 ct9),sl9⟩) (c9:PySem.W.codeIn K cd9 "_law_own_poly" = true) (k9:PySem.W.keepIn K (.ref f9)=true)
  (a10:PySem.W.nsIn K mainGlobals "_law_own_plus" = some (some (.ref f10))) (l10:K.lookup f10=some ⟨oc10,od10,.func (PySem.W.fnOf "_law_own_plus" "_law_own_plus" (bu bM) (a_ bM) (aG bM) .none kV10 dc10 pm10 an10 cd10 ct10),sl10⟩) (c10:PySem.W.codeIn K cd10 "_law_own_plus" = true) (k10:PySem.W.keepIn K (.ref f10)=true)
  (a11:PySem.W.nsIn K mainGlobals "_law_own_times" = some (some (.ref f11))) (l11:K.lookup f11=some ⟨oc11,od11,.func (PySem.W.fnOf "_law_own_times" "_law_own_times" (bu bH) (a_ bH) (aG bH) .none kV11 dc11 pm11 an11 cd11 ct11),sl11⟩) (c11:PySem.W.codeIn K cd11 "_law_own_times" = true) (k11:PySem.W.keepIn K (.ref f11)=true)
  (a12:PySem.W.nsIn K mainGlobals "_law_is_poly" = some (some (.ref f12))) (l12:K.lookup f12=some ⟨oc12,od12,.func (PySem.W.fnOf "_law_is_poly" "_law_is_poly" (bu bS) (a_ bS) (aG bS) .none kV12 dc12 pm12 an12 cd12 ct12),sl12⟩) (c12:PySem.W.codeIn K cd12 "_law_is_poly" = true) (k12:PySem.W.keepIn K (.ref f12)=true)
  (a13:PySem.W.nsIn K mainGlobals "_law_right" = some (some (.ref f13))) (l13:K.lookup f13=some ⟨oc13,od13,.func (PySem.W.fnOf "_law_right" "_law_right" (bu cB) (a_ cB) (aG cB) .none kV13 dc13 pm13 an13 cd13 ct13),sl13⟩) (c13:PySem.W.codeIn K cd13 "_law_right" = true) (k13:PySem.W.keepIn K (.ref f13)=true)
  (a14:PySem.W.nsIn K mainGlobals "_law_told_again" = some (some (.ref f14))) (l14:K.lookup f14=some ⟨oc14,od14,.func (PySem.W.fnOf "_law_told_again" "_law_told_again" (bu bC) (a_ bC) (aG bC) .none kV14 dc14 pm14 an14 cd14 ct14),sl14⟩) (c14:PySem.W.codeIn K cd14 "_law_told_again" = true) (k14:PySem.W.keepIn K (.ref f14)=true)
  (a15:PySem.W.nsIn K mainGlobals "law" = some (some (.ref f15))) (l15:K.lookup f15=some ⟨oc15,od15,.func (PySem.W.fnOf "law" "law" (bu iz) (a_ iz) (aG iz) .none kV15 dc15 pm15 an15 cd15 ct15),sl15⟩) (c15:PySem.W.codeIn K cd15 "law" = true) (k15:PySem.W.keepIn K (.ref f15)=true)
  (z_sorted:PySem.W.nsIn K mainGlobals "sorted" = some none)
  (z_dict:PySem.W.nsIn K mainGlobals "dict" = some none)
  (z_reversed:PySem.W.nsIn K mainGlobals "reversed" = some none)
  (z_len:PySem.W.nsIn K mainGlobals "len" = some none)
  (z_range:PySem.W.nsIn K mainGlobals "range" = some none)
  (z_isinstance:PySem.W.nsIn K mainGlobals "isinstance" = some none)
  (z_list:PySem.W.nsIn K mainGlobals "list" = some none)
  (z_tuple:PySem.W.nsIn K mainGlobals "tuple" = some none)
  (z_bool:PySem.W.nsIn K mainGlobals "bool" = some none)
  (z_int:PySem.W.nsIn K mainGlobals "int" = some none)
  (z_all:PySem.W.nsIn K mainGlobals "all" = some none)
  (z_max:PySem.W.nsIn K mainGlobals "max" = some none)
  (z_min:PySem.W.nsIn K mainGlobals "min" = some none)
  : ∃ fd:FuncData,(∀ (s:Shared) (v:Value),BindsTo s fd ⟨[v],[]⟩ [("_law_script",v)])/\∀ base:Heap,K.In base->base.Ns mainGlobals mg->FnOk l.prog w K mg base jg 4 fa fd ["_law_script"] (kD K 1 kM):=by
 have e:=hfa.symm.trans (PySem.W.mg_of X G a15)
 cases e
 have b_sorted:=PySem.W.mg_none_of X G z_sorted
 have b_dict:=PySem.W.mg_none_of X G z_dict
 have b_reversed:=PySem.W.mg_none_of X G z_reversed
 have b_len:=PySem.W.mg_none_of X G z_len
 have b_range:=PySem.W.mg_none_of X G z_range
 have b_isinstance:=PySem.W.mg_none_of X G z_isinstance
 have b_list:=PySem.W.mg_none_of X G z_list
 have b_tuple:=PySem.W.mg_none_of X G z_tuple
 have b_bool:=PySem.W.mg_none_of X G z_bool
 have b_int:=PySem.W.mg_none_of X G z_int
 have b_all:=PySem.W.mg_none_of X G z_all
 have b_max:=PySem.W.mg_none_of X G z_max
 have b_min:=PySem.W.mg_none_of X G z_min
 have F1:=cu (st:=bG) l1 c1 k1
 have i1:=F1.binds (ps:=["numbers"]) fun _ _ _ _ _ _=>C8 fun _=>rfl
 have F2:=cu (st:=iM) l2 c2 k2
 have i2:=F2.binds (ps:=["one", "other"]) fun _ _ _ _ _ _=>BE fun _ _=>rfl
 have F3:=cu (st:=gc) l3 c3 k3
 have i3:=F3.binds (ps:=["one", "other"]) fun _ _ _ _ _ _=>BE fun _ _=>rfl
 have F4:=cu (st:=eB) l4 c4 k4
 have i4:=F4.binds (ps:=["one"]) fun _ _ _ _ _ _=>C8 fun _=>rfl
 have F5:=cu (st:=dm) l5 c5 k5
 have i5:=F5.binds (ps:=["_law_script", "_law_at"]) fun _ _ _ _ _ _=>BE fun _ _=>rfl
 have F6:=cu (st:=cA) l6 c6 k6
 have i6:=F6.binds (ps:=["_law_bag_here", "_law_many"]) fun _ _ _ _ _ _=>BE fun _ _=>rfl
 have F7:=cu (st:=b6) l7 c7 k7
 have i7:=F7.binds (ps:=["_law_bag_here"]) fun _ _ _ _ _ _=>C8 fun _=>rfl
 have F8:=cu (st:=cQ) l8 c8 k8
 have i8:=F8.binds (ps:=["_law_bag_here", "_law_most", "_law_far"]) fun _ _ _ _ _ _=>Gk fun _ _ _=>rfl
 have F9:=cu (st:=bN) l9 c9 k9
 have i9:=F9.binds (ps:=["_law_held"]) fun _ _ _ _ _ _=>C8 fun _=>rfl
 have F10:=cu (st:=bM) l10 c10 k10
 have i10:=F10.binds (ps:=["_law_one", "_law_other"]) fun _ _ _ _ _ _=>BE fun _ _=>rfl
 have F11:=cu (st:=bH) l11 c11 k11
 have i11:=F11.binds (ps:=["_law_one", "_law_other"]) fun _ _ _ _ _ _=>BE fun _ _=>rfl
 have F12:=cu (st:=bS) l12 c12 k12
 have i12:=F12.binds (ps:=["_law_found"]) fun _ _ _ _ _ _=>C8 fun _=>rfl
 have F13:=cu (st:=cB) l13 c13 k13
 have i13:=F13.binds (ps:=["_law_one", "_law_other", "_law_sort"]) fun _ _ _ _ _ _=>Gk fun _ _ _=>rfl
 have F14:=cu (st:=bC) l14 c14 k14
 have i14:=F14.binds (ps:=["_law_one", "_law_other"]) fun _ _ _ _ _ _=>BE fun _ _=>rfl
 have F15:=cu (st:=iz) l15 c15 k15
 have i15:=F15.binds (ps:=["_law_script"]) fun _ _ _ _ _ _=>C8 fun _=>rfl
 refine ⟨PySem.W.fnOf "law" "law" (bu iz) (a_ iz) (aG iz) .none kV15 dc15 pm15 an15 cd15 ct15,fun s v=>.of_eq rfl,fun base _ _=>?_⟩
 have G_as_polynomial:ff l.prog w K mg base 1 "as_polynomial" ["numbers"] aZ:=⟨f1,_,iU F1 b_sorted,PySem.W.mg_of X G a1,k1,i1⟩
 have G_plus:ff l.prog w K mg base 2 "plus" ["one", "other"] eX:=⟨f2,_,zl F2 b_dict G_as_polynomial,PySem.W.mg_of X G a2,k2,i2⟩
 have G_times:ff l.prog w K mg base 2 "times" ["one", "other"] cR:=⟨f3,_,vI F3 G_as_polynomial,PySem.W.mg_of X G a3,k3,i3⟩
 have G_turned:ff l.prog w K mg base 1 "turned" ["one"] cH:=⟨f4,_,ue F4 b_reversed,PySem.W.mg_of X G a4,k4,i4⟩
 have G_law_bag:ff l.prog w K mg base 1 "_law_bag" ["_law_script", "_law_at"] dw:=⟨f5,_,o4 F5 b_len,PySem.W.mg_of X G a5,k5,i5⟩
 have G_law_digit:ff l.prog w K mg base 1 "_law_digit" ["_law_bag_here", "_law_many"] aM:=⟨f6,_,mj F6,PySem.W.mg_of X G a6,k6,i6⟩
 have G_law_signed:ff l.prog w K mg base 2 "_law_signed" ["_law_bag_here"] bY:=⟨f7,_,kr F7 b_range G_law_digit,PySem.W.mg_of X G a7,k7,i7⟩
 have G_law_poly:ff l.prog w K mg base 3 "_law_poly" ["_law_bag_here", "_law_most", "_law_far"] cj:=⟨f8,_,nE F8 b_range G_law_digit G_law_signed,PySem.W.mg_of X G a8,k8,i8⟩
 have G_law_own_poly:ff l.prog w K mg base 1 "_law_own_poly" ["_law_held"] bq:=⟨f9,_,jh F9 b_sorted,PySem.W.mg_of X G a9,k9,i9⟩
 have G_law_own_plus:ff l.prog w K mg base 2 "_law_own_plus" ["_law_one", "_law_other"] aY:=⟨f10,_,jc F10 G_law_own_poly,PySem.W.mg_of X G a10,k10,i10⟩
 have G_law_own_times:ff l.prog w K mg base 2 "_law_own_times" ["_law_one", "_law_other"] aS:=⟨f11,_,iH F11 G_law_own_poly,PySem.W.mg_of X G a11,k11,i11⟩
 have G_law_is_poly:ff l.prog w K mg base 1 "_law_is_poly" ["_law_found"] bU:=⟨f12,_,jT F12 b_isinstance b_list b_len b_tuple b_bool b_int b_all b_range,PySem.W.mg_of X G a12,k12,i12⟩
 have G_law_right:ff l.prog w K mg base 3 "_law_right" ["_law_one", "_law_other", "_law_sort"] cC:=⟨f13,_,mF F13 b_reversed b_list b_range G_law_own_times G_law_own_plus G_plus G_times G_turned G_law_is_poly,PySem.W.mg_of X G a13,k13,i13⟩
 have G_law_told_again:ff l.prog w K mg base 3 "_law_told_again" ["_law_one", "_law_other"] bg:=⟨f14,_,gY F14 b_list b_reversed G_times G_law_own_times G_plus G_law_own_plus G_turned,PySem.W.mg_of X G a14,k14,i14⟩
 exact B7 F15 b_range b_max b_min b_len b_int G_law_bag G_law_digit G_law_poly G_law_right G_law_told_again
theorem walk {l:PySem.W.OpenLaw} {q:Program} {loose:List Str} {XP:(Str->Option Value)->Heap->Prop} {YP:World->Heap->Prop} {d:DefRec} {K:Params->PySem.W.Frag} (hn:l.most=some 63) (hdf:d.params.defaults=[])
  (hY:∀ (w:World) (h:Heap),YP w h->(K w.params).In h)
  (F:∀ (w:World) (mg:Str->Option Value) (fa:Addr) (h:Heap),(K w.params).In h->h.Ns mainGlobals mg->mg d.name=some (.ref fa) ->
   ∃ fd:FuncData,(∀ (s:Shared) (u:Value),BindsTo s fd ⟨[u],[]⟩ [("_law_script",u)])/\∀ base:Heap,(K w.params).In base->base.Ns mainGlobals mg->FnOk l.prog w (K w.params) mg base jg 4 fa fd ["_law_script"] (kD (K w.params) 1 kM)) :
  PySem.W.WalkO q loose XP YP l.row.toRowW d [] (fun f vs=>PySem.call f vs):=
 L2.zZ (n:=63) (k:=4) (x := "_law_script") (CX:=fun _=>jg) (sp:=fun w=>kD (K w.params) 1 kM) hn (by decide) hdf ⟨rfl,by decide,by decide⟩ hY F (fun _ H a ns hl hO hS=>tu hO hS (CZ ns hl)) fun _ _ _ _ _ z=>z
end K25
open PySem PySem.W PyProof.Rows
namespace PySem.W.Fast
theorem tw9085389310547555893:True:=trivial
theorem tw4595442883337622096:True:=trivial
theorem tw5234781568717961837:True:=trivial
theorem tw16254953925070611876:True:=trivial
theorem tw11502585276310782964:True:=trivial
theorem tw1706176828918383183:True:=trivial
theorem tw17338843968681203514:True:=trivial
theorem tw1224683690922784839:True:=trivial
theorem tw16488377739938632539:True:=trivial
theorem tw2643799822816903698:True:=trivial
theorem tw4032288892889300538:True:=trivial
theorem tw11635707919675580296:True:=trivial
theorem tw17720143711454472218:True:=trivial
theorem tw3952268920570014263:True:=trivial
theorem tw9475443576853594688:True:=trivial
theorem tw12591474039427362990:True:=trivial
theorem tw16538143470979877272:True:=trivial
theorem tw18442597540158921049:True:=trivial
theorem tw9336075418051920145:True:=trivial
theorem tw12371494595419791124:True:=trivial
theorem tw6958629028748265639:True:=trivial
theorem tw6735031193541697633:True:=trivial
theorem tw8163433805621067433:True:=trivial
theorem tw3274620896302805995:True:=trivial
theorem tw16588269325817114624:True:=trivial
theorem tw12381896733368293288:True:=trivial
theorem tw590478497825998137:True:=trivial
theorem tw5787750297238612574:True:=trivial
theorem tw6810311068936376174:True:=trivial
theorem tw5703822454548166022:True:=trivial
theorem tw10101664363749051689:True:=trivial
theorem tw9997864716780251436:True:=trivial
theorem tw10633595863514923576:True:=trivial
theorem tw15535520567853040302:True:=trivial
theorem tw5309731044536378258:True:=trivial
theorem tw14078811219681395997:True:=trivial
theorem tw16963718592624574702:True:=trivial
theorem tw6578170844381158921:True:=trivial
theorem tw10856510091776543968:True:=trivial
theorem tw3382065819579407945:True:=trivial
theorem tw1071210894262140457:True:=trivial
theorem tw4155174193570280620:True:=trivial
theorem tw5868771347452212859:True:=trivial
theorem tw17125741005331326875:True:=trivial
theorem tw6220936059544073921:True:=trivial
theorem tw17209986570968660405:True:=trivial
theorem tw3628165483469605923:True:=trivial
theorem tw11008682818801396351:True:=trivial
theorem tw14558214751490971377:True:=trivial
theorem tw15907926777912054637:True:=trivial
theorem tw11901597183122344205:True:=trivial
theorem tw10450277811267836322:True:=trivial
theorem tw7777506621665103773:True:=trivial
theorem tw9098216334091114567:True:=trivial
theorem tw4026442205517202417:True:=trivial
theorem tw1677688264942396165:True:=trivial
theorem tw6784642497957707128:True:=trivial
theorem tw3394337201409412337:True:=trivial
theorem tw3701369105425661685:True:=trivial
theorem tw11596800387611669211:True:=trivial
end PySem.W.Fast
set_option maxRecDepth 100000 in
set_option maxHeartbeats 0 in
theorem PySem.Challenge.cw_undercells_k25_polynomials_holds : PySem.Challenge.rw_undercells_k25_polynomials.Holds := by
 w_on;o_law;k_head;(case hw=>w_witness2)
 k_fill
 refine K25.walk (l:=PySem.Challenge.rw_undercells_k25_polynomials) rfl rfl (fun w h Y=>PySem.W.kIn_of Y) ?F
 case F=>
  intro w mg fa h KX G hmg
  refine' K25.all_mk KX G hmg ?a1 ?l1 ?c1 ?k1 ?a2 ?l2 ?c2 ?k2 ?a3 ?l3 ?c3 ?k3 ?a4 ?l4 ?c4 ?k4 ?a5 ?l5 ?c5 ?k5 ?a6 ?l6 ?c6 ?k6 ?a7 ?l7 ?c7 ?k7 ?a8 ?l8 ?c8 ?k8 ?a9 ?l9 ?c9 ?k9 ?a10 ?l10 ?c10 ?k10 ?a11 ?l11 ?c11 ?k11 ?a12 ?l12 ?c12 ?k12 ?a13 ?l13 ?c13 ?k13 ?a14 ?l14 ?c14 ?k14 ?a15 ?l15 ?c15 ?k15 ?z_sorted ?z_dict ?z_reversed ?z_len ?z_range ?z_isinstance ?z_list ?z_tuple ?z_bool ?z_int ?z_all ?z_max ?z_min
  (case a1=>k_is)
  (case l1=>k_is)
  (case c1=>k_is)
  (case k1=>k_is)
  (case a2=>k_is)
  (case l2=>k_is)
  (case c2=>k_is)
  (case k2=>k_is)
  (case a3=>k_is)
  (case l3=>k_is)
  (case c3=>k_is)
  (case k3=>k_is)
  (case a4=>k_is)
  (case l4=>k_is)
  (case c4=>k_is)
  (case k4=>k_is)
  (case a5=>k_is)
  (case l5=>k_is)
  (case c5=>k_is)
  (case k5=>k_is)
  (case a6=>k_is)
  (case l6=>k_is)
  (case c6=>k_is)
  (case k6=>k_is)
  (case a7=>k_is)
  (case l7=>k_is)
  (case c7=>k_is)
  (case k7=>k_is)
  (case a8=>k_is)
  (case l8=>k_is)
  (case c8=>k_is)
  (case k8=>k_is)
  (case a9=>k_is)
  (case l9=>k_is)
  (case c9=>k_is)
  (case k9=>k_is)
  (case a10=>k_is)
  (case l10=>k_is)
  (case c10=>k_is)
  (case k10=>k_is)
  (case a11=>k_is)
  (case l11=>k_is)
  (case c11=>k_is)
  (case k11=>k_is)
  (case a12=>k_is)
  (case l12=>k_is)
  (case c12=>k_is)
  (case k12=>k_is)
  (case a13=>k_is)
  (case l13=>k_is)
  (case c13=>k_is)
  (case k13=>k_is)
  (case a14=>k_is)
  (case l14=>k_is)
  (case c14=>k_is)
  (case k14=>k_is)
  (case a15=>k_is)
  (case l15=>k_is)
  (case c15=>k_is)
  (case k15=>k_is)
  (case z_sorted=>k_is)
  (case z_dict=>k_is)
  (case z_reversed=>k_is)
  (case z_len=>k_is)
  (case z_range=>k_is)
  (case z_isinstance=>k_is)
  (case z_list=>k_is)
  (case z_tuple=>k_is)
  (case z_bool=>k_is)
  (case z_int=>k_is)
  (case z_all=>k_is)
  (case z_max=>k_is)
  (case z_min=>k_is)
